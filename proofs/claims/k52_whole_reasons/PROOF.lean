import PyProof.Rows.All
import Wide.All
import OpenK.AllK
import Wide.FinOn
import PyProof.EqAt
import PyProof.EqKinds
import PyProof.TupleCall
import Open.Tree
import Wide.Once
import KE.KLam
import KE.KNestM
import KE.KIsAll
import OpenK.KMore
import KE.KSortTup
import PyProof.Rows.SetFrom
import PyProof.IsiH_list
import PyProof.Rows.Exc
import KE.KDictOf
import PySem.Syntax
import PySem.Builtin.Str.Common
import PyProof.SliceList
import PyProof.StrCalls2
import KE.KIntText
import PyProof.NeData
import PyProof.ExcAttrAll.ValueError
import PyProof.ZipIter
import KE.KRevIter
import KE.KItemsList
import KE.KDictSum
import PyProof.DictWalks
import KE.KPairComp
import KE.KEqDict
import PyProof.StrBlock2
import PyProof.StrBlockL
import PyProof.ConsumeWalk
import PyProof.ListRange
import PyProof.EnumFor
import PyProof.EnumMake
import PyProof.EnumStmt
import PyProof.CompFree
import PyProof.PlainList
import PyProof.Draws
import PyProof.StrWalks
import PyProof.StrLawsTight
import PyProof.DictUpdate
import Lean
import PySem.Challenge.RW_backtape_k52_whole_reasons
set_option autoImplicit true
set_option Elab.async false
set_option linter.all false
set_option maxRecDepth 100000
set_option maxHeartbeats 8000000
set_option genSizeOf false
set_option compiler.extract_closed false
set_option bootstrap.genMatcherCode false
noncomputable section
def bM:=@if_pos
def bN:=@if_neg
def bO:=@absurd
def bP:=@decide_eq_true_eq
def bQ:=@decide_eq_false
def bR:=@decide_eq_true
def bS:=@of_decide_eq_true
def bT:=@eq_of_beq
def bU:=@congrArg
def bV:=@beq_eq_false_iff_ne
def bW:=@beq_iff_eq
open PySem renaming Value->aC,Addr->aB,Str->aA,wpAny->ay,wpAny_pure->av,Heap->au,Obj->aq,codeAny->ak,sizeLine->aj
open Option renaming some->aa,none->af
open Bool renaming true->ah,false->ai
open PySem.W renaming Frag->UM,findIn->Vq,nsIn->Vu,tabIn->VJ,emptyDict->VV,keepIn->VY,fnOf->Wb,kitOne->We,instObj->Wl,mg_of->WE,hasDictIn->WG,tabObj->WO,kia_one->W0,callWith_K->W1,plainGet->Xi,envX->Xx,codeHdIn->XR,methodCall_KW->X0,kla_obj->X3,lookIn->Yc,codeIn->Yd,plainGet_of->Yk,callWith_K0->Yl,mroIn->Yt,plainOver->YH,methodObj->YI,isFn->YK,takerIn->YZ,makesIn->Y0,byRow2->Zc,absHeap->Zv,SharedT->Zw,recOk->Zx,cellsFrom_some->ZI,xlAt->ZP,codeHd_of_K->aaa,specialIn->aao,wideGood->aay,ksm_same->aaz,handedIn->aaA,clsGoodW->aaB,openSeen->aaI,takesIn->aaR,readsIn->aaS
open PySem renaming wpAny_bind->UN,Expr->UP,Shared->UR,Program->U4,mainGlobals->U6,model->Vb,World->Vl,starEach->Vo,sliceBounds->Vt,Scope->Vw,wpAny_newObj_type->VD,Stmt->VI,compareOp->VM,wpAny_holding->VO,Around->VU,wpAny_truthy_bool->V3,wpAny_Call_Name_kw->V4,mem_of_lookup->V7,wpAny_mono->Wm,binaryOp->Wo,FuncData->Wq,wpAny_setState_of->Ws,sysModules->Wt,wpAny_callSpecial?_slot->WA,rawInt->WD,Arguments->WH,builtinsNs->WI,wpAny_updateSeq->WR,wpAny_passesOwn->WS,sizeLine_eq->WT,backTo->WU,assignEach->WV,NameKind->WW,wpAny_setField->W5,wpAny_call_entry->W6,call_meets->Xc,wpAny_loadPart'->Xh,fits_of_scanBound->Xo,wpAny_seqItems->Xp,wpAny_typeOf->Xu,scanBound->Xv,wpAny_isInstance->Xy,wpAny_in_of->XF,swapsWith->XG,pickOrder->XH,keywordEach->XI,codeAmong->XJ,bootBuiltins->XY,wpAny_tryCatch->XZ,Keyword->X6,wpAny_call->X9,sliceRange->Yb,wpAny_standAt->Yh,holding->Yi,attributeBase->Yj,Operator->Yn,Expr->Ys,wpAny_ite_split->YC,wpAny_execs_nil->YD,letOwnedTupleGo->YE,importedModules->YF,wpAny_rule->YJ,wpAny_setEntries_of->YX,argBest->YY,Builtin->Y4,storeSet->Y7,pyNext->Y8,behindInMarks->Y9,backToKw->Za,ExceptHandler->Zh,DictEntry->Zi,Stmt->Zk,spliced->Zt,getItem->Zu,assign->ZH,IsPart->ZN,noFill_tuple_add->ZO,numAt_eq->ZU,bindArgs->ZV,wpAny_letGo->Z2,standAt->Z3,intItems_at->Z4,getMethod->Z5,Result->Z8,Within->Z9,PassesOwn->aab,IsRangeIter->aad,wpAny_binaryOp_repeat_ref->aal,setAddHashedIn->aam,bltViewBooted->aan,wpAny_getItem_list_slice->aax,seq_tuple_add->aaH,nums_intItems->aaJ,intItems->aaK,evalPart_none->aaL,compEnvC->aaM,callerA->aaN,call->aaQ
open PySem.Heap renaming get?_push_of_some->UO,lt_size->UW,get?_push_size->UX,get?_update_self->Vr,get?_update_other->VC,SameBut->VT,size_push->V5,ExtBut->Zq
open Bool renaming and_eq_true->UQ,false_ne_true->Vz,or_eq_true->WL,false_eq_true->Xb,not_eq_true'->Xg,or_false->YM
open List renaming size_toArray->US,getElem?_append_left->UU,mem_cons_of_mem->UV,mem_cons_self->UY,mem_of_getElem?->UZ,length_map->U0,getElem?_eq_getElem->U1,getElem?_eq_none->U5,map_cons->U8,length_append->U9,length_cons->Va,replicate->Vc,mem_append_right->Vf,getElem?_map->Vh,range->Vj,getElem?_append_right->Vk,getElem?_set_ne->Vm,append_nil->Vn,filterMap_cons->Vs,append_assoc->Vv,singleton_append->Vx,length_singleton->Vy,getElem?_set_self->VB,mem_append_left->VG,getD_eq_getElem?_getD->VW,replicate_succ->V8,map_congr_left->V9,length_nil->Wa,lookup_cons->Wg,filter_cons->Wh,all_eq_true->Wi,map_nil->Wk,getElem?_of_mem->Wp,reverse_singleton->Wx,range_succ_eq_map->Wy,foldl_cons->WJ,flatten_cons->WN,not_mem_nil->WX,lookup->WY,getElem?_range->WZ,getElem?_take_of_lt->W3,nil_append->W7,map_append->W8,getElem?_replicate->W9,find?_cons->Xa,map_map->Xj,length_replicate->Xk,length_filter_le->Xl,eq_nil_of_length_eq_zero->Xn,mem_cons->Xr,any_cons->Xs,mem_map->XC,reverse_cons->XS,length_range->XU,length_take->X4,getElem_mem->X5,find?_cons_of_neg->X7,of_mem_zip->Ye,nodup_nil->Yv,reverse_append->Yx,filter_append->YL,filter_congr->YV,getElem_map->Y6,range_succ->Zo,length->Zp,perm_ext_iff_of_nodup->ZC,length_eraseIdx_of_lt->ZD,getElem?_eq_none_iff->ZL,drop_eq_getElem_cons->ZM,foldl->ZS,sum_cons->ZW,head_eq_of_cons_eq->ZX,all_cons->ZY,pairwise_lt_range->aac,set_set->aai,getElem?_toArray->aaj,range'->aaD,mem_map_of_mem->aaE,set_cons_zero->aaV,set_cons_succ->aaW,filter_filter->aaX
open Nat renaming le_refl->UT,lt_or_ge->Vd,lt_of_lt_of_le->Vg,ne_of_lt->Vi,le_trans->Vp,zero_le->VL,lt_irrefl->VR,le_succ->V0,le_of_lt->V6,lt_succ_self->Wj,ne_of_gt->WM,mul_comm->W4,lt_of_le_of_lt->XD,not_lt_zero->Yo,div_add_mod->Yp,mod_lt->Yq,div_le_div_right->Yu,mul_div_cancel->YO,lt_succ_of_lt->Y3,lt_trans->Y5,succ_le_succ->Zf,zero_add->aaq,succ_pos->aar,sub_self->aas,le_of_ble_eq_true->aat
open Option.some renaming inj->U3,injEq->Wu
open PySem.Str renaming ofString->U7,ofString_eq_toList->aah
open Array renaming length_toList->Ve,getElem?_eq_getElem->VA,getElem?_eq_none->VX,eq_empty_of_size_eq_zero->YW,getElem?_append_left->Zs,getElem?_extract->Z0,toList->aae,getElem?_toList->aaf,getElem?_push->aaw
open False renaming elim->VE
open PySem.Around renaming under_plainId->VF,under->Z1,frames_deeper->aag
open PySem.Heap.SameBut renaming update->VH,refl->Yg
open Ne renaming symm->VN
open PySem.NameKind renaming free->VP,cell->Yr
open PySem.Value renaming ref->VQ,none->Xd,int->Xw,type->XM,isStrOf->YG,isInt->Zb,str->Z7,isInt_shape->aaO,bool->aaP
open PyProof.Rows renaming callWith_type1->VS,slot_tuple_getitem->Wd,firstMet->Wn,IntsAre->XQ,callWith_builtin1->Ym,plainGoodE->YS,plainGoodD->YT,expectedOf->YU,drecsOf->Ze,AllBare->ZG,envOfC->Z6,tail_any->aaF,subscriptTail->aaG
open PySem.Builtin.List renaming listTooLong->VZ,listExtendWith->Xf,listLengthHint->YB,listSameRef->YR
open Int renaming toNat_natCast->V1,natCast_zero->X8,le_antisymm->ZF,add_zero->aau
open PySem.Obj renaming mapFields->V2,mapSeq->WQ
open Option renaming bind_some->Wc,map_some->WC,isSome_some->Yw,isSome_none->aap,getD_some->aaT,getD_none->aaU
open PySem.F renaming plain_extend_loop->Wf,plainAttrs_list->W2,args_tuple_add_2->XA,entry_tuple_add->XN,slot_tuple_add->XW,entry_extend_loop->Zd,type_list_append->Zl,slot_list_append->Zm,slot_dict_update->Zn,plain_list_iadd->Zy,plainAttrs_dict->Zz,slot_set_iter->ZQ,slot_dict_pop->ZR
open List.cons renaming injEq->Wv
open PySem.Calls renaming spliced_cons->Wz,spliced_nil->Xe,Name_function_global->Zr,callWith_builtin->ZZ
open PySem.Builtin.Slice renaming slicePlaces->WB,sliceAdjust->Xm,sliceApplied->YA
open PySem.Builtin.Tuple renaming tupleExact->WK,tupleTooMany->Yy,tupleItemsOf->Yz
open PySem.pickOrder renaming go->Xq
open PySem.Builtin.Str renaming occurrences->Xz
open ForInStep renaming yield->XX
open PySem.PassesOwn renaming never->YN
open PySem.Builtin.Range renaming rangeSize->YQ
open PySem.Heap.IsSliceOf renaming new->Zg
open Classical renaming axiomOfChoice->Zj
open Prod.mk renaming injEq->ZA
open List.Pairwise renaming map->ZE
open PyProof renaming noPylong_small->ZJ
open Char renaming toNat->ZT
open PySem.Code renaming isFrame->aak
open PySem.AutoSeq1 renaming idx_int->aav
open PyProof.Rows.IntsAre renaming length->aaC
open Iff renaming rfl->aaY
section
namespace L2
open PySem PySem.Spec PyProof.Rows
def gx(s:Zk):WH:=match s with
 |.FunctionDef _ a _ _ _ _ _ _ _ _=>a|_=>{posonlyargs:=[],args:=[],vararg:=af,kwonlyargs:=[],kw_defaults:=[],kwarg:=af,defaults:=[]}
def dU(s:Zk):List Zk:=match s with
 |.FunctionDef _ _ b _ _ _ _ _ _ _=>b|_=>[]
def dB(s:Zk):Vw:=match s with
 |.FunctionDef _ _ _ _ _ _ q _ _ _=>q|_=>{kind:=.function,names:=[],isGenerator:=ai,isCoroutine:=ai}
end L2
end
section
namespace BR
open PySem PySem.W PyProof.Rows
noncomputable def uL:List aq->BT->Nat->Option (BT×Nat)
 |[],T,n=>aa (T,n)
 |o::r,T,n=>match ((T.ins n o).get n).isSome with
  |true=>uL r (T.ins n o) (n+1)|false=>af
theorem rF(q:Life):∀{l:List aq}{T D:BT}{n B:Nat},uL l T n=aa (D,B)->(Zv D B q).objs.toList=(Zv T n q).objs.toList++l
 |[],T,D,n,B,h=>by cases h;simp
 |o::r,T,D,n,B,h=>by
  unfold uL at h;cases g:((T.ins n o).get n).isSome with
  |false=>rw[g]at h;cases h
  |true =>
   rw[g]at h;rw[rF q h,absHeap_ins g];show((Zv T n q).objs.push o).toList++r=_;simp
def toT(s:UR):Option Zw:=match uL s.heap.objs.toList .nil 0 with
 |some (T,n)=>aa ⟨T,n,s.heap.life,s.gens,s.drawn,s.toks,s.os⟩|none=>af
def E9(h:toT s=aa t):t.abs=s:=by
 unfold toT at h;cases e:uL s.heap.objs.toList .nil 0 with
 |none=>rw[e]at h;cases h
 |some r =>
  obtain⟨T,n⟩:=r;rw[e]at h;cases h;have:=rF s.heap.life e;obtain⟨⟨objs,life⟩,g,d,k,o⟩:=s;show Shared.mk (Zv T n life) g d k o=Shared.mk ⟨objs,life⟩ g d k o;have e2:(Zv T n life).objs.toList=objs.toList:=by rw[this];simp[Zv,BT.list]
  have B:(Zv T n life).objs=objs:=Array.toList_inj.mp e2;have q:Zv T n life=⟨objs,life⟩:=by show Heap.mk _ _=Heap.mk _ _;exact bU (Heap.mk · life) B
  rw[q]
noncomputable def oA(tb:String->Option Y4)(p:U4)(w:Vl)(n₀:Nat)(ann:Option aC):Nat->Zw->Thread->Option Zw
 |0,_,_=>af
 |n+1,s,t=>match through t with
  |true=>aa s
  |false=>match stepOk n₀ ann t with
   |false=>af
   |true=>match stepT (denote tb) p w s t with
    |some (s',t')=>oA tb p w n₀ ann n s' t'|none=>af
section
variable{tb:String->Option Y4}{p:U4}{w:Vl}{n₀:Nat}{ann:Option aC}
theorem rG:∀{n:Nat}{s s':Zw}{t:Thread},oA tb p w n₀ ann n s t=aa s'->topRun tb p w n₀ ann n s.abs t=aa s'.abs
 |0,_,_,_,h=>by cases h
 |n+1,s,s',t,h=>by
  unfold oA at h;unfold topRun;cases L:through t with
  |true=>rw[L]at h;cases h;rfl
  |false =>
   rw[L]at h;cases J:stepOk n₀ ann t with
   |false=>rw[J]at h;cases h
   |true =>
    rw[J]at h;cases q:stepT (denote tb) p w s t with
    |none=>rw[q]at h;cases h|some r=>obtain⟨D,B⟩:=r;rw[q]at h;dsimp only;rw[stepT_spec q];exact rG h
end
def oZ(tb:String->Option Y4)(p:U4)(w:Vl)(N:Nat)(s₀:UR):Option Zw :=
 match s₀.heap.isNs U6&&s₀.gens.size==0 with
 |true=>(toT s₀).bind λB=>(oA tb p w s₀.heap.objs.size (s₀.heap.nsMap U6 "__annotations__") N B (topStub p)).bind λq =>
  match staticsOk (YF p.main.body) s₀.heap q.abs.heap&&namesBound p q.abs.heap&&gensDone q.abs&&laidKept s₀.heap q.abs.heap with
   |true=>aa q|false=>af
 |false=>af
def wF(h:oZ tb p w N s₀=aa t):topFrom tb p w N s₀=aa t.abs:=by
 unfold oZ at h;unfold topFrom;cases e:(s₀.heap.isNs U6&&s₀.gens.size==0)with
 |false=>rw[e]at h;cases h
 |true =>
  rw[e]at h;obtain⟨B,L,h⟩:=Option.bind_eq_some_iff.mp h;obtain⟨q,J,h⟩:=Option.bind_eq_some_iff.mp h;have D:=rG J;rw[E9 L]at D;dsimp only;rw[D];show(match _ with|true=>aa q.abs|false=>af)=_;cases e2:(staticsOk (YF p.main.body) s₀.heap q.abs.heap&&namesBound p q.abs.heap&&gensDone q.abs&&laidKept s₀.heap q.abs.heap)with
  |false=>rw[e2]at h;cases h|true=>rw[e2]at h;cases h;rfl
def kH(tb:String->Option Y4)(p:U4)(w:Vl)(N:Nat):Option Zw:=(fencedOpening tb p w N).bind (oZ tb p w N)
def Fb{tb:String->Option Y4}{p:U4}{w:Vl}{N:Nat}{B:Type}{f:UR->B}{x:B}(h:(kH tb p w N).map (λt=>f t.abs)=aa x):(openEnds tb p w N).map f=aa x:=by obtain⟨t,D,e⟩:=Option.map_eq_some_iff.mp h;obtain⟨q,L,J⟩:=Option.bind_eq_some_iff.mp D;unfold openEnds;rw[L];show(topFrom tb p w N q).map f=aa x;rw[wF J];exact bU aa e
def Bg{q J D B:Type}{o:Option q}{f:q->J×D}{g:q->B}{x:J}{y:D}{z:B}(h1:o.map (λt=>(f t).1)=aa x)(h2:o.map (λt=>(f t).2)=aa y)(L:o.map g=aa z):o.map (λt=>(f t,g t))=aa ((x,y),z):=by
 cases o with
 |none=>cases h2
 |some t =>
  have e1:(f t).1=x:=U3 h1;have e2:(f t).2=y:=U3 h2;have M:g t=z:=U3 L;show aa (f t,g t)=_;rw[←e1,←e2,←M]
theorem good(q:U4)(loose:List aA):openGood q loose=(YU q,aan,ah,ah,PySem.pinGoodD (Ze q),YS q (PySem.W.looseW q loose),YT q loose,aay q,aaB q loose):=rfl
def LA(tb:String->Option Y4)(p q:U4)(loose B:List aA)(J:UR->Bool)(D:Bool)(N:Nat)(w:Vl):Prop :=
 (kH tb p w N).map (λt=>(aaI q loose B J D t.abs).1)=aa (YU q)
def LB(tb:String->Option Y4)(p q:U4)(loose B:List aA)(J:UR->Bool)(D:Bool)(N:Nat)(w:Vl):Prop :=
 (kH tb p w N).map (λt=>(aaI q loose B J D t.abs).2)=aa (aan,ah,ah,PySem.pinGoodD (Ze q),YS q (PySem.W.looseW q loose),YT q loose,aay q,aaB q loose)
def LO(tb:String->Option Y4)(p:U4)(N:Nat){q:Type}(B:UR->q)(D:Vl->q)(w:Vl):Prop:=(kH tb p w N).map (λt=>B t.abs)=aa (D w)
def Fc{tb:String->Option Y4}{p q:U4}{loose B:List aA}{J:UR->Bool}{D:Bool}{N:Nat}{M:Type}{L:UR->M}{O:Vl->M}{w:Vl}(h1:LA tb p q loose B J D N w)(h2:LB tb p q loose B J D N w)(U:LO tb p N L O w):
 (openEnds tb p w N).map (λs=>(aaI q loose B J D s,L s))=aa (openGood q loose,O w):=by
 rw[good];have h:=Bg (f:=λt:Zw=>aaI q loose B J D t.abs) (g:=λt:Zw=>L t.abs) h1 h2 U;exact Fb (f:=λs=>(aaI q loose B J D s,L s)) h
end BR
end
section
namespace BG
open PySem PySem.Spec PySem.Calls PyProof.Rows L2
structure FS where
 name:aA
 qual:aA
 params:WH
 body:FuncBody
 scope:Vw
 globals:aB
 closure:List (aA×aB)
 defaults:aC
 builtins:aB
 code:Bool
noncomputable def Fd(K:UM)(f:aB):Option FS:=match K.lookup f with
 |some ⟨_,_,.func fd,_⟩=>aa ⟨fd.name,fd.qualname,fd.params,fd.body,fd.scope,fd.globals,fd.closure,fd.defaults,fd.builtins,Yd K fd.code fd.qualname⟩|_=>af
noncomputable def yi(x qual:aA)(st:Zk):FS:=⟨x,qual,gx st,.stmts (dU st),dB st,U6,[],.none,WI,ah⟩
noncomputable def strOf:aC->Option aA
 |.str x _=>aa x|_=>af
noncomputable def intOf:aC->Option Int
 |.int i _=>aa i|_=>af
noncomputable def refOf:Option (Option aC)->Option aB
 |some (aa (.ref a))=>aa a|_=>af
inductive Qy
 |fn(x:aA)(f:aB)(st:Zk)|int(x:aA)(n:Int)|aE(x:aA)(f:aB)(xs:List aA)|dct(x:aA)(f:aB)(kvs:List (aA×Int))|no(x:aA)|cls(c:aA)(C:aB)|me(C:aB)(m x qual:aA)(f:aB)(st:Zk)|mk(C:aB)
 |tab(x:aA)(c P:aB)|bm(b:aB)|fv(x:aA)(f:aB)|exc(D:aB)(xs:List (aA×aB))
 |str(x s:aA)|stp(f:aB)(xs:List aA)|dtp(x:aA)(f:aB)(kvs:List (aA×aB))
inductive Ov
 |fn(a:Option aB)(o:Option FS)|int(n:Option Int)|seq(a:Option aB)(c:Option (aC×Option aB×Nat))(xs:Option (List (Option aA)))|dct(a:Option aB)(c:Option (aC×Option aB×Nat))(xs:Option (List (Int×Option aA×Option Int)))|b(x:Bool)
noncomputable def shp(o:aq):aC×Option aB×Nat:=(o.cls,o.dict,o.slots.size)
def Bh(o:aq):Option (List (Option aA)):=match o.data with
 |.seq q _=>aa (q.toList.map strOf)|_=>af
def IF(o:aq):Option (List (Int×Option aA×Option Int)):=match o.data with
 |.dict q _=>aa (q.toList.map λe=>(e.hash,strOf e.key,intOf e.val))|_=>af
noncomputable def Nh:aC->Option Int
 |.ref a=>aa (a:Int)|_=>af
def Ni(o:aq):Option (List (Int×Option aA×Option Int)):=match o.data with
 |.dict q _=>aa (q.toList.map λe=>(e.hash,strOf e.key,Nh e.val))|_=>af
noncomputable def attrs:List aA:=["program","asked","gap","most","kept","farthest","front","now","origins","branches","tape","named"]
def Nj(K:UM)(c:aA)(C:aB):Bool:=decide (Vu K U6 c=aa (aa (.ref C)))&&Xi K C Str.empty&&WG K C&&YH K C&&decide (Vq K (.ref C) "__setattr__"=aa (aa (.builtin "object.__setattr__"))) &&
 (attrs.all λf=>decide (Vq K (.ref C) f=aa af))&&aaS K C (.type "type")
noncomputable def meB(K:UM)(C:aB)(m:aA)(f:aB):Bool:=decide (Vq K (.ref C) m=aa (aa (.ref f)))&&YK K (.ref f)
noncomputable def mkB(K:UM)(C:aB):Bool:=Y0 K C&&VY K (.ref C)
noncomputable def bmB(K:UM)(b:aB):Bool:=decide (Vu K U6 "__builtins__"=aa (aa (.ref b)))&&decide (b≠WI)&&(match K.lookup b with
 |some ⟨.type "module",aa d,.plain,_⟩=>d==WI
 | _=>ai)
noncomputable def QY(K:UM)(C D:aB):Bool:=match K.lookup C with
 |some ⟨_,_,.cls cd,_⟩=>cd.mro.contains (.ref D)|_=>ai
noncomputable def Nk(K:UM)(c:aA)(C:aB):Bool:=decide (Vu K U6 c=aa (aa (.ref C)))&&PySem.W.excIn K C [.type "ValueError",.type "Exception",.type "BaseException",.type "object"] "ValueError.__new__"
def QZ(K:UM)(D:aB)(xs:List (aA×aB))(c:aA)(C:aB):Bool:=Nk K c C&&QY K C D&&decide (Vq K (.ref C) "__getattribute__"=aa (aa (.builtin "BaseException.__getattribute__")))&&decide (Vq K (.ref C) "__getattr__"=aa af) &&
 decide (Yt K C (.type "BaseException")=aa ah)&&WG K C&&decide (Vq K (.ref C) "__class__"=aa (aa (.builtin "object.__class__")))&&decide (aao K (.builtin "object.__class__") "__get__"=aa (aa (.builtin "getset_descriptor.__get__"))) &&
 decide (aaR K (.builtin "object.__class__")=aa ah)&&decide (Yt K C (.type "object")=aa ah)&&decide (We K (.ref C) (.type "ValueError")=aa ah)&&xs.all λq=>decide (We K (.ref C) (.ref q.2)=aa (q.1==c))
def Q0(K:UM)(D:aB)(xs:List (aA×aB)):Bool:=Nk K "TapeError" D&&xs.all λq=>QZ K D xs q.1 q.2
def fj(K:UM):Qy->Ov
 |.fn x f _=>.fn (refOf (Vu K U6 x)) (Fd K f)|.int x _=>.int (match Vu K U6 x with|some (aa v)=>intOf v|_=>af)|.aE x f _=>.seq (refOf (Vu K U6 x)) ((K.lookup f).map shp) ((K.lookup f).bind Bh)|.dct x f _=>.dct (refOf (Vu K U6 x)) ((K.lookup f).map shp) ((K.lookup f).bind IF)|.no x=>.b (decide (Vu K U6 x=aa af))|.cls c C=>.b (Nj K c C)|.me C m _ _ f _=>.fn (if meB K C m f then aa f else af) (Fd K f)|.mk C=>.b (mkB K C)|.tab x c P=>.b (decide (VJ K x=aa (c,P))&&XR K c P)|.bm b=>.b (bmB K b)|.fv x f=>.b (decide (Vu K U6 x=aa (aa (.ref f)))&&VY K (.ref f))|.exc D q=>.b (Q0 K D q)|.str x _=>.seq af af (match Vu K U6 x with|some (aa v)=>aa [strOf v]|_=>af)|.stp f _=>.seq af ((K.lookup f).map shp) ((K.lookup f).bind Bh)|.dtp x f _=>.dct (refOf (Vu K U6 x)) ((K.lookup f).map shp) ((K.lookup f).bind Ni)
def fk(w:Vl):Qy->Ov
 |.fn x f st=>.fn (aa f) (aa (yi x x st))|.int _ n=>.int (aa n)|.aE _ f J=>.seq (aa f) (aa (.type "tuple",af,0)) (aa (J.map aa))|.dct _ f B=>.dct (aa f) (aa (.type "dict",af,0)) (aa (B.map λq=>(PyData.keyHash w.params q.1,aa q.1,aa q.2)))|.no _=>.b ah|.cls _ _=>.b ah|.me _ _ x D f st=>.fn (aa f) (aa (yi x D st))|.mk _=>.b ah|.tab _ _ _=>.b ah|.bm _=>.b ah|.fv _ _=>.b ah|.exc _ _=>.b ah|.str _ s=>.seq af af (aa [aa s])|.stp f J=>.seq af (aa (.type "tuple",af,0)) (aa (J.map aa))|.dtp _ f B=>.dct (aa f) (aa (.type "dict",af,0)) (aa (B.map λq=>(PyData.keyHash w.params q.1,aa q.1,aa (q.2:Int))))
noncomputable def KOf(as:List aB)(h:au):UM:=as.map λa=>(a,(h.get? a).getD default)
def sees(as:List aB)(B:List Qy)(ts:List aB):PySem.W.Hook where
 α:=Bool×List Ov×List (Option aq)
 obs:=λs=>(as.all λa=>(s.heap.get? a).isSome,B.map (fj (KOf as s.heap)),ts.map s.heap.get?)
 val:=λw=>(ah,B.map (fk w),ts.map λ_=>aa (WO #[]))
 says:=λw h=>∃K:UM,K.map (·.1)=as/\(∀p∈K,h.get? p.1=aa p.2)/\(∀q∈B,fj K q=fk w q)/\∀P∈ts,h.get? P=aa (WO #[])
 of:=λw s e=>by have e1:=bU Prod.fst e;have e2:=bU (λp=>p.2.1) e;have V:=bU (λp=>p.2.2) e;refine⟨KOf as s.heap,by simp[KOf,Function.comp_def],λp D=>?_,λq L=>List.map_inj_left.mp e2 q L,λP J=>List.map_inj_left.mp V P J⟩;obtain⟨a,O,rfl⟩:=List.mem_map.mp D;have U:=List.all_eq_true.mp e1 a O;obtain⟨o,M⟩:=Option.isSome_iff_exists.mp U;show s.heap.get? a=aa ((s.heap.get? a).getD default);rw[M];rfl
 keeps:=λw h h' ⟨K,m,n,k,t⟩ hk=>⟨K,m,λp D=>hk _ _ (n p D),k,λP J=>hk _ _ (t P J)⟩
end BG
end
section
namespace BL
open PySem PySem.Spec PyProof.Rows L2 BG
noncomputable abbrev pg:U4:=PySem.Challenge.pw_backtape_k52_whole_reasons
def qg:U4:=PySem.W.view pg [0,2,3,4,5,6,7,8,9,11,12,13,15,16,17,18,19,20,21,22,23,24,25,26,27,28,29,30,31,32,33,34,35,37,38,39,40,41,42,43,44,45,46,48,50,51,53,54,55,56,57,58,59,60,61]
noncomputable abbrev loo:List aA:=["INNER_COUNTS"]
def top(i:Nat):Zk:=pg.main.body.getD i (.Pass ⟨0,0,0,0⟩)
noncomputable def Nl:Zk->List Zk
 |.ClassDef _ _ _ b _ _ _ _ _ _ _=>b|_=>[]
def iA(i j:Nat):Zk:=(Nl (top i)).getD j (.Pass ⟨0,0,0,0⟩)
noncomputable def Q3:Zk->Pos
 |.FunctionDef _ _ _ _ _ _ _ _ _ p=>p|_=>⟨0,0,0,0⟩
noncomputable abbrev adr:List aB:=[2,3,4,22,23,29,30,36,37,43,44,50,51,94,95,101,102,108,109,115,116,122,123,129,130,136,137,143,144,150,151,157,158,164,165,171,172,178,179,185,186,192,193,199,200,206,207,213,214,220,221,227,228,234,235,239,240,244,245,251,252,258,259,272,273,279,280,286,287,340,341,347,348,354,355,361,362,368,369,375,376,389,390,403,404,410,411,413,414,424,425,431,432,438,439,445,446,450,451,455,456,474,475]
def qys:List Qy:=[.fn "is_whole" 30 (top 6),
 .fn "is_name" 37 (top 7),
 .fn "is_cell" 44 (top 8),
 .fn "inner_sums" 51 (top 9),
 .fn "begun" 95 (top 22),
 .fn "check_thing" 102 (top 23),
 .fn "worth_in" 109 (top 24),
 .fn "laid_out" 116 (top 25),
 .fn "of_two" 123 (top 26),
 .fn "worth_of" 130 (top 27),
 .fn "reckoned" 137 (top 28),
 .fn "cell_by" 144 (top 29),
 .fn "is_over" 151 (top 30),
 .fn "place_behind" 158 (top 31),
 .fn "with_worth" 165 (top 32),
 .fn "with_name" 172 (top 33),
 .fn "brought" 179 (top 34),
 .fn "stepped" 186 (top 35),
 .fn "written_by" 193 (top 37),
 .fn "read_by" 200 (top 38),
 .fn "read_in" 207 (top 39),
 .fn "written_next" 214 (top 40),
 .fn "check_step" 221 (top 41),
 .fn "writer_of" 228 (top 42),
 .fn "judged" 235 (top 43),
 .fn "reasons" 240 (top 44),
 .fn "needless" 245 (top 45),
 .fn "remade" 252 (top 46),
 .fn "sum_at" 259 (top 48),
 .fn "_law_cell" 425 (top 53),
 .fn "_law_drawn" 432 (top 54),
 .fn "_law_sum" 439 (top 55),
 .fn "_law_row" 446 (top 56),
 .fn "_law_program" 451 (top 57),
 .fn "_law_asked" 456 (top 58),
 .fn "law" 475 (top 61),
 .int "CELL_COUNT" 4,
 .int "WORTH_COUNT" 10007,
 .int "ROW" 0,
 .int "NAMES" 1,
 .int "CELLS" 2,
 .int "CALLS" 3,
 .int "ASKED" 4,
 .int "SAID" 5,
 .int "MOST_CALLS" 6,
 .int "MOST_MARKS" 8,
 .aE "LETTERS" 22 ["a","b","c","d","e","f"],
 .dct "INNER_COUNTS" 23 [("num",0),("name",0),("cell",1),("add",2),("sub",2),("mul",2),("less",2)],
 .no "len",
 .no "abs",
 .no "int",
 .no "list",
 .no "tuple",
 .no "isinstance",
 .no "str",
 .no "bool",
 .no "range",
 .no "reversed",
 .no "enumerate",
 .no "zip",
 .no "min",
 .no "max",
 .no "sorted",
 .no "sum",
 .no "all",
 .no "any",
 .no "set",
 .no "ValueError",
 .no "dict",
 .no "worths_of",
 .no "last_change",
 .no "next_change",
 .no "moments_so",
 .no "last_so",
 .no "next_so",
 .no "visits",
 .no "last_visit",
 .no "when_said",
 .no "next_within",
 .no "last_within",
 .no "first_other",
 .tab "writer_of" 227 223,
 .tab "judged" 234 230,
 .tab "remade" 251 247,
 .bm 4,
 .cls "Tape" 414,
 .mk 414,
 .me 414 "__init__" "__init__" "Tape.__init__" 273 (iA 51 0),
 .me 414 "at" "at" "Tape.at" 280 (iA 51 1),
 .me 414 "end" "end" "Tape.end" 287 (iA 51 2),
 .me 414 "behind" "behind" "Tape.behind" 341 (iA 51 10),
 .me 414 "is_last" "is_last" "Tape.is_last" 348 (iA 51 11),
 .me 414 "keep" "keep" "Tape.keep" 355 (iA 51 12),
 .me 414 "reach" "reach" "Tape.reach" 362 (iA 51 13),
 .me 414 "has" "has" "Tape.has" 369 (iA 51 14),
 .me 414 "check" "check" "Tape.check" 376 (iA 51 15),
 .me 414 "steps_to" "steps_to" "Tape.steps_to" 390 (iA 51 17),
 .me 414 "last_to" "last_to" "Tape.last_to" 404 (iA 51 19),
 .me 414 "last_between" "last_between" "Tape.last_between" 411 (iA 51 20)]
noncomputable abbrev tl:List (aA×aB×aB):=[("writer_of",227,223),("judged",234,230),("remade",251,247)]
noncomputable abbrev tas:List aB:=[223,230,247]
abbrev LA:Vl->Prop:=BR.LA treeTable pg qg loo (YF pg.main.body) (λs=>ZP qg [] s&&Zx [] s) ah 6060
def la0(w:Vl):LA (w.withFollow "special-get-raises" ai):=by unfold LA BR.LA;kernel_rfl
def la1(w:Vl):LA (w.withFollow "special-get-raises" ah):=by unfold LA BR.LA;kernel_rfl
abbrev LB:Vl->Prop:=BR.LB treeTable pg qg loo (YF pg.main.body) (λs=>ZP qg [] s&&Zx [] s) ah 6060
def lb0(w:Vl):LB (w.withFollow "special-get-raises" ai):=by unfold LB BR.LB;kernel_rfl
def lb1(w:Vl):LB (w.withFollow "special-get-raises" ah):=by unfold LB BR.LB;kernel_rfl
abbrev LO:Vl->Prop:=BR.LO treeTable pg 6060 (sees adr qys tas).obs (sees adr qys tas).val
def lo0(w:Vl):LO (w.withFollow "special-get-raises" ai):=by unfold LO BR.LO;kernel_rfl
def lo1(w:Vl):LO (w.withFollow "special-get-raises" ah):=by unfold LO BR.LO;kernel_rfl
def left:PySem.W.LeftO pg qg loo (λs=>ZP qg [] s&&Zx [] s) (sees adr qys tas).obs (sees adr qys tas).val 6060:=λw=>BR.Fc (Zc (P:=LA) "special-get-raises" la0 la1 w) (Zc (P:=LB) "special-get-raises" lb0 lb1 w) (Zc (P:=LO) "special-get-raises" lo0 lo1 w)
end BL
end
section
namespace L2
open PySem PySem.Spec PyProof.Rows
noncomputable abbrev Key:=Sum Int aA
noncomputable def jS:Key->aC->Bool
 |.inl k,v=>Zb k v|.inr x,v=>YG x v
noncomputable def Nn(w:Vl):Key->Int
 |.inl k=>hashInt k|.inr x=>hashStr w x
theorem dN:∀{k:Key}{v:aC},jS k v=ah->(∃i t,k=Sum.inl i/\v=Xw i t)\/(∃x t,k=Sum.inr x/\v=Z7 x t)
 |.inl i,v,h=>by obtain⟨t,e⟩:=aaO (k:=i) (v:=v) h;exact .inl ⟨i,t,rfl,e⟩
 |.inr x,v,h=>by obtain⟨t,e⟩:=Value.isStrOf_shape (x:=x) (v:=v) h;exact .inr ⟨x,t,rfl,e⟩
def zS(i:Int)(t:Tok):jS (.inl i) (.int i t)=ah:=by simp[jS,Zb]
def zT(x:aA)(t:Tok):jS (.inr x) (.str x t)=ah:=by simp[jS,YG]
def Js(a b:Int):decide ((Sum.inl a:Key)=Sum.inl b)=(a==b):=by
 by_cases e:a=b
 subst e;simp
 ·have h:¬(Sum.inl a:Key)=Sum.inl b:=λq=>e (Sum.inl.inj q);rw[bQ h];exact(beq_eq_false_iff_ne.mpr e).symm
def Jt(a b:aA):decide ((Sum.inr a:Key)=Sum.inr b)=decide (a=b):=by
 by_cases e:a=b
 subst e;simp
 ·have h:¬(Sum.inr a:Key)=Sum.inr b:=λq=>e (Sum.inr.inj q);rw[bQ h,bQ e]
def Ju(a:Int)(b:aA):decide ((Sum.inl a:Key)=Sum.inr b)=ai:=bQ (λq=>nomatch q)
def Jv(a:aA)(b:Int):decide ((Sum.inr a:Key)=Sum.inl b)=ai:=bQ (λq=>nomatch q)
def dI(prog:U4)(w:Vl):PySem.KeyKind prog w Key where
 is:=jS
 hash:=Nn w
 inj:=λv a b J B=>by
  rcases dN J with⟨i,t,rfl,rfl⟩|⟨x,t,rfl,rfl⟩
  ·rcases dN B with⟨j,u,rfl,e⟩|⟨y,u,rfl,e⟩
   ·injection e with e1 _;rw[e1]
   exact nomatch e
  ·rcases dN B with⟨j,u,rfl,e⟩|⟨y,u,rfl,e⟩
   exact nomatch e
   ·injection e with e1 _;rw[e1]
 byValue:=λk v h=>by rcases dN h with⟨i,t,rfl,rfl⟩|⟨x,t,rfl,rfl⟩<;>rfl
 pyHash:=λq h=>by
  rcases dN q with⟨i,t,rfl,rfl⟩|⟨x,t,rfl,rfl⟩
  exact wpAny_pyHash_int h;exact wpAny_pyHash_str h
 eqBool:=λD q h=>by
  rcases dN D with⟨i,t,rfl,rfl⟩|⟨x,t,rfl,rfl⟩
  ·rcases dN q with⟨j,u,rfl,rfl⟩|⟨y,u,rfl,rfl⟩
   rw[Js]at h;exact wpAny_eqBool_int h;rw[Ju]at h;exact SeqAt.EqAt.int_str i t y u _ _ _ _ h
  ·rcases dN q with⟨j,u,rfl,rfl⟩|⟨y,u,rfl,rfl⟩
   rw[Jv]at h;exact SeqAt.EqAt.str_int x t j u _ _ _ _ h;rw[Jt]at h;exact wpAny_eqBool_str h
 «strs»:=λk x t v h=>by
  rcases dN h with⟨i,u,rfl,e⟩|⟨y,u,rfl,e⟩
  exact nomatch e
  ·injection e with e1 _
   subst e1;cases v<;>rfl
def uM(prog:U4)(w:Vl)(i:Int)(t:Tok):(dI prog w).is (.inl i) (.int i t)=ah:=zS i t
def iY(prog:U4)(w:Vl)(x:aA)(t:Tok):(dI prog w).is (.inr x) (.str x t)=ah:=zT x t
end L2
namespace L2
open PySem PySem.Spec PyProof.Rows
inductive V
 |aF|bl(b:Bool)|int(i:Int)|str(x:aA)|byt(b:Array UInt8)|flt(b:UInt64)|ref(a:aB)|ty(n:String)
 deriving DecidableEq
noncomputable def RelV:V->aC->Prop
 |.aF,u=>u=Xd|.bl b,u=>u=aaP b|.int i,u=>∃t,u=Xw i t|.str x,u=>∃t,u=Z7 x t|.byt b,u=>∃t,u=Value.bytes b t|.flt b,u=>∃t,u=Value.float b t|.ref a,u=>u=VQ a|.ty n,u=>u=XM n
abbrev dF:List V->List aC->Prop:=Paired RelV
def dF.length(r:dF xs us):xs.length=us.length:=Paired.length r
theorem dF.get:∀{xs:List V}{us:List aC}{i:Nat}{x:V},dF xs us->xs[i]?=aa x->∃u,us[i]?=aa u/\RelV x u
 |_,_,_,_,.nil,e=>by simp at e
 |_,_,0,_,.cons r _,e=>by simp at e;subst e;exact⟨_,rfl,r⟩
 |_,_,i+1,x,.cons _ t,e=>by obtain⟨u,B,q⟩:=dF.get (i:=i) (x:=x) t (by simpa using e);exact⟨u,by simpa using B,q⟩
theorem dF.set(r:RelV x u):∀{xs:List V}{us:List aC}(i:Nat),dF xs us->dF (xs.set i x) (us.set i u)
 |_,_,_,.nil=>.nil|_,_,0,.cons _ t=>.cons r t|_,_,i+1,.cons q t=>.cons q (dF.set r i t)
theorem dF.append:∀{xs ys:List V}{us ws:List aC},dF xs us->dF ys ws->dF (xs++ys) (us++ws)
 |_,_,_,_,.nil,s=>s|_,_,_,_,.cons r t,s=>.cons r (dF.append t s)
theorem dF.take:∀{xs:List V}{us:List aC}(n:Nat),dF xs us->dF (xs.take n) (us.take n)
 |_,_,0,_=>.nil|_,_,_+1,.nil=>.nil|_,_,n+1,.cons r t=>.cons r (dF.take n t)
theorem dF.drop:∀{xs:List V}{us:List aC}(n:Nat),dF xs us->dF (xs.drop n) (us.drop n)
 |_,_,0,r=>r|_,_,_+1,.nil=>.nil|_,_,n+1,.cons _ t=>dF.drop n t
def o4:Option V->Option aC->Prop
 |some v,aa u=>RelV v u|none,af=>True|_,_=>False
def KV{κ:Type}:List (κ×V)->List (κ×aC)->Prop:=Paired λ(p:κ×V)(q:κ×aC)=>p.1=q.1/\RelV p.2 q.2
noncomputable def kV:Key->V
 |.inl i=>.int i|.inr x=>.str x
inductive HO
 |aD(xs:List V)
 |aE(xs:List V)
 |dK(kvs:List (Key×V))|dT(kvs:List (List Key×V))
 |set(S:Int->Bool)(n:Nat)
 |ins(C dx:aB)(fs:List (aA×V))
 |own(x:aB)
 |xd(fs:List (aA×V))
 |met(f x:aB)
 |rng(lo hi:Int)
 |frz(o:aq)(u:HO)
 |tbl(ps:Array aC)
 |ext(q:au->Prop)
noncomputable abbrev Hp:=aB->Option HO
noncomputable def upd(H:Hp)(a:aB)(o:HO):Hp:=λb=>if b=a then aa o else H b
def dM:upd H a o a=aa o:=by unfold upd;rw[bM rfl]
def dD(h:b≠a):upd H a o b=H b:=by unfold upd;rw[bN h]
def dJ{H:Hp}{a b:aB}{o:HO}(h:H a=aa o)(h':H b=af):a≠b:=by intro e;subst e;rw[h]at h';cases h'
section
variable(P:U4)(w:Vl)
def gk(H:Hp)(h:au)(a:aB):HO->Prop
 |.aD J=>J.length<=aj/\∃(D:List aC) (n:Nat),dF J D/\h.get? a=aa {cls:=.type "list",data:=.seq D.toArray n}|.aE J=>J.length<=aj/\∃D:List aC,dF J D/\IsTup h a D.toArray|.dK B=>B.length<=aj/\(a==Wt)=ai/\∃U,KV B U/\h.DictOf (dI P w) a U
 |.dT B=>B.length<=aj/\(a==Wt)=ai/\∃J:List (List Key×aB×aC),
  Paired (λ(p:List Key×V)(q:List Key×aB×aC)=>p.1=q.1/\H q.2.1=aa (.aE (p.1.map kV))/\RelV p.2 q.2.2) B J ∧
  ∃o Z d,h.get? a=aa o/\o.ExactDict/\o.data=.dict Z d/\Z.toList=J.map (entryOfKey (tupleKind (dI P w)))/\(J.map (·.1)).Nodup
 |.set S n=>h.SetOf (intKind P w) a S n|.ins C M fs=>H M=aa (.own a)/\fs.length<=1000/\M≠a/\h.get? a=aa (Wl C M) ∧
  ∃L,h.Ns1 M L/\(∀f,o4 (fs.lookup f) (L f))/\Z9 L (fs.map (·.1))
 |.own _=>∃o,h.get? a=aa o|.xd fs=>∃L,h.Ns1 a L/\∀f,o4 (fs.lookup f) (L f)|.rng lo c=>∃t u v,h.get? a=aa {cls:=.type "range",data:=.fields #[.int lo t,.int c u,.int 1 v]}|.frz o u=>h.get? a=aa o/\gk H h a u|.tbl b=>h.get? a=aa {cls:=.none,data:=.fields b}|.met f x=>h.get? a=aa (YI (.ref f) (.ref x))|.ext O=>O h/\(∃o,h.get? a=aa o)/\∀Y W:au,O Y->(∀o,Y.get? a=aa o->W.get? a=aa o)->O W
def HOk(H:Hp)(h:au):Prop:=∀a o,H a=aa o->gk P w H h a o
end
section
variable{P:U4}{w:Vl}{H H':Hp}{h h':au}{a:aB}{o:HO}
def gk.lt(x:gk P w H h a o):a<h.objs.size:=by
 cases o with
 |aD q=>obtain⟨_,_,_,_,e⟩:=x;exact UW e|aE q=>obtain⟨_,_,_,p⟩:=x;exact p.lt|set S n=>obtain⟨o,_,_,_,e,_⟩:=x;exact UW e|ins C L fs=>obtain⟨_,_,_,e,_⟩:=x;exact UW e|own y=>obtain⟨_,e⟩:=x;exact UW e|xd fs=>obtain⟨_,⟨_,_,_,e,_⟩,_⟩:=x;exact UW e|rng lo J=>obtain⟨_,_,_,e⟩:=x;exact UW e|frz ob u=>obtain⟨e,_⟩:=x;exact UW e|tbl D=>exact UW (show h.get? a=aa _ from x)|met f y=>exact UW (show h.get? a=aa _ from x)|ext B=>obtain⟨_,⟨_,e⟩,_⟩:=x;exact UW e|_=>obtain⟨_,_,_,_,o,_,_,e,_⟩:=x;exact UW e
theorem Paired.Np:∀{B:List α}{q:List β},Paired F B q->(∀a b,F a b->G a b)->Paired G B q
 |_,_,.nil,_=>.nil|_,_,.cons r t,f=>.cons (f _ _ r) (Paired.Np t f)
def gk.stay(x:gk P w H h a o)(k:∀b u,(b=a\/H b=aa (.own a))->h.get? b=aa u->h'.get? b=aa u)
(g:∀b,H b=aa (.own a)->H' b=aa (.own a))(Z:∀b xs,H b=aa (.aE xs)->H' b=aa (.aE xs)):gk P w H' h' a o:=by
 induction o with
 |aD xs=>obtain⟨z,J,n,r,e⟩:=x;exact⟨z,J,n,r,k _ _ (.inl rfl) e⟩|aE xs=>obtain⟨z,J,r,ob,e,c⟩:=x;exact⟨z,J,r,ob,k _ _ (.inl rfl) e,c⟩|dK O=>obtain⟨z,y,V,r,ob,B,D,e,c⟩:=x;exact⟨z,y,V,r,ob,B,D,k _ _ (.inl rfl) e,c⟩
 |dT O =>
  obtain⟨z,y,xs,r,ob,B,D,e,c⟩:=x;exact⟨z,y,xs,Paired.Np r λp q z=>⟨z.1,Z _ _ z.2.1,z.2.2⟩,ob,B,D,k _ _ (.inl rfl) e,c⟩
 |set S n=>obtain⟨ob,B,D,t,e,c⟩:=x;exact⟨ob,B,D,t,k _ _ (.inl rfl) e,c⟩
 |ins C l fs =>
  obtain⟨d,z,W,e,M,⟨L,B,D,e2,c⟩,r⟩:=x;exact⟨g _ d,z,W,k _ _ (.inl rfl) e,M,⟨L,B,D,k _ _ (.inr d) e2,c⟩,r⟩
 |own y=>obtain⟨ob,e⟩:=x;exact⟨ob,k _ _ (.inl rfl) e⟩|xd fs=>obtain⟨M,⟨L,B,D,e,c⟩,r⟩:=x;exact⟨M,⟨L,B,D,k _ _ (.inl rfl) e,c⟩,r⟩|rng lo j=>obtain⟨t,u,v,e⟩:=x;exact⟨t,u,v,k _ _ (.inl rfl) e⟩|frz ob u Y=>obtain⟨e,q⟩:=x;exact⟨k _ _ (.inl rfl) e,Y q⟩
 |tbl U =>
  have e:h.get? a=aa {cls:=.none,data:=.fields U}:=x;show h'.get? a=aa {cls:=.none,data:=.fields U};exact k a _ (.inl rfl) e
 |met f y =>
  have e:h.get? a=aa (YI (.ref f) (.ref y)):=x;show h'.get? a=aa (YI (.ref f) (.ref y));exact k a _ (.inl rfl) e
 |ext i=>obtain⟨p,⟨o,e⟩,st⟩:=x;exact⟨st _ _ p λo q=>k _ _ (.inl rfl) q,⟨o,k _ _ (.inl rfl) e⟩,st⟩
def HOk.lt(x:HOk P w H h)(e:H a=aa o):a<h.objs.size:=(x a o e).lt
def HOk.fresh(x:HOk P w H h)(e:h.objs.size<=a):H a=af:=by
 cases q:H a with
 |none=>rfl|some u=>exact bO (Vg (x.lt q) e) (VR _)
def HOk.aJ(x:HOk P w H h)(k:∀b u,h.get? b=aa u->h'.get? b=aa u):HOk P w H h':=λa o e =>
 (x a o e).stay (λb u _ q=>k b u q) (λ_ q=>q) λ_ _ q=>q
def HOk.laid(x:HOk P w H h)(k:∀b u,h.get? b=aa u->h'.get? b=aa u)(D:h.objs.size<=a)(new:gk P w (upd H a o) h' a o):HOk P w (upd H a o) h':=λb u e=>by
 have hn:=x.fresh D
 by_cases B:b=a
 subst B;rw[dM]at e;cases e;exact new
 ·rw[dD B]at e;exact(x b u e).stay (λc v _ q=>k c v q) (λc q=>by rw[dD (dJ q hn)];exact q) λc J q=>by rw[dD (dJ q hn)];exact q
end
def Rd(H:Hp)(a:aB)(u:HO):Prop:=H a=aa u\/∃o,H a=aa (.frz o u)
def Rd.ok(r:Rd H a u)(x:HOk P w H h):gk P w H h a u:=by
 rcases r with r|⟨o,r⟩
 exact x a u r
 ·obtain⟨_,q⟩:=x a _ r;exact q
noncomputable def Mut:Option HO->Prop
 |some (.aD _)=>True|some (.dK _)=>True|some (.dT _)=>True|some (.set _ _)=>True|some (.ins _ _ _)=>True|some (.ext _)=>True|_=>False
section
variable{P:U4}{w:Vl}{H:Hp}{h h':au}{x e:aB}{o':HO}
def HOk.write(ok:HOk P w H h)(mu:Mut (H x))(W:e=x\/H e=aa (.own x))(k:∀b u,b≠e->h.get? b=aa u->h'.get? b=aa u)(U:∃u,h'.get? e=aa u)
(new:gk P w (upd H x o') h' x o'):HOk P w (upd H x o') h':=λb u q=>by
 have D:∀c y,H c=aa (.own y)->c≠x:=λc y r z=>by subst z;rw[r]at mu;exact mu
 have J:∀c L,H c=aa (.aE L)->c≠x:=λc L r z=>by subst z;rw[r]at mu;exact mu
 by_cases O:b=x
 subst O;rw[dM]at q;cases q;exact new
 ·rw[dD O]at q
  by_cases B:b=e
  ·have V:H b=aa (.own x):=by
    rcases W with z|z
    exact bO (B.trans z) O;rw[B];exact z
   rw[q]at V;cases V;obtain⟨v,Y⟩:=U;exact⟨v,by rw[B];exact Y⟩
  ·refine(ok b u q).stay (λc v M r=>k c v ?_ r) (λc r=>by rw[dD (D c b r)];exact r) λc L r=>by rw[dD (J c L r)];exact r
   rcases M with rfl|M
   exact B
   ·rintro rfl
    rcases W with z|z
    exact D c b M z;rw[M]at z;cases z;exact O rfl
end
structure Un(fs ex:List aB)(H H':Hp)(h h':au):Prop where
 keep:∀b o,h.get? b=aa o->H b=af->b∉fs->b∉ex->h'.get? b=aa o
 slot:∀b o,h.get? b=aa o->H b=af->b∈fs->b∉ex->∃sl,h'.get? b=aa {o with slots:=sl}
 free:∀b o,h.get? b=aa o->H b=af->b∉ex->H' b=af
 there:∀b o,h.get? b=aa o->b∉ex->∃o',h'.get? b=aa o'
 tups:∀b xs,H b=aa (.aE xs)->H' b=aa (.aE xs)
 frzs:∀b o u,H b=aa (.frz o u)->H' b=aa (.frz o u)
 tbls:∀b ps,H b=aa (.tbl ps)->∃more,H' b=aa (.tbl (ps++more))
section
variable{fs fs' ex ex':List aB}{H H1 H2:Hp}{h h1 h2 h':au}{a x e:aB}{o:HO}
def Un.any(u:Un fs ex H H1 h h1)(q:h.get? b=aa ob)(n:H b=af)(B:b∉ex):∃J,h1.get? b=aa {ob with slots:=J}:=by
 by_cases D:b∈fs
 exact u.slot b ob q n D B;exact⟨ob.slots,u.keep b ob q n D B⟩
def Un.aJ(k:∀b u,h.get? b=aa u->h'.get? b=aa u):Un fs ex H H h h' :=
 ⟨λb ob q _ _ _=>k b ob q,λb ob q _ _ _=>⟨ob.slots,k b ob q⟩,λ_ _ _ n _=>n,λb ob q _=>⟨ob,k b ob q⟩,λ_ _ q=>q,λ_ _ _ q=>q,λ_ B q=>⟨#[],by rw[q];simp⟩⟩
def Un.refl:Un fs ex H H h h:=Un.aJ λ_ _ q=>q
theorem Un.laid(k:∀b u,h.get? b=aa u->h'.get? b=aa u)(D:h.objs.size<=a)(hn:H a=af):Un fs ex H (upd H a o) h h' where
 keep:=λb u q _ _ _=>k b u q
 slot:=λb u q _ _ _=>⟨u.slots,k b u q⟩
 free:=λb u q n _=>by rw[dD (Vi (Vg (UW q) D))];exact n
 there:=λb u q _=>⟨u,k b u q⟩
 tups:=λb B q=>by rw[dD (dJ q hn)];exact q
 frzs:=λb u B q=>by rw[dD (dJ q hn)];exact q
 tbls:=λb J q=>⟨#[],by rw[dD (dJ q hn),q];simp⟩
def Un.write(mu:Mut (H x))(U:e=x\/H e=aa (.own x))(k:∀b u,b≠e->h.get? b=aa u->h'.get? b=aa u)(J:∃u,h'.get? e=aa u):Un fs ex H (upd H x o) h h':=by
 have L:∀b,H b=af->b≠x:=λb n z=>by subst z;rw[n]at mu;exact mu
 have M:∀b,H b=af->b≠e:=λb n z=>by
  subst z;rcases U with r|r
  exact L b n r;rw[n]at r;cases r
 have D:∀b u,H b=aa u->¬Mut (aa u)->b≠x:=λb u q nm z=>by subst z;rw[q]at mu;exact nm mu
 refine ⟨λb u q n _ _=>k b u (M b n) q,λb u q n _ _=>⟨u.slots,k b u (M b n) q⟩,λb u q n _=>by rw[dD (L b n)];exact n,λb u q _=>?_,
  λb O q=>by rw[dD (D b _ q λz=>z)];exact q,λb u O q=>by rw[dD (D b _ q λz=>z)];exact q,λb V q=>⟨#[],by rw[dD (D b _ q λz=>z),q];simp⟩⟩
 by_cases B:b=e
 subst B;exact J;exact⟨u,k b u B q⟩
end
noncomputable def trk(h:au)(H:Hp):List aB:=(Vj h.objs.size).filter λa=>(H a).isSome
def uN(h:au)(H:Hp):au:=PySem.W.hideAll h (trk h H)
def zU(h:au)(H:Hp):(uN h H).objs.size=h.objs.size:=PySem.W.hideAll_size _ _
def uO(e:h.get? b=aa o)(n:H b=af):(uN h H).get? b=aa o :=
 PySem.W.hideAll_get _ e λB=>by have q:(H b).isSome=ah:=(List.mem_filter.mp B).2;rw[n]at q;simp at q
def Fe(e:(uN h H).get? b=aa o):h.get? b=aa o/\H b=af:=by
 have B:h.get? b=aa o:=PySem.W.of_hideAll (trk h H) e;refine⟨B,?_⟩;cases q:H b with
 |none=>rfl
 |some x =>
  have D:b∈trk h H:=List.mem_filter.mpr ⟨List.mem_range.mpr (UW B),by simp[q]⟩;have z:(uN h H).get? b=af:=PySem.W.hideAll_none (trk h H) D;rw[z]at e;cases e
noncomputable def Ff(g h:au)(L:aB):List (aB×aq):=(Vj h.objs.size).filterMap λa=>if a=L\/(g.get? a).isSome=ah then af else(h.get? a).map λo=>(a,o)
def rest(g h:au)(L d:aB):List (aB×aq):=(Ff g h L).filter λp=>decide (p.1≠d)
end L2
namespace L2
open PySem PySem.Spec PyProof.Rows
structure Mod(K:UM)(mg:aA->Option aC)(base:au):Prop where
 kin:K.In base
 glob:base.Ns U6 mg
 blt:∃mb,base.Ns WI mb/\∀x:aA,x≠"__name__"->mb x=XY x
 nolimit:base.NoLimit
structure Cx where
 prog:U4
 w:Vl
 K:UM
 mg:aA->Option aC
 base:au
 A:VU
 N:List aA
 s₀:UR
 H₀:Hp
 env:Env
 outer:List Env
 stack:List Env
 ex:List aB
 fn:aA->Bool
 calm:Bool
 pn:List (aB×aq)
 xe:aC->UR->Prop
noncomputable def frs(l:List Env):List aB:=l.filterMap (·.frame)
noncomputable abbrev Cx.fs(X:Cx):List aB:=frs X.outer
def Vis(sc:Vw)(x:aA):Prop:=sc.names.lookup x=aa .local\/sc.names.lookup x=aa .cell\/sc.names.lookup x=aa .free
def Loc(sc:Vw)(x:aA):Prop:=sc.names.lookup x=aa .local\/sc.names.lookup x=aa .cell
def Look(env:Env)(h:au)(m:aA->Option aC)(x:aA)(u:aC):Prop :=
 (env.kindOf x=aa .local/\m x=aa u)\/((env.kindOf x=aa .cell\/env.kindOf x=aa .free)/\∃c,env.cells.lookup x=aa c/\h.IsCell c (aa u))
structure Cx.Ok(X:Cx):Prop where
 mod:Mod X.K X.mg X.base
 kind:X.env.scope.kind=.function
 glob:X.env.globals=U6
 blt:X.env.builtins=WI
 above:X.s₀.heap.objs.size<=X.env.locals
 inj:∀x y c,X.env.cells.lookup x=aa c->X.env.cells.lookup y=aa c->x=y
 has:∀x,(X.env.kindOf x=aa .cell\/X.env.kindOf x=aa .free)->∃c,X.env.cells.lookup x=aa c
 cab:∀x c,X.fn x=ah->X.env.cells.lookup x=aa c->X.s₀.heap.objs.size<=c
 hd:X.calm=ah->X.A.handled=af
 frames:X.A.frames=aa X.stack
 stk:X.stack=X.outer\/(X.stack=X.env::X.outer/\X.env.frame=aa X.env.locals)
 exf:∀b∈X.ex,b≠X.env.locals/\∀x c,X.env.cells.lookup x=aa c->c≠b
 bs:∀b o,X.base.get? b=aa o->X.s₀.heap.get? b=aa o/\X.H₀ b=af
 bsz:X.base.objs.size<=X.s₀.heap.objs.size
 noex:∀b o,X.base.get? b=aa o->b∉X.ex
 exfs:∀b∈X.ex,b∉X.fs
 kY:X.s₀.heap.FunFrames X.base X.outer
 frf:∀b∈X.fs,X.H₀ b=af
structure Inv(X:Cx)(zt:List (aB×aq))(σ:List (Option V))(H:Hp)(s:UR):Prop where
 ok:X.Ok
 os:s.os=X.s₀.os
 bare:ZG s.gens
 base:Un X.fs X.ex X.H₀ H X.s₀.heap s.heap
 loc:∃m,s.heap.Ns X.env.locals m/\∀(i:Nat)(x:aA)(v:V),X.N[i]?=aa x->σ[i]?=aa (aa v)->Vis X.env.scope x->∃u,RelV v u/\Look X.env s.heap m x u
 cell:∀x c,X.env.cells.lookup x=aa c->∃v,s.heap.IsCell c v
 free:H X.env.locals=af
 freeC:∀x c,X.env.cells.lookup x=aa c->H c=af
 pin:∀p∈X.pn++zt,s.heap.get? p.1=aa p.2/\H p.1=af/\p.1≠X.env.locals/\p.1∉X.fs/\∀v,p.2.data≠.cell v
 aL:HOk X.prog X.w H s.heap
 len:σ.length=X.N.length
section
variable{X:Cx}{zt:List (aB×aq)}{σ:List (Option V)}{H H':Hp}{s:UR}{h':au}
def Cx.Ok.Q4(ok:X.Ok)(e:X.base.get? b=aa o):b∉X.fs:=λq=>by have:=(ok.kY.mem q).1;rw[e]at this;cases this
def Inv.bs(I:Inv X zt σ H s):∀b o,X.base.get? b=aa o->s.heap.get? b=aa o/\H b=af:=λb o e =>
 ⟨I.base.keep b o (I.ok.bs b o e).1 (I.ok.bs b o e).2 (I.ok.Q4 e) (I.ok.noex b o e),I.base.free b o (I.ok.bs b o e).1 (I.ok.bs b o e).2 (I.ok.noex b o e)⟩
def Inv.bk(I:Inv X zt σ H s):∀b o,X.base.get? b=aa o->s.heap.get? b=aa o:=λb o e=>(I.bs b o e).1
def Inv.mod(I:Inv X zt σ H s):Mod X.K X.mg X.base:=I.ok.mod
def Inv.kIn(I:Inv X zt σ H s):X.K.In s.heap:=I.ok.mod.kin.keeps I.bk
def Inv.lt(I:Inv X zt σ H s):X.env.locals<s.heap.objs.size:=let ⟨_,hn,_⟩:=I.loc;hn.lt
def Inv.sz(I:Inv X zt σ H s):X.s₀.heap.objs.size<=s.heap.objs.size:=Vp I.ok.above (V6 I.lt)
def Inv.Q5(I:Inv X zt σ H s)(h:s.heap.objs.size<=a):a∉X.fs:=λB=>by obtain⟨_,o,q,_⟩:=I.ok.kY.mem B;exact bO (Vg (UW q) (Vp I.sz h)) (VR _)
def Inv.cne(I:Inv X zt σ H s):∀x c,X.env.cells.lookup x=aa c->c≠X.env.locals:=λx c e z=>by obtain⟨v,o,D,J⟩:=I.cell x c e;obtain⟨m,⟨L,M,O,q,B,_⟩,_⟩:=I.loc;rw[z,q]at D;cases D;rw[B]at J;cases J
def Inv.kY(I:Inv X zt σ H s):s.heap.FunFrames X.base X.outer:=by
 have all:∀(l:List Env),(∀b∈frs l,b∈X.fs)->X.s₀.heap.FunFrames X.base l->s.heap.FunFrames X.base l:=by
  intro l
  induction l with
  |nil=>intro _ _;trivial
  |cons Z r M =>
   intro J V;obtain⟨W,⟨L,o,q,hn,U,Y⟩,O⟩:=V;have D:L∈X.fs:=J L (by unfold frs;rw[Vs,q];exact UY);obtain⟨a,e⟩:=I.base.slot L o U (I.ok.frf L D) D λz=>I.ok.exfs L z D;exact⟨W,⟨L,_,q,hn,e,Y⟩,M (λb B=>J b (by unfold frs;rw[Vs,q];exact UV _ B)) O⟩
 exact all X.outer (λ_ B=>B) I.ok.kY
def Inv.stack(I:Inv X zt σ H s):s.heap.FunFrames X.base X.stack:=by
 rcases I.ok.stk with e|⟨e,hf⟩
 rw[e];exact I.kY
 ·rw[e];obtain⟨m,hn,_⟩:=I.loc;refine .cons (by rw[I.ok.kind];decide) hf hn ?_ I.kY;exact Heap.get?_none_of_le (Vp I.ok.bsz I.ok.above)
def Inv.o5(I:Inv X zt σ H s):∀b∈frs X.stack,b∈X.env.locals::X.fs:=λb q=>by
 rcases I.ok.stk with e|⟨e,hf⟩
 rw[e]at q;exact UV _ q
 ·rw[e]at q;unfold frs at q;rw[Vs,hf]at q;exact q
def Inv.sP(I:Inv X zt σ H s):∀b∈frs X.stack,H b=af:=λb q=>by
 rcases List.mem_cons.mp (I.o5 b q)with e|q
 rw[e];exact I.free
 ·obtain⟨_,o,B,_⟩:=I.ok.kY.mem q;exact I.base.free b o B (I.ok.frf b q) λz=>I.ok.exfs b z q
def Inv.step{g':Array GenState}{t':Nat}{d':Drawn}{ch:List aB}(I:Inv X zt σ H s)
(J:∀b∈ch,(b∈X.ex\/X.s₀.heap.objs.size<=b)/\b≠X.env.locals/\(∀x c,X.env.cells.lookup x=aa c->c≠b)/\∀p∈X.pn++zt,p.1≠b)
(keep:∀b o,b≠X.env.locals->b∉X.fs->b∉ch->s.heap.get? b=aa o->H b=af->h'.get? b=aa o)
(slot:∀b o,b≠X.env.locals->b∈X.fs->b∉ch->s.heap.get? b=aa o->H b=af->∃Z,h'.get? b=aa {o with slots:=Z})(free:∀b o,b∉ch->s.heap.get? b=aa o->H b=af->H' b=af)
(there:∀b o,b∉ch->s.heap.get? b=aa o->∃o',h'.get? b=aa o')
(tups:∀b xs,H b=aa (.aE xs)->H' b=aa (.aE xs))(frzs:∀b o u,H b=aa (.frz o u)->H' b=aa (.frz o u))(tbls:∀b ps,H b=aa (.tbl ps)->∃W,H' b=aa (.tbl (ps++W)))
(ns:∀m,s.heap.Ns X.env.locals m->h'.Ns X.env.locals m)(E:HOk X.prog X.w H' h')(A:ZG g'):
 Inv X zt σ H' {s with heap:=h',gens:=g',drawn:=d',toks:=t'}:=by
 have V:∀b o,X.s₀.heap.get? b=aa o->b≠X.env.locals:=λb o e=>Vi (Vg (UW e) I.ok.above);have M:∀b o,X.s₀.heap.get? b=aa o->b∉X.ex->b∉ch:=λb o e B O=>by
  rcases (J b O).1 with z|z
  exact B z;exact bO (Vg (UW e) z) (VR _)
 have L:∀x c,X.env.cells.lookup x=aa c->∀v,s.heap.IsCell c v->h'.IsCell c v:=λx c e v ⟨o,U,a⟩=>by
  have D:c∉ch:=λz=>(J c z).2.2.1 x c e rfl
  by_cases j:c∈X.fs
  ·obtain⟨Z,q⟩:=slot c o (I.cne x c e) j D U (I.freeC x c e);exact⟨_,q,a⟩
  exact⟨o,keep c o (I.cne x c e) j D U (I.freeC x c e),a⟩
 refine⟨I.ok,I.os,A,⟨λb o e n O B=>?_,λb o e n O B=>?_,λb o e n B=>?_,λb o e B=>?_,λb xs e=>tups b xs (I.base.tups b xs e),λb o xs e=>frzs b o xs (I.base.frzs b o xs e),λb ps e=>?_⟩,?_,λx c e=>?_,?_,λx c e=>?_,λp h=>?_,E,I.len⟩;exact keep b o (V b o e) O (M b o e B) (I.base.keep b o e n O B) (I.base.free b o e n B)
 ·obtain⟨Z,e1⟩:=I.base.slot b o e n O B;obtain⟨Y,e2⟩:=slot b _ (V b o e) O (M b o e B) e1 (I.base.free b o e n B);exact⟨Y,e2⟩
 ·obtain⟨o',e1⟩:=I.base.there b o e B;exact free b o' (M b o e B) e1 (I.base.free b o e n B)
 ·obtain⟨o',e1⟩:=I.base.there b o e B;exact there b o' (M b o e B) e1
 ·obtain⟨t,e1⟩:=I.base.tbls b ps e;obtain⟨m2,e2⟩:=tbls b _ e1;exact⟨t++m2,by rw[e2,Array.append_assoc]⟩
 ·obtain⟨m,hn,y⟩:=I.loc;refine⟨m,ns m hn,λi x v e1 e2 C=>?_⟩;obtain⟨u,r,l⟩:=y i x v e1 e2 C;refine⟨u,r,?_⟩;rcases l with l|⟨k,c,e,z⟩
  exact .inl l;exact .inr ⟨k,c,e,L x c e _ z⟩
 ·obtain⟨v,z⟩:=I.cell x c e;exact⟨v,L x c e v z⟩
 ·obtain⟨m,⟨o,_,_,U,_⟩,_⟩:=I.loc;exact free _ o (λz=>(J _ z).2.1 rfl) U I.free
 ·obtain⟨v,o,U,a⟩:=I.cell x c e;exact free c o (λz=>(J c z).2.2.1 x c e rfl) U (I.freeC x c e)
 ·obtain⟨e,n,g,f,d⟩:=I.pin p h;have D:p.1∉ch:=λz=>(J p.1 z).2.2.2 p h rfl;exact⟨keep p.1 p.2 g f D e n,free p.1 p.2 D e n,g,f,d⟩
def Inv.un(I:Inv X zt σ H s)(u:Un X.fs [] H H' s.heap h')(V:HOk X.prog X.w H' h'):Inv X zt σ H' {s with heap:=h',toks:=t'}:=by
 obtain⟨m,⟨o,a,c,L,r⟩,_⟩:=id I.loc;obtain⟨W,U⟩:=u.any L I.free (by simp);exact I.step (g':=s.gens) (d':=s.drawn) (ch:=[]) (λ_ z=>nomatch z) (λb o _ B _ e n=>u.keep b o e n B (by simp)) (λb o _ B _ e n=>u.slot b o e n B (by simp)) (λb o _ e n=>u.free b o e n (by simp)) (λb o _ e=>u.there b o e (by simp)) u.tups u.frzs u.tbls (λZ O=>by obtain⟨Y,D,J,q,M⟩:=O;rw[L]at q;cases q;exact⟨_,D,J,U,M⟩) V I.bare
def Inv.call(I:Inv X zt σ H s)(u:Un (frs X.stack) ch H H' s.heap h')(Z:HOk X.prog X.w H' h')(W:ZG g')
(D:∀b∈ch,(b∈X.ex\/X.s₀.heap.objs.size<=b)/\b≠X.env.locals/\(∀x c,X.env.cells.lookup x=aa c->c≠b)/\∀p∈X.pn++zt,p.1≠b):
 Inv X zt σ H' {s with heap:=h',gens:=g',drawn:=d',toks:=t'}:=by
 obtain⟨m,⟨o,g,h,O,r⟩,_⟩:=id I.loc;obtain⟨a,J⟩:=u.any O I.free λz=>(D _ z).2.1 rfl;exact I.step (ch:=ch) D (λb o J Y q e n=>u.keep b o e n (λz=>(List.mem_cons.mp (I.o5 b z)).elim J Y) q) (λb o _ _ q e n=>u.any e n q) (λb o q e n=>u.free b o e n q) (λb o q e=>u.there b o e q) u.tups u.frzs u.tbls (λf V=>by obtain⟨d,L,M,B,U⟩:=V;rw[O]at B;cases B;exact⟨_,L,M,J,U⟩) Z W
def Inv.turned(I:Inv X zt σ H s)(k:∀b o,b≠it->s.heap.get? b=aa o->h'.get? b=aa o)(hn:H it=af)(J:it≠X.env.locals)
(h1:it∈X.ex\/X.s₀.heap.objs.size<=it)(h2:∀x c,X.env.cells.lookup x=aa c->c≠it)(U:∀p∈X.pn++zt,p.1≠it):Inv X zt σ H {s with heap:=h',toks:=t'}:=by
 have D:∀b u,H b=aa u->b≠it:=λb u e z=>by rw[z,hn]at e;cases e
 refine I.step (g':=s.gens) (d':=s.drawn) (ch:=[it]) (λb O=>?_) (λb o _ _ B e _=>k b o (λz=>B (by simp[z])) e) (λb o _ _ B e _=>⟨o.slots,k b o (λz=>B (by simp[z])) e⟩) (λ_ _ _ _ n=>n)
  (λb o B e=>⟨o,k b o (λz=>B (by simp[z])) e⟩) (λ_ _ e=>e) (λ_ _ _ e=>e) (λb Y e=>⟨#[],by rw[e];simp⟩) (λm M=>?_) (λb u e=>?_) I.bare
 ·have e:b=it:=by simpa using O
  subst e;exact⟨h1,J,h2,U⟩
 ·obtain⟨o,V,W,L,r⟩:=M;exact⟨o,V,W,k _ o (VN J) L,r⟩
 ·refine(I.aL b u e).stay (λc v B q=>k c v ?_ q) (λ_ q=>q) λ_ _ q=>q;rcases B with z|z
  rw[z];exact D b u e;exact D c _ z
def Inv.tok(I:Inv X zt σ H s)(t:Nat):Inv X zt σ H {s with toks:=t}:=I.un (h':=s.heap) (t':=t) Un.refl I.aL
def Inv.aJ(I:Inv X zt σ H s)(k:∀b u,s.heap.get? b=aa u->h'.get? b=aa u):Inv X zt σ H {s with heap:=h',toks:=t'}:=I.un (Un.aJ k) (I.aL.aJ k)
def Inv.laid(I:Inv X zt σ H s)(k:∀b u,s.heap.get? b=aa u->h'.get? b=aa u)(q:s.heap.objs.size<=a)(new:gk X.prog X.w (upd H a o) h' a o):
 Inv X zt σ (upd H a o) {s with heap:=h',toks:=t'}:=I.un (Un.laid k q (I.aL.fresh q)) (I.aL.laid k q new)
def Inv.write(I:Inv X zt σ H s)(mu:Mut (H x))(B:e=x\/H e=aa (.own x))(k:∀b u,b≠e->s.heap.get? b=aa u->h'.get? b=aa u)(q:∃u,h'.get? e=aa u)
(new:gk X.prog X.w (upd H x o) h' x o):Inv X zt σ (upd H x o) {s with heap:=h',toks:=t'}:=I.un (Un.write mu B k q) (I.aL.write mu B k q new)
def Inv.oB(I:Inv X zt σ H s)(h:∀p∈pins',s.heap.get? p.1=aa p.2/\H p.1=af/\p.1≠X.env.locals/\p.1∉X.fs/\∀v,p.2.data≠.cell v):Inv X pins' σ H s :=
 ⟨I.ok,I.os,I.bare,I.base,I.loc,I.cell,I.free,I.freeC,λp q=>(List.mem_append.mp q).elim (λz=>I.pin p (VG _ z)) (h p),I.aL,I.len⟩
def uP{N:List aA}(q:N.Nodup){i j:Nat}{x:aA}(a:N[i]?=aa x)(b:N[j]?=aa x):i=j:=by obtain⟨D,e1⟩:=List.getElem?_eq_some_iff.mp a;obtain⟨B,e2⟩:=List.getElem?_eq_some_iff.mp b;exact(List.getElem_inj q).mp (e1.trans e2.symm)
def rH{M:Model}{A:VU}{E:aC->UR->Prop}{i:Nat}{x:aA}{v:V}{u:aC}{Q:Unit->UR->Prop}(I:Inv X zt σ H s)(hN:X.N.Nodup)(hi:X.N[i]?=aa x)(L:Loc X.env.scope x)(r:RelV v u)
(h:∀s',Inv X zt (σ.set i (aa v)) H s'->(∃a,VT a s.heap s'.heap/\(a=X.env.locals\/X.env.cells.lookup x=aa a))->Q () s')(hf:X.fn x=ah\/X.env.scope.names.lookup x=aa .local:=by first|exact .inl rfl|exact .inr rfl|assumption):ay M A (storeName X.env x u) Q E s:=by
 obtain⟨m,hn,hl⟩:=id I.loc;have t:(X.env.scope.kind==.class||(X.env.scope.kind==.module&&X.env.locals != X.env.globals))=ai:=by rw[I.ok.kind];rfl
 have U:i<σ.length:=by rw[I.len];exact(List.getElem?_eq_some_iff.mp hi).1
 have cne:=I.cne;have D:∀{a:aB}{f:au},(∃o,s.heap.get? a=aa o/\H a=af)->VT a s.heap f->HOk X.prog X.w H f:=λ{a f} ha B b ob e=>by
  obtain⟨_,_,O⟩:=ha;refine(I.aL b ob e).stay (λc G J q=>(B.2 c ?_).trans q) (λ_ q=>q) λ_ _ q=>q
  rintro rfl
  rcases J with rfl|J
  rw[O]at e;cases e;rw[O]at J;cases J
 rcases L with hk|hk
 ·refine wpAny_storeName_local hk hn (λf hn' B=>?_) t;obtain⟨oL,_,_,hoL,_⟩:=id hn;refine h _ ⟨I.ok,I.os,I.bare,⟨λb o e n Z L=>?_,λb o e n Z L=>?_,I.base.free,λb o e L=>?_,I.base.tups,I.base.frzs,I.base.tbls⟩,⟨_,hn',λj y R e1 e2 e3=>?_⟩,λy c e=>?_,I.free,I.freeC,λp hp=>?_,D ⟨oL,hoL,I.free⟩ B,by simpa using I.len⟩ ⟨_,B,.inl rfl⟩;exact(B.2 b (Vi (Vg (UW e) I.ok.above))).trans (I.base.keep b o e n Z L)
  ·obtain⟨T,e1⟩:=I.base.slot b o e n Z L;exact⟨T,(B.2 b (Vi (Vg (UW e) I.ok.above))).trans e1⟩
  ·obtain⟨o',e1⟩:=I.base.there b o e L;exact⟨o',(B.2 b (Vi (Vg (UW e) I.ok.above))).trans e1⟩
  ·by_cases W:j=i
   ·subst W;rw[hi]at e1;cases e1;rw[VB U]at e2;cases e2;exact⟨u,r,.inl ⟨hk,by simp⟩⟩
   ·rw[Vm (VN W)]at e2;obtain⟨S,r',q⟩:=hl j y R e1 e2 e3;refine⟨S,r',?_⟩;rcases q with⟨k,e⟩|⟨k,c,e,z⟩
    ·refine .inl ⟨k,?_⟩;have:y≠x:=λe=>W (uP hN e1 (e ▸ hi));simp[this,e]
    exact .inr ⟨k,c,e,z.sameBut B (cne y c e)⟩
  ·obtain⟨G,z⟩:=I.cell y c e;exact⟨G,z.sameBut B (cne y c e)⟩
  ·obtain⟨e,n,K,nf,d⟩:=I.pin p hp;exact⟨(B.2 p.1 K).trans e,n,K,nf,d⟩
 ·have Y:X.fn x=ah:=by
   rcases hf with z|z
   exact z;rw[z]at hk;cases hk
  obtain⟨c,J⟩:=I.ok.has x (.inl hk);obtain⟨G,z⟩:=I.cell x c J;refine wpAny_storeName_cell I.ok.kind hk J z (λf F B=>?_);obtain⟨oc,l,g⟩:=id z;refine h {s with heap:=f} ⟨I.ok,I.os,I.bare,⟨λb o e n Z L=>?_,λb o e n Z L=>?_,I.base.free,λb o e L=>?_,I.base.tups,I.base.frzs,I.base.tbls⟩,⟨m,hn.sameBut B (VN (cne x c J)),λj y R e1 e2 e3=>?_⟩,λy P e=>?_,I.free,I.freeC,λp hp=>?_,D ⟨oc,l,I.freeC x c J⟩ B,by simpa using I.len⟩ ⟨c,B,.inr J⟩;exact(B.2 b (Vi (Vg (UW e) (I.ok.cab x c Y J)))).trans (I.base.keep b o e n Z L)
  ·obtain⟨T,e1⟩:=I.base.slot b o e n Z L;exact⟨T,(B.2 b (Vi (Vg (UW e) (I.ok.cab x c Y J)))).trans e1⟩
  ·obtain⟨o',e1⟩:=I.base.there b o e L;exact⟨o',(B.2 b (Vi (Vg (UW e) (I.ok.cab x c Y J)))).trans e1⟩
  ·by_cases W:j=i
   ·subst W;rw[hi]at e1;cases e1;rw[VB U]at e2;cases e2;exact⟨u,r,.inr ⟨.inl hk,c,J,F⟩⟩
   ·rw[Vm (VN W)]at e2;obtain⟨S,r',q⟩:=hl j y R e1 e2 e3;refine⟨S,r',?_⟩;rcases q with q|⟨k,P,e,z'⟩
    exact .inl q
    ·refine .inr ⟨k,P,e,z'.sameBut B ?_⟩
     rintro rfl
     exact W (uP hN e1 (I.ok.inj _ _ _ e J ▸ hi))
  ·by_cases C:P=c
   subst C;exact⟨_,F⟩
   ·obtain⟨w2,z2⟩:=I.cell y P e;exact⟨w2,z2.sameBut B C⟩
  ·obtain⟨e,n,K,nf,d⟩:=I.pin p hp;refine⟨(B.2 p.1 ?_).trans e,n,K,nf,d⟩;intro q;rw[q,l]at e;have q':oc=p.2:=U3 e;exact d G (by rw[←q'];exact g)
def o6(I:Inv X zt σ H s)(D:X.N.Nodup)(hi:X.N[i]?=aa x)(q:Loc X.env.scope x)(r:RelV v u)
(h:∀s',Inv X zt (σ.set i (aa v)) H s'->Q () s')(B:X.fn x=ah\/X.env.scope.names.lookup x=aa .local:=by first|exact .inl rfl|exact .inr rfl|assumption):ay M A (storeName X.env x u) Q E s :=
 rH I D hi q r (λs' J _=>h s' J) B
def Inv.Nq(I:Inv X zt σ H s)(D:s'.os=s.os)(u:Un (frs X.stack) ch H H' s.heap s'.heap)(L:HOk X.prog X.w H' s'.heap)(J:ZG s'.gens)
(q:∀b∈ch,(b∈X.ex\/X.s₀.heap.objs.size<=b)/\b≠X.env.locals/\(∀x c,X.env.cells.lookup x=aa c->c≠b)/\∀p∈X.pn++zt,p.1≠b):Inv X zt σ H' s':=by
 obtain⟨M,g',d',t',B⟩:=s';have e:B=s.os:=D;subst e;exact I.call (g':=g') (t':=t') (d':=d') u L J q
end
abbrev XK:=aC->Option aB->Hp->Prop
noncomputable abbrev St:=List (Option V)
abbrev VK:=V->Hp->Prop
abbrev TE:=St->Hp->VK->Prop
abbrev TT:=St->Hp->(Bool->Hp->Prop)->Prop
abbrev TA:=St->Hp->(List V->Hp->Prop)->Prop
structure Ends where
 nx:St->Hp->Prop
 rt:VK
 bk:St->Hp->Prop:=λ_ _=>False
 ct:St->Hp->Prop:=λ_ _=>False
abbrev TS:=Ends->St->Hp->Prop
inductive EP(X:Cx)(zt:List (aB×aq))(σ:St)(Q:VK)(u:aC)(s':UR):Prop
 |mk(v:V)(H':Hp)(I:Inv X zt σ H' s')(r:RelV v u)(q:Q v H'):EP X zt σ Q u s'
inductive TP(X:Cx)(zt:List (aB×aq))(σ:St)(Q:Bool->Hp->Prop)(b:Bool)(s':UR):Prop
 |mk(H':Hp)(I:Inv X zt σ H' s')(q:Q b H'):TP X zt σ Q b s'
inductive AP(X:Cx)(zt:List (aB×aq))(σ:St)(Q:List V->Hp->Prop)(us:List aC)(s':UR):Prop
 |mk(vs:List V)(H':Hp)(I:Inv X zt σ H' s')(r:dF vs us)(q:Q vs H'):AP X zt σ Q us s'
def SP(X:Cx)(zt:List (aB×aq))(D:Ends)(f:Flow)(s':UR):Prop :=
 match f with
 |.next=>∃q B,Inv X zt q B s'/\D.nx q B|.brk=>∃q B,Inv X zt q B s'/\D.bk q B|.cont=>∃q B,Inv X zt q B s'/\D.ct q B|.ret u=>∃v q B,Inv X zt q B s'/\RelV v u/\D.rt v B
def PE(X:Cx)(e:Ys)(t:TE):Prop :=
 ∀(B:List (aB×aq)) (s:UR) (q:St) (H:Hp) (Q:VK),Inv X B q H s->t q H Q->ay (Vb X.prog X.w) X.A (eval e X.env) (EP X B q Q) X.xe s
def PT(X:Cx)(e:Ys)(t:TT):Prop :=
 ∀(B:List (aB×aq)) (s:UR) (q:St) (H:Hp) (Q:Bool->Hp->Prop),Inv X B q H s->t q H Q->ay (Vb X.prog X.w) X.A (isTrue e X.env (eval e X.env)) (TP X B q Q) X.xe s
def PW(X:Cx)(e:Ys)(t:TT):Prop :=
 ∀(q:Sem aC)(D:List (aB×aq)) (s:UR) (B:St) (H:Hp) (Q:Bool->Hp->Prop),Inv X D B H s->t B H Q->ay (Vb X.prog X.w) X.A (isTrue e X.env q) (TP X D B Q) X.xe s
def PW.pt(h:PW X e t):PT X e t:=h _
def PA(X:Cx)(es:List Ys)(t:TA):Prop :=
 ∀(B:Pos)(D:List (aB×aq)) (s:UR) (q:St) (H:Hp) (Q:List V->Hp->Prop),Inv X D q H s->t q H Q->ay (Vb X.prog X.w) X.A (Zt (WU B (Vo es X.env))) (AP X D q Q) X.xe s
def PS(X:Cx)(st:Zk)(t:TS):Prop :=
 ∀(B:List (aB×aq)) (s:UR) (q:St) (H:Hp) (D:Ends),Inv X B q H s->t D q H->ay (Vb X.prog X.w) X.A (exec st X.env) (SP X B D) X.xe s
def PSs(X:Cx)(st:List Zk)(t:TS):Prop :=
 ∀(B:List (aB×aq)) (s:UR) (q:St) (H:Hp) (D:Ends),Inv X B q H s->t D q H->ay (Vb X.prog X.w) X.A (execs st X.env) (SP X B D) X.xe s
def thn{q:Type}{t:Sem q}{Q B:q->UR->Prop}(h:ay M A t Q E s)(D:∀a s,Q a s->B a s):ay M A t B E s:=Wm h D λ_ _ x=>x
end L2
namespace L2
open PySem PySem.Spec PyProof.Rows
section
variable{X:Cx}
def bin{a b:Ys}{ta tb:TE}(c:PE X a ta)(Z:PE X b tb){zt:List (aB×aq)}{s:UR}{σ:St}{H:Hp}{R:V->V->Hp->Prop}(I:Inv X zt σ H s)(h:ta σ H λx H1=>tb σ H1 λy H2=>R x y H2)
{J:Type}{Q:J->UR->Prop}{f:aC->aC->Sem J}
(Y:∀v u s2 x y H2,Inv X zt σ H2 s2->RelV x v->RelV y u->R x y H2->ay (Vb X.prog X.w) X.A (f v u) Q X.xe s2):
 ay (Vb X.prog X.w) X.A (eval a X.env) (λv B=>ay (Vb X.prog X.w) X.A (eval b X.env) (λu q=>ay (Vb X.prog X.w) X.A (f v u) Q X.xe q) X.xe B) X.xe s:=by
 refine thn (c zt s σ H _ I h) λv L D=>?_;obtain⟨x,H1,e,O,W⟩:=D;refine thn (Z zt L σ H1 _ e W) λu s2 D=>?_;obtain⟨y,H2,d,M,U⟩:=D;exact Y v u s2 x y H2 d O M U
def Q6(i:Nat):TE:=fun q H Q=>∃v,q[i]?=aa (aa v)/\Q v H
def tC(v:V):TE:=λ_ H Q=>Q v H
def Bj(V:X.N[i]?=aa x)(M:Vis X.env.scope x)(B:(x==("__debug__":aA))=ai:=by decide)(D:(x==("__classdict__":aA))=ai:=by decide):PE X (.Name x pos) (Q6 i):=by
 intro L s J H Q I h;obtain⟨v,e,h⟩:=h;obtain⟨m,hn,U⟩:=I.loc;obtain⟨u,r,l⟩:=U i x v V e M;have fin:EP X L J Q u s:=⟨v,H,I,r,h⟩;rcases l with⟨q,O⟩|⟨q,c,hc,hcell⟩
 exact wpAny_Name (wpAny_loadName_local I.ok.kind q hn O fin) B
 ·rcases q with q|q
  exact wpAny_Name (wpAny_loadName_cell I.ok.kind q hc hcell fin) B;exact wpAny_Name (wpAny_loadName_free I.ok.kind q hc hcell fin D) B
def wG{i j pos}:PE X (.Constant (.int i) j pos) (tC (.int i)):=λ_ _ _ H _ I h=>wpAny_Constant_int ⟨.int i,H,I.tok _,⟨_,rfl⟩,h⟩
def Nr{b j pos}:PE X (.Constant (.bool b) j pos) (tC (.bl b)):=λ_ _ _ H _ I h=>Constant_bool ⟨.bl b,H,I,rfl,h⟩
def Jw{j pos}:PE X (.Constant .none j pos) (tC .aF):=λ_ _ _ H _ I h=>Constant_none ⟨.aF,H,I,rfl,h⟩
def Jx{x j pos}:PE X (.Constant (.str x) j pos) (tC (.str x)):=λ_ _ _ H _ I h=>Calls.Constant_str ⟨.str x,H,I.tok _,⟨_,rfl⟩,h⟩
def Gl(X:Cx)(x:aA):Prop:=X.env.kindOf x=aa .globalImplicit
def lQ(I:Inv X zt σ H s)(B:Gl X x)(q:X.mg x=aa u)(h:Q u s)
(D:(x==("__debug__":aA))=ai:=by decide):ay (Vb X.prog X.w) X.A (eval (.Name x pos) X.env) Q E s :=
 Zr I.ok.kind B (Calls.loadGlobal_global (by rw[I.ok.glob];exact I.mod.glob.keeps I.bk) q h) D
def jg(I:Inv X zt σ H s)(D:Gl X x)(B:X.mg x=af)(q:XY x=aa u)(h:Q u s)
(hn:x≠"__name__":=by decide)(J:(x==("__debug__":aA))=ai:=by decide):ay (Vb X.prog X.w) X.A (eval (.Name x pos) X.env) Q E s:=by
 obtain⟨O,M,L⟩:=I.mod.blt;exact Zr I.ok.kind D (Calls.loadGlobal_builtin (by rw[I.ok.glob];exact I.mod.glob.keeps I.bk) B (by rw[I.ok.blt];exact M.keeps I.bk) ((L x hn).trans q) h) J
def yj(B:Gl X x)(q:X.mg x=aa u)(r:RelV v u)(D:(x==("__debug__":aA))=ai:=by decide):PE X (.Name x pos) (tC v) :=
 λ_ _ _ H _ I h=>lQ I B q ⟨v,H,I,r,h⟩ D
def oE(D:Gl X x)(B:X.mg x=af)(q:XY x=aa u)(r:RelV v u)(hn:x≠"__name__":=by decide)(J:(x==("__debug__":aA))=ai:=by decide):PE X (.Name x pos) (tC v) :=
 λ_ _ _ H _ I h=>jg I D B q ⟨v,H,I,r,h⟩ hn J
variable{a b:Ys}{ta tb:TE}{pos:Pos}
def tB(t:TE):TT:=fun q H Q=>t q H λx B=>∃c,x=.bl c/\Q c B
def Jy(h:PE X e t)(L:∀B,isTrue e X.env B=(do let v ←B;Z3 e.pos;Yi [v] (truthy v)):=by intro _;rfl):PT X e (tB t):=by intro J s D H Q I hw;refine isTrue_plain (thn (h J s D H _ I hw) λv s1 ⟨x,H1,I1,r1,q1⟩=>?_) (L _);obtain⟨d,rfl,q⟩:=q1;cases r1;exact V3 ⟨H1,I1,q⟩
variable{tA tB':TT}{rest:List Ys}
def Nt(t u:TT):TT:=fun q H Q=>t q H λc B=>if c=ah then u q B Q else Q ai B
def tOr(t u:TT):TT:=fun q H Q=>t q H λc B=>if c=ah then Q ah B else u q B Q
def Nu(t:TT):TT:=fun q H Q=>t q H λc B=>Q (!c) B
def Fg(D:PT X a tA):PW X (.BoolOp .And [a] pos) tA:=by
 intro J B s q H Q I h;refine isTrue_and (thn (D B s q H Q I h) λc L e=>?_);cases c with
 |true=>exact isTrue_and_nil e|false=>exact e
def Jz(D:PT X a tA):PW X (.BoolOp .Or [a] pos) tA:=by
 intro J B s q H Q I h;refine isTrue_or (thn (D B s q H Q I h) λc L e=>?_);cases c with
 |false=>exact isTrue_or_nil e|true=>exact e
def Bk(W:PT X a tA)(V:PW X (.BoolOp .And (b::rest) pos) tB'):PW X (.BoolOp .And (a::b::rest) pos) (Nt tA tB'):=by
 intro O B s q H Q I h;refine isTrue_and (thn (W B s q H _ I h) λc U M=>?_);obtain⟨L,J,D⟩:=M;cases c with
 |true=>exact V O B U q L Q J D|false=>exact⟨L,J,D⟩
def IG(W:PT X a tA)(V:PW X (.BoolOp .Or (b::rest) pos) tB'):PW X (.BoolOp .Or (a::b::rest) pos) (tOr tA tB'):=by
 intro O B s q H Q I h;refine isTrue_or (thn (W B s q H _ I h) λc U M=>?_);obtain⟨L,J,D⟩:=M;cases c with
 |true=>exact⟨L,J,D⟩|false=>exact V O B U q L Q J D
def JA(L:PT X a tA):PT X (.UnaryOp .Not a pos) (Nu tA):=by intro J s D H Q I h;exact isTrue_not (thn (L J s D H (λc B=>Q (!c) B) I h) λc O z=>by obtain⟨B,M,q⟩:=z;exact⟨B,M,q⟩)
def II(ta tb:TE):TE:=fun q H Q=>ta q H λx B=>∃c,x=.bl c/\if c=ah then tb q B Q else Q (.bl ai) B
def Nv(ta tb:TE):TE:=fun q H Q=>ta q H λx B=>∃c,x=.bl c/\if c=ah then Q (.bl ah) B else tb q B Q
def IJ(ta:TE):TE:=fun q H Q=>ta q H λx B=>∃c,x=.bl c/\Q (.bl (!c)) B
def Bl{op}(h:PE X a t):PE X (.BoolOp op [a] pos) t:=λB s q H Q I hw=>BoolOp_one (h B s q H Q I hw)
def Bm(W:PE X a ta)(V:PE X (.BoolOp .And (b::rest) pos) tb):PE X (.BoolOp .And (a::b::rest) pos) (II ta tb):=by
 intro D s B H Q I h;refine BoolOp_and (thn (W D s B H _ I h) λv O M=>?_);obtain⟨x,L,J,U,q⟩:=M;obtain⟨c,rfl,q⟩:=q;cases U;refine V3 ?_;cases c with
 |true=>exact V D O B L Q J q|false=>exact⟨.bl ai,L,J,rfl,q⟩
def IK(W:PE X a ta)(V:PE X (.BoolOp .Or (b::rest) pos) tb):PE X (.BoolOp .Or (a::b::rest) pos) (Nv ta tb):=by
 intro D s B H Q I h;refine BoolOp_or (thn (W D s B H _ I h) λv O M=>?_);obtain⟨x,L,J,U,q⟩:=M;obtain⟨c,rfl,q⟩:=q;cases U;refine V3 ?_;cases c with
 |false=>exact V D O B L Q J q|true=>exact⟨.bl ah,L,J,rfl,q⟩
def JB(M:PE X a ta):PE X (.UnaryOp .Not a pos) (IJ ta):=by intro D s B H Q I h;refine UnaryOp_ (thn (M D s B H _ I h) λv V J=>?_);obtain⟨x,U,O,L,q⟩:=J;obtain⟨c,rfl,q⟩:=q;cases L;exact not_of (V3 ⟨.bl (!c),U,O,rfl,q⟩)
def tIf(t:TT)(ta tb:TE):TE:=fun q H Q=>t q H λc B=>if c=ah then ta q B Q else tb q B Q
def Bo(U:PT X c tA)(W:PE X a ta)(V:PE X b tb):PE X (.IfExp c a b pos) (tIf tA ta tb):=by
 intro B s q H Q I h;refine wpAny_IfExp (thn (U B s q H _ I h) λd D O=>?_);obtain⟨M,L,J⟩:=O;cases d with
 |true=>exact W B D q M Q L J|false=>exact V B D q M Q L J
end
end L2
namespace L2
open PySem PySem.Spec PyProof.Rows
def SqL(K:UM)(H:Hp)(a:aB)(xs:List V):Prop :=
 Rd H a (.aD xs) ∨
  ∃(o:aq) (q:Array aC) (n:Nat),K.lookup a=aa o/\o.cls=.type "list"/\o.dict=af/\o.data=.seq q n/\q.size<=aj/\dF xs q.toList
def SqT(K:UM)(H:Hp)(a:aB)(xs:List V):Prop :=
 Rd H a (.aE xs) ∨
  ∃(o:aq) (q:Array aC) (n:Nat),K.lookup a=aa o/\o.cls=.type "tuple"/\o.data=.seq q n/\q.size<=aj/\dF xs q.toList
noncomputable def Q7:aC->Option V
 |.none=>aa .aF|.bool b=>aa (.bl b)|.int i _=>aa (.int i)|.str x _=>aa (.str x)|.bytes b _=>aa (.byt b)|.float b _=>aa (.flt b)|.ref a=>aa (.ref a)|.type n=>aa (.ty n)|_=>af
def RelV.abs(r:RelV x u):Q7 u=aa x:=by
 cases x with
 |aF=>cases r;rfl|bl _=>cases r;rfl|ref _=>cases r;rfl|ty _=>cases r;rfl|_=>obtain⟨t,rfl⟩:=r;rfl
def RelV.inj(r:RelV x u)(q:RelV y u):x=y:=U3 (r.abs.symm.trans q.abs)
theorem dF.inj:∀{xs ys:List V}{us:List aC},dF xs us->dF ys us->xs=ys
 |_,_,_,.nil,.nil=>rfl
 |_,_,_,.cons r t,.cons r' t'=>by rw[r.inj r',dF.inj t t']
section
variable{X:Cx}{zt:List (aB×aq)}{σ:St}{H:Hp}{s:UR}{a:aB}{xs ys:List V}
def Inv.list(I:Inv X zt σ H s)(h:SqL X.K H a xs):∃q:List aC,dF xs q/\PlainL s.heap a q.toArray/\xs.length<=aj:=by
 rcases h with h|⟨o,q,n,hk,hc,hd,hs,hz,r⟩
 ·obtain⟨z,q,n,r,e⟩:=h.ok I.aL;exact⟨q,r,⟨_,n,e,rfl,rfl,rfl⟩,z⟩
 ·refine⟨q.toList,r,⟨o,n,I.kIn a o hk,hc,hd,by simpa using hs⟩,?_⟩;have e:=r.length;simp only[Ve]at e;lia
def Inv.tuple(I:Inv X zt σ H s)(h:SqT X.K H a xs):∃q:List aC,dF xs q/\IsTup s.heap a q.toArray/\xs.length<=aj:=by
 rcases h with h|⟨o,q,n,hk,hc,hs,hz,r⟩
 ·obtain⟨z,q,r,p⟩:=h.ok I.aL;exact⟨q,r,p,z⟩
 ·refine⟨q.toList,r,⟨o,I.kIn a o hk,hc,n,by simpa using hs⟩,?_⟩;have e:=r.length;simp only[Ve]at e;lia
def Inv.uQ(I:Inv X zt σ H s)(h:SqL X.K H a xs)(h':SqL X.K H a ys):xs=ys:=by
 obtain⟨B,r,⟨o,n,e,_,_,d⟩,_⟩:=I.list h;obtain⟨q,L,⟨M,O,D,_,_,J⟩,_⟩:=I.list h';rw[e]at D;cases D;rw[d]at J
 injection J with d1 _
 have:B=q:=by simpa using bU aae d1
 subst this;exact r.inj L
def Inv.zV(I:Inv X zt σ H s)(h:SqT X.K H a xs)(h':SqT X.K H a ys):xs=ys:=by
 obtain⟨B,r,⟨o,e,_,n,d⟩,_⟩:=I.tuple h;obtain⟨q,L,⟨M,D,_,O,J⟩,_⟩:=I.tuple h';rw[e]at D;cases D;rw[d]at J
 injection J with d1 _
 have:B=q:=by simpa using bU aae d1
 subst this;exact r.inj L
end
noncomputable abbrev Cx.qS(X:Cx)(E:aC->UR->Prop):Cx:={X with xe:=E}
noncomputable abbrev Cx.nox(X:Cx):Cx:=X.qS λ_ _=>False
def Cx.Ok.qS{X:Cx}(ok:X.Ok)(E:aC->UR->Prop):(X.qS E).Ok :=
 ⟨ok.mod,ok.kind,ok.glob,ok.blt,ok.above,ok.inj,ok.has,ok.cab,ok.hd,ok.frames,ok.stk,ok.exf,ok.bs,ok.bsz,ok.noex,ok.exfs,ok.kY,ok.frf⟩
def Cx.Ok.jY{X:Cx}{E:aC->UR->Prop}(ok:(X.qS E).Ok):X.Ok :=
 ⟨ok.mod,ok.kind,ok.glob,ok.blt,ok.above,ok.inj,ok.has,ok.cab,ok.hd,ok.frames,ok.stk,ok.exf,ok.bs,ok.bsz,ok.noex,ok.exfs,ok.kY,ok.frf⟩
section
variable{X:Cx}{zt:List (aB×aq)}{σ:St}{H:Hp}{s:UR}{E:aC->UR->Prop}
def Inv.qS(I:Inv X zt σ H s)(E:aC->UR->Prop):Inv (X.qS E) zt σ H s:=⟨I.ok.qS E,I.os,I.bare,I.base,I.loc,I.cell,I.free,I.freeC,I.pin,I.aL,I.len⟩
def Inv.jY(I:Inv (X.qS E) zt σ H s):Inv X zt σ H s:=⟨I.ok.jY,I.os,I.bare,I.base,I.loc,I.cell,I.free,I.freeC,I.pin,I.aL,I.len⟩
def SP.jY(h:SP (X.qS E) zt D f s'):SP X zt D f s':=by
 cases f with
 |ret u=>obtain⟨v,B,J,I,r,q⟩:=h;exact⟨v,B,J,I.jY,r,q⟩|_=>obtain⟨B,J,I,q⟩:=h;exact⟨B,J,I.jY,q⟩
def PSs.nox{st:List Zk}{t:TS}(h:PSs X.nox st t):PSs X st t:=λJ s B H D I hw =>
 Wm (h J s B H D (I.qS _) hw) (λ_ _ q=>q.jY) λ_ _ z=>VE z
end
section
variable{X:Cx}{st:Zk}{rest:List Zk}{t u:TS}{e:Ys}{te:TE}{pos:Pos}
def Nx:TS:=λD q H=>D.nx q H
def Ny(t u:TS):TS:=λD q H=>t {D with nx:=u D} q H
def Fi:PSs X [] Nx:=λ_ _ q H _ I h=>YD ⟨q,H,I,h⟩
def uR(h1:PS X st t)(h2:PSs X rest u):PSs X (st::rest) (Ny t u):=by
 intro J s L H D I h;refine wpAny_execs_cons (thn (h1 J s L H {D with nx:=u D} I h) λf M q=>?_);cases f with
 |next =>
  obtain⟨B,U,O,q⟩:=q;exact h2 J M B U D O q
 |_=>exact q
def sR(h1:PS X st t):PSs X [st] t:=by
 intro J s B H D I h;refine wpAny_execs_cons (thn (h1 J s B H D I h) λf L q=>?_);cases f with
 |next=>exact YD q|_=>exact q
def Q8:TS:=λD q H=>D.bk q H
def Ug:TS:=λD q H=>D.ct q H
def Inv.quiet(I:Inv X zt σ H s):interactive X.env=ai:=by simp[interactive,I.ok.kind]
def Nz(te:TE):TS:=λD q H=>te q H λ_ B=>D.nx q B
def Fj(L:PE X e te)(J:XG e af pos.line X.env=pure ai:=by rfl):PS X (.Expr e pos) (Nz te):=by intro B s q H D I h;exact wpAny_Expr_any (thn (L B s q H _ I h) λv s1 ⟨x,H1,I1,r1,q1⟩=>⟨q,H1,I1,q1⟩) I.quiet J
def Q9(te:TE):TS:=λD q H=>te q H D.rt
def wH(J:PE X e te):PS X (.Return (aa e) pos) (Q9 te):=by intro B s q H D I h;exact wpAny_Return_some (thn (J B s q H _ I h) λv s1 ⟨x,H1,I1,r1,q1⟩=>⟨x,q,H1,I1,r1,q1⟩)
def Rc(c:TT)(t u:TS):TS:=λD q H=>c q H λb B=>if b=ah then t D q B else u D q B
def NB(V:PT X c tc)(Y:PSs X a t)(W:PSs X b u):PS X (.If c a b pos) (Rc tc t u):=by
 intro B s q H D I h;refine wpAny_If (thn (V B s q H _ I h) λd J U=>?_);obtain⟨O,M,L⟩:=U;cases d with
 |true=>exact Y B J q O D M L|false=>exact W B J q O D M L
end
abbrev TG:=V->St->Hp->(St->Hp->Prop)->Prop
abbrev TGs:=List V->St->Hp->(St->Hp->Prop)->Prop
def PG(X:Cx)(target:Ys)(t:TG):Prop :=
 ∀(D:List (aB×aq)) (s:UR) (B:St) (H:Hp) (v:V) (u:aC) (Q:St->Hp->Prop),Inv X D B H s->RelV v u->t v B H Q →
  ay (Vb X.prog X.w) X.A (ZH target X.env u) (λ_ L=>∃q J,Inv X D q J L/\Q q J) X.xe s
def PGs(X:Cx)(ts:List Ys)(t:TGs):Prop :=
 ∀(D:List (aB×aq)) (s:UR) (B:St) (H:Hp) (J:List V) (L:List aC) (Q:St->Hp->Prop),Inv X D B H s->dF J L->t J B H Q →
  ay (Vb X.prog X.w) X.A (assignInOrder ((WV ts X.env).map (·.2)) L) (λ_ O=>∃q M,Inv X D q M O/\Q q M) X.xe s
abbrev NC:=V->V->V->Hp->(Hp->Prop)->Prop
def JC(X:Cx)(t:NC):Prop :=
 ∀(B:List (aB×aq)) (s:UR) (q:St) (H:Hp) (o i v:V) (D J u:aC) (Q:Hp->Prop),Inv X B q H s->RelV o D->RelV i J->RelV v u->t o i v H Q →
  ay (Vb X.prog X.w) X.A (setItem D J u) (λ_ M=>∃L,Inv X B q L M/\Q L) X.xe s
abbrev TIp:=V->V->Hp->VK->Prop
def PIp(X:Cx)(D:Yn)(t:TIp):Prop :=
 ∀(B:List (aB×aq)) (s:UR) (q:St) (H:Hp) (x y:V) (v u:aC) (Q:VK),Inv X B q H s->RelV x v->RelV y u->t x y H Q →
  ay (Vb X.prog X.w) X.A (inplaceOp D v u) (EP X B q Q) X.xe s
section
variable{X:Cx}{pos:Pos}
def yk(i:Nat):TG:=λv q H Q=>Q (q.set i (aa v)) H
def yl(D:X.N.Nodup)(hi:X.N[i]?=aa x)(q:Loc X.env.scope x)(B:X.fn x=ah\/X.env.scope.names.lookup x=aa .local:=by first|exact .inl rfl|exact .inr rfl|assumption):PG X (.Name x pos) (yk i):=by intro M s L H v u Q I r h;exact wpAny_assign_Name (o6 I D hi q r (λO J=>⟨_,H,J,h⟩) B)
def ND:TGs:=λB q H Q=>B=[]/\Q q H
def NF(t:TG)(u:TGs):TGs:=λD B H Q=>∃v r,D=v::r/\t v B H fun q J=>u r q J Q
def Fk:PGs X [] ND:=by intro B s q H D J Q I r h;obtain⟨e,h⟩:=h;subst e;cases r;exact assignInOrder_nil ⟨q,H,I,h⟩
def Bp(h1:PG X e t)(h2:PGs X es u)
(U:(WV (e::es) X.env).map (·.2)=ZH e X.env::(WV es X.env).map (·.2):=by rfl):PGs X (e::es) (NF t u):=by
 intro B s D H Y a Q I r h;obtain⟨v,Z,e1,h⟩:=h;subst e1;cases r with
 |cons r M =>
  rw[U];refine assignInOrder_cons (thn (h1 B s D H _ _ _ I r h) λ_ L J=>?_);obtain⟨q,W,V,O⟩:=J;exact h2 B L q W _ _ Q V M O
def Re(K:UM)(n:Nat)(t:TGs):TG:=λv B H Q=>∃a q,v=.ref a/\SqT K H a q/\q.length=n/\t q B H Q
def JD(Y:X.calm=ah)(h:PGs X es t)
(hn:(WV es X.env).length=n:=by rfl)(q:(WV es X.env).findIdx? (·.1)=af:=by rfl):PG X (.Tuple es k pos) (Re X.K n t):=by
 intro D s B H v u Q I r hw;obtain⟨a,L,e1,V,W,hw⟩:=hw;subst e1;cases r;obtain⟨M,J,U,d⟩:=I.tuple V;refine assign_Tuple_tuple (I.ok.hd Y) U (by simp[hn,←W,J.length]) q λZ O=>?_;have c:Inv X D B H {s with heap:=Z}:=I.aJ (t':=s.toks) λb o e=>O b o (Vi (UW e)) e;exact h D _ B H L _ Q c (by simpa using J) hw
def JE(to B:TE)(t:NC):TG:=λv q H Q=>to q H λo L=>B q L λi J=>t o i v J λD=>Q q D
def Bq(b:PE X o to)(hi:PE X i ti)(a:JC X t)
(c:∀ v,ZH (.Subscript o i pos) X.env v=(do
  let q ←Yi [v] (eval o X.env)
  let D ←Yi [v,q] (eval i X.env)
  Z3 pos
  Yi [v,q,D] (setItem q D v)
  release [v,q,D] []):=by intro _;rfl):PG X (.Subscript o i pos) (JE to ti t):=by
 intro L s J H v u Q I r h;rw[c];refine UN (VO (thn (b L s J H _ I h) λq O B=>?_));obtain⟨x,k,f,V,Z⟩:=B;refine UN (VO (thn (hi L O J k _ f Z) λD M B=>?_));obtain⟨y,j,e,U,Y⟩:=B;refine UN (Yh (UN (VO (thn (a L M J j x y v q D u _ e V U r Y) λ_ l B=>?_))));obtain⟨g,d,W⟩:=B;exact wpAny_release ⟨J,g,d,W⟩
def zW(te:TE)(g:TG):TS:=λD q H=>te q H λx B=>g x q B D.nx
def wI(O:PE X e te)(M:PG X tg g)(L:swapsWithSole [tg] e pos.line X.env=pure ai:=by rfl)(hw:swappedStores [tg] e X.env=pure af:=by rfl)
(h1:(WV [tg] X.env).map (·.2)=[ZH tg X.env]:=by rfl):PS X (.Assign [tg] e pos) (zW te g):=by
 intro J s B H D I h;refine wpAny_Assign_stores (thn (O J s B H _ I h) λv s1 ⟨x,H1,I1,r1,q1⟩=>?_) L hw;rw[h1];exact thn (M J s1 B H1 x v _ I1 r1 q1) λ_ U q=>q
def wJ(U:X.N.Nodup)(hi:X.N[i]?=aa x)(J:Loc X.env.scope x)(O:PE X e te)(L:XG e (aa (.Name x pos')) pos.line X.env=pure ai:=by rfl)(M:X.fn x=ah\/X.env.scope.names.lookup x=aa .local:=by first|exact .inl rfl|exact .inr rfl|assumption):
 PS X (.Assign [.Name x pos'] e pos) (zW te (yk i)):=by
 intro B s q H D I h;refine wpAny_Assign_Name (thn (O B s q H _ I h) λv s1 ⟨y,H1,I1,r1,q1⟩=>?_) L;exact o6 I1 U hi J r1 (λW V=>⟨_,H1,V,q1⟩) M
def NG(i:Nat)(te:TE)(B:TIp):TS:=λD q H=>∃x,q[i]?=aa (aa x)/\te q H λy L=>B x y L λz J=>D.nx (q.set i (aa z)) J
def JF(p:X.N.Nodup)(hi:X.N[i]?=aa x)(U:Loc X.env.scope x)(o:PE X e te)(f:PIp X op ti)(n:X.fn x=ah\/X.env.scope.names.lookup x=aa .local:=by first|exact .inl rfl|exact .inr rfl|assumption):
 PS X (.AugAssign (.Name x pos') op e pos) (NG i te ti):=by
 intro L s V H D I h;obtain⟨v,e1,h⟩:=h;obtain⟨m,hn,j⟩:=I.loc;have O:Vis X.env.scope x:=by rcases U with k|k;exact .inl k;exact .inr (.inl k)
 obtain⟨u,r,l⟩:=j i x v hi e1 O;refine wpAny_AugAssign_Name ?_;have W:ay (Vb X.prog X.w) X.A (eval e X.env) (λw J=>ay (Vb X.prog X.w) X.A (inplaceOp op u w) (λr B=>ay (Vb X.prog X.w) X.A (storeName X.env x r) (λ_=>SP X L D .next) X.xe B) X.xe J) X.xe s:=by refine thn (o L s V H _ I h) λw Y M=>?_;obtain⟨y,G,E,a,d⟩:=M;refine thn (f L Y V G v y u w _ E r a d) λz Q M=>?_;obtain⟨K,F,C,Z,b⟩:=M;exact o6 C p hi U Z (λP t=>⟨_,F,t,b⟩) n
 rcases l with⟨q,g⟩|⟨q,c,hc,hcell⟩
 exact wpAny_loadName_local I.ok.kind q hn g W
 ·rcases q with q|q
  exact wpAny_loadName_cell I.ok.kind q hc hcell W
  ·rcases U with k|k
   ·have:X.env.scope.names.lookup x=aa .free:=q;rw[k]at this;cases this
   ·have:X.env.scope.names.lookup x=aa .free:=q;rw[k]at this;cases this
end
section
variable{X:Cx}{pos:Pos}
def Br(c:TT)(tb:TS):TS:=λD q H=>∃W:Nat->St->Hp->Prop,(∃m,W m q H)/\∀m q H,W m q H →
 c q H λb L=>if b=ah then ∃N:St->Hp->Prop,(∀B M,N B M->∃J,J<m/\W J B M)/\tb {D with nx:=N,ct:=N,bk:=D.nx} q L else D.nx q L
def Bs(d:aab (Vb X.prog X.w) X.A X.env X.xe)(t:PT X c tc)(u:PSs X body tb):PS X (.While c body [] pos) (Br tc tb):=by
 intro M s k H D I h;obtain⟨W,⟨r,m⟩,turn⟩:=h;refine wpAny_While (codeAny_whileLoop (λn p=>∃B j,Inv X M B j p/\W n B j) ?_ r ⟨k,H,I,m⟩)
 rintro n s1 ⟨σ1,H1,I1,w1⟩
 refine WS d (thn (t M s1 σ1 H1 _ I1 (turn n σ1 H1 w1)) λb o l=>?_);obtain⟨i,g,L⟩:=l;cases b with
 |true =>
  obtain⟨N,e,L⟩:=L;rw[bM rfl];refine WS d (thn (u M o σ1 i _ g L) λf v U=>?_);cases f with
  |next =>
   obtain⟨q,J,a,V⟩:=U;obtain⟨Y,Z,O⟩:=e q J V;exact⟨Y,Z,q,J,a,O⟩
  |cont =>
   obtain⟨q,J,a,V⟩:=U;obtain⟨Y,Z,O⟩:=e q J V;exact⟨Y,Z,q,J,a,O⟩
  |_=>exact U
 |false =>
  rw[bN Vz];exact YD ⟨σ1,i,g,L⟩
end
structure It where
 go:Nat->Hp->Prop
 yld:Nat->Hp->V->Hp->Prop
 stop:Nat->Hp->Prop
def sU(X:Cx)(zt:List (aB×aq))(H:Hp)(b:aB):Prop :=
 H b=af/\b≠X.env.locals/\b∉X.fs/\(b∈X.ex\/X.s₀.heap.objs.size<=b)/\(∀x c,X.env.cells.lookup x=aa c->c≠b)/\∀p∈X.pn++zt,p.1≠b
def Inv.Bt(I:Inv X zt σ H s)(B:s.heap.objs.size<=b)(hn:H' b=af):sU X zt H' b:=by
 refine⟨hn,WM (Vg I.lt B),I.Q5 B,.inr (Vp I.sz B),λx c e z=>?_,λp D z=>?_⟩
 ·obtain⟨v,q⟩:=I.cell x c e;exact bO (Vg q.lt (by rw[z];exact B)) (VR _)
 exact bO (Vg (UW (I.pin p D).1) (by rw[z];exact B)) (VR _)
structure Turn(P:U4)(w:Vl)(K:UM)(tg:Ys)(J:It)(fp:List aB)(it:aB)(tn:Nat->au->Prop):Prop where
 mem:it∈fp
 obj:∀i h,tn i h->∀b∈fp,∃o,h.get? b=aa o/\∀v,o.data≠.cell v
 keep:∀i h h',tn i h->(∀b∈fp,∀o,h.get? b=aa o->h'.get? b=aa o)->tn i h'
 item:∀(X:Cx),X.prog=P->X.w=w->X.K=K->X.calm=ah->∀(i:Nat)(zt:List (aB×aq)) (s:UR) (σ:St) (H:Hp) (E:aC->UR->Prop),Inv X zt σ H s->(∀b∈fp,sU X zt H b)->tn i s.heap->J.go i H →
  ay (Vb P w) X.A (Y8 (.ref it)) (λr s1=>∃ u,r=aa u ∧
   ay (Vb P w) X.A (YE tg (.ref it) u) (λ_ s2=>∃ x H',Inv X zt σ H' s2/\RelV x u/\J.yld i H x H'/\tn (i+1) s2.heap/\∀ b∈fp,H' b=af) E s1) E s
 done:∀(X:Cx),X.prog=P->X.w=w->X.K=K->X.calm=ah->∀(i:Nat)(zt:List (aB×aq)) (s:UR) (σ:St) (H:Hp) (E:aC->UR->Prop),Inv X zt σ H s->(∀b∈fp,sU X zt H b)->tn i s.heap->J.stop i H →
  ay (Vb P w) X.A (Y8 (.ref it)) (λr s1=>r=af/\Inv X zt σ H s1) E s
 self:∀(A:VU)(i:Nat)(s:UR)(Q:aC->UR->Prop) (E:aC->UR->Prop),tn i s.heap->Q (.ref it) s->ay (Vb P w) A (pyIter (.ref it)) Q E s
abbrev TI:=St->Hp->(It->Hp->Prop)->Prop
def PIE(X:Cx)(zt:List (aB×aq))(σ:St)(tg:Ys)(R:It->Hp->Prop)(q:aC)(s2:UR):Prop :=
 ∃(L:aB) (M:List aB) (D:Nat->au->Prop) (J:It) (B:Hp),q=.ref L/\Inv X zt σ B s2/\Turn X.prog X.w X.K tg J M L D/\D 0 s2.heap/\(∀b∈M,sU X zt B b)/\R J B
def PI(X:Cx)(tg iter:Ys)(D:TI):Prop :=
 ∀(B:List (aB×aq)) (s:UR) (q:St) (H:Hp) (R:It->Hp->Prop),Inv X B q H s->D q H R →
  ay (Vb X.prog X.w) X.A (eval iter X.env) (λv J=>ay (Vb X.prog X.w) X.A (pyIter v) (PIE X B q tg R) X.xe J) X.xe s
def uS(B:s.heap.get? it=aa o)(J:o.cls=.type n)(D:o.data=.fields vs)
(hn:["enumerate","zip","dict_itemiterator","dict_reverseitemiterator","odict_iterator","itertools.zip_longest","itertools.pairwise"].contains n=ai)(q:Q () s):ay M A (YE tg (.ref it) u) Q E s:=by
 unfold YE;cases tg<;>first
  |exact av q
  | (cases u<;>first
   |exact av q
   | (refine UN (wpAny_load B ?_)
      rw[J,D];show ay M A (if (["enumerate","zip","dict_itemiterator","dict_reverseitemiterator","odict_iterator","itertools.zip_longest","itertools.pairwise"].contains n&&vs[0]?==aa (WD _))=ah then _ else _) Q E s;rw[bN (by intro h;rw[hn,Bool.false_and] at h;cases h)];exact av q))
noncomputable def Itl(K:UM)(a:aB):It :=
 ⟨λi H=>∃q x,SqL K H a q/\q[i]?=aa x,λi H x B=>B=H/\∀q,SqL K H a q->q[i]?=aa x,λi H=>∃q,SqL K H a q/\q.length<=i⟩
noncomputable def Itt(K:UM)(a:aB):It :=
 ⟨λi H=>∃q x,SqT K H a q/\q[i]?=aa x,λi H x B=>B=H/\∀q,SqT K H a q->q[i]?=aa x,λi H=>∃q,SqT K H a q/\q.length<=i⟩
noncomputable def Itr(lo:Int)(n:Nat):It:=⟨λi _=>i<n,λi H x q=>q=H/\x=.int (lo+i),λi _=>n<=i⟩
theorem zX{P:U4}{w:Vl}{K:UM}{tg:Ys}(a q:aB):Turn P w K tg (Itl K a) [q] q (λi h=>h.IsListIter q a i) where
 mem:=by simp
 obj:=λi h st b B=>by
  have e:b=q:=by simpa using B
  subst e;obtain⟨o,e,c,d⟩:=st;exact⟨o,e,λv z=>by rw[d]at z;cases z⟩
 keep:=λi h M st k=>st.at λo e=>k q (by simp) o e
 item:=by intro X Y hw Z t i r s n H E I L st W;subst Y hw Z;obtain⟨y,x,J,V⟩:=W;obtain⟨U,O,p,F⟩:=I.list J;obtain⟨u,N,C⟩:=O.get V;obtain⟨m,l,Q,j,g,f⟩:=L q (by simp);refine wpAny_pyNext_list_item st p.isList (x:=u) (by simpa using N) λM D A=>?_;have S:Inv X r n H {s with heap:=M}:=I.turned (t':=s.toks) (λb o B e=>(A.2 b B).trans e) m l j g f;obtain⟨o,e,c,d⟩:=id D;exact⟨u,rfl,uS (s:={s with heap:=M}) e c d (by decide) ⟨x,H,S,C,⟨rfl,λT G=>by rw[I.uQ G J];exact V⟩,D,λb B=>(L b B).1⟩⟩
 done:=by intro X Y hw Z t i r s n H E I L st W;subst Y hw Z;obtain⟨y,J,V⟩:=W;obtain⟨U,O,p,F⟩:=I.list J;obtain⟨m,l,Q,j,g,f⟩:=L q (by simp);have hl:=O.length;exact wpAny_pyNext_list_end (I.ok.hd t) st p.isList (by simp;lia) λM R=>⟨rfl,I.turned (t':=s.toks) (λb o B e=>R b o B e) m l j g f⟩
 self:=λ_ _ _ _ _ st h=>wpAny_pyIter_listiter st h
theorem wK{P:U4}{w:Vl}{K:UM}{tg:Ys}(a B:aB):Turn P w K tg (Itt K a) [B] B (λi h=>h.IsTupleIter B a i) where
 mem:=by simp
 obj:=λi h st b D=>by
  have e:b=B:=by simpa using D
  subst e;obtain⟨o,e,c,d⟩:=st;exact⟨o,e,λv z=>by rw[d]at z;cases z⟩
 keep:=λi h O st k=>st.at λo e=>k B (by simp) o e
 item:=by intro X Y hw Z t i r s n H E I M st W;subst Y hw Z;obtain⟨y,x,L,V⟩:=W;obtain⟨q,U,p,F⟩:=I.tuple L;obtain⟨u,N,C⟩:=U.get V;obtain⟨m,l,Q,j,g,f⟩:=M B (by simp);refine wpAny_pyNext_tuple_item st (show s.heap.IsTuple a q.toArray from p) (x:=u) (by simpa using N) λO J A=>?_;have S:Inv X r n H {s with heap:=O}:=I.turned (t':=s.toks) (λb o D e=>(A.2 b D).trans e) m l j g f;obtain⟨o,e,c,d⟩:=id J;exact⟨u,rfl,uS (s:={s with heap:=O}) e c d (by decide) ⟨x,H,S,C,⟨rfl,λT G=>by rw[I.zV G L];exact V⟩,J,λb D=>(M b D).1⟩⟩
 done:=by intro X Y hw Z t i r s n H E I M st W;subst Y hw Z;obtain⟨y,L,V⟩:=W;obtain⟨q,U,p,F⟩:=I.tuple L;obtain⟨m,l,Q,j,g,f⟩:=M B (by simp);have hl:=U.length;exact wpAny_pyNext_tuple_end (I.ok.hd t) st (show s.heap.IsTuple a q.toArray from p) (by simp;lia) λO R=>⟨rfl,I.turned (t':=s.toks) (λb o D e=>R b o D e) m l j g f⟩
 self:=λ_ _ _ _ _ st h=>wpAny_pyIter_tupleiter st h
theorem wL{P:U4}{w:Vl}{K:UM}{tg:Ys}(q:aB)(lo:Int)(n:Nat):Turn P w K tg (Itr lo n) [q] q (λi h=>aad h q (lo+(i:Nat)*1) ((n:Int)-(i:Nat)) 1) where
 mem:=by simp
 obj:=λi h st b B=>by
  have e:b=q:=by simpa using B
  subst e;exact⟨_,st,λv z=>by have l:Data.fields _=Data.cell v:=z;cases l⟩
 keep:=λi h L st k=>k q (by simp) _ st
 item:=by intro X U hw V O i g s f H E I J st M;subst U hw V;obtain⟨d,c,r,a,Z,Y⟩:=J q (by simp);have W:=Walks.range (prog:=X.prog) (w:=X.w) (I.ok.hd O) q lo 1 n;refine W.item i s _ _ M st λv L j p D m=>?_;obtain⟨t,rfl⟩:=p;have x:Inv X g f H {s with heap:=L,toks:=j}:=I.turned (λb o B e=>m b o (by simpa using B) e) d c a Z Y;refine⟨_,rfl,uS (s:={s with heap:=L,toks:=j}) (n:="range_iterator") D rfl rfl (by decide) ⟨.int (lo+i),H,x,⟨t,?_⟩,⟨rfl,rfl⟩,D,λb B=>(J b B).1⟩⟩;rw[Int.mul_one]
 done:=by intro X U hw V O i g s f H E I J st M;subst U hw V;obtain⟨d,c,r,a,Z,Y⟩:=J q (by simp);exact wpAny_pyNext_range_end (I.ok.hd O) st (by have:n<=i:=M;lia) λL u=>⟨rfl,I.turned (t':=s.toks) (λb o B e=>u b o B e) d c a Z Y⟩
 self:=λ_ _ _ _ _ st h=>wpAny_pyIter_rangeiter st h
end L2
namespace L2
open PySem PySem.Spec PyProof.Rows
section
variable{X:Cx}{tg:Ys}
def NH(K:UM)(tl:TE):TI:=fun B H R=>tl B H λx q=>∃a,x=.ref a/\(∃D,SqL K q a D)/\R (Itl K a) q
def Rf(K:UM)(tl:TE):TI:=fun B H R=>tl B H λx q=>∃a,x=.ref a/\(∃D,SqT K q a D)/\R (Itt K a) q
def ym{l:Ys}{tl:TE}(Y:PE X l tl):PI X tg l (NH X.K tl):=by
 intro L s J H R I h;refine thn (Y L s J H _ I h) λv B M=>?_;obtain⟨x,c,D,O,U⟩:=M;obtain⟨a,e,⟨d,W⟩,q⟩:=U;subst e;cases O;obtain⟨V,f,p,g⟩:=D.list W;refine wpAny_pyIter_list p.isList ?_;refine⟨B.heap.objs.size,[B.heap.objs.size],_,_,c,rfl,D.aJ (t':=B.toks) λb o e=>UO _ e,zX a _,⟨_,UX _ rfl,rfl,rfl⟩,λb Z=>?_,q⟩;have e:b=B.heap.objs.size:=by simpa using Z
 subst e;exact D.Bt (UT _) (D.aL.fresh (UT _))
def JG{l:Ys}{tl:TE}(Y:PE X l tl):PI X tg l (Rf X.K tl):=by
 intro M s L H R I h;refine thn (Y M s L H _ I h) λv B O=>?_;obtain⟨x,c,D,U,V⟩:=O;obtain⟨a,e,⟨d,W⟩,q⟩:=V;subst e;cases U;obtain⟨J,f,p,g⟩:=D.tuple W;refine wpAny_pyIter_tuple (show B.heap.IsTuple a J.toArray from p) ?_;refine⟨B.heap.objs.size,[B.heap.objs.size],_,_,c,rfl,D.aJ (t':=B.toks) λb o e=>UO _ e,wK a _,⟨_,UX _ rfl,rfl,rfl⟩,λb Z=>?_,q⟩;have e:b=B.heap.objs.size:=by simpa using Z
 subst e;exact D.Bt (UT _) (D.aL.fresh (UT _))
def uT{lo hi:Int}{tk:Nat}(I:Inv X zt σ H s)(h1:-(2^62)<=lo)(h2:lo<2^62)(L:-(2^62)<=hi)(J:hi<2^62)
(q:R (Itr lo (hi-lo).toNat) H):ay (Vb X.prog X.w) X.A (pyIter (.ref s.heap.objs.size)) (PIE X zt σ tg R) E {s with heap:=s.heap.push {cls:=.type "range",data:=.fields #[.int lo t,.int hi u,.int 1 v]},toks:=tk}:=by
 refine wpAny_pyIter_range (IsRange.new ..) (small_one h1 h2 L J) ?_;have B:Inv X zt σ H { s with heap:=s.heap.push { cls:=.type "range",data:=.fields #[.int lo t,.int hi u,.int 1 v] },toks:=tk }:=I.aJ λb o e=>UO _ e;refine ⟨(s.heap.push { cls:=.type "range",data:=.fields #[.int lo t,.int hi u,.int 1 v] }).objs.size,[(s.heap.push { cls:=.type "range",data:=.fields #[.int lo t,.int hi u,.int 1 v] }).objs.size],_,_,H,rfl,
  B.aJ (t':=tk) λb o e=>UO _ e,wL _ lo (hi - lo).toNat,?_,λb D=>?_,q⟩
 ·have e1:lo+((0:Nat):Int)*1=lo:=by simp
  have e2:(((hi-lo).toNat:Nat):Int)-((0:Nat):Int)=YQ lo hi 1:=by rw[rangeSize_one];split<;>lia
  show aad _ _ (lo+((0:Nat):Int)*1) ((((hi-lo).toNat:Nat):Int)-((0:Nat):Int)) 1;rw[e1,e2];exact UX _ rfl
 ·have e:b=(s.heap.push {cls:=.type "range",data:=.fields #[.int lo t,.int hi u,.int 1 v]}).objs.size:=by simpa using D
  subst e;exact B.Bt (UT _) (B.aL.fresh (UT _))
def NI(ta:TA):TI:=fun q H R=>ta q H λB D=>∃j:Int,B=[.int j]/\-(2^62)<=j/\j<2^62/\R (Itr 0 j.toNat) D
def NJ(ta:TA):TI:=fun q H R=>ta q H λB D=>∃i j:Int,B=[.int i,.int j]/\(-(2^62)<=i/\i<2^62/\-(2^62)<=j/\j<2^62)/\R (Itr i (j-i).toNat) D
def zY(V:Gl X "range")(U:X.mg "range"=af)(W:PA X [a] ta)(O:Vo [a] X.env=[(ai,eval a X.env)]:=by rfl):PI X tg (.Call (.Name "range" p) [a] [] pos) (NI ta):=by
 intro J s D H R I h;refine Call_ (jg I V U boot_range (VS (thn (W pos J s D H _ I h) λus s1 ⟨vs,H1,I1,r1,B⟩=>?_) O rfl));obtain⟨j,e,B,M,q⟩:=B;subst e;cases r1 with
 |cons r L =>
  cases L;obtain⟨t,rfl⟩:=r;exact call_range_1 (uT I1 (by lia) (by lia) B M (by simpa using q))
def zZ(c:Gl X "range")(Z:X.mg "range"=af)(d:PA X [a,b] ta)(Y:Vo [a,b] X.env=[(ai,eval a X.env),(ai,eval b X.env)]:=by rfl)(B:Vo [b] X.env=[(ai,eval b X.env)]:=by rfl):
 PI X tg (.Call (.Name "range" p) [a,b] [] pos) (NJ ta):=by
 intro M s L H R I h;refine Call_ (jg I c Z boot_range (VS (thn (d pos M s L H _ I h) λus s1 ⟨vs,H1,I1,r1,J⟩=>?_) (by rw[Y,B]) (by rw[B];rfl)));obtain⟨i,j,e,⟨J,W,V,U⟩,q⟩:=J;subst e;cases r1 with
 |cons r D =>
  cases D with
  |cons O D =>
   cases D;obtain⟨t,rfl⟩:=r;obtain⟨f,rfl⟩:=O;exact call_range_2 (uT I1 J W V U q)
def NK(U:TI)(g:TG)(tb:TS):TS:=λD q H=>U q H λJ Y=>∃W:Nat->Nat->St->Hp->Prop,(∃m,W 0 m q Y)/\∀i m q H,W i m q H →
 (J.stop i H/\D.nx q H)\/(J.go i H/\∃N:St->Hp->Prop,(∀B L,N B L->∃O,O<m/\W (i+1) O B L)/\∀x L,J.yld i H x L->g x q L fun M V=>tb {D with nx:=N,ct:=N,bk:=D.nx} M V)
noncomputable def mW(fp:List aB)(h:au):List (aB×aq):=fp.filterMap λb=>(h.get? b).map λo=>(b,o)
def jt(q:b∈fp)(e:h.get? b=aa o):(b,o)∈mW fp h:=List.mem_filterMap.mpr ⟨b,q,by rw[e];rfl⟩
def z4(B:p∈mW fp h):p.1∈fp/\h.get? p.1=aa p.2:=by
 obtain⟨b,D,e⟩:=List.mem_filterMap.mp B;cases q:h.get? b with
 |none=>rw[q]at e;cases e
 |some o =>
  rw[q]at e;have J:(b,o)=p:=U3 e;subst J;exact⟨D,q⟩
def Inv.pinned(I:Inv X zt σ H s)(L:∀b∈fp,sU X zt H b)(J:∀b∈fp,∃o,s.heap.get? b=aa o/\∀v,o.data≠.cell v):Inv X (zt++mW fp s.heap) σ H s :=
 I.oB λp D=>(List.mem_append.mp D).elim (λz=>I.pin p (Vf _ z)) λz=>by obtain⟨q,e⟩:=z4 z;obtain⟨U,O,M,_⟩:=L p.1 q;obtain⟨o,B,d⟩:=J p.1 q;rw[e]at B;cases B;exact⟨e,U,O,M,d⟩
def Inv.lR(I:Inv X (zt++pl) σ H s):Inv X zt σ H s:=I.oB λp q=>I.pin p (Vf _ (VG _ q))
def JH(j:aab (Vb X.prog X.w) X.A X.env X.xe)(Q:X.calm=ah)(hi:PI X tg iter wi)(hg:PG X tg g)(M:PSs X body tb)
(hs:∀x,foldedSetIterable iter X.env x=pure x:=by intro _;rfl):PS X (.For tg iter body [] pos) (NK wi g tb):=by
 intro Y s F H D I h;refine wpAny_For (thn (hi Y s F H _ I h) λv s1 h1=>thn h1 λitv s2 h2=>?_) hs;obtain⟨it,k,G,J,H2,e,I2,T,p,R,W,⟨m0,w0⟩,turn⟩:=h2;subst e;have L:∀{U:Hp},(∀b∈k,U b=af)->∀b∈k,sU X Y U b:=λhn b M=>⟨hn b M,(R b M).2⟩;refine codeAny_forLoop_any (λn P=>∃i B U,Inv X Y B U P/\G i P.heap/\(∀b∈k,U b=af)/\W i n B U) ?_ m0 ⟨0,F,H2,I2,p,λb M=>(R b M).1,w0⟩
 rintro n s3 ⟨i,σ3,H3,I3,st3,fr3,w3⟩
 rcases turn i n σ3 H3 w3 with⟨stop,qn⟩|⟨go,N,hN,step⟩
 ·refine WS j (thn (T.done X rfl rfl rfl Q i Y s3 σ3 H3 X.xe I3 (L fr3) st3 stop) λr s4 Z=>?_);obtain⟨z,I4⟩:=Z;subst z;exact YD ⟨σ3,H3,I4,qn⟩
 ·refine WS j (thn (T.item X rfl rfl rfl Q i Y s3 σ3 H3 X.xe I3 (L fr3) st3 go) λr s4 Z=>?_);obtain⟨u,z,h4⟩:=Z;subst z;refine WS j (thn h4 λ_ K Z=>?_);obtain⟨x,S,I5,r5,y5,a,C⟩:=Z;have E:=I5.pinned (L C) (T.obj _ _ a);refine WS j (thn (hg _ K σ3 S x u _ E r5 (step x S y5)) λ_ s6 Z=>?_);obtain⟨l,H6,I6,q6⟩:=Z;refine WS j (thn (M _ s6 l H6 _ I6 q6) λf t c=>?_);have again:∀{q:St}{O:Hp},Inv X (Y++mW k K.heap) q O t->N q O->∃m,m<n/\∃i B U,Inv X Y B U t/\G i t.heap/\(∀b∈k,U b=af)/\W i m B U:=λ{q O} V y=>by obtain⟨m',hm,w7⟩:=hN q O y;refine⟨m',hm,i+1,q,O,V.lR,T.keep _ _ _ a λb M o e=>(V.pin (b,o) (Vf _ (Vf _ (jt M e)))).1,λb M=>?_,w7⟩;obtain⟨o,e,d⟩:=T.obj _ _ a b M;exact(V.pin (b,o) (Vf _ (Vf _ (jt M e)))).2.1
  cases f with
  |brk=>obtain⟨q,O,V,c⟩:=c;exact⟨q,O,V.lR,c⟩|ret v=>obtain⟨x7,q,O,V,r7,c⟩:=c;exact⟨x7,q,O,V.lR,r7,c⟩|_=>obtain⟨q,O,V,y⟩:=c;exact again V y
end
end L2
namespace L2
open PySem PySem.Spec PyProof.Rows
abbrev R2:=V->V->Hp->VK->Prop
def OpR(X:Cx)(f:aC->aC->Sem aC)(r:R2):Prop :=
 ∀(B:List (aB×aq)) (s:UR) (q:St) (H:Hp) (x y:V) (v u:aC) (Q:VK),Inv X B q H s->RelV x v->RelV y u->r x y H Q →
  ay (Vb X.prog X.w) X.A (f v u) (EP X B q Q) X.xe s
def UnR(X:Cx)(f:aC->Sem aC)(r:V->Hp->VK->Prop):Prop :=
 ∀(B:List (aB×aq)) (s:UR) (q:St) (H:Hp) (x:V) (v:aC) (Q:VK),Inv X B q H s->RelV x v->r x H Q →
  ay (Vb X.prog X.w) X.A (f v) (EP X B q Q) X.xe s
def fF(X:Cx)(f:aC)(r:List V->Hp->VK->Prop):Prop :=
 ∀(B:List (aB×aq)) (s:UR) (q:St) (H:Hp) (D:List V) (J:List aC) (Q:VK),Inv X B q H s->dF D J->r D H Q →
  ay (Vb X.prog X.w) X.A (call f J) (EP X B q Q) X.xe s
def tOp(r:R2)(ta tb:TE):TE:=fun q H Q=>ta q H λx D=>tb q D λy B=>r x y B Q
def tUn(r:V->Hp->VK->Prop)(ta:TE):TE:=fun q H Q=>ta q H λx B=>r x B Q
def rI(C:Int->Int->Prop)(g:Int->Int->V):R2:=λx y H Q=>∃i j,x=.int i/\y=.int j/\C i j/\Q (g i j) H
def rI0(g:Int->Int->V):R2:=λx y H Q=>∃i j,x=.int i/\y=.int j/\Q (g i j) H
def rU(g:Int->V):V->Hp->VK->Prop:=λx H Q=>∃i,x=.int i/\Q (g i) H
section
variable{X:Cx}{a b c:Ys}{ta tb tc:TE}{pos:Pos}
def JI(Z:PE X a ta)(Y:PE X b tb){zt:List (aB×aq)}{s:UR}{σ:St}{H:Hp}{R:V->V->Hp->Prop}(I:Inv X zt σ H s)
(h:ta σ H λx H1=>tb σ H1 λy H2=>R x y H2){Q:aC->UR->Prop}{f:aC->aC->Sem aC}
(W:∀v u s2 x y H2,Inv X zt σ H2 s2->RelV x v->RelV y u->R x y H2->ay (Vb X.prog X.w) X.A (f v u) Q X.xe s2):
 ay (Vb X.prog X.w) X.A (eval a X.env) (λv B=>ay (Vb X.prog X.w) X.A (eval b X.env) (λu q=>ay (Vb X.prog X.w) X.A (f v u) Q X.xe q) X.xe B) X.xe s:=by
 refine thn (Z zt s σ H _ I h) λv J D=>?_;obtain⟨x,H1,d,M,U⟩:=D;refine thn (Y zt J σ H1 _ d U) λu s2 D=>?_;obtain⟨y,H2,c,L,O⟩:=D;exact W v u s2 x y H2 c M L O
def NL{B:Yn}{r:R2}(U:OpR X (Wo B) r)(W:PE X a ta)(V:PE X b tb):PE X (.BinOp a B b pos) (tOp r ta tb):=by intro J s D H Q I h;exact wpAny_BinOp (JI W V I h λv u L x y Z Y O M q=>U J L D Z x y v u Q Y O M q)
def IL(D:UnR X (unaryOp op) r)(J:PE X a ta):PE X (.UnaryOp op a pos) (tUn r ta):=by intro B s q H Q I h;exact UnaryOp_ (thn (J B s q H _ I h) λv s1 ⟨x,H1,I1,r1,q1⟩=>D B s1 q H1 x v Q I1 r1 q1)
def opI{f:aC->aC->Sem aC}{C:Int->Int->Prop}{g:Int->Int->Int}
(rule:∀(i j:Int)(t u:Tok)(s:UR)(Q:aC->UR->Prop) (E:aC->UR->Prop),C i j->Q (.int (g i j) s.toks) {s with toks:=s.toks+1}->ay (Vb X.prog X.w) X.A (f (.int i t) (.int j u)) Q E s):
 OpR X f (rI C λi j=>.int (g i j)):=by
 intro O s M H x y v u Q I J D h;obtain⟨i,j,rfl,rfl,L,q⟩:=h;obtain⟨t,rfl⟩:=J;obtain⟨B,rfl⟩:=D;exact rule i j t B s _ _ L ⟨.int (g i j),H,I.tok _,⟨_,rfl⟩,q⟩
def NN{f:aC->aC->Sem aC}{g:Int->Int->Int}
(rule:∀(i j:Int)(t u:Tok)(s:UR)(Q:aC->UR->Prop) (E:aC->UR->Prop),Q (.int (g i j) s.toks) {s with toks:=s.toks+1}->ay (Vb X.prog X.w) X.A (f (.int i t) (.int j u)) Q E s):
 OpR X f (rI0 λi j=>.int (g i j)):=by
 intro M s L H x y v u Q I J D h;obtain⟨i,j,rfl,rfl,q⟩:=h;obtain⟨t,rfl⟩:=J;obtain⟨B,rfl⟩:=D;exact rule i j t B s _ _ ⟨.int (g i j),H,I.tok _,⟨_,rfl⟩,q⟩
def Fo{f:aC->aC->Sem aC}{g:Int->Int->Bool}
(rule:∀(i j:Int)(t u:Tok)(s:UR)(Q:aC->UR->Prop) (E:aC->UR->Prop),Q (.bool (g i j)) s->ay (Vb X.prog X.w) X.A (f (.int i t) (.int j u)) Q E s):
 OpR X f (rI0 λi j=>.bl (g i j)):=by
 intro M s L H x y v u Q I J D h;obtain⟨i,j,rfl,rfl,q⟩:=h;obtain⟨t,rfl⟩:=J;obtain⟨B,rfl⟩:=D;exact rule i j t B s _ _ ⟨.bl (g i j),H,I,rfl,q⟩
def Rg(i j:Int):Prop:=0<j/\j<1073741824
def Fp(i j:Int):Prop:=(-(2^64)<i/\i<2^64)\/(-(2^64)<j/\j<2^64)
def Fp.ok(h:Fp i j):IntMulOk i j:=by
 rcases h with⟨B,q⟩|⟨B,q⟩
 exact .of_left (intBits_le_64 B q);exact .of_right (intBits_le_64 B q)
def JJ:OpR X (Wo .Add) (rI0 λi j=>.int (i+j)):=NN λ_ _ _ _ _ _ _ q=>add_int q
def JK:OpR X (Wo .Sub) (rI0 λi j=>.int (i-j)):=NN λ_ _ _ _ _ _ _ q=>sub_int q
def JL:OpR X (Wo .Mult) (rI Fp λi j=>.int (i*j)):=opI λ_ _ _ _ _ _ _ B q=>mul_int q B.ok
def Fq:OpR X (Wo .FloorDiv) (rI Rg λi j=>.int (i/j)):=opI λi j _ _ _ _ _ B q=>by have J:(0:Int)<j:=B.1;have D:j<1073741824:=B.2;exact floordiv_int (by lia) (by rw[Int.fdiv_eq_ediv_of_nonneg i (by lia)];exact q) (.inl (ZJ (by lia)))
def JM:OpR X (Wo .Mod) (rI (λ_ j=>0<j) λi j=>.int (i%j)):=opI λi j _ _ _ _ _ B q=>by have D:(0:Int)<j:=B;exact mod_int' (by lia) (by rw[Int.fmod_eq_emod_of_nonneg i (by lia)];exact q)
def unI{f:aC->Sem aC}{g:Int->Int}
(rule:∀(i:Int)(t:Tok)(s:UR)(Q:aC->UR->Prop) (E:aC->UR->Prop),Q (.int (g i) s.toks) {s with toks:=s.toks+1}->ay (Vb X.prog X.w) X.A (f (.int i t)) Q E s):
 UnR X f (rU λi=>.int (g i)):=by
 intro J s D H x v Q I B h;obtain⟨i,rfl,q⟩:=h;obtain⟨t,rfl⟩:=B;exact rule i t s _ _ ⟨.int (g i),H,I.tok _,⟨_,rfl⟩,q⟩
def Bu:UnR X (unaryOp .USub) (rU λi=>.int (-i)):=unI λ_ _ _ _ _ q=>neg_int q
end
section
variable{X:Cx}{a b c:Ys}{ta tb tc:TE}{pos:Pos}
def Bv(I:Inv X zt σ H s)(q:Q (.bl k) H)(e:k=k'):EP X zt σ Q (.bool k') s:=by subst e;exact⟨.bl k,H,I,rfl,q⟩
def NO:OpR X (VM .Lt) (rI0 λi j=>.bl (decide (i<j))):=Fo λ_ _ _ _ _ _ _ q=>lt_int q
def NP:OpR X (VM .LtE) (rI0 λi j=>.bl (decide (i<=j))):=Fo λ_ _ _ _ _ _ _ q=>le_int q
def NQ:OpR X (VM .Gt) (rI0 λi j=>.bl (decide (j<i))):=Fo λ_ _ _ _ _ _ _ q=>gt_int q
def NR:OpR X (VM .GtE) (rI0 λi j=>.bl (decide (j<=i))):=Fo λ_ _ _ _ _ _ _ q=>ge_int q
def JN:OpR X (VM .Is) (λx y H Q=>y=.aF/\Q (.bl (decide (x=.aF))) H):=by
 intro L s J H x y v u Q I B D h;obtain⟨rfl,q⟩:=h;cases D;refine is_none_gen (Bv I q ?_);cases x<;>first
  |(cases B;rfl)
  |(obtain⟨t,rfl⟩:=B;rfl)
def Ft:OpR X (VM .IsNot) (λx y H Q=>y=.aF/\Q (.bl (!decide (x=.aF))) H):=by
 intro L s J H x y v u Q I B D h;obtain⟨rfl,q⟩:=h;cases D;refine isnot_none_gen (Bv I q ?_);cases x<;>first
  |(cases B;rfl)
  |(obtain⟨t,rfl⟩:=B;rfl)
def yo(O:OpR X (VM op) r)(W:PE X a ta)(V:PE X b tb)(U:Y9 op b=ai):PE X (.Compare a [op] [b] pos) (tOp r ta tb):=by intro D s B H Q I h;exact wpAny_Compare1 (JI W V I h λv u J x y Z Y M L q=>O D J B Z x y v u Q Y M L q) U
def Bw(t:TE):TT:=fun q H Q=>t q H λx B=>∃k,x=.bl k/\Q k B
def yp(D:OpR X (VM op) r)(M:PE X a ta)(L:PE X b tb)(J:Y9 op b=ai):PT X (.Compare a [op] [b] pos) (Bw (tOp r ta tb)):=by
 intro B s q H Q I h;refine wpAny_isTrue_Compare1 (thn (M B s q H _ I h) λv s1 ⟨x,H1,I1,r1,q1⟩=>thn (L B s1 q H1 _ I1 q1) λu s2 ⟨y,H2,I2,r2,q2⟩ =>
  thn (D B s2 q H2 x y v u _ I2 r1 r2 q2) λc s3 ⟨z,H3,I3,r3,k,e,q3⟩=>?_) J
 subst e;cases r3;exact V3 ⟨H3,I3,q3⟩
def wM(r J:R2)(ta tb tc:TE):TE:=fun q H Q=>ta q H λx O=>tb q O λy M=>r x y M λz B=>∃k,z=.bl k ∧
 (if k=ah then tc q B λD L=>J y D L Q else Q (.bl ai) B)
def Bx(J:OpR X (VM op) r)(D:OpR X (VM op') r')(U:PE X a ta)(O:PE X b tb)(M:PE X c tc)
(L:lastMarks [op,op'] [b,c]=ai:=by with_unfolding_all rfl):PE X (.Compare a [op,op'] [b,c] pos) (wM r r' ta tb tc):=by
 intro B s q H Q I h;refine Compare_chain (thn (U B s q H _ I h) λv s1 ⟨x,H1,I1,r1,q1⟩=>chain_link (thn (O B s1 q H1 _ I1 q1) λu s2 ⟨y,H2,I2,r2,q2⟩ =>
  thn (J B s2 q H2 x y v u _ I2 r1 r2 q2) λd s3 ⟨z,H3,I3,r3,k,e,q3⟩=>?_)) L
 subst e;cases r3;refine V3 ?_;cases k with
 |false=>exact ite_ff ⟨.bl ai,H3,I3,rfl,q3⟩|true=>exact ite_tt (chain_last (thn (M B s3 q H3 _ I3 q3) λw' s4 ⟨z',H4,I4,r4,q4⟩=>D B s4 q H4 y z' u w' Q I4 r2 r4 q4))
def By(U:OpR X (VM op) r)(D:OpR X (VM op') r')(Z:PE X a ta)(Y:PE X b tb)(W:PE X c tc)
(V:lastMarks [op,op'] [b,c]=ai:=by with_unfolding_all rfl):PT X (.Compare a [op,op'] [b,c] pos) (Bw (wM r r' ta tb tc)):=by
 intro B s q H Q I h;refine isTrue_chain (thn (Z B s q H _ I h) λv s1 ⟨x,H1,I1,r1,q1⟩=>test_link (thn (Y B s1 q H1 _ I1 q1) λu s2 ⟨y,H2,I2,r2,q2⟩ =>
  thn (U B s2 q H2 x y v u _ I2 r1 r2 q2) λd s3 ⟨z,H3,I3,r3,k,e,q3⟩=>?_)) V
 subst e;cases r3;refine V3 ?_;cases k with
 |false =>
  obtain⟨m,f,O⟩:=q3;cases f;exact ite_ff ⟨H3,I3,O⟩
 |true =>
  refine ite_tt (test_last (thn (W B s3 q H3 _ I3 q3) λw' s4 ⟨z',H4,I4,r4,q4⟩=>thn (D B s4 q H4 y z' u w' _ I4 r2 r4 q4) λn l J=>?_));obtain⟨j,i,g,L,k2,e2,M⟩:=J;subst e2;cases L;exact V3 ⟨i,g,M⟩
def mX:(aj:Nat)<2^63:=by rw[WT];decide
def wN:OpR X (Wo .Add) (λx y H Q=>∃i j,x=.str i/\y=.str j/\i.length+j.length<=aj/\Q (.str (i++j)) H):=by intro O s M H x y v u Q I J D h;obtain⟨i,j,rfl,rfl,L,q⟩:=h;obtain⟨t,rfl⟩:=J;obtain⟨B,rfl⟩:=D;exact add_str (λB U=>⟨.str (i++j),H,I.tok _,⟨_,rfl⟩,q⟩) L
def vals1(r:dF [x] us):∃u,us=[u]/\RelV x u:=by
 cases r with
 |cons B q=>cases q;exact⟨_,rfl,B⟩
def vals2(r:dF [x,y] us):∃u q,us=[u,q]/\RelV x u/\RelV y q:=by
 cases r with
 |cons L J =>
  cases J with
  |cons D B=>cases B;exact⟨_,_,rfl,L,D⟩
def z5(D:X.calm=ah):fF X (.builtin "max") (λxs H Q=>∃i j,xs=[.int i,.int j]/\Q (.int (if j>i then j else i)) H):=by
 intro L s J H xs O Q I r h;obtain⟨i,j,rfl,q⟩:=h;obtain⟨u,M,rfl,⟨t,rfl⟩,⟨V,rfl⟩⟩:=vals2 r;refine max_two_ints (I.ok.hd D) λW U k=>⟨_,H,I.aJ k,?_,q⟩
 by_cases B:j>i
 rw[bM B,bM B];exact⟨_,rfl⟩;rw[bN B,bN B];exact⟨_,rfl⟩
def z6(D:X.calm=ah):fF X (.builtin "min") (λxs H Q=>∃i j,xs=[.int i,.int j]/\Q (.int (if j<i then j else i)) H):=by
 intro L s J H xs O Q I r h;obtain⟨i,j,rfl,q⟩:=h;obtain⟨u,M,rfl,⟨t,rfl⟩,⟨V,rfl⟩⟩:=vals2 r;refine min_two_ints (I.ok.hd D) λW U k=>⟨_,H,I.aJ k,?_,q⟩
 by_cases B:j<i
 rw[bM B,bM B];exact⟨_,rfl⟩;rw[bN B,bN B];exact⟨_,rfl⟩
def rJ:fF X (.type "int") (λxs H Q=>(∃i,xs=[.int i]/\Q (.int i) H)\/∃k,xs=[.bl k]/\Q (.int (if k then 1 else 0)) H):=by
 intro J s D H xs L Q I r h;rcases h with⟨i,rfl,q⟩|⟨k,rfl,q⟩
 ·obtain⟨u,rfl,t,rfl⟩:=vals1 r;exact call_int_int ⟨.int i,H,I,⟨_,rfl⟩,q⟩
 ·obtain⟨u,rfl,B⟩:=vals1 r;cases B;exact call_int_bool ⟨.int (if k then 1 else 0),H,I.tok _,⟨_,rfl⟩,q⟩
end
end L2
namespace L2
open PySem PySem.Spec PyProof.Rows
structure wO(h:au)(x dx C:aB)(mA:aA->Option aC):Prop where
 obj:h.get? x=aa (Wl C dx)
 ns:h.Ns1 dx mA
 ne:dx≠x
def z7{h:au}{dx:aB}{mA:aA->Option aC}(n:h.Ns1 dx mA):∃D,h.get? dx=aa D/\∀name,Yc name D=aa (mA name):=by
 obtain⟨o,J,Y,M,V,U,_,O⟩:=n;refine⟨o,M,λname=>?_⟩;have e:=O name;unfold nsFind findBy at e;rw[←Array.find?_toList]at e;unfold Yc;rw[V];dsimp only;split
 ·rename_i y q;rw[q]at e;exact bU aa e
 ·rename_i q;rw[q]at e;have a:J.toList.any (·.refKey)=ai:=by rw[List.any_eq_false];intro y L;obtain⟨z,t,B⟩:=U y (Array.mem_toList_iff.mp L);simp[DictEntry.refKey,B]
  have W:¬J.toList.any (·.refKey)=ah:=by rw[a];exact Vz
  rw[bN W];exact bU aa e
def wO.look(I:wO h x dx C mA):∃q,PySem.W.InstAt h x (Wl C dx) C (aa q)/\∀name,Yc name q=aa (mA name) :=
 let ⟨q,ho,hl⟩:=z7 I.ns
 ⟨q,⟨I.obj,rfl,rfl,ho⟩,hl⟩
section
variable{prog:U4}{w:Vl}{A:VU}{E:aC->UR->Prop}{s:UR}{K:UM}{x dx C f:aB}{mA:aA->Option aC}{name:aA}{v:aC}
def get_map(X:K.In s.heap)(I:wO s.heap x dx C mA)(M:Xi K C name=ah)(L:WG K C=ah)
(O:Vq K (.ref C) name=aa af)(B:mA name=aa v)(q:aaA v=ah)(h:Q v {s with toks:=s.toks+1}):
 ay (Vb prog w) A (getAttr (.ref x) name expr) Q E s:=by
 obtain⟨U,J,D⟩:=I.look;exact PySem.W.get_value X J (Yk M).1 (PySem.W.findObj_own L O rfl (by rw[D,B])) q h
def BA(X:K.In s.heap)(I:wO s.heap x dx C mA)(q:Xi K C name=ah)
(O:Vq K (.ref C) name=aa (aa (.ref f)))(L:YK K (.ref f)=ah)(D:mA name=af)(h:Q (.ref f,[.ref x]) s):
 ay (Vb prog w) A (Z5 (.ref x) name pl) Q E s:=by
 obtain⟨B,J,M⟩:=I.look;exact PySem.W.method_fn X J (Yk q).1 (Yk q).2 O (beq_iff_eq.mp L) (by show(Yc name B).map (·.isSome)=aa ai;rw[M,D];rfl) h
def Fv(X:K.In s.heap)(I:wO s.heap x dx C mA)
(V:Vq K (.ref C) "__setattr__"=aa (aa (.builtin "object.__setattr__")))(Y:YH K C=ah)(U:YZ K C name=aa af)(Z:WG K C=ah)
(hw:Z9 mA ns)(hsz:ns.length<=aj)
(h:∀h',wO h' x dx C (λy=>if y=name then aa v else mA y)->VT dx s.heap h'->Q () {s with heap:=h',toks:=s.toks+2}):
 ay (Vb prog w) A (setAttr (.ref x) name v) Q E s:=by
 obtain⟨f,J,i⟩:=I.look;refine PySem.W.set_plain X J V (PySem.W.osa_open (s:={s with toks:=s.toks+1}) (r:=af) X J Y U λb=>?_);obtain⟨j,c,L⟩:=PySem.W.any_some Z;have O:s.heap.get? x=aa ⟨.ref C,aa dx,.plain,#[]⟩:=I.obj;refine UN (av (UN (UN (wpAny_loadPart O (UN (PySem.W.Looks.here (s:={s with toks:=s.toks+1}) (PySem.W.looks_clsIn X c) ?_))))));rw[L];refine av (a:=aa dx) (UN (av (UN ?_)));refine wpAny_nsSet1 (s:={s with toks:=s.toks+1}) I.ns λh' B q=>?_;obtain⟨g,d,e,D,hdD,M⟩:=B.count (PySem.Within.cons name v hw);refine UN (wpAny_lookBehind D (by rw[hdD];exact pastItsLine_dict (Vp M (by rw[Va];lia))) ?_);exact av (h _ ⟨(q.2 _ (VN I.ne)).trans I.obj,B,I.ne⟩ q)
def BB(X:K.In s.heap)(B:Y0 K C=ah)
(hi:Vq K (.ref C) "__init__"=aa (aa (.ref f)))(D:PySem.W.typeIn K (.ref f)=aa (.type "function"))
(h:ak (Vb prog w) (A.under (.builtin "type.__call__" ⟨.ref C::vs,kw⟩)) (.call (.ref f) ⟨.ref (s.heap.objs.size+1)::vs,kw⟩) (PySem.W.InitBack (s.heap.objs.size+1) R)
  { s with heap:=(s.heap.push VV).push (Wl C s.heap.objs.size) }):
 ak (Vb prog w) A (.call (.ref C) ⟨vs,kw⟩) R s:=by
 obtain⟨J,g,d,t,os⟩:=s;exact PySem.W.make_core (PySem.W.makes_of X B) (PySem.W.looks_findIn X hi) (λq=>PySem.W.bind_fn X q D) (.inl rfl) h
end
noncomputable def eV(f:aA)(v:V):List (aA×V)->List (aA×V)
 |[]=>[(f,v)]
 |(g,x)::r=>if g=f then(g,v)::r else(g,x)::eV f v r
theorem nJ(f g:aA)(v:V):∀fs:List (aA×V),(eV f v fs).lookup g=if g=f then aa v else fs.lookup g
 |[]=>by
  show WY g [(f,v)]=_
  by_cases h:g=f
  ·have q:(g==f)=ah:=beq_iff_eq.mpr h;simp only[WY,q,bM h]
  ·have q:(g==f)=ai:=beq_eq_false_iff_ne.mpr h;simp only[WY,q,bN h]
 |(k,x)::r=>by
  have D:=nJ f g v r;rw[show eV f v ((k,x)::r)=(if k=f then(k,v)::r else(k,x)::eV f v r) from rfl]
  by_cases B:k=f
  ·rw[bM B]
   by_cases h:g=k
   ·have q:(g==k)=ah:=beq_iff_eq.mpr h;simp only[WY,q,bM (h.trans B)]
   ·have q:(g==k)=ai:=beq_eq_false_iff_ne.mpr h;simp only[WY,q,bN (λe:g=f=>h (e.trans B.symm))]
  ·rw[bN B]
   by_cases h:g=k
   ·have q:(g==k)=ah:=beq_iff_eq.mpr h;simp only[WY,q,bN (λe:g=f=>B (h.symm.trans e))]
   ·have q:(g==k)=ai:=beq_eq_false_iff_ne.mpr h;simp only[WY,q];exact D
theorem mY(f:aA)(v:V):∀fs:List (aA×V),f∈(eV f v fs).map (·.1)/\∀g,g∈fs.map (·.1)->g∈(eV f v fs).map (·.1)
 |[]=>⟨by simp[eV],λg h=>by simp at h⟩
 |(k,x)::r=>by
  obtain⟨D,B⟩:=mY f v r;rw[show eV f v ((k,x)::r)=(if k=f then(k,v)::r else(k,x)::eV f v r) from rfl]
  by_cases q:k=f
  ·rw[bM q];subst q;exact⟨by simp,λg h=>by simpa using h⟩
  ·rw[bN q];refine⟨?_,λg h=>?_⟩
   ·rw[U8];exact UV _ D
   ·rw[U8]at h⊢;rcases List.mem_cons.mp h with e|e
    exact List.mem_cons.mpr (.inl e);exact UV _ (B g e)
theorem nK(f:aA)(v:V):∀fs:List (aA×V),(eV f v fs).length<=fs.length+1
 |[]=>by simp[eV]
 |(k,x)::r=>by
  have B:=nK f v r;rw[show eV f v ((k,x)::r)=(if k=f then(k,v)::r else(k,x)::eV f v r) from rfl]
  by_cases q:k=f
  rw[bM q,Va,Va];lia;rw[bN q,Va,Va];lia
def o4.some_of(r:o4 (aa v) o):∃u,o=aa u/\RelV v u:=by
 cases o with
 |none=>exact(show False from r).elim|some u=>exact⟨u,rfl,r⟩
def o4.none_of(r:o4 af o):o=af:=by
 cases o with
 |none=>rfl|some u=>exact(show False from r).elim
def z8(r:RelV v u):aaA u=ah:=by
 cases v with
 |aF=>cases (show u=Xd from r);rfl|bl b=>cases (show u=aaP b from r);rfl|int i=>obtain⟨t,e⟩:=(show ∃t,u=Xw i t from r);cases e;rfl|str x=>obtain⟨t,e⟩:=(show ∃t,u=Z7 x t from r);cases e;rfl|byt b=>obtain⟨t,e⟩:=(show ∃t,u=Value.bytes b t from r);cases e;rfl|flt b=>obtain⟨t,e⟩:=(show ∃t,u=Value.float b t from r);cases e;rfl|ref a=>cases (show u=VQ a from r);rfl|ty n=>cases (show u=XM n from r);rfl
section
variable{P:U4}{w:Vl}{H H':Hp}{h h':au}{a C dx:aB}{fs fs':List (aA×V)}
def lT(D:HOk P w H h)(e:H a=aa (.ins C dx fs)):∃mA,wO h a dx C mA/\(∀f,o4 (fs.lookup f) (mA f))/\Z9 mA (fs.map (·.1))/\fs.length<=1000/\H dx=aa (.own a):=by obtain⟨d,z,B,ob,mA,n,r,q⟩:=(show gk P w H h a (.ins C dx fs) from D a _ e);exact⟨mA,⟨ob,n,B⟩,r,q,z,d⟩
end
structure Cls(K:UM)(C:aB):Prop where
 pg:Xi K C Str.empty=ah
 hd:WG K C=ah
 po:YH K C=ah
 sa:Vq K (.ref C) "__setattr__"=aa (aa (.builtin "object.__setattr__"))
def Cls.get{K:UM}{C:aB}(c:Cls K C)(f:aA):Xi K C f=ah:=c.pg
def jZ(K:UM)(C:aB)(f:aA):Prop:=Vq K (.ref C) f=aa af
def jZ.NS{K:UM}{C:aB}{f:aA}(n:jZ K C f):YZ K C f=aa af:=by unfold YZ;rw[show Vq K (.ref C) f=aa af from n];rfl
structure z9(K:UM)(C:aB)(m:aA)(f:aB):Prop where
 at_:Vq K (.ref C) m=aa (aa (.ref f))
 fn:YK K (.ref f)=ah
 kp:VY K (.ref f)=ah
section
variable{X:Cx}{zt:List (aB×aq)}{σ:St}{H:Hp}{s:UR}{a C dx:aB}{fs:List (aA×V)}{f:aA}{v:V}{A:VU}{E:aC->UR->Prop}
def o7(I:Inv X zt σ H s)(e:H a=aa (.ins C dx fs))(c:Cls X.K C)(n:jZ X.K C f)(l:fs.lookup f=aa v)
(h:∀u s',Inv X zt σ H s'->RelV v u->Q u s'):ay (Vb X.prog X.w) A (getAttr (.ref a) f b) Q E s:=by
 obtain⟨B,O,r,_,_,_⟩:=lT I.aL e;obtain⟨u,D,q⟩:=o4.some_of (v:=v) (o:=B f) (by rw[←l];exact r f);exact get_map I.kIn O (c.get f) c.hd n D (z8 q) (h u _ (I.tok _) q)
def lC(I:Inv X zt σ H s)(e:H a=aa (.ins C dx fs))(c:Cls X.K C)(k:z9 X.K C m g)(l:fs.lookup m=af)
(h:Q (.ref g,[.ref a]) s):ay (Vb X.prog X.w) A (Z5 (.ref a) m pl) Q E s:=by
 obtain⟨q,O,r,_,_,_⟩:=lT I.aL e;have hn:q m=af:=o4.none_of (by rw[←l];exact r m);exact BA I.kIn O (c.get m) k.at_ k.fn hn h
def o8(I:Inv X zt σ H s)(e:H a=aa (.ins C dx fs))(c:Cls X.K C)(n:jZ X.K C f)(d:fs.length<1000)(U:RelV y u)
(h:∀s',Inv X zt σ (upd H a (.ins C dx (eV f y fs))) s'->Q () s'):ay (Vb X.prog X.w) A (setAttr (.ref a) f u) Q E s:=by
 obtain⟨J,O,r,D,_,L⟩:=lT I.aL e;have V:(fs.map (·.1)).length<=aj:=by rw[U0,WT];lia
 refine Fv I.kIn O c.sa c.po n.NS c.hd D V λZ B M=>h _ ?_;have hd:∃o,Z.get? dx=aa o:=let ⟨o,_,_,e',_⟩:=B.ns;⟨o,e'⟩;refine I.write (x:=a) (e:=dx) (by rw[e];exact True.intro) (.inr L) (λb q Y z=>(M.2 b Y).trans z) hd ?_;refine⟨by rw[dD O.ne];exact L,?_,O.ne,B.obj,_,B.ns,λg=>?_,λg W=>?_⟩;have:=nK f y fs;lia
 ·show o4 ((eV f y fs).lookup g) (if g=f then aa u else J g);rw[nJ]
  by_cases q:g=f
  rw[bM q,bM q];exact U;rw[bN q,bN q];exact r g
 ·by_cases q:g=f
  rw[q];exact(mY f y fs).1
  ·refine(mY f y fs).2 g (D g λz=>W ?_);show(if g=f then aa u else J g)=af;rw[bN q];exact z
def Inv.made(I:Inv X zt σ H s):Inv X zt σ (upd (upd H s.heap.objs.size (.own (s.heap.objs.size+1))) (s.heap.objs.size+1) (.ins C s.heap.objs.size []))
 {s with heap:=(s.heap.push VV).push (Wl C s.heap.objs.size)}:=by
 have e1:(s.heap.push VV).get? s.heap.objs.size=aa VV:=UX s.heap rfl;have e2:((s.heap.push VV).push (Wl C s.heap.objs.size)).get? (s.heap.objs.size+1)=aa (Wl C s.heap.objs.size):=by
  have:=UX (s.heap.push VV) (o:=Wl C s.heap.objs.size) rfl
  rwa [V5]at this
 have L:(s.heap.push VV).Ns s.heap.objs.size (λ_=>af):=⟨VV,#[],_,e1,rfl,(λe J=>bO J (by simp)),λ_=>rfl⟩;have M:=I.laid (a:=s.heap.objs.size) (o:=.own (s.heap.objs.size+1)) (h':=s.heap.push VV) (t':=s.toks) (λb u q=>UO _ q) (UT _) ⟨_,e1⟩;refine M.laid (a:=s.heap.objs.size+1) (o:=.ins C s.heap.objs.size []) (t':=s.toks) (λb u q=>UO _ q) (Nat.le_of_eq (V5 _ _)) ?_;have B:s.heap.objs.size≠s.heap.objs.size+1:=Vi (Wj _);refine⟨by rw[dD B,dM],VL _,B,e2,λ_=>af,(Heap.Ns1.of_empty L).at λo q=>UO _ q,λ_=>True.intro,λy D=>bO rfl D⟩
def Fw(B:Yj e f env (eval e env)=eval e env)
(h:ay (Vb prog w) A (eval e env) (λo q=>ay (Vb prog w) A (getAttr o f ah) Q E q) E s):ay (Vb prog w) A (eval (.Attribute e f pos) env) Q E s :=
 Attribute_any_ h (by rw[arm_eval_Attribute,B])
end
def Rh(K:UM)(ta:TE)(f:aA):TE:=fun B H Q=>ta B H λx q=>∃a C D fs v,x=.ref a/\q a=aa (.ins C D fs)/\Cls K C/\jZ K C f/\fs.lookup f=aa v/\Q v q
def NT(K:UM)(ta tv:TE)(f:aA):TS:=λD q H=>tv q H λy L=>ta q L λx J=>∃a C B fs,x=.ref a/\J a=aa (.ins C B fs)/\Cls K C/\jZ K C f/\fs.length<1000 ∧
 D.nx q (upd J a (.ins C B (eV f y fs)))
def Rj(X:Cx)(D:Yn)(rd:V->V->Hp->VK->Prop):Prop :=
 ∀(B:List (aB×aq)) (s:UR) (q:St) (H:Hp) (x y:V) (u v:aC) (Q:VK),Inv X B q H s->RelV x u->RelV y v->rd x y H Q->ay (Vb X.prog X.w) X.A (inplaceOp D u v) (EP X B q Q) X.xe s
def yq(K:UM)(ta tv:TE)(rd:V->V->Hp->VK->Prop)(f:aA):TS:=λD J H=>ta J H λx M=>∃a C O fs v,x=.ref a/\M a=aa (.ins C O fs)/\Cls K C/\jZ K C f/\fs.lookup f=aa v ∧
 tv J M λy U=>rd v y U λz L=>∃B q,L a=aa (.ins C B q)/\q.length<1000/\D.nx J (upd L a (.ins C B (eV f z q)))
section
variable{X:Cx}{o e value:Ys}{f:aA}{pos pos' tpos:Pos}{ta tv:TE}
def JO(O:PE X e ta)(U:Yj e f X.env (eval e X.env)=eval e X.env):PE X (.Attribute e f pos) (Rh X.K ta f):=by intro D s B H Q I h;refine Fw U (thn (O D s B H _ I h) λu g J=>?_);obtain⟨x,Z,Y,L,a,C,i,fs,v,ex,V,c,n,l,q⟩:=J;subst ex;obtain rfl:u=VQ a:=L;exact o7 Y V c n l λb d W M=>⟨v,Z,W,M,q⟩
def JP(O:PE X o ta)(L:PE X value tv)(M:XG value (aa (.Attribute o f pos')) pos.line X.env=pure ai):PS X (.Assign [.Attribute o f pos'] value pos) (NT X.K ta tv f):=by intro J s B H D I h;refine plainObj_wpAny_Assign_Attribute (thn (L J s B H _ I h) λu s1 ⟨y,H1,I1,ry,q⟩=>thn (O J s1 B H1 _ I1 q) λov s2 ⟨x,H2,I2,rx,a,C,dx,fs,ex,ea,c,n,l,q2⟩=>?_) M;subst ex;obtain rfl:ov=VQ a:=rx;exact o8 I2 ea c n l ry λV U=>⟨B,_,U,q2⟩
def Aa(g:PE X o ta)(e:PE X value tv)(M:Rj X op rd):PS X (.AugAssign (.Attribute o f tpos) op value pos) (yq X.K ta tv rd f):=by intro J s B H D I h;refine wpAny_AugAssign_AttributeAny (thn (g J s B H _ I h) λb G L=>?_);obtain⟨x,w,t,W,a,C,N,fs,v,ex,j,c,n,l,q⟩:=L;subst ex;obtain rfl:b=VQ a:=W;refine o7 t j c n l λu U r Y=>thn (e J U B w _ r q) λw3 s3 ⟨y,H2,I3,ry,q3⟩=>thn (M J s3 B H2 v y u w3 _ I3 Y ry q3) λA F L=>?_;obtain⟨z,P,p,V,k,i,O,d,Z⟩:=L;exact o8 p O c n d V λE m=>⟨B,_,m,Z⟩
end
section
variable{X:Cx}{zt:List (aB×aq)}{σ:St}{H:Hp}{s:UR}{A:VU}{E:aC->UR->Prop}{Q:aC->UR->Prop}{c:aC}{b:Bool}
end
end L2
namespace L2
open PySem PySem.Spec PyProof.Rows
structure fM(k:Nat)(A:VU):Prop where
 hd:A.handled=af
 dp:A.depth+3*k+5<recursionLimit
 un:A.units+16*k+200<cLine
def fM.mono(r:fM k A)(h:j<=k):fM j A:=⟨r.hd,by have:=r.dp;lia,by have:=r.un;lia⟩
def fM.deeper(r:fM (k+1) A)(env:Env):fM k (A.deeper env) :=
 ⟨r.hd,by have:=r.dp;show A.depth+1+3*k+5<_;lia,by have:=r.un;show A.units+3+16*k+200<_;lia⟩
def wQ{A:VU}{C:aB}{us:List aC}{kw:List (aA×aC)}:(A.under (.builtin "type.__call__" ⟨.ref C::us,kw⟩)).depth=A.depth+1:=by first|rfl|simp[Z1,Code.weight,Code.isCreation,Code.isGuard,Code.isCaller,Code.frames,aak,guardIds]
def wR{A:VU}{C:aB}{us:List aC}{kw:List (aA×aC)}:(A.under (.builtin "type.__call__" ⟨.ref C::us,kw⟩)).units=A.units+1:=by first|rfl|simp[Z1,Code.cUnits,Code.frames,aak]
def fM.make(r:fM (k+1) A)(C:aB)(us:List aC)(kw:List (aA×aC)):fM k (A.under (.builtin "type.__call__" ⟨.ref C::us,kw⟩)) :=
 ⟨r.hd,by have:=r.dp;rw[wQ];lia,by have:=r.un;rw[wR];lia⟩
def fM.depth(r:fM k A):A.depth<recursionLimit:=by have:=r.dp;lia
def BD:TA:=λ_ H Q=>Q [] H
def IM(ta:TE)(tr:TA):TA:=fun q H Q=>ta q H λx J=>tr q J λB D=>Q (x::B) D
section
variable{X:Cx}{e:Ys}{es:List Ys}{te:TE}{t:TA}{pos:Pos}
def sV:PA X [] BD:=λ_ _ _ _ H Q I h=>Xe ⟨[],H,I,.nil,h⟩
def ju(W:PE X e te)(V:PA X es t)(U:Vo (e::es) X.env=(ai,eval e X.env)::Vo es X.env:=by rfl):PA X (e::es) (IM te t):=by intro q D s B H Q I h;rw[U];show ay _ _ (Zt ((ai,eval e X.env)::WU q (Vo es X.env))) _ _ s;refine Wz (thn (W D s B H _ I h) λu L J=>?_);obtain⟨x,Z,Y,M,O⟩:=J;exact thn (V q D L B Z _ Y O) λus s2 ⟨xs,H2,I2,r2,q2⟩=>⟨x::xs,H2,I2,.cons M r2,q2⟩
def JQ(t:TA):TE:=fun D H Q=>t D H λq B=>q.length<=aj/\∀p,B p=af->Q (.ref p) (upd B p (.aE q))
def NU(t:TA):TE:=fun D H Q=>t D H λq B=>q.length<=aj/\∀p,B p=af->Q (.ref p) (upd B p (.aD q))
def BE{x1}(h:PA X es t):PE X (.Tuple es x1 pos) (JQ t):=by intro D s B H Q I J;refine wpAny_Tuple_spliced (thn (h pos D s B H _ I J) λus s1 ⟨xs,H1,I1,r,z,q⟩=>⟨by rw[←r.length];exact z,?_⟩);have L:H1 s1.heap.objs.size=af:=I1.aL.fresh (UT _);refine⟨.ref s1.heap.objs.size,upd H1 s1.heap.objs.size (.aE xs),I1.laid (t':=s1.toks) (λb u e=>UO _ e) (UT _) ?_,rfl,q _ L⟩;exact⟨z,us,r,⟨_,UX _ rfl,rfl,_,rfl⟩⟩
def JR(h:PA X es t):PE X (.List es pos) (NU t):=by intro D s B H Q I J;refine wpAny_List_spliced (thn (h pos D s B H _ I J) λus s1 ⟨xs,H1,I1,r,z,q⟩=>⟨by rw[←r.length];exact z,?_⟩);have L:H1 s1.heap.objs.size=af:=I1.aL.fresh (UT _);refine⟨.ref s1.heap.objs.size,upd H1 s1.heap.objs.size (.aD xs),I1.laid (t':=s1.toks) (λb u e=>UO _ e) (UT _) ?_,rfl,q _ L⟩;exact⟨z,us,0,r,UX _ rfl⟩
end
abbrev Sp:=List V->Hp->VK->XK->Prop
abbrev CXT:=List Env->Hp->UR->XK->aC->UR->Prop
structure o9(P:U4)(w:Vl)(K:UM)(mg:aA->Option aC)(base:au)(A:VU)(outer:List Env)(s:UR)(H:Hp):Prop where
 frames:A.frames=aa outer
 mod:Mod K mg base
 bs:∀b o,base.get? b=aa o->s.heap.get? b=aa o/\H b=af
 bsz:base.objs.size<=s.heap.objs.size
 kY:s.heap.FunFrames base outer
 frf:∀b∈frs outer,H b=af
 aL:HOk P w H s.heap
 bare:ZG s.gens
inductive CE(outer:List Env)(P:U4)(w:Vl)(H:Hp)(s:UR)(Q:VK)(u:aC)(s':UR):Prop
 |mk(v:V)(H':Hp)(os:s'.os=s.os)(b:ZG s'.gens)(un:Un (frs outer) [] H H' s.heap s'.heap)(B:HOk P w H' s'.heap)(r:RelV v u)(q:Q v H'):CE outer P w H s Q u s'
def CR(CX:CXT)(outer:List Env)(P:U4)(w:Vl)(H:Hp)(s:UR)(Q:VK)(E:XK)(r:Z8)(s':UR):Prop :=
 match r with
 |.ok (.ret u)=>CE outer P w H s Q u s'|.ok _=>False|.error e=>CX outer H s E e s'
structure jv(P:U4)(w:Vl)(K:UM)(mg:aA->Option aC)(base:au)(CX:CXT)(k:Nat)(f:aB)(fd:Wq)(ps:List aA)(sp:Sp):Prop where
 len:∀vs H Q E,sp vs H Q E->vs.length=ps.length
 run:∀(A:VU)(outer:List Env)(s:UR)(H:Hp) (args:Args) (us:List aC) (vs:List V) (Q:VK) (E:XK),fM k A->o9 P w K mg base A outer s H->BindsTo s fd args (ps.zip us)->dF vs us->sp vs H Q E →
  ak (Vb P w) A (.call (.ref f) args) (CR CX outer P w H s Q E) s
def o9.make{P:U4}{w:Vl}{K:UM}{mg:aA->Option aC}{base:au}{A:VU}{outer:List Env}{s:UR}{H:Hp}(e:o9 P w K mg base A outer s H)(C:aB)(us:List aC)(kw:List (aA×aC)):
 o9 P w K mg base (A.under (.builtin "type.__call__" ⟨.ref C::us,kw⟩)) outer s H:=⟨by first|exact e.frames|(simpa [Z1,Code.envs,aak,pushEnvs]using e.frames),e.mod,e.bs,e.bsz,e.kY,e.frf,e.aL,e.bare⟩
section
variable{X:Cx}{zt:List (aB×aq)}{σ:St}{H:Hp}{s s':UR}
def Inv.JS(I:Inv X zt σ H s):o9 X.prog X.w X.K X.mg X.base X.A X.stack s H :=
 ⟨I.ok.frames,I.ok.mod,I.bs,Vp I.ok.bsz I.sz,I.stack,I.sP,I.aL,I.bare⟩
def Inv.after(I:Inv X zt σ H s)(h:CE X.stack X.prog X.w H s Q u s'):EP X zt σ Q u s':=by obtain⟨v,M,os,B,un,L,r,q⟩:=h;obtain⟨J,g,d,t,D⟩:=s';obtain rfl:D=s.os:=os;exact⟨v,M,I.call (h':=J) (g':=g) (d':=d) (t':=t) (ch:=[]) un L B (λb z=>bO z (by simp)),r,q⟩
end
def BH(sp:Sp)(dvs:List V)(E:XK)(t:TA):TE:=fun q H Q=>t q H λB D=>sp (B++dvs) D Q E
def BI(C:aB)(m:aA)(sp:Sp)(dvs:List V)(E:XK)(ta:TE)(t:TA):TE:=fun q H Q=>ta q H λx B=>∃a J fs,x=.ref a/\B a=aa (.ins C J fs)/\fs.lookup m=af ∧
 t q B λD L=>sp (x::(D++dvs)) L Q E
def BJ(C:aB)(sp:Sp)(dvs:List V)(E:XK)(t:TA):TE:=fun D H Q=>t D H λJ B=>∀x q,B x=af->B q=af->q≠x →
 sp (.ref x::(J++dvs)) (upd (upd B q (.own x)) x (.ins C q [])) (λv L=>v=.aF/\Q (.ref x) L) E
def Binds(K:UM)(fd:Wq)(ps:List aA)(ds:List aC):Prop :=
 ∀(s:UR)(q:List aC),K.In s.heap->(q++ds).length=ps.length->BindsTo s fd ⟨q,[]⟩ (ps.zip (q++ds))
def Binds.all{K:UM}{fd:Wq}{ps:List aA}(h:∀us:List aC,us.length=ps.length->ZV fd ⟨us,[]⟩=pure (ps.zip us)):Binds K fd ps []:=λs us _ q=>by rw[Vn]at q⊢;exact .of_eq (h us q)
def jw(CX:CXT)(X:Cx)(E:XK):Prop:=∀(D:List (aB×aq)) (B:St) (H:Hp) (s:UR) (e:aC) (q:UR),Inv X D B H s->CX X.stack H s E e q->X.xe e q
section
variable{X:Cx}{CX:CXT}{k:Nat}{f C:aB}{fd:Wq}{ps:List aA}{sp:Sp}{dvs:List V}{ds:List aC}{E:XK}{x m:aA}{p pos apos:Pos}{e o:Ys}{es:List Ys}{ta:TE}{t:TA}
def pq(F:jv X.prog X.w X.K X.mg X.base CX k f fd ps sp)(L:fM k X.A)(U:Binds X.K fd ps ds)(O:dF dvs ds)(J:jw CX X E)
(I:Inv X zt σ H s)(r:dF vs us)(h:sp (vs++dvs) H Q E):ay (Vb X.prog X.w) X.A (call (.ref f) us) (EP X zt σ Q) X.xe s:=by
 have B:dF (vs++dvs) (us++ds):=r.append O;have M:(us++ds).length=ps.length:=by rw[←B.length];exact F.len _ _ _ _ h
 refine X9 (codeAny_mono (F.run X.A X.stack s H ⟨us,[]⟩ (us++ds) (vs++dvs) Q E L I.JS (U s us I.kIn M) B h) λr D q=>?_);cases r with
 |error e=>exact J zt σ H s e D I q
 |ok V =>
  cases V with
  |ret u=>exact I.after q|_=>exact VE q
def Fx(F:jv X.prog X.w X.K X.mg X.base CX k f fd ps sp)(O:fM k X.A)(W:Gl X x)(U:X.mg x=aa (.ref f))(V:VY X.K (.ref f)=ah)(a:Binds X.K fd ps ds)(Z:dF dvs ds)(M:jw CX X E)
(b:PA X (e::es) t)(D:(x==("__debug__":aA))=ai:=by decide)(Y:Vo (e::es) X.env=(ai,eval e X.env)::Vo es X.env:=by rfl)(B:(WU pos (Vo es X.env)).any (·.1)=ai:=by rfl):
 PE X (.Call (.Name x p) (e::es) [] pos) (BH sp dvs E t):=by
 intro L s J H Q I h;refine V4 (lQ I W U ?_ D);refine W1 (h₀:=X.base) I.ok.mod.kin V (thn (b pos L s J H _ I h) λus s1 ⟨vs,H1,I1,r,q⟩=>⟨I1.kIn,?_⟩) Y B;exact pq F O a Z M I1 r q
def BK(F:jv X.prog X.w X.K X.mg X.base CX k f fd ps sp)(D:fM k X.A)(M:Gl X x)(J:X.mg x=aa (.ref f))(L:VY X.K (.ref f)=ah)(U:Binds X.K fd ps ds)(O:dF dvs ds)(B:jw CX X E)
(q:(x==("__debug__":aA))=ai:=by decide):PE X (.Call (.Name x p) [] [] pos) (BH sp dvs E BD):=by
 intro W s V H Q I h;refine V4 (lQ I M J ?_ q);exact Yl I.kIn L (pq (us:=[]) F D U O B I .nil h)
def Fy(W:PE X o ta)(c:Cls X.K C)(M:z9 X.K C m f)(F:jv X.prog X.w X.K X.mg X.base CX k f fd ps sp)(V:fM k X.A)(Z:Binds X.K fd ps ds)(Y:dF dvs ds)(O:jw CX X E)(b:PA X (e::es) t)
(B:Vo (e::es) X.env=(ai,eval e X.env)::Vo es X.env:=by rfl)(D:(WU pos (Vo es X.env)).any (·.1)=ai:=by rfl)
(U:eval (.Call (.Attribute o m apos) (e::es) [] pos) X.env=(do
  let ov ←eval o X.env
  Z3 apos.atName
  let (f,first) ←Yi [ov] (Z5 ov m pl)
  callWith pos f first (WU pos (Vo (e::es) X.env)) (Za pos (XI [] X.env))):=by rfl):
 PE X (.Call (.Attribute o m apos) (e::es) [] pos) (BI C m sp dvs E ta t):=by
 intro L s J H Q I h;refine X0 (pl:=pl) (thn (W L s J H _ I h) λu s1 ⟨x,H1,I1,rx,a,dx,fs,ex,ea,l,q⟩=>?_) U;subst ex;obtain rfl:u=VQ a:=rx;refine lC I1 ea c M l ?_;refine W1 (first:=[.ref a]) (h₀:=X.base) I.ok.mod.kin M.kp (thn (b pos L s1 J H1 _ I1 q) λus s2 ⟨vs,H2,I2,r,q2⟩=>⟨I2.kIn,?_⟩) B D;exact pq (us:=.ref a::us) (vs:=.ref a::vs) F V Z Y O I2 (.cons rfl r) q2
def BN(U:PE X o ta)(c:Cls X.K C)(B:z9 X.K C m f)(F:jv X.prog X.w X.K X.mg X.base CX k f fd ps sp)(O:fM k X.A)(W:Binds X.K fd ps ds)(V:dF dvs ds)(L:jw CX X E)
(M:eval (.Call (.Attribute o m apos) [] [] pos) X.env=(do
  let ov ←eval o X.env
  Z3 apos.atName
  let (f,first) ←Yi [ov] (Z5 ov m pl)
  callWith pos f first (WU pos (Vo [] X.env)) (Za pos (XI [] X.env))):=by rfl):
 PE X (.Call (.Attribute o m apos) [] [] pos) (BI C m sp dvs E ta BD):=by
 intro J s D H Q I h;refine X0 (pl:=pl) (thn (U J s D H _ I h) λu s1 ⟨x,H1,I1,rx,a,dx,fs,ex,ea,l,q⟩=>?_) M;subst ex;obtain rfl:u=VQ a:=rx;refine lC I1 ea c B l ?_;exact Yl (first:=[.ref a]) I1.kIn B.kp (pq (us:=[.ref a]) (vs:=[.ref a]) F O W V L I1 (.cons rfl .nil) q)
structure Mk(K:UM)(C f:aB):Prop where
 makes:Y0 K C=ah
 init:Vq K (.ref C) "__init__"=aa (aa (.ref f))
 fn:YK K (.ref f)=ah
 kp:VY K (.ref C)=ah
def uU(M:Mk X.K C f)(F:jv X.prog X.w X.K X.mg X.base CX k f fd ps sp)(Y:fM (k+1) X.A)(b:Binds X.K fd ps ds)(a:dF dvs ds)
(W:jw CX X E)(I:Inv X zt σ H s)(r:dF vs us)
(h:∀x dx,H x=af->H dx=af->dx≠x->sp (.ref x::(vs++dvs)) (upd (upd H dx (.own x)) x (.ins C dx [])) (λv H2=>v=.aF/\Q (.ref x) H2) E):
 ay (Vb X.prog X.w) X.A (call (.ref C) us) (EP X zt σ Q) X.xe s:=by
 have J:=h (s.heap.objs.size+1) s.heap.objs.size (I.aL.fresh (V0 _)) (I.aL.fresh (UT _)) (Vi (Wj _));have B:=Inv.made (C:=C) I;have D:dF (V.ref (s.heap.objs.size+1)::(vs++dvs)) (VQ (s.heap.objs.size+1)::(us++ds)):=.cons rfl (r.append a);have Z:(VQ (s.heap.objs.size+1)::us++ds).length=ps.length:=by have e:=D.length;rw[F.len _ _ _ _ J]at e;exact e.symm
 refine X9 (BB (f:=f) I.kIn M.makes M.init (beq_iff_eq.mp M.fn) (codeAny_mono (F.run _ X.stack _ _ ⟨VQ (s.heap.objs.size+1)::us,[]⟩ (VQ (s.heap.objs.size+1)::(us++ds)) _ _ E (Y.make C us [])
  (B.JS.make C us []) (b _ (VQ (s.heap.objs.size+1)::us) B.kIn Z) D J) λr L q=>?_))
 cases r with
 |error e=>exact W zt σ _ _ e L B q
 |ok c =>
  cases c with
  |ret u =>
   obtain⟨v,g,d,O,ev,U⟩:=B.after q;subst ev;exact⟨O,⟨V.ref (s.heap.objs.size+1),g,d,rfl,U⟩⟩
  |_=>exact VE q
def Fz(M:Mk X.K C f)(F:jv X.prog X.w X.K X.mg X.base CX k f fd ps sp)(U:fM (k+1) X.A)(W:Gl X x)(V:X.mg x=aa (.ref C))(a:Binds X.K fd ps ds)(Z:dF dvs ds)(O:jw CX X E)
(b:PA X (e::es) t)(D:(x==("__debug__":aA))=ai:=by decide)(Y:Vo (e::es) X.env=(ai,eval e X.env)::Vo es X.env:=by rfl)(B:(WU pos (Vo es X.env)).any (·.1)=ai:=by rfl):
 PE X (.Call (.Name x p) (e::es) [] pos) (BJ C sp dvs E t):=by
 intro L s J H Q I h;refine V4 (lQ I W V ?_ D);refine W1 (h₀:=X.base) I.ok.mod.kin M.kp (thn (b pos L s J H _ I h) λus s1 ⟨vs,H1,I1,r,q⟩=>⟨I1.kIn,?_⟩) Y B;exact uU M F U a Z O I1 r q
def BO(M:Mk X.K C f)(F:jv X.prog X.w X.K X.mg X.base CX k f fd ps sp)(D:fM (k+1) X.A)(L:Gl X x)(J:X.mg x=aa (.ref C))(U:Binds X.K fd ps ds)(O:dF dvs ds)(B:jw CX X E)
(q:(x==("__debug__":aA))=ai:=by decide):PE X (.Call (.Name x p) [] [] pos) (BJ C sp dvs E BD):=by
 intro W s V H Q I h;refine V4 (lQ I L J ?_ q);exact Yl I.kIn M.kp (uU (us:=[]) M F D U O B I .nil h)
end
section
variable{X:Cx}{CX:CXT}{k:Nat}{f C:aB}{fd:Wq}{ps ks:List aA}{sp:Sp}{E:XK}{x m:aA}{p pos apos kpos:Pos}{e o:Ys}{es:List Ys}{kws:List X6}{te ta:TE}{t tk:TA}{nm:Option aA}
variable{g:List aC->List aC->List aC}{gV:List V->List V->List V}
end
structure gy(N P:List aA)(sc:Vw):Prop where
 kind:sc.kind=.function
 co:sc.isCoroutine=ai
 gen:sc.isGenerator=ai
 nd:N.Nodup
 pre:N.take P.length=P
 par:∀x∈P,sc.names.lookup x=aa .local\/sc.names.lookup x=aa .cell
 nofree:∀y∈sc.names,y.2≠.free
theorem rK{kindOf:aA->Option WW}{x:aA}:∀{binds:List (aA×aC)}{m:aA->Option aC},(∀v,(x,v)∉binds)->bindL kindOf binds m x=m x
 |[],_,_=>rfl
 |(n,v)::r,m,h=>by
  unfold bindL;rw[rK λw hw=>h w (UV _ hw)];split
  ·have:x≠n:=by rintro rfl;exact h v UY
   simp[this]
  rfl
theorem rL{kindOf:aA->Option WW}{x:aA}:∀{binds:List (aA×aC)}{m:aA->Option aC},(∀v,(x,v)∉binds)->bindC kindOf binds m x=m x
 |[],_,_=>rfl
 |(n,v)::r,m,h=>by
  unfold bindC;rw[rL λw hw=>h w (UV _ hw)];split;rfl
  ·have:x≠n:=by rintro rfl;exact h v UY
   simp[this]
theorem rM{kindOf:aA->Option WW}{x:aA}{v:aC}:∀{P:List aA}{vs:List aC}{i:Nat}{m:aA->Option aC},P.Nodup->P[i]?=aa x->vs[i]?=aa v->kindOf x=aa .local →
 bindL kindOf (P.zip vs) m x=aa v
 |[],_,_,_,_,h,_,_=>by simp at h
 |_::_,[],_,_,_,_,h,_=>by simp at h
 |p::P,w::vs,0,m,nd,h1,h2,hk=>by simp at h1 h2;subst h1;subst h2;show bindL kindOf ((p,w)::P.zip vs) m p=_;unfold bindL;rw[rK λv q=>(List.nodup_cons.mp nd).1 (Ye q).1,bM hk];simp
 |p::P,w::vs,i+1,m,nd,h1,h2,hk=>by show bindL kindOf ((p,w)::P.zip vs) m x=_;unfold bindL;exact rM (i:=i) (List.nodup_cons.mp nd).2 (by simpa using h1) (by simpa using h2) hk
theorem rN{kindOf:aA->Option WW}{x:aA}{v:aC}:∀{P:List aA}{vs:List aC}{i:Nat}{m:aA->Option aC},P.Nodup->P[i]?=aa x->vs[i]?=aa v->kindOf x≠aa .local →
 bindC kindOf (P.zip vs) m x=aa v
 |[],_,_,_,_,h,_,_=>by simp at h
 |_::_,[],_,_,_,_,h,_=>by simp at h
 |p::P,w::vs,0,m,nd,h1,h2,hk=>by simp at h1 h2;subst h1;subst h2;show bindC kindOf ((p,w)::P.zip vs) m p=_;unfold bindC;rw[rL λv q=>(List.nodup_cons.mp nd).1 (Ye q).1,bN hk];simp
 |p::P,w::vs,i+1,m,nd,h1,h2,hk=>by show bindC kindOf ((p,w)::P.zip vs) m x=_;unfold bindC;exact rN (i:=i) (List.nodup_cons.mp nd).2 (by simpa using h1) (by simpa using h2) hk
noncomputable def start(N:List aA)(vs:List V):St:=vs.map aa++Vc (N.length-vs.length) af
noncomputable def wU(CX:CXT)(P:U4)(w:Vl)(K:UM)(mg:aA->Option aC)(base:au)(N:List aA)(qual:aA)(q:Vw)(f:aB)(D:aC)(A:VU)(outer:List Env)(s:UR)(H:Hp)(E:XK):Cx where
 prog:=P
 w:=w
 K:=K
 mg:=mg
 base:=base
 A:=A.deeper (Z6 qual q s.heap.objs.size f D)
 N:=N
 s₀:=s
 H₀:=H
 env:=Z6 qual q s.heap.objs.size f D
 outer:=outer
 stack:=Z6 qual q s.heap.objs.size f D::outer
 ex:=[]
 calm:=ah
 fn:=λ_=>ah
 pn:=[]
 xe:=λe J=>ay (Vb P w) (A.deeper (Z6 qual q s.heap.objs.size f D)) (leaving (Z6 qual q s.heap.objs.size f D) e) (λ_ B=>CX outer H s E e B) (λL B=>CX outer H s E L B) J
def uV{sc:Vw}{n:Nat}{x:aA}(h:sc.names.lookup x=aa .cell):∃c,(cellsFrom n sc.names []).lookup x=aa c:=by have q:=ZI sc.names n [] (.inl h);exact Option.isSome_iff_exists.mp q
def Ab{CX:CXT}{P:U4}{w:Vl}{K:UM}{mg:aA->Option aC}{base:au}{N ps:List aA}{qual:aA}{B:Vw}{f:aB}{Z:aC}{A:VU}{outer:List Env}{s d:UR}{H:Hp}{E:XK}{us:List aC}{vs:List V}
(S:gy N ps B)(o:A.handled=af)(J:o9 P w K mg base A outer s H)(F:vs.length=ps.length)(r:dF vs us)
(x:InCallC s s.heap.objs.size (bindL (Z6 qual B s.heap.objs.size f Z).kindOf (ps.zip us) λ_=>af) (cellsFrom (s.heap.objs.size+1) B.names []) (bindC (Z6 qual B s.heap.objs.size f Z).kindOf (ps.zip us) λ_=>af) d):
 Inv (wU CX P w K mg base N qual B f Z A outer s H E) [] (start N vs) H d:=by
 have m:ps.length<=N.length:=by have:=bU Zp S.pre;rw[X4]at this;lia
 obtain ⟨Y,C,rfl,j⟩:=x.done;have L:∀ b:aB,b∉(wU CX P w K mg base N qual B f Z A outer s H E).ex:=λb z=>bO (show b∈([]:List aB) from z) (by simp);refine ⟨⟨J.mod,S.kind,rfl,rfl,UT _,λy z c Y D=>?_,λy M=>?_,λy c _ h=>?_,λ_=>o,aag J.frames,.inr ⟨rfl,rfl⟩,λb z=>bO z (L b),J.bs,J.bsz,λb _ _=>L b,λb z=>bO z (L b),J.kY,J.frf⟩,
  rfl,J.bare,Un.aJ j,⟨_,x.toInCall.ns,λi y v Y D G=>?_⟩,λy c h=>⟨_,x.cell y c h⟩,J.aL.fresh (UT _),λy c h=>?_,λp U=>bO (show p∈([]:List (aB×aq)) from U) (by simp),J.aL.aJ j,?_⟩
 exact name_of_addr x.apart (V7 Y) (V7 D)
 ·have M:B.names.lookup y=aa .cell\/B.names.lookup y=aa .free:=M;rcases M with M|M
  exact uV M;exact bO rfl (S.nofree _ (V7 M))
 exact V6 (x.above y c (V7 h))
 ·have W:i<vs.length:=by
   unfold start at D
   by_cases W:i<vs.length
   exact W
   ·rw[Vk (by simpa using W)]at D;rw[W9]at D;split at D<;>cases D
  have t:vs[i]?=aa v:=by
   unfold start at D;rw[UU (by simpa using W),Vh]at D;cases e:vs[i]? with
   |none=>rw[e]at D;cases D|some a=>rw[e]at D;cases D;rfl
  obtain⟨u,g,l⟩:=r.get t;have U:ps[i]?=aa y:=by rw[←S.pre,W3 (by lia)];exact Y
  have O:ps.Nodup:=by rw[←S.pre];exact S.nd.sublist (List.take_sublist _ _)
  refine⟨u,l,?_⟩;rcases S.par y (UZ U)with k|k
  exact .inl ⟨k,rM O U g k⟩
  ·obtain⟨c,e⟩:=uV (n:=s.heap.objs.size+1) k;refine .inr ⟨.inl k,c,e,?_⟩;have q:=x.cell y c e;rw[rN O U g (by show B.names.lookup y≠_;rw[k];decide)]at q;exact q
 exact J.aL.fresh (V6 (x.above y c (V7 h)))
 ·unfold start;show _=N.length;rw[U9,U0,Xk];lia
def NV{CX:CXT}{P:U4}{w:Vl}{K:UM}{mg:aA->Option aC}{base:au}{k:Nat}{f:aB}{name qual:aA}{D:WH}{L:List Zk}{B:Vw}{j kV doc pm cdv ct C:aC}{an z:Option aB}
{osl:Array (Option aC)}{N ps:List aA}{sp:Sp}(F:K.lookup f=aa ⟨C,z,.func (Wb name qual D L B j kV doc pm an cdv ct),osl⟩)(h:Yd K cdv qual=ah)(S:gy N ps B)
(len:∀vs H Q E,sp vs H Q E->vs.length=ps.length)
(U:∀ (A:VU) (outer:List Env) (s:UR) (H:Hp) (vs:List V) (Q:VK) (E:XK),fM k (A.deeper (Z6 qual B s.heap.objs.size f cdv))->sp vs H Q E →
  ∃ t,PSs (wU CX P w K mg base N qual B f cdv A outer s H E) L t/\t { nx:=λ_ H'=>Q .aF H',rt:=Q } (start N vs) H):
 jv P w K mg base CX (k+1) f (Wb name qual D L B j kV doc pm an cdv ct) ps sp:=by
 refine⟨len,λA outer s H l p vs Q E g a hb r Z=>?_⟩;have T:=len _ _ _ _ Z;have m:K.In s.heap:=a.mod.kin.keeps λb o e=>(a.bs b o e).1;have lim:s.heap.NoLimit:=a.mod.nolimit.keeps λb o e=>(a.bs b o e).1;have O:∀y∈ps.zip p,B.names.lookup y.1=aa .local\/(B.names.lookup y.1=aa .cell/\((cellsFrom (s.heap.objs.size+1) B.names []).lookup y.1).isSome=ah):=λ⟨n,v⟩ hy=>by
  rcases S.par n (Ye hy).1 with q|q
  exact .inl q;exact .inr ⟨q,ZI _ _ _ (.inl q)⟩
 refine codeAny_call_function g.depth (m _ _ F) rfl S.co S.gen rfl (PySem.W.codeRec_of m h) (hb _ _ _ _ ?_);refine wpAny_newFunctionEnv_cells S.kind O λenv X i x=>?_;subst X;refine⟨lim.keeps x.toInCall.keep,codeAny_func ?_⟩;obtain⟨t,G,R⟩:=U A outer s H vs Q E (g.deeper _) Z;have I:Inv (wU CX P w K mg base N qual B f cdv A outer s H E) [] (start N vs) H i:=Ab S g.hd a T r x;refine Wm (G [] i (start N vs) H _ I R) (λfl c Y=>?_) λe c Y=>Y;have fin:∀{M:St}{H':Hp}{v:V}{u:aC},Inv (wU CX P w K mg base N qual B f cdv A outer s H E) [] M H' c->RelV v u->Q v H'->CE outer P w H s Q u c :=
  λ{M H' v u} J d q=>⟨v,H',J.os,J.bare,J.base,J.aL,d,q⟩
 cases fl with
 |ret u =>
  obtain⟨v,M,H',J,d,q⟩:=Y;exact fin J d q
 |next =>
  obtain⟨M,H',J,q⟩:=Y;exact fin (v:=V.aF) (u:=Xd) J rfl q
 |brk =>
  obtain⟨_,_,_,q⟩:=Y;exact VE q
 |cont =>
  obtain⟨_,_,_,q⟩:=Y;exact VE q
end L2
namespace L2
open PySem PySem.Spec PyProof.Rows
section
variable{X:Cx}{x:aA}{p pos:Pos}{e:Ys}{es:List Ys}{t:TA}{id T:String}{r:List V->Hp->VK->Prop}
def tCB(r:List V->Hp->VK->Prop)(t:TA):TE:=fun q H Q=>t q H λB D=>r B D Q
def gU(V:fF X (.builtin id) r)(O:Gl X x)(M:X.mg x=af)(L:XY x=aa (.builtin id))(W:PA X (e::es) t)(hn:x≠"__name__":=by decide)(B:(x==("__debug__":aA))=ai:=by decide)
(U:Vo (e::es) X.env=(ai,eval e X.env)::Vo es X.env:=by rfl)(q:(WU pos (Vo es X.env)).any (·.1)=ai:=by rfl):PE X (.Call (.Name x p) (e::es) [] pos) (tCB r t):=by
 intro J s D H Q I h;refine V4 (jg I O M L ?_ hn B);exact Ym (thn (W pos J s D H _ I h) λus s1 ⟨vs,H1,I1,r1,q1⟩=>V J s1 D H1 vs us Q I1 r1 q1) U q
def kI(V:fF X (.type T) r)(O:Gl X x)(M:X.mg x=af)(L:XY x=aa (.type T))(W:PA X (e::es) t)(hn:x≠"__name__":=by decide)(B:(x==("__debug__":aA))=ai:=by decide)
(U:Vo (e::es) X.env=(ai,eval e X.env)::Vo es X.env:=by rfl)(q:(WU pos (Vo es X.env)).any (·.1)=ai:=by rfl):PE X (.Call (.Name x p) (e::es) [] pos) (tCB r t):=by
 intro J s D H Q I h;refine V4 (jg I O M L ?_ hn B);exact VS (thn (W pos J s D H _ I h) λus s1 ⟨vs,H1,I1,r1,q1⟩=>V J s1 D H1 vs us Q I1 r1 q1) U q
end
end L2
namespace HT
open PySem PyProof.Rows
section
open PySem.SeqAt
open PySem.AutoSeq1 (wpAny_loadPart')
open PySem.MeetsSeq PySem.MeetsSeq2 PySem.MeetsSeq3
end
section
variable{prog:U4}{w:Vl}{A:VU}{E:aC->UR->Prop}{s:UR}
def FA(a:IsTup s.heap t vs.toArray)(c:IsTup s.heap b ws.toArray)(V:vs≠[])
(h1:ws=[]->Q (.ref t) s)(h2:ws≠[]->Q (.ref s.heap.objs.size) {s with heap:=s.heap.push {cls:=.type "tuple",data:=.seq (vs++ws).toArray} })
(hsz:vs.length+ws.length<=aj):ay (Vb prog w) A (Wo .Add (.ref t) (.ref b)) Q E s:=by
 obtain⟨⟨cls,dd,data,O⟩,M,Y,n,W⟩:=id a;obtain⟨⟨Z,L,data2,B⟩,q,J,U,D⟩:=id c;simp only at Y W J D;subst Y W J D;have e:vs.toArray++ws.toArray=(vs++ws).toArray:=by simp
 by_cases hw:ws=[]
 ·exact concat_meets ⟨_,M,rfl⟩ ⟨_,q,rfl⟩ ZO aaH XW XN (XA _ _)
   (tuple_addW1 t b vs.toArray ws.toArray n U dd L O B (by simpa using V) (by simp[hw])) ⟨M,q,h1 hw⟩
 ·refine concat_meets ⟨_,M,rfl⟩ ⟨_,q,rfl⟩ ZO aaH XW XN (XA _ _)
   (tuple_addW2 t b vs.toArray ws.toArray n U dd L O B (by simpa using V) (by simpa using hw) (by rw[US,US];exact hsz)) ⟨M,q,?_⟩
  rw[e];exact h2 hw
noncomputable def sIx(n d:Nat):Option Int->Nat
 |none=>d
 |some v=>if v<0 then(v+(n:Int)).toNat else min v.toNat n
def JT(n d:Nat)(B:d<=n)(o:Option Int):sIx n d o<=n:=by
 cases o with
 |none=>exact B
 |some v =>
  show(if v<0 then(v+(n:Int)).toNat else min v.toNat n)<=n
  by_cases q:v<0
  rw[bM q];lia;rw[bN q];exact Nat.min_le_right _ _
def yr(v:Int)(n d:Nat):(if v<0 then max (v+(n:Int)) 0 else min v (n:Int))=((sIx n d (aa v):Nat):Int):=by
 show(if v<0 then max (v+(n:Int)) 0 else min v (n:Int))=(((if v<0 then(v+(n:Int)).toNat else min v.toNat n):Nat):Int)
 by_cases q:v<0
 simp only[bM q];lia;simp only[bN q];lia
def wV(lo hi:Option Int)(n:Nat):Xm lo hi 1 (n:Int)=(((sIx n 0 lo:Nat):Int),((sIx n n hi:Nat):Int)):=by
 have q:¬((1:Int)<0):=by lia
 unfold Xm;simp only[q,if_false];refine Prod.ext ?_ ?_
 ·cases lo with
  |none=>rfl|some v=>exact yr v n 0
 ·cases hi with
  |none=>rfl|some v=>exact yr v n n
def wW(i j:Nat):WB (i:Int) (j:Int) 1=j-i:=by
 unfold WB;have q:(1:Int)>0:=by lia
 simp only[q,if_true,Int.ediv_one];split<;>lia
def pA(p:ZN v o)(h:Q o s):ay (Vb prog w) A (Builtin.Slice.slicePartIndex v) Q E s:=by
 cases p with
 |none=>exact slicePart_none h|int i t=>exact slicePart_int h
def jj{J:aB}{D B:aC}{lo hi:Option Int}{n:Nat}{Q:Int×Int×Nat->UR->Prop}(M:s.heap.IsSliceOf J D B .none)(pl:ZN D lo)(L:ZN B hi)
(h:Q (((sIx n 0 lo:Nat):Int),1,sIx n n hi-sIx n 0 lo) s):ay (Vb prog w) A (YA (.ref J) (pure (n:Int))) Q E s:=by
 obtain⟨os,q,O,hds⟩:=id M;unfold YA Builtin.Slice.sliceFields;refine UN (UN (wpAny_field q hds (x:=D) rfl (UN (wpAny_field q hds (x:=B) rfl (UN (wpAny_field q hds (x:=.none) rfl (av ?_)))))));refine UN (slicePart_none ?_);show ay _ _ (if((1:Int)==0)=ah then _ else _) _ _ s;rw[bN (by decide)];refine UN (pA pl (UN (pA L (UN (av ?_)))));show ay _ _ (match Xm lo hi 1 (n:Int)with|(lo,hi)=>pure (lo,(1:Int),WB lo hi 1)) _ _ s;rw[wV lo hi n];show ay _ _ (pure (((sIx n 0 lo:Nat):Int),(1:Int),WB ((sIx n 0 lo:Nat):Int) ((sIx n n hi:Nat):Int) 1)) _ _ s;rw[wW];exact av h
def BP(xs:Array aC)(i k:Nat):((Vj k).filterMap λ(m:Nat)=>xs[((i:Int)+(m:Int)*1).toNat]?).toArray=((xs.toList.drop i).take k).toArray:=by
 have e:(λ(m:Nat)=>xs[((i:Int)+(m:Int)*1).toNat]?)=λm=>xs[i+m]?:=by
  funext m;have:((i:Int)+(m:Int)*1).toNat=i+m:=by lia
  rw[this]
 rw[e];have:=pick_run xs i k;rw[List.filterMap_map]at this;have e2:((λx=>xs[x]?) ∘ λx=>i+x)=λm=>xs[i+m]?:=rfl;rw[e2]at this;rw[this]
def lV{t J:aB}{items:Array aC}{W V:aC}{lo hi:Option Int}{Q:aC->UR->Prop}(D:IsTup s.heap t items)(Y:s.heap.IsSliceOf J W V .none)(pl:ZN W lo)(Z:ZN V hi)
(hw:¬(sIx items.size 0 lo=0/\sIx items.size items.size hi=items.size))
(h:Q (.ref s.heap.objs.size) {s with heap:=s.heap.push {cls:=.type "tuple",data:=.seq ((items.toList.drop (sIx items.size 0 lo)).take (sIx items.size items.size hi-sIx items.size 0 lo)).toArray} })
(hsz:items.size<=aj):ay (Vb prog w) A (Zu (.ref t) (.ref J)) Q E s:=by
 have B:sizeOk (.seq ((items.toList.drop (sIx items.size 0 lo)).take (sIx items.size items.size hi-sIx items.size 0 lo)).toArray):=by show((items.toList.drop (sIx items.size 0 lo)).take (sIx items.size items.size hi-sIx items.size 0 lo)).toArray.size<=aj;rw[US,X4,List.length_drop,Ve];lia
 have c:sIx items.size items.size hi<=items.size:=JT _ _ (UT _) hi;obtain⟨os,L,O,hds⟩:=id Y;have U:s.TypeIs (.ref J) "slice":=⟨os,L,O⟩;unfold Zu
 try with_reducible refine VO ?_
 first|refine UN (av ?_)|skip
 refine UN (wpAny_sequenceKey D.typeIs (by decide) ?_);refine UN (WA (name:=U7 "__getitem__") D.typeIs Wd
  (W6 Wd D.typeIs entry_tuple_getitem ?_ (args_tuple_getitem _ _)))
 show ay _ _ (Yz (.ref t) >>= _) _ _ s;refine UN (tupleItemsOf_ D ?_);refine UN (Xu U ?_);rw[bM (by decide)];refine UN (jj Y pl Z ?_);have M:¬((((sIx items.size 0 lo:Nat):Int)==0&&(1:Int)==1&&(sIx items.size items.size hi-sIx items.size 0 lo)==items.size)=ah):=by intro q;rw[UQ,UQ]at q;have b:((sIx items.size 0 lo:Nat):Int)=0:=bT q.1.1;have a:sIx items.size items.size hi-sIx items.size 0 lo=items.size:=bT q.2;exact hw ⟨by lia,by lia⟩
 show ay _ _ (if(((sIx items.size 0 lo:Nat):Int)==0&&(1:Int)==1&&(sIx items.size items.size hi-sIx items.size 0 lo)==items.size)=ah then _ else _) _ _ s;rw[bN M,BP]
 first
  |exact UN (m:=WK _) (VD (av ⟨_,rfl,av h⟩) B)
  |exact UN (m:=WK _) (VD (UN (av (av ⟨_,rfl,av h⟩))) B)
  |exact UN (UN (m:=WK _) (VD (av (av ⟨_,rfl,av h⟩)) B))
  |exact UN (UN (m:=WK _) (VD (av ⟨_,rfl,av h⟩) B))
end
end HT
namespace L2
open PySem PySem.Spec PyProof.Rows
abbrev TO:=St->Hp->(Option Int->Hp->Prop)->Prop
def PO(X:Cx)(e:Option Ys)(t:TO):Prop :=
 ∀(B:List (aB×aq)) (s:UR) (q:St) (H:Hp) (Q:Option Int->Hp->Prop),Inv X B q H s->t q H Q →
  ay (Vb X.prog X.w) X.A (evalPart e X.env) (λu J=>∃o D,Inv X B q D J/\ZN u o/\Q o D) X.xe s
def FD:TO:=λ_ H Q=>Q af H
def NW(t:TE):TO:=fun q H Q=>t q H λx B=>∃i,x=.int i/\Q (aa i) B
def intsAre_of:∀{us:List aC},dF (ns.map V.int) us->XQ us ns:=by
 induction ns with
 |nil=>intro us r;rw[Wk]at r;cases r;exact .nil
 |cons n ns D =>
  intro us r;rw[U8]at r;cases r with
  |cons B q =>
   obtain⟨t,e⟩:=B;subst e;exact .cons n t (D q)
section
variable{X:Cx}{e:Ys}{te:TE}{lo hi:Option Ys}{tl th:TO}{pos p2:Pos}
def FE:PO X af FD:=by intro B s q H Q I h;rw[aaL];exact av ⟨af,H,I,.none,h⟩
def FF(h:PE X e te):PO X (aa e) (NW te):=by intro D s B H Q I hw;rw[evalPart_some];refine thn (h D s B H _ I hw) λu V J=>?_;obtain⟨x,U,O,L,M⟩:=J;obtain⟨i,rfl,q⟩:=M;obtain⟨t,rfl⟩:=L;exact⟨aa i,U,O,.int i t,q⟩
def SlR(X:Cx)(r:V->Option Int->Option Int->Hp->VK->Prop):Prop :=
 ∀(B:List (aB×aq)) (s:UR) (q:St) (H:Hp) (x:V) (v J D:aC) (lo M:Option Int) (L:aB) (Q:VK),Inv X B q H s->RelV x v->s.heap.IsSliceOf L J D .none->ZN J lo->ZN D M->r x lo M H Q →
  ∃T id,typeLookup (.type T) "__getitem__"=pure (aa (.builtin id))/\s.TypeIs v T/\ay (Vb X.prog X.w) X.A (Zu v (.ref L)) (EP X B q Q) X.xe s
def tSl(r:V->Option Int->Option Int->Hp->VK->Prop)(te:TE)(tl th:TO):TE:=fun q H Q=>te q H λx J=>tl q J λl D=>th q D λu B=>r x l u B Q
def BQ(d:SlR X r)(i:PE X e te)(f:PO X lo tl)(a:PO X hi th):PE X (.Subscript e (.Slice lo hi af p2) pos) (tSl r te tl th):=by intro J s D H Q I h;refine Subscript_ (thn (i J s D H _ I h) λv U M=>?_);obtain⟨x,o,n,V,Y⟩:=M;refine wpAny_Slice (thn (f J U D o _ n Y) λvl s2 ⟨l,H2,I2,pl,q2⟩=>thn (a J s2 D H2 _ I2 q2) λL B M=>?_);obtain⟨u,O,m,Z,W⟩:=M;rw[aaL];refine av ?_;have k:Inv X J D O {B with heap:=B.heap.push {cls:=.type "slice",data:=.fields #[vl,L,.none]} }:=m.aJ (t':=B.toks) λb ob q=>UO _ q;obtain⟨T,id,j,c,g⟩:=d J {B with heap:=B.heap.push {cls:=.type "slice",data:=.fields #[vl,L,.none]} } D O x v vl L l u B.heap.objs.size Q k V (Zg ..) pl Z W;show ay (Vb X.prog X.w) X.A (aaG e (.Slice lo hi af p2) v (.ref B.heap.objs.size)) (EP X J D Q) X.xe {B with heap:=B.heap.push {cls:=.type "slice",data:=.fields #[vl,L,.none]} };exact aaF (ops:=[.ref B.heap.objs.size,v]) c j g (by with_unfolding_all rfl)
def uW(xs:List V)(lo hi:Option Int):List V:=(xs.drop (HT.sIx xs.length 0 lo)).take (HT.sIx xs.length xs.length hi-HT.sIx xs.length 0 lo)
def nL(xs:List V)(lo hi:Option Int):(uW xs lo hi).length<=xs.length:=by unfold uW;rw[X4,List.length_drop];lia
def Rk(K:UM):V->Option Int->Option Int->Hp->VK->Prop:=λx lo B H Q=>∃a q,x=.ref a/\SqT K H a q ∧
 ¬(HT.sIx q.length 0 lo=0/\HT.sIx q.length q.length B=q.length)/\∀p,H p=af->Q (.ref p) (upd H p (.aE (uW q lo B)))
def JU:SlR X (Rk X.K):=by
 intro d s c H x v f e lo L g Q I U Z W V h;obtain⟨a,D,rfl,Y,hw,q⟩:=h;cases U;obtain⟨J,r,O,M⟩:=I.tuple Y;have B:J.toArray.size=D.length:=by rw[US];exact r.length.symm
 refine⟨"tuple",_,PyProof.Rows.slot_tuple_getitem.lookup,O.typeIs,?_⟩;refine HT.lV O Z W V (by rw[B];exact hw) ?_ (by rw[B];exact M);rw[B];refine⟨.ref s.heap.objs.size,_,I.laid (t':=s.toks) (o:=.aE (uW D lo L)) (λb ob q=>UO _ q) (UT _) ?_,rfl,q _ (I.aL.fresh (UT _))⟩;exact⟨Vp (nL D lo L) M,_,(r.drop (HT.sIx D.length 0 lo)).take (HT.sIx D.length D.length L-HT.sIx D.length 0 lo),IsTup.new _ _⟩
def NY(K:UM):R2:=λx y H Q=>∃a b B q,x=.ref a/\y=.ref b/\SqT K H a B/\SqT K H b q/\B≠[]/\B.length+q.length<=aj ∧
 (q=[]->Q (.ref a) H)/\(q≠[]->∀p,H p=af->Q (.ref p) (upd H p (.aE (B++q))))
def dF.lW(r:dF xs us):us=[]↔xs=[]:=by
 cases r with
 |_=>simp
def FG:OpR X (Wo .Add) (NY X.K):=by intro i s g H x y v u Q I V U h;obtain⟨a,b,O,M,rfl,rfl,f,e,d,L,Y,W⟩:=h;cases V;cases U;obtain⟨c,D,Z,_⟩:=I.tuple f;obtain⟨J,B,p2,_⟩:=I.tuple e;refine HT.FA Z p2 (λz=>d (D.lW.mp z)) (λz=>⟨.ref a,H,I,rfl,Y (B.lW.mp z)⟩) (λz=>?_) (by rw[←D.length,←B.length];exact L);refine⟨.ref s.heap.objs.size,_,I.laid (t':=s.toks) (o:=.aE (O++M)) (λb ob q=>UO _ q) (UT _) ?_,rfl,W (λw=>z (B.lW.mpr w)) _ (I.aL.fresh (UT _))⟩;exact⟨by rw[U9];exact L,_,D.append B,IsTup.new _ _⟩
end
end L2
namespace L2
open PySem PySem.Spec PyProof.Rows
noncomputable def ixN(n:Nat)(i:Int):Option Nat:=if 0<=i then(if i<n then aa i.toNat else af)else if -(n:Int)<=i then aa (i+n).toNat else af
def atI{q:Type}(xs:List q)(i:Int):Option q:=(ixN xs.length i).bind λj=>xs[j]?
def yt(h:ixN n i=aa j):seqIndex? i n=aa j/\j<n/\-(n:Int)<=i/\i<n:=by
 unfold ixN at h
 by_cases B:0<=i
 ·rw[bM B]at h
  by_cases q:i<n
  ·rw[bM q]at h;have e:i.toNat=j:=U3 h;exact⟨by rw[seqIndex_of B q,e],by lia,by lia,q⟩
  rw[bN q]at h;cases h
 ·rw[bN B]at h
  by_cases q:-(n:Int)<=i
  ·rw[bM q]at h;have e:(i+n).toNat=j:=U3 h;exact⟨by rw[seqIndex_neg (by lia) q,e],by lia,q,by lia⟩
  rw[bN q]at h;cases h
def sW{q:Type}{xs:List q}{v:q}(h:atI xs i=aa v):∃j,seqIndex? i xs.length=aa j/\xs[j]?=aa v/\j<xs.length/\-(xs.length:Int)<=i/\i<xs.length:=by
 unfold atI at h;cases e:ixN xs.length i with
 |none=>rw[e]at h;cases h
 |some j =>
  rw[e]at h;obtain⟨L,J,D,B⟩:=yt e;exact⟨j,L,h,J,D,B⟩
def yu(b:Ys):Prop:=∀o i,subscripted b ai o i=operate [o,i] (Zu o i)
def IxR(X:Cx)(r:R2):Prop :=
 ∀(q slice:Ys)(D:List (aB×aq)) (s:UR) (B:St) (H:Hp) (x y:V) (v u:aC) (Q:VK),Inv X D B H s->RelV x v->RelV y u->r x y H Q →
  subscripted slice ai v u=operate [v,u] (Zu v u)->ay (Vb X.prog X.w) X.A (aaG q slice v u) (EP X D B Q) X.xe s
def MtR(X:Cx)(id:String)(r:V->List V->Hp->VK->Prop):Prop :=
 ∀(B:List (aB×aq)) (s:UR) (q:St) (H:Hp) (x:V) (D:List V) (v:aC) (J:List aC) (Q:VK),Inv X B q H s->RelV x v->dF D J->r x D H Q →
  ay (Vb X.prog X.w) X.A (call (.builtin id) (v::J)) (EP X B q Q) X.xe s
section
variable{X:Cx}{a b:Ys}{ta tb:TE}{pos:Pos}
def IP(U:IxR X r)(W:PE X a ta)(V:PE X b tb)(O:yu b):PE X (.Subscript a b pos) (tOp r ta tb):=by intro D s B H Q I h;exact Subscript_ (JI W V I h λv u J x y Z Y M L q=>U a b D J B Z x y v u Q Y M L q (O _ _))
def Rl(K:UM):R2:=λx y H Q=>∃p q i v,x=.ref p/\y=.int i/\SqL K H p q/\atI q i=aa v/\Q v H
def Rn(K:UM):R2:=λx y H Q=>∃p q i v,x=.ref p/\y=.int i/\SqT K H p q/\atI q i=aa v/\Q v H
def Ro:R2:=λx y H Q=>∃z i c,x=.str z/\y=.int i/\z.length<=aj/\atI z.cps.toList i=aa c/\Q (.str ⟨#[c]⟩) H
def yv:IxR X (Rl X.K):=by
 intro D slice V s U H x y v u Q I c b h W;obtain⟨p,m,i,z,rfl,rfl,d,f,q⟩:=h;cases c;obtain⟨t,rfl⟩:=b;obtain⟨M,r,L,n⟩:=I.list d;obtain⟨j,B,l,o,k,g⟩:=sW f;obtain⟨w,Z,J⟩:=r.get l;have e:=r.length;have hn:=mX;have fin:EP X V U Q w s:=⟨z,H,I,J,q⟩
 by_cases Y:0<=i
 ·have O:i.toNat=j:=by rw[seqIndex_of Y g]at B;exact U3 B
  exact item_listR L.isList Y (by lia) (by rw[O];simpa using Z) fin W
 ·have O:(i+(M.toArray.size:Int)).toNat=j:=by rw[seqIndex_neg (by lia) k]at B;rw[US,←e];exact U3 B
  exact subscriptTail_builtinR (x:=w) L.isList.typeIs slot_list_getitem.lookup
   (wpAny_getItem_list_neg (Q:=λr a=>r=w/\EP X V U Q r a) L.isList (by lia) (by rw[US]<;>lia) (by lia) (by rw[O];simpa using Z) ⟨rfl,fin⟩) W
def wX:IxR X (Rn X.K):=by
 intro B slice L s J H x y v u Q I V U h Y;obtain⟨p,f,i,z,rfl,rfl,Z,b,q⟩:=h;cases V;obtain⟨t,rfl⟩:=U;obtain⟨W,r,M,g⟩:=I.tuple Z;obtain⟨j,d,c,m,l,k⟩:=sW b;obtain⟨w,e,D⟩:=r.get c;have a:=r.length;have hn:=mX;have fin:EP X L J Q w s:=⟨z,H,I,D,q⟩;exact subscriptTail_builtinR (x:=w) M.typeIs slot_tuple_getitem.lookup
  (getItem_tuple (j:=j) (Q:=λr O=>r=w/\EP X L J Q r O) M (by lia) (by lia) (by rw[US,←a];exact d) (by simpa using e) ⟨rfl,fin⟩) Y
def JV:IxR X Ro:=by
 intro B slice a s Z H x y v u Q I L J h M;obtain⟨z,i,c,rfl,rfl,d,U,q⟩:=h;obtain⟨t,rfl⟩:=L;obtain⟨b,rfl⟩:=J;obtain⟨j,D,Y,e,W,V⟩:=sW U;have O:z.cps.toList.length=z.length:=by simp[Str.length]
 rw[O] at D W V;have hn:=mX;exact aaF (typeIs_str s z t) slot_str_getitem.lookup (getItem_str (c:=c) (by
  have e1:decide (i < -(2 ^ 63:Int))=ai:=bQ (by lia);have e2:decide (i ≥ 2 ^ 63)=ai:=bQ (by lia);rw[e1,e2,YM]) (by rw[D];simpa using Y) ⟨.str ⟨#[c]⟩,H,I.tok _,⟨_,rfl⟩,q⟩) M
def wY(q:List aC)(n j:Nat)(u:aC):WQ (·.setIfInBounds j u) {cls:=.type "list",data:=.seq q.toArray n}={cls:=.type "list",data:=.seq (q.set j u).toArray n}:=by simp[WQ]
def Inv.aD{zt:List (aB×aq)}{σ:St}{H:Hp}{s:UR}{p:aB}{xs:List V}(I:Inv X zt σ H s)(h:H p=aa (.aD xs)):
 ∃(q:List aC) (n:Nat),dF xs q/\s.heap.get? p=aa {cls:=.type "list",data:=.seq q.toArray n}/\xs.length<=aj:=by
 obtain⟨z,q,n,r,e⟩:=I.aL p _ h;exact⟨q,n,r,e,z⟩
def Inv.JW{zt:List (aB×aq)}{σ:St}{H:Hp}{s:UR}{p:aB}{xs ys:List V}{B its':List aC}{n D:Nat}{f:aq->aq}(I:Inv X zt σ H s)(h:H p=aa (.aD xs))
(L:s.heap.get? p=aa {cls:=.type "list",data:=.seq B.toArray n})(J:f {cls:=.type "list",data:=.seq B.toArray n}={cls:=.type "list",data:=.seq its'.toArray D})(r:dF ys its')(hz:ys.length<=aj)(t:Nat):
 Inv X zt σ (upd H p (.aD ys)) {s with heap:=s.heap.update p f,toks:=t}:=by
 have e:(s.heap.update p f).get? p=aa {cls:=.type "list",data:=.seq its'.toArray D}:=by rw[Vr f L (by rw[J]<;>rfl),J]
 refine I.write (x:=p) (e:=p) (by rw[h];trivial) (.inl rfl) (λb u M q=>(VC _ _ (VN M)).trans q) ⟨_,e⟩ ?_;exact⟨hz,its',D,r,e⟩
def IQ:V->V->V->Hp->(Hp->Prop)->Prop:=λo i v H Q=>∃p q k j,o=.ref p/\i=.int k/\H p=aa (.aD q)/\ixN q.length k=aa j/\Q (upd H p (.aD (q.set j v)))
def set_list:JC X IQ:=by
 intro b s a H o i v m w u Q I e f d h;obtain⟨p,c,k,j,rfl,rfl,O,l,q⟩:=h;cases e;obtain⟨t,rfl⟩:=f;obtain⟨B,n,r,J,g⟩:=I.aD O;obtain⟨D,x,V,U⟩:=yt l;have L:=r.length;have hn:=mX;have Z:Inv X b a (upd H p (.aD (c.set j v))) {s with heap:=s.heap.update p (WQ (·.setIfInBounds j u))} :=
  I.JW O J (wY B n j u) (r.set d j) (by rw[List.length_set];exact g) s.toks
 by_cases Y:0<=k
 ·have M:k.toNat=j:=by rw[seqIndex_of Y U]at D;exact U3 D
  exact PySem.W.ki_setAt J Y (by lia) (by rw[US,←L];exact U) (by rw[M];exact⟨_,Z,q⟩)
 ·have M:(k+(B.toArray.size:Int)).toNat=j:=by rw[seqIndex_neg (by lia) V]at D;rw[US,←L];exact U3 D
  exact PySem.W.ki_setBack J (by lia) (by rw[US,←L];exact V) (by lia) (by rw[M];exact⟨_,Z,q⟩)
def sX(lo hi:Option Int)(n:Nat):(Vt lo hi af n).1=((HT.sIx n 0 lo:Nat):Int)/\(Vt lo hi af n).2.1=((HT.sIx n n hi:Nat):Int)/\(Vt lo hi af n).2.2=1:=by
 refine⟨?_,?_,rfl⟩
 ·cases lo with
  |none=>simp[Vt,HT.sIx]
  |some i =>
   simp only[Vt,HT.sIx,aaU,show(1:Int)>0 by decide,if_true]
   by_cases h:i<0
   simp only[h,if_true]<;>lia;simp only[h,if_false]<;>lia
 ·cases hi with
  |none=>simp[Vt,HT.sIx]
  |some i =>
   simp only[Vt,HT.sIx,aaU,show(1:Int)>0 by decide,if_true]
   by_cases h:i<0
   simp only[h,if_true]<;>lia;simp only[h,if_false]<;>lia
def qT(q:List aC)(lo hi:Option Int):slicePick q.toArray lo hi af=((q.drop (HT.sIx q.length 0 lo)).take (HT.sIx q.length q.length hi-HT.sIx q.length 0 lo)).toArray:=by obtain⟨J,D,B⟩:=sX lo hi q.toArray.size;unfold slicePick;rw[J,D,B];simp only[sliceRange_one,pick_run,US]<;>rfl
def Rp(K:UM):V->Option Int->Option Int->Hp->VK->Prop:=λx lo B H Q=>∃a q,x=.ref a/\SqL K H a q/\∀p,H p=af->Q (.ref p) (upd H p (.aD (uW q lo B)))
def FH:SlR X (Rp X.K):=by intro d s c H x v f e lo J g Q I M Z U O h;obtain⟨a,B,rfl,Y,q⟩:=h;cases M;obtain⟨V,r,L,W⟩:=I.list Y;have D:=r.length;refine⟨"list",_,slot_list_getitem.lookup,L.isList.typeIs,?_⟩;refine aax L.isList Z U O .none (by simp) ?_ (by rw[US]<;>lia);rw[qT,←D];refine⟨.ref s.heap.objs.size,_,I.laid (t':=s.toks) (o:=.aD (uW B lo J)) (λb ob q=>UO _ q) (UT _) ?_,rfl,q _ (I.aL.fresh (UT _))⟩;exact⟨Vp (nL B lo J) W,_,0,(r.drop (HT.sIx B.length 0 lo)).take (HT.sIx B.length B.length J-HT.sIx B.length 0 lo),UX _ rfl⟩
def lX:fF X (.builtin "len") (λxs H Q=>∃p ys,xs=[.ref p]/\(SqL X.K H p ys\/SqT X.K H p ys)/\Q (.int ys.length) H):=by
 intro W s V H xs Y Q I r h;obtain⟨p,ys,rfl,D,q⟩:=h;obtain⟨u,rfl,O⟩:=vals1 r;cases O;have hn:=mX;rcases D with D|D
 ·obtain⟨M,J,L,U⟩:=I.list D;have B:=J.length;exact Calls.call_len_list L.isList (by simp only[US]<;>lia) ⟨.int ys.length,H,I.tok _,⟨s.toks+1,by rw[US,B]⟩,q⟩
 ·obtain⟨M,J,L,U⟩:=I.tuple D;have B:=J.length;exact len_tuple L (by simp only[US]<;>lia) ⟨.int ys.length,H,I.tok _,⟨s.toks+1,by rw[US,B]⟩,q⟩
def sY:fF X (.builtin "len") (λxs H Q=>∃z,xs=[.str z]/\z.length<=aj/\Q (.int z.length) H):=by intro D s B H xs J Q I r h;obtain⟨z,rfl,L,q⟩:=h;obtain⟨u,rfl,t,rfl⟩:=vals1 r;have hn:=mX;exact len_str (by lia) ⟨.int z.length,H,I.tok _,⟨_,rfl⟩,q⟩
def lY:fF X (.type "list") (λxs H Q=>∃p ys,xs=[.ref p]/\(SqL X.K H p ys\/SqT X.K H p ys)/\∀l,H l=af->Q (.ref l) (upd H l (.aD ys))):=by
 intro f s d H xs i Q I r h;obtain⟨p,ys,rfl,U,q⟩:=h;obtain⟨u,rfl,g⟩:=vals1 r;cases g;have fin:∀(B:List aC),dF ys B->ys.length<=aj->∀(D:au)(L:Nat),(∀b c,s.heap.get? b=aa c->D.get? b=aa c) →
  D.get? s.heap.objs.size=aa {cls:=.type "list",dict:=af,data:=.seq B.toArray L,slots:=#[]}->EP X f d Q (.ref s.heap.objs.size) {s with heap:=D}:=λB J O D L M e =>
  ⟨.ref s.heap.objs.size,_,I.laid (t':=s.toks) M (UT _) (show gk X.prog X.w _ D _ (.aD ys) from⟨O,B,L,J,e⟩),rfl,q _ (I.aL.fresh (UT _))⟩
 rcases U with U|U
 ·obtain⟨B,J,W,O⟩:=I.list U;have V:=J.length;obtain⟨o,Y,a,n,Z⟩:=W.isList;exact call_list_seq p (.inl rfl) Y a Z (λD L M e=>fin B J O D L M e) (by simp only[US]<;>lia)
 ·obtain⟨B,J,W,O⟩:=I.tuple U;have V:=J.length;obtain⟨o,Y,a,n,Z⟩:=W;exact call_list_seq p (.inr rfl) Y a Z (λD L M e=>fin B J O D L M e) (by simp only[US]<;>lia)
def k8:fF X (.type "tuple") (λxs H Q=>∃p ys,xs=[.ref p]/\((SqL X.K H p ys/\∀l,H l=af->Q (.ref l) (upd H l (.aE ys)))\/(SqT X.K H p ys/\Q (.ref p) H))):=by
 intro U s O H xs d Q I r h;obtain⟨p,ys,rfl,h⟩:=h;obtain⟨u,rfl,Z⟩:=vals1 r;cases Z;rcases h with⟨M,q⟩|⟨M,q⟩
 ·obtain⟨B,J,L,V⟩:=I.list M;have W:=J.length;refine call_tuple_list L.isList (λD a=>?_) (by simp only[US]<;>lia);have Y:Inv X U O H {s with heap:=D}:=I.aJ (t':=s.toks) a;have c:Inv X U O (upd H D.objs.size (.aE ys)) {s with heap:=D.push {cls:=.type "tuple",data:=.seq B.toArray} } :=
   Y.laid (t':=s.toks) (λb o e=>UO _ e) (UT _) (show gk X.prog X.w _ _ _ (.aE ys) from⟨V,B,J,IsTup.new _ _⟩)
  exact⟨.ref D.objs.size,_,c,rfl,q _ (Y.aL.fresh (UT _))⟩
 ·obtain⟨B,J,L,V⟩:=I.tuple M;exact call_tuple_same L ⟨.ref p,H,I,rfl,q⟩
def tyV(K:UM)(T:String)(x:V)(H:Hp):Prop:=match x with
 |.str _=>T="str"|.int _=>T="int"|.ref p=>(T="list"/\∃B,SqL K H p B)\/(T="tuple"/\∃o,K.lookup p=aa o/\o.cls=.type "tuple"/\o.dict=af) ∨
  (T="dict"/\((∃q,H p=aa (.dK q))\/∃q,H p=aa (.dT q)))\/(T="set"/\∃S n,H p=aa (.set S n))
 |_=>False
def BU(I:Inv X zt σ H s)(r:RelV x v)(ty:tyV X.K T x H):
 s.TypeIs v T/\∀a,v=.ref a->∃ob,s.heap.get? a=aa ob/\ob.dict=af:=by
 cases x with
 |str z =>
  obtain⟨t,rfl⟩:=r;cases (show T="str" from ty);exact⟨typeIs_str s z t,λ_ e=>nomatch e⟩
 |int i =>
  obtain⟨t,rfl⟩:=r;cases (show T="int" from ty);exact⟨typeIs_int s i t,λ_ e=>nomatch e⟩
 |ref p =>
  cases r;rcases ty with⟨rfl,O,M⟩|⟨rfl,o,q,hc,D⟩|⟨rfl,q⟩|⟨rfl,S,n,q⟩
  ·obtain⟨L,_,J,_⟩:=I.list M;refine⟨J.isList.typeIs,λa e=>?_⟩;cases e;obtain⟨o,n,e,c,D,_⟩:=J;exact⟨o,e,D⟩
  ·refine⟨⟨o,I.kIn p o q,hc⟩,λa e=>?_⟩;cases e;exact⟨o,I.kIn _ o q,D⟩
  ·have z:∃o,s.heap.get? p=aa o/\o.ExactDict:=by
    rcases q with⟨B,q⟩|⟨B,q⟩
    ·obtain⟨_,_,_,_,o,_,_,e,ex,_⟩:=I.aL p _ q;exact⟨o,e,ex⟩
    ·obtain⟨_,_,_,_,o,_,_,e,ex,_⟩:=I.aL p _ q;exact⟨o,e,ex⟩
   obtain⟨o,e,ex⟩:=z;refine⟨⟨o,e,ex.1⟩,λa e2=>?_⟩;cases e2;exact⟨o,e,ex.2.1⟩
  ·obtain⟨o,_,_,_,e,ex,_⟩:=I.aL p _ q;refine⟨⟨o,e,ex.1⟩,λa e2=>?_⟩;cases e2;exact⟨o,e,ex.2.1⟩
 |_=>exact VE ty
def Rq(K:UM)(T:String)(r:V->List V->Hp->VK->Prop)(to:TE):TE:=fun B H Q=>to B H λx q=>tyV K T x q/\r x [] q Q
def tBM(K:UM)(T:String)(r:V->List V->Hp->VK->Prop)(to:TE)(t:TA):TE:=fun q H Q=>to q H λx B=>tyV K T x B/\t q B λD J=>r x D J Q
variable{o e:Ys}{es:List Ys}{to:TE}{t:TA}{name:aA}{apos cpos:Pos}{T id:String}{r:V->List V->Hp->VK->Prop}
def JX(Z:PlainAttrs T)(D:Slot T name id)(J:typeOf (.builtin id)=pure (.type "method_descriptor"))(b:MtR X id r)(a:PE X o to)
(B:Yj o name X.env (eval o X.env)=eval o X.env:=by rfl)(q:(apos.endLine==cpos.line)=ah:=by rfl):PE X (.Call (.Attribute o name apos) [] [] cpos) (Rq X.K T r to):=by
 intro M s L H Q I h;refine wpAny_Call_method0_late B q (thn (a M s L H _ I h) λv W V=>?_);obtain⟨x,e,U,O,ty,Y⟩:=V;obtain⟨d,c⟩:=BU U O ty;exact⟨T,id,Z,D,J,d,c,ZZ rfl (PySem.evalArgs_none (b M W L e x [] v [] Q U O .nil Y))⟩
def uX(d:PlainAttrs T)(J:Slot T name id)(U:typeOf (.builtin id)=pure (.type "method_descriptor"))(i:MtR X id r)(g:PE X o to)(j:PA X (e::es) t)
(D:Yj o name X.env (eval o X.env)=eval o X.env:=by rfl)
(L:((WU cpos (Vo (e::es) X.env)).all (λx=>!x.1)&&(Za cpos (XI [] X.env)).all (λx=>x.1.isSome)
 &&decide ((e::es).length+([]:List X6).length+(if ([]:List X6).isEmpty then 0 else 1) < 30))=ah:=by rfl)
(B:(apos.endLine==cpos.line)=ah:=by rfl)(f:Vo (e::es) X.env=(ai,eval e X.env)::Vo es X.env:=by rfl)(q:(WU cpos (Vo es X.env)).any (·.1)=ai:=by rfl):
 PE X (.Call (.Attribute o name apos) (e::es) [] cpos) (tBM X.K T r to t):=by
 intro O s M H Q I h;refine wpAny_Call_method_late D L B rfl (thn (g O s M H _ I h) λv b Z=>?_);obtain⟨x,m,Y,V,ty,c⟩:=Z;obtain⟨l,k⟩:=BU Y V ty;refine⟨T,id,d,J,U,l,k,?_⟩;have W:=j cpos O b M m _ Y c;rw[f]at W⊢;refine ZZ (by show(ai||(WU cpos (Vo es X.env)).any (·.1))=ai;rw[q]<;>rfl) (Calls.evalArgs_plain ?_);exact thn W λus s2 ⟨vs,H2,I2,r2,q2⟩=>i O s2 M H2 x vs v us Q I2 V r2 q2
/- xs.append(e),list.index on a module's tuple .. are MtR facts of 06m -/
end
end L2
namespace L2
open PySem PySem.Spec PyProof.Rows
def MtM(X:Cx)(id:String)(r:V->List V->Hp->VK->Prop):Prop :=
 ∀(B:List (aB×aq)) (s:UR) (q:St) (H:Hp) (x:V) (D:List V) (v:aC) (J:List aC) (Q:VK),Inv X B q H s->RelV x v->dF D J->r x D H Q →
  ay (Vb X.prog X.w) X.A (call (.builtin id) (v::J)) (EP X B q Q) X.xe s
def dF.one{x:V}{us:List aC}(h:dF [x] us):∃u,us=[u]/\RelV x u:=by cases h with|cons r t=>cases t;exact⟨_,rfl,r⟩
def dF.two{x y:V}{us:List aC}(h:dF [x,y] us):∃u v,us=[u,v]/\RelV x u/\RelV y v:=by cases h with|cons r t=>obtain⟨v,rfl,q⟩:=dF.one t;exact⟨_,v,rfl,r,q⟩
theorem dF.zero:∀{us:List aC},dF [] us->us=[]
 |_,.nil=>rfl
def dF.dropLast(h:dF xs us):dF xs.dropLast us.dropLast:=by
 induction h with
 |nil=>exact .nil
 |cons r t B =>
  cases t with
  |nil=>exact .nil|cons q D=>exact .cons r B
theorem dF.rep(h:dF xs us):∀k:Nat,dF (Vc k xs).flatten (Vc k us).flatten
 |0=>.nil
 |k+1=>by rw[V8,V8,WN,WN];exact dF.append h (dF.rep h k)
def wZ(l:List α):l.eraseIdx (l.length-1)=l.dropLast:=by
 induction l with
 |nil=>rfl
 |cons a r q =>
  cases r with
  |nil=>rfl
  |cons b r =>
   have e:(a::b::r).length-1=((b::r).length-1)+1:=by have D:(a::b::r).length=r.length+2:=rfl;have B:(b::r).length=r.length+1:=rfl;lia
   rw[e,List.eraseIdx_cons_succ,q]
   all_goals rfl
theorem foldl_rep(q:List aC):∀(k:Nat)(B:List aC),
 ZS (λJ D=>J++D) B.toArray (Vc k q.toArray)=(B++(Vc k q).flatten).toArray
 |0,B=>by simp
 |k+1,B=>by
  have e:B.toArray++q.toArray=(B++q).toArray:=by simp
  have e2:(B++q)++(Vc k q).flatten=B++(Vc (k+1) q).flatten:=by rw[V8,WN,Vv]
  rw[←e2,←foldl_rep q k (B++q),←e,V8,WJ]
section
variable{X:Cx}{zt:List (aB×aq)}{σ:St}{H:Hp}{s:UR}{l b:aB}{xs ys zs:List V}
def Inv.FI{B its':List aC}{n:Nat}{f:Array aC->Array aC}{t':Nat}(I:Inv X zt σ H s)(O:H l=aa (.aD xs))
(e:s.heap.get? l=aa {cls:=.type "list",data:=.seq B.toArray n})(L:f B.toArray=its'.toArray)(D:dF ys its')(hz:ys.length<=aj):
 Inv X zt σ (upd H l (.aD ys)) {s with heap:=s.heap.update l (WQ f),toks:=t'}:=by
 have q:=PySem.IsL.update e f;rw[L]at q;refine I.write (x:=l) (e:=l) (by rw[O];exact trivial) (.inl rfl) (λU u M J=>(VC s.heap (WQ f) (VN M)).trans J) ⟨_,q⟩ ?_;exact⟨hz,its',_,D,q⟩
def Inv.NZ(I:Inv X zt σ H s)(B:dF ys its)(hz:ys.length<=aj):
 Inv X zt σ (upd H s.heap.objs.size (.aD ys)) {s with heap:=s.heap.push {cls:=.type "list",data:=.seq its.toArray},toks:=t'} :=
 I.laid (λ_ _ q=>UO _ q) (UT _) ⟨hz,its,0,B,UX _ rfl⟩
def Inv.fresh(I:Inv X zt σ H s):H s.heap.objs.size=af:=I.aL.fresh (UT _)
def Inv.FJ(I:Inv X zt σ H s)(B:H l=aa (.aD xs)):xs.length<=aj/\∃(q:List aC) (n:Nat),dF xs q/\xs.length=q.length/\s.heap.get? l=aa {cls:=.type "list",data:=.seq q.toArray n}:=by obtain⟨z,q,n,r,e⟩:=I.aL l _ B;exact⟨z,q,n,r,r.length,e⟩
def pB(h:n<=aj):VZ n=ai:=by unfold VZ;exact bQ (by lia)
end
section
variable{X:Cx}
def FM:V->List V->Hp->VK->Prop:=λx B H Q=>∃l q y,x=.ref l/\B=[y]/\H l=aa (.aD q)/\q.length<aj/\Q .aF (upd H l (.aD (q++[y])))
def rO:MtM X "list.append" FM:=by intro U s O H x W v Y Q I J L h;obtain⟨l,V,y,rfl,rfl,D,Z,q⟩:=h;cases J;obtain⟨u,rfl,M⟩:=L.one;obtain⟨z,B,n,r,a,e⟩:=I.FJ D;refine Xc F.slot_list_append ⟨_,e,rfl⟩ F.entry_list_append (F.args_list_append_2 _ _) (PySem.list_append l B.toArray n u (by rw[US];lia)) ⟨e,?_⟩;refine⟨.aF,_,I.FI (its':=B++[u]) D e (by simp) (r.append (.cons M .nil)) ?_,rfl,q⟩;rw[U9,Vy];lia
def Rr:V->List V->Hp->VK->Prop:=λx B H Q=>∃l q y,x=.ref l/\B=[]/\H l=aa (.aD q)/\q[q.length-1]?=aa y/\Q y (upd H l (.aD q.dropLast))
def JY:MtM X "list.pop" Rr:=by
 intro a s Z H x c v d Q I M O h;obtain⟨l,b,y,rfl,rfl,L,V,q⟩:=h;cases M;have J:=O.zero;subst J;obtain⟨z,B,n,r,Y,e⟩:=I.FJ L;obtain⟨u,W,U⟩:=r.get V;have D:B.toArray[B.toArray.size-1]?=aa u:=by show B.toArray[B.length-1]?=aa u;rw[←aaf,←Y];exact W
 refine Xc F.slot_list_pop ⟨_,e,rfl⟩ F.entry_list_pop (F.args_list_pop_1 _) (MeetsSeq.list_pop_last l B.toArray n u D (by rw[US];lia)) ⟨e,?_⟩;refine⟨y,_,I.FI (its':=B.dropLast) L e ?_ r.dropLast ?_,U,q⟩
 ·show B.toArray.eraseIdxIfInBounds (B.toArray.size-1)=B.dropLast.toArray;rw[US,List.eraseIdxIfInBounds_toArray,wZ]
 ·rw[List.length_dropLast];lia
def len_rep(xs:List α)(k:Nat):(Vc k xs).flatten.length=k*xs.length:=by
 induction k with
 |zero=>simp|succ k q=>rw[V8,WN,U9,q,Nat.succ_mul,Nat.add_comm]
end
section
variable{prog:U4}{w:Vl}{A:VU}{E:aC->UR->Prop}{s:UR}
set_option maxRecDepth 100000 in
end
section
variable{X:Cx}
end
end L2
namespace Att
open PySem PySem.W PySem.Calls PyProof.Rows
def n9:∀(ns:List Int)(vs:List aC),WellAll P h vs (ns.map WData.int)->XQ vs ns:=by
 intro ns
 induction ns with
 |nil =>
  intro vs w;rw[Wk]at w;cases w;exact .nil
 |cons n ns q =>
  intro vs w;rw[U8]at w;cases w with
  |cons a b =>
   cases a;exact .cons _ _ (q _ b)
def Ac{l:OpenLaw}{n:Nat}(hn:l.most=aa n){P:Params}{h:au}{args:List WData}{vals:List aC}
(B:l.row.toRowW.claim.pre args=ah)(O:WellAll P h vals args):
 ∃a vs ns,vals=[VQ a]/\args=[WData.list (ns.map WData.int)]/\h.get? a=aa {cls:=.type "list",data:=.seq vs.toArray}/\XQ vs ns/\ns.length<=n:=by
 have U:WShape.hasAll [] args [.list .int]=ah:=(pre_splitW B).1;have V:l.pre.holds [] {args:=args}=ah:=(pre_splitW B).2;obtain⟨d,r,rfl,f,e⟩:=hasAllW_cons U;obtain rfl:=hasAllW_nil e;obtain⟨g,rfl,c⟩:=hasW_list f;obtain⟨ns,rfl⟩:=items_int c;have D:ns.length<=n:=by
  unfold OpenLaw.pre at V;have M:(WTm.not (.lt (.lit (.int (n:Int))) (.len (.arg 0)))).holds [] {args:=[.list (ns.map .int)]}=ah:=by have M:=(holds_andW V).1;rw[hn]at M;exact M
  have L:=condW_of M (w_not (w_lt w_lit (w_len_list (w_arg rfl))));rw[U0]at L;refine Nat.le_of_not_lt λq=>?_;have Z:(n:Int)<((ns.length:Nat):Int):=by lia
  first
   |(rw[bR Z]at L;exact bO L (by decide))
   |(simp at L;lia)
 cases O with
 |cons Y W =>
  cases W;cases Y with
  |list b J=>exact⟨_,_,ns,rfl,rfl,b,n9 ns _ J,D⟩
def Ad(l:OpenLaw)(args:List WData):l.row.toRowW.claim.post args (.bool ah) args=ah :=
 postW_of (r:=l.row.toRowW) (X:=(ah==ah))
  (show WShape.has [] (.bool ah) .bool=ah by first|rfl|decide|simp[WShape.has,WShape.arms,WShape.armsAll])
  (show(WTm.eq .res (.lit (.bool ah))).value [] {args:=args,res:=aa (.bool ah),after:=args}=aa (.bool (ah==ah)) from w_eq_bool (w_res rfl) w_lit) rfl
def uY{l:OpenLaw}{n:Nat}{q:U4}{loose:List aA}{XP:(aA->Option aC)->au->Prop}{YP:Vl->au->Prop}{d:DefRec}
(hn:l.most=aa n)(b:d.params.defaults=[])
(call:∀ (w:Vl) (s₀ B:UR) (mg V:aA->Option aC) (O:aB) (o:aq) (pm U doc:aC) (a:aB) (vs:List aC) (ns:List Int),
  Ground q loose [] XP w s₀ mg V B.heap->YP w B.heap →
  B.heap.get? O=aa o->o.data=.func (docDef d.name d.params d.body d.scope pm U doc)->B.heap.CodeRec U d.name->mg d.name=aa (.ref O) →
  B.heap.get? a=aa {cls:=.type "list",data:=.seq vs.toArray}->XQ vs ns->ns.length<=n->B.gens=#[] →
  ak (Vb l.prog w) aaN (.call (.ref O) ⟨[.ref a],[]⟩) (λr s'=>r=.ok (.ret (.bool ah))/\OldK B.heap s'.heap/\s'.os=B.os/\ZG s'.gens) B):
 WalkO q loose XP YP l.row.toRowW d [] (λf vs=>aaQ f vs):=by
 intro w s₀ B mg V G Y O o pm U doc y kV k t c g Z s h vals z J e i W p;obtain rfl:y=.none:=Dflts.none g b;obtain rfl:kV=.none:=Dflts.noKw g;obtain⟨a,vs,ns,rfl,rfl,L,D,M⟩:=Ac hn J W;refine enter_call (codeAny_mono (call w s₀ B mg V O o pm U doc a vs ns G Y k (fd_plain t) c Z L D M s) λr s' j=>?_);obtain⟨rfl,x,v,u⟩:=j;exact⟨.inl ⟨.bool ah,.bool ah,[],rfl,λ_=>rfl,.bool ah,Ad l _,λ_=>⟨List.Pairwise.nil,λ_ m=>(nomatch m)⟩⟩,x,v,u⟩
section
variable{prog:U4}{w:Vl}{A:VU}{E:aC->UR->Prop}{s:UR}{K:Frag}
noncomputable def ledger(h:au)(L d:aB):List (aB×aq):=(Vj h.objs.size).filterMap λa=>if a=L\/a=d then af else(h.get? a).map λo=>(a,o)
end
end Att
namespace L2
open PySem PySem.Spec PyProof.Rows
theorem kJ:∀{vs:List aC}{ns:List Int},XQ vs ns->dF (ns.map V.int) vs
 |_,_,.nil=>.nil|_,_,.cons n t h=>.cons ⟨t,rfl⟩ (kJ h)
end L2
namespace L2
open PySem PySem.Spec PyProof.Rows
noncomputable abbrev KOf{K:UM}{h:au}(_:K.In h):UM:=K
end L2
/- THE LAST THEOREM (shape;LID,My.* are yours):
 My.Adr: a structure of the addresses that your layer names (classes,functions);My.Txt K t: a structure (Prop) of the equations over K;
 My.txt_mk:{K}{implicit addresses ..} (e1:nsIn K U6 "law"=aa (aa (.ref f))) (e2:K.lookup f=aa ⟨oc,od,.func (fnOf "law" "law" params body scope dV kV doc pm an cdv ct),sl⟩) (e3:codeIn K cdv "law"=ah) ..:∃t,My.Txt K t
set_option maxRecDepth 100000 in
set_option maxHeartbeats 0 in
def PySem.Challenge.FN:PySem.Challenge.rw_LID.Holds:=by
 w_on;o_law;k_head;(case hw=>w_witness2)
 k_fill
 refine L2.walk_of (l:=PySem.Challenge.rw_LID) (n:=63) (k:=40) (x:="script") (CX:=λw=>..) (sp:=λ_=>My.EX) rfl (by decide) rfl ⟨rfl,by decide,by decide⟩ (λw h Y=>PySem.W.kIn_of Y) ?F ?S ?C
 case F =>
  intro w c U h O G M;have T:∃t,My.Txt (L2.KOf O) t:=by
   dsimp only[L2.KOf] -- K must stand as «<heap const> w.params» for k_is;refine' My.txt_mk ?e1 ?e2 ?e3 ..
   (case e1=>PySem.W.k_is) -- in q order: a name->its address->its object->its parts
   (case e2=>PySem.W.k_is)
   ..
  obtain⟨t,T⟩:=T;have V:=M.symm.trans (WE O G T.law);cases V -- U is q law's own address;exact⟨_,λs u=>.of_eq rfl,λB L J=>My.law_fn T L J⟩ -- if «.of_eq rfl» comes too early: refine' ⟨_,?b,λB L J=>My.law_fn T L J⟩;exact λs u=>.of_eq rfl
 case S=>exact λw H a Z d f e=>..
 case C=>exact ..
(q D k_is has no namespace: write k_is) -/
namespace L2
open PySem PySem.Spec PyProof.Rows
abbrev CX0:CXT:=λ_ _ _ _ _ _=>False
abbrev E0:XK:=λ_ _ _=>False
def pC:jw CX0 X E0:=λ_ _ _ _ _ _ _ h=>h.elim
inductive N1(K:UM)(x qual:aA)(st:Zk)(f:aB)(fd:Wq):Prop
 |mk(q:aC)(B:Option aB)(kV doc pm:aC)(an:Option aB)(cdv ct:aC)(osl:Array (Option aC))(h1:fd=Wb x qual (gx st) (dU st) (dB st) .none kV doc pm an cdv ct)(h2:K.lookup f=aa ⟨q,B,.func fd,osl⟩)(D:Yd K cdv qual=ah):N1 K x qual st f fd
structure Fun(K:UM)(x qual:aA)(st:Zk)(f:aB)(fd:Wq):Prop where
 ex:N1 K x qual st f fd
 kp:VY K (.ref f)=ah
section
variable{P:U4}{w:Vl}{K:UM}{mg:aA->Option aC}{base:au}
def Fun.binds{x qual:aA}{st:Zk}{f:aB}{fd:Wq}{ps:List aA}(F:Fun K x qual st f fd)
(h:∀(kV doc pm:aC)(an:Option aB)(cdv ct:aC)(us:List aC),us.length=ps.length->ZV (Wb x qual (gx st) (dU st) (dB st) .none kV doc pm an cdv ct) ⟨us,[]⟩=pure (ps.zip us)):Binds K fd ps []:=by
 obtain⟨D,B,kV,doc,pm,an,cdv,ct,osl,rfl,J,q⟩:=F.ex;exact .all (h kV doc pm an cdv ct)
def JZ{x qual:aA}{st:Zk}{f:aB}{B:aC}{q an:Option aB}{osl:Array (Option aC)}{kV doc pm cdv ct:aC}(l:K.lookup f=aa ⟨B,q,.func (Wb x qual (gx st) (dU st) (dB st) .none kV doc pm an cdv ct),osl⟩)
(c:Yd K cdv qual=ah)(k:VY K (.ref f)=ah):Fun K x qual st f (Wb x qual (gx st) (dU st) (dB st) .none kV doc pm an cdv ct):=⟨⟨B,q,kV,doc,pm,an,cdv,ct,osl,rfl,l,c⟩,k⟩
end
def Ae(h:n<=1000):n<aj:=XD h (by decide)
section
variable{X:Cx}
end
end L2
end
section
namespace L2
open PySem PySem.Spec PyProof.Rows
section
variable{κ:Type}[DecidableEq κ]
noncomputable def uZ(kvs:List (κ×V))(k:κ):Option V:=(kvs.find? λq=>decide (q.1=k)).map (·.2)
noncomputable def putK(kvs:List (κ×V))(k:κ)(v:V):List (κ×V) :=
 if(kvs.any λq=>decide (q.1=k))=ah then kvs.map (λq=>if q.1=k then(q.1,v)else q)else kvs++[(k,v)]
def u0{p:κ×V}{r:List (κ×V)}{k:κ}(e:p.1=k):uZ (p::r) k=aa p.2:=by simp[uZ,Xa,e]
def u5{p:κ×V}{r:List (κ×V)}{k:κ}(e:¬p.1=k):uZ (p::r) k=uZ r k:=by simp[uZ,Xa,e]
def nM(kvs:List (κ×V))(k:κ)(v:V):(putK kvs k v).length<=kvs.length+1:=by unfold putK;split;rw[U0];lia;rw[U9,Va,Wa];lia
def KV.val{kvs:List (κ×V)}{vs:List (κ×aC)}(r:KV kvs vs)(k:κ):o4 (uZ kvs k) (valueAt vs k):=by
 unfold KV at r
 induction r with
 |nil=>exact True.intro
 |@cons p q O B h t L =>
  obtain⟨J,M⟩:=h
  by_cases e:p.1=k
  ·have D:q.1=k:=J.symm.trans e;have b:valueAt (q::B) k=aa q.2:=by simp[valueAt,Xa,D]
   rw[u0 e,b];exact M
  ·have D:¬q.1=k:=λz=>e (J.trans z);have b:valueAt (q::B) k=valueAt B k:=by simp[valueAt,Xa,D]
   rw[u5 e,b];exact L
def KV.any(r:KV kvs vs)(k:κ):(kvs.any λq=>decide (q.1=k))=vs.any λq=>decide (q.1=k):=by
 unfold KV at r
 induction r with
 |nil=>rfl|cons h t B=>rw[Xs,Xs,B,h.1]
def KV.repl(r:KV kvs vs)(k:κ)(J:RelV y u):
 KV (kvs.map λB=>if B.1=k then(B.1,y)else B) (vs.map λB=>if B.1=k then(B.1,u)else B):=by
 unfold KV at r⊢
 induction r with
 |nil=>exact .nil
 |@cons p q U O h t L =>
  rw[U8,U8];refine .cons ?_ L;obtain⟨D,M⟩:=h
  by_cases e:p.1=k
  rw[bM e,bM (D.symm.trans e)];exact⟨D,J⟩;rw[bN e,bN (λz=>e (D.trans z))];exact⟨D,M⟩
def KV.put(r:KV kvs vs)(k:κ)(q:RelV y u):KV (putK kvs k y) (stored vs k u):=by
 unfold putK stored;rw[r.any k]
 by_cases e:(vs.any λB=>decide (B.1=k))=ah
 rw[bM e,bM e];exact r.repl k q;rw[bN e,bN e];exact Paired.snoc r ⟨rfl,q⟩
def KV.length(r:KV kvs vs):kvs.length=vs.length:=Paired.length r
end
def pF(r:RelV (kV k) u):(dI P w).is k u=ah:=by
 cases k with
 |inl i=>obtain⟨t,e⟩:=(show ∃t,u=Xw i t from r);subst e;exact uM P w i t|inr x=>obtain⟨t,e⟩:=(show ∃t,u=Z7 x t from r);subst e;exact iY P w x t
section
variable{P:U4}{w:Vl}{H:Hp}{h:au}{a:aB}
def N2(ok:HOk P w H h)(e:Rd H a u):gk P w H h a u:=e.ok ok
def BV(ok:HOk P w H h)(e:Rd H a (.dK kvs)):kvs.length<=aj/\(a==Wt)=ai/\∃vs,KV kvs vs/\h.DictOf (dI P w) a vs :=
 show gk P w H h a (.dK kvs) from N2 ok e
def yw(ok:HOk P w H h)(e:H a=aa (.dK kvs)):kvs.length<=aj/\(a==Wt)=ai/\∃vs,KV kvs vs/\h.DictOf (dI P w) a vs:=BV ok (.inl e)
end
section
variable{X:Cx}{zt:List (aB×aq)}{σ:St}{H:Hp}{s:UR}{a:aB}{y v:V}{u r:aC}{o:Option V}{A:VU}{E:aC->UR->Prop}
def Inv.big(I:Inv X zt σ H s):Wt<s.heap.objs.size:=by have h:U6<s.heap.objs.size:=(I.mod.glob.keeps I.bk).lt;exact Y5 (by decide) h
def sZ(I:Inv X zt σ H s)(mu:Mut (H a))(B:VT a s.heap h')(D:∃q,h'.get? a=aa q)(new:gk X.prog X.w (upd H a ob) h' a ob):
 Inv X zt σ (upd H a ob) {s with heap:=h',toks:=t'} :=
 I.write (x:=a) (e:=a) mu (.inl rfl) (λb q J z=>(B.2 b J).trans z) D new
def w5(z:kvs.length<=aj)(B:(a==Wt)=ai)(q:KV kvs vs)(dd:h'.DictOf (dI P w) a vs):
 gk P w H' h' a (.dK kvs):=⟨z,B,vs,q,dd⟩
end
def BW(h:au)(q:Wt<h.objs.size):gk P w H (h.push {cls:=.type "dict",data:=.dict #[]}) h.objs.size (.dK []) :=
 ⟨VL _,beq_eq_false_iff_ne.mpr (VN (Vi q)),[],.nil,Heap.DictOf.new h⟩
end L2
end
section
namespace BT
open PySem PySem.W PyProof.Rows
noncomputable def Ends{q:Type}(n:Nat)(P:q->Prop):KasT q->Prop
 |.ret a=>P a|.ask i j k=>i<n/\j<n/\∀b,Ends n P (k b)
end BT
end
section
namespace BS
open PySem PySem.W PySem.Spec PyProof.Rows
section
variable{E:aC->UR->Prop}
end
end BS
end
section
namespace BX
open PySem PyProof.Rows
def Ri(xs:Array Nat):Prop:=∀i j a b:Nat,i<j->xs[i]?=aa a->xs[j]?=aa b->a<b
def BY(h:Ri xs)(j:Nat):∀(q lo hi:Nat),lo<=hi->hi<=xs.size->hi-lo<=q->(∀i a,i<lo->xs[i]?=aa a->a<j)->(∀i a,hi<=i->xs[i]?=aa a->j<=a) →
 (∀i a,i<SetTable.below.go xs j q lo hi->xs[i]?=aa a->a<j)/\(∀i a,SetTable.below.go xs j q lo hi<=i->xs[i]?=aa a->j<=a)/\SetTable.below.go xs j q lo hi<=xs.size:=by
 intro q
 induction q with
 |zero =>
  intro lo hi Y L W J D;have:lo=hi:=by lia
  subst this;exact⟨J,D,L⟩
 |succ q U =>
  intro lo hi Y L W J D
  by_cases c:lo<hi
  ·have V:(lo+hi)/2<xs.size:=by lia
   have M:xs[(lo+hi)/2]?=aa xs[(lo+hi)/2]:=VA V;have Z:xs.getD ((lo+hi)/2) j=xs[(lo+hi)/2]:=by simp[Array.getD,V]
   have e:SetTable.below.go xs j (q+1) lo hi=if xs.getD ((lo+hi)/2) j<j then SetTable.below.go xs j q ((lo+hi)/2+1) hi else SetTable.below.go xs j q lo ((lo+hi)/2):=by show(if lo<hi then _ else lo)=_;rw[bM c]
   rw[e,Z]
   by_cases d:xs[(lo+hi)/2]<j
   ·rw[bM d];refine U _ _ (by lia) L (by lia) (λi a O B=>?_) D;rcases Vd i ((lo+hi)/2)with z|z
    have:=h i _ a _ z B M;lia
    ·have:i=(lo+hi)/2:=by lia
     subst this;rw[M]at B;cases B;exact d
   ·rw[bN d];refine U _ _ (by lia) (by lia) (by lia) J (λi a O B=>?_);rcases Vd ((lo+hi)/2) i with z|z
    have:=h _ i _ a z M B;lia
    ·have:i=(lo+hi)/2:=by lia
     subst this;rw[M]at B;cases B;lia
  ·have e:SetTable.below.go xs j (q+1) lo hi=lo:=by show(if lo<hi then _ else lo)=_;rw[bN c]
   have:lo=hi:=by lia
   subst this;rw[e];exact⟨J,D,L⟩
def lD(h:Ri xs)(j:Nat):(∀i a,i<SetTable.below xs j->xs[i]?=aa a->a<j)/\(∀i a,SetTable.below xs j<=i->xs[i]?=aa a->j<=a)/\SetTable.below xs j<=xs.size :=
 BY h j xs.size 0 xs.size (VL _) (UT _) (by lia) (λi a z=>bO z (Yo _)) (λi a z e=>by have:xs[i]?=af:=VX z;rw[this]at e;cases e)
def lT(xs:Array α)(B:p<=xs.size)(x:α)(i:Nat):(SetTable.insertAt xs p x)[i]?=if i<p then xs[i]? else if i=p then aa x else xs[i-1]?:=by
 unfold SetTable.insertAt;have q:((xs.extract 0 p).push x).size=p+1:=by simp;lia
 by_cases c:i<p
 ·rw[bM c,Zs (by lia),aaw,bN (by simp;lia),Z0];simp;lia
 ·rw[bN c]
  by_cases d:i=p
  ·subst d;rw[bM rfl,Zs (by lia),aaw,bM (by simp;lia)]
  ·rw[bN d,Array.getElem?_append_right (by lia),q,Z0];simp;split;congr 1;lia
   ·rename_i z
    symm
    exact VX (by lia)
def J0(h:Ri xs)(hn:xs[SetTable.below xs j]?≠aa j):Ri (SetTable.insertAt xs (SetTable.below xs j) j):=by
 obtain⟨Y,W,f⟩:=lD h j;intro i k a b L B D;rw[lT xs f]at B D;generalize SetTable.below xs j=p at *;have d:∀i a,p<=i->xs[i]?=aa a->j<a:=λi a Z e=>by
  have:=W i a Z e;rcases Vd j a with z|z
  exact z
  ·have:a=j:=by lia
   subst this;rcases Vd p i with q|q
   ·cases J:xs[p]? with
    |none =>
     have:xs.size<=p:=by
      rcases Vd p xs.size with w|w
      rw[VA w]at J;cases J;exact w
     rw[VX (by lia)]at e;cases e
    |some y =>
     have l:=h p i y a q J e;have g:=W p y (UT _) J;lia
   ·have:i=p:=by lia
    subst this;exact bO e hn
 by_cases V:k<p
 ·rw[bM V]at D;rw[bM (by lia)]at B;exact h i k a b L B D
 ·rw[bN V]at D
  by_cases U:k=p
  ·rw[bM U]at D;cases D;rw[bM (by lia)]at B;exact Y i a (by lia) B
  ·rw[bN U]at D;have c:=d (k-1) b (by lia) D
   by_cases M:i<p
   ·rw[bM M]at B;have:=Y i a M B;lia
   ·rw[bN M]at B
    by_cases O:i=p
    rw[bM O]at B;cases B;exact c
    ·rw[bN O]at B;exact h (i-1) (k-1) a b (by lia) B D
def BZ(n:Nat):Ri (Array.range n):=by
 intro i j a b D B q;rw[Array.getElem?_range]at B q;split at B
 ·split at q;cases B;cases q;exact D;cases q
 cases B
def FO{l:List Nat}(h:l.Pairwise (· < ·)):Ri l.toArray:=by intro i j a b q D B;simp only[aaj]at D B;obtain⟨L,rfl⟩:=List.getElem?_eq_some_iff.mp D;obtain⟨J,rfl⟩:=List.getElem?_eq_some_iff.mp B;exact List.pairwise_iff_getElem.mp h i j L J q
structure Tb(bt:Bool)(t:SetTable):Prop where
 led:t.led=!bt
 ri:Ri t.place
def B0(bt:Bool):Tb bt (SetTable.fresh 0 0 (!bt)):=⟨rfl,λi j a b _ e=>by simp[SetTable.fresh]at e⟩
def lZ(h:Tb bt t)(n:Nat):Tb bt (SetTable.standIn t n):=⟨h.led,BZ n⟩
def Fre(t:SetTable)(j:Nat):Prop:=t.place[SetTable.below t.place j]?≠aa j
def u6(h:t.slot j=.empty\/t.slot j=.dummy):Fre t j:=by
 intro z;have e:t.slot j=.live (SetTable.below t.place j):=by unfold SetTable.slot;simp[z]
 rw[e]at h;rcases h with h|h<;>cases h
def B3(t:SetTable)(g:Nat->Int)(h:Int):∀(B:Nat)(p:SetTable.Probe)(j:Nat)(d:Option Nat),(∀x,p.dummy=aa x->Fre t x)->SetTable.probe.go t g h B p=aa (.empty j d)->Fre t j/\∀x,d=aa x->Fre t x:=by
 intro B
 induction B with
 |zero=>intro p j d _ e;cases e
 |succ B L =>
  intro p j d M e;have O:SetTable.probe.go t g h (B+1) p=(match t.slot p.j with
   |.empty=>aa (.empty p.j p.dummy)|.dummy=>SetTable.probe.go t g h B (SetTable.advance t {p with dummy:=aa p.j})
   | .live i=>if (g i==h)=ah then aa (.candidate p.j i (SetTable.advance t p)) else SetTable.probe.go t g h B (SetTable.advance t p)):=rfl
  rw[O]at e;have J:∀q:SetTable.Probe,(SetTable.advance t q).dummy=q.dummy:=λq=>by unfold SetTable.advance;split<;>rfl
  cases s:t.slot p.j with
  |empty =>
   rw[s]at e;cases e;exact⟨u6 (.inl s),M⟩
  |dummy =>
   rw[s]at e;exact L _ j d (λx D=>by rw[J]at D;cases D;exact u6 (.inr s)) e
  |live i =>
   rw[s]at e;simp only at e;split at e;cases e;exact L _ j d (λx D=>by rw[J]at D;exact M x D) e
def B4(e:SetTable.freeSlot t h=aa (j,b)):Fre t j:=by
 unfold SetTable.freeSlot at e;split at e
 ·rename_i q d D;cases e;obtain⟨L,J⟩:=B3 t _ h _ _ q d (λx B=>by simp[SetTable.probeStart]at B) D;cases d with
  |none=>exact L|some x=>exact J x rfl
 cases e
def J1(h:Tb bt t)(es:Array (Int×aC))(k:Int)(x:aC):Tb bt (layNew t es k x).2.1:=by
 unfold layNew;split
 ·rename_i q J e;have D:=B4 e;have B:Tb bt (SetTable.put t q).1:=⟨h.led,J0 h.ri D⟩;simp only;show Tb bt (SetTable.orStandIn _ _);unfold SetTable.orStandIn;split;exact B;exact lZ B _
 exact lZ h _
def B5{bt:Bool}(h:Tb bt t)(es:Array (Int×aC))(n:Nat):Tb bt (relayAll t es n).2.1:=by
 unfold relayAll;split
 ·rename_i J B e;have O:Tb bt J:=by
   unfold SetTable.relaid SetTable.laid at e;cases g:SetTable.layClean (SetTable.sizeAbove n-1) (es.map λx=>x.1)with
   |none=>rw[g]at e;cases e
   |some q =>
    rw[g]at e;cases e;refine⟨h.led,FO ?_⟩;rw[List.pairwise_map];refine List.Pairwise.filterMap _ (λa b D x M y L=>?_) aac;obtain⟨_,_,rfl⟩:=Option.map_eq_some_iff.mp M;obtain⟨_,_,rfl⟩:=Option.map_eq_some_iff.mp L;exact D
  simp only;split;exact O;exact lZ h _
 exact lZ h _
section
variable{prog:U4}{w:Vl}{A:VU}{E:aC->UR->Prop}{s:UR}
def qU(prog:U4)(w:Vl)(bt:Bool)(h:au)(a:aB)(S:Int->Bool)(n:Nat):Prop :=
 ∃o q B t,h.get? a=aa o/\o.ExactSet/\o.data=.set q B t/\ElemsOf (intKind prog w) q.toList/\(∀k,S k=ah↔∃e∈q.toList,(intKind prog w).is k e.2=ah)/\q.size<Xv/\t.fits q.size=ah/\q.size=n/\Tb bt t
def UD{g:Bool->Sem Unit}(D:∀(b:Bool)(q:UR)(Q:Unit->UR->Prop),Q () q->ay (Vb prog w) A (g b) Q E q){b:Bool}{B:Type}{f:Unit->Sem B}{Q:B->UR->Prop}(h:ay (Vb prog w) A (f ()) Q E s):ay (Vb prog w) A (g b >>= f) Q E s :=
 UN (D b s _ h)
def add_int{S:Int->Bool}(hs:qU prog w bt s.heap a S n)(hn:n+1<Xv)
(H:∀b h',VT a s.heap h'->qU prog w bt h' a (λM=>S M||decide (M=k)) (if S k=ah then n else n+1)->Q b {s with heap:=h'}):
 ay (Vb prog w) A (setAddHashed a (.int k tk) ((intKind prog w).hash k)) Q E s:=by
 obtain⟨o,U,ep,t,l,O,m,G,C,hb,T,rfl,ht⟩:=hs;have R:=intKind_is prog w k tk;unfold setAddHashed;refine VO ?_;rw[setAddHashedIn.eq_def];show ay _ _ (setState a >>= _) _ _ s;refine UN (Ws l m T ?_);simp only;rw[bM (byScan_of (knd:=intKind prog w) rfl hb G)];refine UN ?_;unfold setAddByScan;refine UN (YJ ?_);refine UN ?_;show ay _ _ (setScanFrom a (.int k tk) ((intKind prog w).hash k) ah U.toList 0) _ _ s;refine wpAny_setScanFrom_of (knd:=intKind prog w) R l m T U.toList 0 G ?_;cases g:U.toList.findIdx? λe=>(intKind prog w).is k e.2 with
 |some j =>
  have F:S k=ah:=by obtain⟨hj,Z,_⟩:=List.findIdx?_eq_some_iff_getElem.mp g;exact(C k).mpr ⟨_,X5 hj,Z⟩
  refine av (av (H _ _ (Yg _ _) ?_));rw[bM F];refine⟨o,U,ep,t,l,O,m,G,λM=>?_,hb,T,rfl,ht⟩;rw[←C M]
  by_cases c:M=k
  subst c;simp[F];simp[c]
 |none =>
  have F:¬S k=ah:=λz=>by obtain⟨e,Z,p⟩:=(C k).mp z;have:=List.findIdx?_eq_none_iff.mp g e Z;rw[p]at this;cases this
  rw[bN F]at H;have x:=layNew_fits t U ((intKind prog w).hash k) (.int k tk);have I:=layNew_perm t U ((intKind prog w).hash k) (.int k tk);have v:=J1 ht U ((intKind prog w).hash k) (.int k tk);dsimp only;generalize layNew t U ((intKind prog w).hash k) (.int k tk)=r at x I v⊢;obtain⟨q,B,u,gv⟩:=r;simp only at x I v⊢;have Y:q.toList.Perm (U.toList++[((intKind prog w).hash k,.int k tk)]):=by simpa using I
  have sz:q.size=U.size+1:=by have:=Y.length_eq;simpa using this
  have e1:=(G.push R rfl).perm Y;have P:=mem_push_iff R C Y;have X:q.size<Xv:=by lia
  have fin:ay (Vb prog w) A (Y7 a q B >>= λ_=>if(!u&&B.tooFull)=ah then(match relayAll B q (SetTable.grown q.size)with|(J,W,L)=>(match L with|true=>rule "set.scan.the-table-gave-way" |false=>pure ()) >>= λ_=>Y7 a J W >>= λ_=>pure (aa ah))else pure (aa ah))
   (λV i=>ay (Vb prog w) A (match V with|some D=>pure D|none=>aam a (.int k tk) ((intKind prog w).hash k) 99999) Q E i) E s:=by
   obtain⟨ob,_⟩:=SetOf_store l O m e1 P X x;refine UN (wpAny_storeSet_of l m ?_ (by rw[sz];exact Xo hn))
   by_cases c:(!u&&B.tooFull)=ah
   ·rw[bM c];have y:=relayAll_fits B q (SetTable.grown q.size);have p2:=relayAll_perm B q (SetTable.grown q.size);have K:=B5 v q (SetTable.grown q.size);generalize relayAll B q (SetTable.grown q.size)=r at y p2 K⊢;obtain⟨J,W,L⟩:=r;simp only at y p2 K⊢;have f:J.size=U.size+1:=by have:=p2.length_eq;simp at this;lia
    have e2:=e1.perm p2;have m2:∀M,(S M||decide (M=k))=ah↔∃e∈J.toList,(intKind prog w).is M e.2=ah:=λM=>(P M).trans ⟨λ⟨e,Z,p⟩=>⟨e,p2.mem_iff.mpr Z,p⟩,λ⟨e,Z,p⟩=>⟨e,p2.mem_iff.mp Z,p⟩⟩;have nx:ay (Vb prog w) A (Y7 a J W >>= λ_=>pure (aa ah)) (λV i=>ay (Vb prog w) A (match V with|some D=>pure D|none=>aam a (.int k tk) ((intKind prog w).hash k) 99999) Q E i) E {s with heap:=s.heap.update a (Obj.putSet q B)}:=by obtain⟨N,_⟩:=SetOf_store (h:=s.heap.update a (Obj.putSet q B)) ob ⟨O.1,O.2.1,O.2.2⟩ rfl e2 m2 (by lia) y;refine UN (wpAny_storeSet_of (s:={s with heap:=s.heap.update a (Obj.putSet q B)}) ob rfl ?_ (by rw[f];exact Xo hn));refine av (av (H ah _ ((VH ..).trans (VH ..)) ?_));exact⟨_,J,_,W,N,⟨O.1,O.2.1,O.2.2⟩,rfl,e2,m2,by lia,y,f,K⟩
    refine UN ?_;cases L with
    |true=>exact YJ nx|false=>exact av nx
   ·rw[bN c];refine av (av (H ah _ (VH ..) ?_));exact⟨_,q,_,B,ob,⟨O.1,O.2.1,O.2.2⟩,rfl,e1,P,X,x,sz,v⟩
  refine UN ?_;have nx:ay (Vb prog w) A (if B.plain=ah then hashByValue 8 (.int k tk) >>= λd=>Y7 a q (if d=ah then B else { B with plain:=ai }) >>= λ_=>if (!u&&(if d=ah then B else { B with plain:=ai }).tooFull)=ah then (match relayAll (if d=ah then B else { B with plain:=ai }) q (SetTable.grown q.size) with | (J,W,L)=>(match L with | true=>rule "set.scan.the-table-gave-way" | false=>pure ()) >>= λ_=>Y7 a J W >>= λ_=>pure (aa ah)) else pure (aa ah) else
   (pure ah >>= λd=>Y7 a q (if d=ah then B else { B with plain:=ai }) >>= λ_=>if (!u&&(if d=ah then B else { B with plain:=ai }).tooFull)=ah then (match relayAll (if d=ah then B else { B with plain:=ai }) q (SetTable.grown q.size) with | (J,W,L)=>(match L with | true=>rule "set.scan.the-table-gave-way" | false=>pure ()) >>= λ_=>Y7 a J W >>= λ_=>pure (aa ah)) else pure (aa ah)))
   (λV i=>ay (Vb prog w) A (match V with|some D=>pure D|none=>aam a (.int k tk) ((intKind prog w).hash k) 99999) Q E i) E s:=by
   by_cases c:B.plain=ah
   ·rw[bM c];refine UN ?_;rw[hashByValue.eq_def];exact av fin
   ·rw[bN c];exact UN (av fin)
  cases gv with
  |true=>refine YJ ?_;exact nx|false=>refine av ?_;exact nx
end
section
variable{prog:U4}{w:Vl}{A:VU}{E:aC->UR->Prop}{R:Z8->UR->Prop}
def B6(E:A.handled=af){S:aB}(hi:XQ items.toList ns)(B:S≠it)(h:S≠l)(f:it≠l)(H:items.size+1<Xv):
 ∀(k i:Nat)(s:UR),items.size-i=k->i<=items.size->s.heap.IsListIter it l i->s.heap.IsList l items->qU prog w bt s.heap S (λq=>(Wn (λi=>ns.getD i 0) i).any (·==q)) (Wn (λi=>ns.getD i 0) i).length →
  (∀h' tk,(∀b o,b≠S->b≠it->s.heap.get? b=aa o->h'.get? b=aa o)->qU prog w bt h' S (λq=>(Wn (λi=>ns.getD i 0) items.size).any (·==q)) (Wn (λi=>ns.getD i 0) items.size).length->R (.ok (.ret .none)) {s with heap:=h',toks:=tk}) →
  ak (Vb prog w) A (.builtin "set.update.loop" ⟨[.ref S,.ref it],[]⟩) R s:=by
 intro k
 induction k with
 |zero =>
  intro i s C g p V n m;have:i=items.size:=by lia
  subst this;refine codeAny_builtin F.entry_set_update_loop ?_;rw[VF F.plain_set_update_loop _];show ay _ A.in1 (Y8 (.ref it) >>= _) _ _ _;refine UN (wpAny_pyNext_list_end (A:=A.in1) E p V (VX (UT _)) λh' M=>?_);refine av (m h' s.toks (λb o _ J e=>M b o J e) ?_);obtain⟨o,v,x,t,u,W⟩:=n;exact⟨o,v,x,t,M S o B u,W⟩
 |succ k z =>
  intro i s C g p V n m;have O:i<items.size:=by lia
  have M:items[i]?=aa items[i]:=VA O;obtain⟨tk,ex⟩:=hi.int_at i items[i] (by simpa using M);refine codeAny_builtin F.entry_set_update_loop ?_;rw[VF F.plain_set_update_loop _];show ay _ A.in1 (Y8 (.ref it) >>= _) _ _ _;refine UN (wpAny_pyNext_list_item p V M λh' u W=>?_);rw[ex];have j:qU prog w bt h' S (λq=>(Wn (λi=>ns.getD i 0) i).any (·==q)) (Wn (λi=>ns.getD i 0) i).length:=by obtain⟨o,v,x,t,a,Z⟩:=n;exact⟨o,v,x,t,(W.2 S B).trans a,Z⟩
  have G:(Wn (λi=>ns.getD i 0) i).length<=i:=firstMet_length_le _ _;refine UN (VO ?_);unfold setAdd;refine VO (UN (wpAny_pyHash_int ?_));refine add_int (bt:=bt) (s:={s with heap:=h',toks:=s.toks+1}) j (by lia) λb D y k2=>?_;have d:qU prog w bt D S (λq=>(Wn (λi=>ns.getD i 0) (i+1)).any (·==q)) (Wn (λi=>ns.getD i 0) (i+1)).length:=by
   have e1:(λq=>(Wn (λi=>ns.getD i 0) (i+1)).any (·==q))=λq=>(Wn (λi=>ns.getD i 0) i).any (·==q)||decide (q=ns.getD i 0):=by funext q;rw[firstMet_succ,step_any]
   rw[e1,firstMet_succ,step_length];exact k2
  have L:∀c o,c≠S->c≠it->s.heap.get? c=aa o->D.get? c=aa o:=λc o U J e=>(y.2 c U).trans ((W.2 c J).trans e);refine av ⟨plainId_quiet F.plain_set_update_loop _,z (i+1) {s with heap:=D,toks:=s.toks+1} (by lia) O ?_ ?_ d λr Y a Z=>?_⟩
  ·obtain⟨o,e1,e2⟩:=u;exact⟨o,(y.2 it (VN B)).trans e1,e2⟩
  ·obtain⟨o,e1,e2⟩:=V;exact⟨o,L l o (VN h) (VN f) e1,e2⟩
  exact m r Y (λc o U J e=>a c o U J (L c o U J e)) Z
end
section
variable{prog:U4}{w:Vl}{A:VU}{E:aC->UR->Prop}{s:UR}
def mh(h:Q (w.params.followText "set-order") s):ay (Vb prog w) A setsByText Q E s:=by unfold setsByText;exact UN (wpAny_askSetting (av h))
def B7{S:aB}(Z:A.handled=af)(q:s.heap.IsList l items)(hi:XQ items.toList ns)(a:items.size+1<Xv)(L:S≠l)
(B:s.heap.get? S=aa {cls:=.type "set",data:=.set #[] 0 (SetTable.fresh 0 0 (!w.params.followText "set-order"))})
(d:∀h' tk,(∀b o,b≠S->s.heap.get? b=aa o->h'.get? b=aa o)->qU prog w (w.params.followText "set-order") h' S (λY=>(Wn (λi=>ns.getD i 0) items.size).any (·==Y)) (Wn (λi=>ns.getD i 0) items.size).length->R (.ok (.ret .none)) {s with heap:=h',toks:=tk}):
 ay (Vb prog w) A.in1 (Builtin.«set.__init__» ⟨[.ref S,.ref l],[]⟩)
  (λfin s'=>match fin with|.done f=>R (.ok f) s'|.again c'=>c'.quiet=ah/\ak (Vb prog w) A c' R s') (λe s'=>R (.error e) s') s:=by
 have c:s.TypeIs (.ref S) "set":=⟨_,B,rfl⟩;unfold Builtin.«set.__init__»;refine UN (av ?_);dsimp only;refine UN ?_;unfold typeNameOfCut shownTypeOf;refine UN ?_;refine UN (Xu c ?_);rw[bN (by decide)];refine av ?_;show ay _ _ (typeName (.type "set")) _ _ s;refine av ?_;refine UN (av ?_);refine UN (av ?_);refine UN ?_;unfold setUsed;refine UN (Ws B rfl rfl (av ?_));rw[bN (show ¬((SetTable.fresh 0 0 (!w.params.followText "set-order")).fill != 0)=ah from Vz)];refine UN ?_;unfold Builtin.Frozenset.updateFrom;refine UN ?_;have M:s.TypeIs (.ref l) "list":=q.typeIs;unfold Builtin.Frozenset.isAnySet;refine UN (Xy (b:=ai) M (isSubtype_of_subB (by decide +kernel)) ?_);show ay _ _ (isInstance (.ref l) (.type "frozenset")) _ _ s;refine Xy (b:=ai) M (isSubtype_of_subB (by decide +kernel)) ?_;rw[bN Vz];refine UN (Xu M ?_);rw[bN (by decide)];refine UN (wpAny_pyIter_list q ?_);refine UN (wpAny_runValue ?_);have V:S<s.heap.objs.size:=UW B;have U:l<s.heap.objs.size:=by obtain⟨o,e,_⟩:=q;exact UW e
 have D:∀b o,s.heap.get? b=aa o->(s.heap.push {cls:=.type "list_iterator",data:=.fields #[.ref l,.int 0 0]}).get? b=aa o:=λb o e=>UO _ e;refine B6 (bt:=w.params.followText "set-order") (A:=A.in1) Z hi (Vi V) L (WM U) a items.size 0 _ rfl (VL _) ⟨_,UX _ rfl,rfl,rfl⟩ ?_ ?_ λh' tk W k2=>?_
 ·obtain⟨o,e,r⟩:=q;exact⟨o,D _ _ e,r⟩
 refine⟨_,#[],0,_,D _ _ B,⟨rfl,rfl,rfl⟩,rfl,λe J=>(by simp at J),λk=>⟨λz=>by simp[firstMet_zero]at z,λ⟨e,J,_⟩=>by simp at J⟩,by decide,rfl,by simp[firstMet_zero],B0 _⟩;refine av (av (d h' tk (λb o O e=>W b o O (Vi (UW e)) (D b o e)) k2))
def FP(v:aC)(h:Q₁ (.ref s.heap.objs.size) {s with heap:=s.heap.push {cls:=.type "set",data:=.set #[] 0 (SetTable.fresh 0 0 (!w.params.followText "set-order"))} }):
 ak (Vb prog w) A (.call (.builtin "set.__new__") {pos:=[.type "set",v]}) (wants Q₁ E) s:=by
 refine codeAny_call_builtin (by decide +kernel) PySem.F.entry_set_new ?_;rw[PySem.F.newCall_set_1];refine av ?_;unfold Builtin.«set.__new__»;refine UN (av ?_);refine UN ?_;unfold newSet;refine UN (mh ?_);refine VD ?_ (by size_fits);exact av h
def B8(Z:A.handled=af)(O:s.heap.IsList l items)(hi:XQ items.toList ns)(a:items.size+1<Xv)
(f:∀h' tk,qU prog w (w.params.followText "set-order") h' s.heap.objs.size (λJ=>(Wn (λi=>ns.getD i 0) items.size).any (·==J)) (Wn (λi=>ns.getD i 0) items.size).length->(∀b o,s.heap.get? b=aa o->h'.get? b=aa o)->Q (.ref s.heap.objs.size) {s with heap:=h',toks:=tk}):
 ay (Vb prog w) A (call (.type "set") [.ref l]) Q E s:=by
 have V:l<s.heap.objs.size:=by obtain⟨o,e,_⟩:=O;exact UW e
 have M:∀b o,s.heap.get? b=aa o->(s.heap.push {cls:=.type "set",data:=.set #[] 0 (SetTable.fresh 0 0 (!w.params.followText "set-order"))}).get? b=aa o:=λb o e=>UO _ e;have U:(s.heap.push {cls:=.type "set",data:=.set #[] 0 (SetTable.fresh 0 0 (!w.params.followText "set-order"))}).get? s.heap.objs.size=aa {cls:=.type "set",data:=.set #[] 0 (SetTable.fresh 0 0 (!w.params.followText "set-order"))}:=UX _ rfl;refine X9 (codeAny_of_tree ?_);show ay _ _ (pure (Fin.again (.builtin "type.__call__" ⟨[.type "set",.ref l],[]⟩))) _ _ s;refine av ⟨Code.quiet_builtin _ (by decide +kernel),codeAny_builtin PySem.F.entry_type_call ?_⟩;rw[Around.under_plain (weight_type_call_type "set" [.ref l] []) rfl];unfold Builtin.«type.__call__»;dsimp only;rw[bN (by rw[PySem.F.called_set.notType];exact Vz)];rw[bN (by rw[PySem.F.called_set.canCreate];exact Vz)];rw[PySem.F.typeCall_set_1];refine UN (av ?_);obtain⟨c,tl,Y⟩:=PySem.F.called_set.mro;rw[Y];refine UN (av ?_);rw[bN (by simp)];rw[PySem.F.called_set.made];refine UN (av ?_);refine UN (av ?_);refine UN (VO (X9 ?_));refine codeAny_mono (FP (E:=E) (Q₁:=λB q=>B=.ref s.heap.objs.size/\q={s with heap:=s.heap.push {cls:=.type "set",data:=.set #[] 0 (SetTable.fresh 0 0 (!w.params.followText "set-order"))} }) _ ⟨rfl,rfl⟩) λr j h=>?_;cases r with
 |error e=>exact h
 |ok g =>
  cases g with
  |ret v =>
   obtain⟨rfl,rfl⟩:=(show _/\_ from h);have L:({s with heap:=s.heap.push {cls:=.type "set",data:=.set #[] 0 (SetTable.fresh 0 0 (!w.params.followText "set-order"))} }:UR).TypeIs (.ref s.heap.objs.size) "set":=⟨_,U,rfl⟩;refine UN (Xy (b:=ah) L PySem.F.called_set.sub ?_);rw[bN (by decide)];refine UN (VO (WA L PySem.F.slot_set_init (X9 ?_)));have D:∀R:Z8->UR->Prop,(∀h' tk,(∀b o,b≠s.heap.objs.size->(s.heap.push {cls:=.type "set",data:=.set #[] 0 (SetTable.fresh 0 0 (!w.params.followText "set-order"))}).get? b=aa o->h'.get? b=aa o)->qU prog w (w.params.followText "set-order") h' s.heap.objs.size (λJ=>(Wn (λi=>ns.getD i 0) items.size).any (·==J)) (Wn (λi=>ns.getD i 0) items.size).length->R (.ok (.ret .none)) {s with heap:=h',toks:=tk}) →
    ak (Vb prog w) A.in1 (.call (.builtin "set.__init__") ⟨[.ref s.heap.objs.size,.ref l],[]⟩) R {s with heap:=s.heap.push {cls:=.type "set",data:=.set #[] 0 (SetTable.fresh 0 0 (!w.params.followText "set-order"))} }:=λR d =>
    codeAny_call_builtin (by decide +kernel) PySem.F.entry_set_init (check_set_init_1 L (B7 (prog:=prog) (w:=w) (s:={s with heap:=s.heap.push {cls:=.type "set",data:=.set #[] 0 (SetTable.fresh 0 0 (!w.params.followText "set-order"))} }) (A:=A.in1) Z (let ⟨o,e,r⟩:=O;⟨o,M _ _ e,r⟩) hi a (WM V) U d))
   refine D _ λh' tk W k2=>?_;show ay _ _ (if(Xd != Xd)=ah then _ else PySem.ret (.ref s.heap.objs.size)) _ _ _;rw[bN (by decide)];exact av (f h' tk k2 λb o e=>W b o (Vi (UW e)) (M b o e))
  |_=>exact h
end
def mj:Slot "set_iterator" (U7 "__next__") "set_iterator.__next__":=Slot.of (owner:="set_iterator") (n:="__next__") (by rw[typeLookup_type,builtinLookup_eq_fast];kernel_rfl) (by kernel_rfl) (by kernel_rfl) (by kernel_rfl) (.inl (by kernel_rfl)) (by rw[isSubtype_type];kernel_rfl) (by decide +kernel)
def u9:entryFor table "set_iterator.__next__"=aa Builtin.«set_iterator.__next__»:=by kernel_rfl
def w6:entryFor table "set.__iter__"=aa Builtin.«frozenset.__iter__»:=by kernel_rfl
def yx(a:aC):argsOk "set_iterator.__next__" {pos:=[a]}:=by kernel_rfl
noncomputable def itO(first:aC)(i n ep:Nat)(a:aB):aq:={cls:=.type "set_iterator",data:=.fields #[first,.int i 0,.ref a,.int n 0,.int ep 0]}
noncomputable def slotAt(pl:Array Nat):Nat->Nat
 |0=>0
 |i+1=>match pl[i]? with
  |some j=>j+1|none=>0
inductive Md(w:Vl)(h:au)(a:aB)(es:Array (Int×aC))(ep:Nat)(t:SetTable):aC->List aC->Nat->Prop
 |A{z:Int}{i:Nat}(q:w.params.followText "set-order"=ah):Md w h a es ep t (.int z 0) ((XH (w.params.setOrder a ep) es).toList.map (·.2)) i
 |B{T:aB}{pl:List Nat}{i:Nat}(D:h.IsTuple T (pl.map λ(p:Nat)=>Xw p 0).toArray)(q:∀p∈pl,p<es.size):Md w h a es ep t (.ref T) (pl.filterMap λp=>es[p]?.map (·.2)) i
 |C{i:Nat}(B:w.params.followText "set-order"=ai)(D:(!t.plain&&decide (es.size>1))=ai)(q:Tb ai t):Md w h a es ep t (.int (slotAt t.place i) 0) (es.toList.map (·.2)) i
structure NX(w:Vl)(h:au)(it a:aB)(ord:List aC)(i:Nat):Prop where
 ex:∃o es ep t first,h.get? a=aa o/\o.data=.set es ep t/\t.fits es.size=ah/\h.get? it=aa (itO first i es.size ep a)/\Md w h a es ep t first ord i
def Md.at(m:Md w h a es ep t first ord i)(k:∀b o,(∃xs n,o.data=.seq xs n)->h.get? b=aa o->h'.get? b=aa o):Md w h' a es ep t first ord i:=by
 cases m with
 |A q=>exact .A q
 |B M J =>
  obtain⟨o,e,c,n,d⟩:=M;exact .B ⟨o,k _ o ⟨_,n,d⟩ e,c,n,d⟩ J
 |C q L D=>exact .C q L D
theorem fy(f:α->Option β):∀(l:List α),(∀x∈l,(f x).isSome=ah)->∀i:Nat,(l.filterMap f)[i]?=(l[i]?).bind f
 |[],_,i=>by simp
 |x::l,h,i=>by
  obtain⟨y,q⟩:=Option.isSome_iff_exists.mp (h x UY);rw[Vs,q];cases i with
  |zero=>simp[q]|succ i=>simpa using fy f l (λz B=>h z (UV _ B)) i
section
variable{prog:U4}{w:Vl}{A:VU}{E:aC->UR->Prop}{s:UR}
def vc{t:SetTable}{n i:Nat}(h:Ri t.place)(hn:t.place.size=n)(hi:i<n):SetTable.below t.place (slotAt t.place i)=i/\∃j,t.place[i]?=aa j/\slotAt t.place (i+1)=j+1:=by
 obtain⟨L,J,V⟩:=lD h (slotAt t.place i);have B:t.place[i]?=aa t.place[i]:=VA (by lia);refine⟨?_,t.place[i],B,by show(match t.place[i]? with|some j=>j+1|none=>0)=_;rw[B]⟩;have lo:∀k v,k<i->t.place[k]?=aa v->v<slotAt t.place i:=λk v M ev=>by
  cases i with
  |zero=>lia
  |succ i =>
   have q:t.place[i]?=aa t.place[i]:=VA (by lia);have e:slotAt t.place (i+1)=t.place[i]+1:=by show(match t.place[i]? with|some j=>j+1|none=>0)=_;rw[q]
   rw[e];rcases Vd k i with z|z
   have:=h k i v _ z ev q;lia
   ·have:k=i:=by lia
    subst this;rw[q]at ev;cases ev;lia
 have D:slotAt t.place i<=t.place[i]:=by
  cases i with
  |zero=>exact VL _
  |succ i =>
   have q:t.place[i]?=aa t.place[i]:=VA (by lia);have e:slotAt t.place (i+1)=t.place[i]+1:=by show(match t.place[i]? with|some j=>j+1|none=>0)=_;rw[q]
   rw[e];have:=h i (i+1) _ _ (Wj _) q B;lia
 rcases Nat.lt_trichotomy (SetTable.below t.place (slotAt t.place i)) i with z|z|z
 ·have q:t.place[SetTable.below t.place (slotAt t.place i)]?=aa t.place[SetTable.below t.place (slotAt t.place i)]:=VA (by lia);have U:=lo _ _ z q;have O:=J _ _ (UT _) q;lia
 exact z
 ·have:=L i _ z B;lia
def B9{t:SetTable}{n:Nat}(h:Ri t.place)(hn:t.place.size=n):n<=SetTable.below t.place (slotAt t.place n):=by
 obtain⟨D,B,J⟩:=lD h (slotAt t.place n);cases n with
 |zero=>exact VL _
 |succ n =>
  have q:t.place[n]?=aa t.place[n]:=VA (by lia);have e:slotAt t.place (n+1)=t.place[n]+1:=by show(match t.place[n]? with|some j=>j+1|none=>0)=_;rw[q]
  rw[e]at D B⊢;rcases Vd n (SetTable.below t.place (t.place[n]+1))with z|z
  exact z
  ·have:=B n _ z q;lia
def Ca{h:au}{q:aB}{first B:aC}{i n ep:Nat}{a:aB}(e:h.get? q=aa (itO first i n ep a)):((h.update q (V2 λx=>x.setIfInBounds 0 B)).update q (V2 λx=>x.setIfInBounds 1 (.int ((i:Int)+1) 0))).get? q=aa (itO B (i+1) n ep a):=by have e1:=Vr (V2 λx=>x.setIfInBounds 0 B) e rfl;have e2:=Vr (V2 λx=>x.setIfInBounds 1 (.int ((i:Int)+1) 0)) e1 rfl;rw[e2];rfl
def FQ{h:au}{q:aB}{first:aC}{i n ep:Nat}{a:aB}(e:h.get? q=aa (itO first i n ep a)):(h.update q (V2 λx=>x.setIfInBounds 1 (.int ((i:Int)+1) 0))).get? q=aa (itO first (i+1) n ep a):=by have e2:=Vr (V2 λx=>x.setIfInBounds 1 (.int ((i:Int)+1) 0)) e rfl;rw[e2];rfl
def Cb(q:s.heap.get? a=aa o)(D:o.data=.set es ep t)(B:t.fits es.size=ah)(J:w.params.followText "set-order"=ah)
(h:Q ((XH (w.params.setOrder a ep) es)[g]?.map λe=>(e.2,sl)) s):ay (Vb prog w) A (setNext a sl g ep) Q E s:=by
 unfold setNext;refine UN (Ws q D B ?_);dsimp only;refine UN (mh ?_);rw[bM J,bN (by simp)];refine UN ?_;unfold setWalk;refine UN (Ws q D B ?_);dsimp only;refine UN (mh ?_);rw[bM J];refine UN (wpAny_askSetting (av (av ?_)));exact h
def Cd(D:s.heap.get? a=aa o)(L:o.data=.set es ep t)(J:t.fits es.size=ah)(M:w.params.followText "set-order"=ai)
(q:(!t.plain&&decide (es.size>1))=ai)(B:Tb ai t)(h:Q (match es[SetTable.below t.place sl]?,t.place[SetTable.below t.place sl]? with|some (_,x),aa j=>aa (x,j+1)|_,_=>af) s):ay (Vb prog w) A (setNext a sl g ep) Q E s:=by
 unfold setNext;refine UN (Ws D L J ?_);dsimp only;refine UN (mh ?_);rw[M,bN Vz];show ay _ _ (if(!t.plain&&decide (es.size>1))=ah then _ else _) _ _ s;rw[q,bN Vz];refine UN ?_;show ay _ _ (if(!t.led&&!es.isEmpty)=ah then unsupported "set:maker-not-led" else pure ()) _ _ s;rw[B.led];show ay _ _ (if(!(!ai)&&!es.isEmpty)=ah then unsupported "set:maker-not-led" else pure ()) _ _ s;rw[bN (by simp)];exact av (av h)
def J2(q:s.heap.get? a=aa o)(J:o.data=.set es ep t)(B:t.fits es.size=ah)(D:es[p]?=aa e)(h:Q e.2 s):ay (Vb prog w) A (setNextDrawn a p ep) Q E s:=by unfold setNextDrawn;refine UN (Ws q J B ?_);dsimp only;rw[bN (by simp),D];exact av h
def FU{D a:aB}{ord:List aC}{i:Nat}{x:aC}{Q:PySem.Fin->UR->Prop}(N:NX w s.heap D a ord i)(W:D≠a)(Z:ord[i]?=aa x)(r:∀h',NX w h' D a ord (i+1)->VT D s.heap h'->Q (.done (.ret x)) {s with heap:=h'}):
 ay (Vb prog w) A (Builtin.«set_iterator.__next__» {pos:=[.ref D]}) Q E s:=by
 obtain⟨o,L,c,t,first,V,Y,U,O,m⟩:=N.ex;have keep:∀{h':au},VT D s.heap h'->∀b o,(∃u n,o.data=Data.seq u n)->s.heap.get? b=aa o->h'.get? b=aa o:=λ{h'} J b ob d e=>(J.2 b (λz=>by subst z;rw[O]at e;cases e;obtain⟨u,n,d⟩:=d;cases d)).trans e
 unfold Builtin.«set_iterator.__next__»;refine UN (av ?_);refine UN (wpAny_fieldsOf O rfl ?_);dsimp only;refine UN (YX V Y U ?_);rw[bN (by simp)];cases m with
 |@A z _ g =>
  have K:(XH (w.params.setOrder a c) L)[i]?.map (λe=>(e.2,z.toNat))=aa (x,z.toNat):=by
   rw[Vh]at Z;obtain⟨e,e1,e2⟩:=Option.map_eq_some_iff.mp Z;have M:(XH (w.params.setOrder a c) L)[i]?=aa e:=by simpa using e1
   rw[M,←e2];rfl
  refine UN (Cb V Y U g ?_);show ay _ _ (match (XH (w.params.setOrder a c) L)[i]?.map (λe=>(e.2,z.toNat))with|some (x,next)=>_|none=>_) _ _ s;rw[K];refine UN (W5 O rfl (by simp) ?_);refine UN (W5 (Vr _ O rfl) rfl (by simp) ?_);have J:VT D s.heap ((s.heap.update D (V2 λy=>y.setIfInBounds 0 (.int (z.toNat:Int) 0))).update D (V2 λy=>y.setIfInBounds 1 (.int ((i:Int)+1) 0))):=(VH ..).trans (VH ..);exact av (r _ ⟨⟨o,L,c,t,_,(J.2 a (VN W)).trans V,Y,U,Ca O,.A g⟩⟩ J)
 |@B T h _ F v =>
  have d:∀p∈h,((λp:Nat=>L[p]?.map (·.2)) p).isSome=ah:=λp I=>by have:=v p I;simp[this]
  rw[fy _ h d]at Z;obtain⟨p,e1,e2⟩:=Option.bind_eq_some_iff.mp Z;obtain⟨e,e3,X⟩:=Option.map_eq_some_iff.mp e2;subst X;obtain⟨oT,R,g2,nT,P⟩:=id F;show ay _ _ (seqItems? (.ref T) >>= _) _ _ s;refine UN (Xp R P ?_);have S:((h.map λ(p:Nat)=>Xw p 0).toArray)[i]?=aa (.int p 0):=by simp[e1]
  dsimp only;rw[V1,S];dsimp only;refine UN (J2 V Y U (by rw[V1];exact e3) ?_);refine UN (W5 O rfl (by simp) ?_);have J:VT D s.heap (s.heap.update D (V2 λy=>y.setIfInBounds 1 (.int ((i:Int)+1) 0))):=VH ..;refine av (r _ ⟨⟨o,L,c,t,_,(J.2 a (VN W)).trans V,Y,U,FQ O,?_⟩⟩ J);exact(Md.B (i:=i+1) F v).at (keep J)
 |C g f k =>
  have hn:t.place.size=L.size:=by unfold SetTable.fits at U;simp only[UQ,bW]at U;exact U.1
  rw[Vh]at Z;obtain⟨e,e1,e2⟩:=Option.map_eq_some_iff.mp Z;have M:L[i]?=aa e:=by simpa using e1
  have l:i<L.size:=by
   rcases Vd i L.size with q|q
   exact q;rw[VX q]at M;cases M
  obtain⟨H,j,p2,G⟩:=vc k.ri hn l;subst e2;refine UN (Cd V Y U g f k ?_);rw[V1,H,M,p2];refine UN (W5 O rfl (by simp) ?_);refine UN (W5 (Vr _ O rfl) rfl (by simp) ?_);have J:VT D s.heap ((s.heap.update D (V2 λy=>y.setIfInBounds 0 (.int ((j+1:Nat):Int) 0))).update D (V2 λy=>y.setIfInBounds 1 (.int ((i:Int)+1) 0))):=(VH ..).trans (VH ..);refine av (r _ ⟨⟨o,L,c,t,_,(J.2 a (VN W)).trans V,Y,U,Ca O,?_⟩⟩ J);rw[←G];exact .C g f k
def tw{first:aC}{i n ep:Nat}{a:aB}(D:A.handled=af)(q:VT it h0 s.heap)(hi:∃o vs,s.heap.get? it=aa o/\o.data=.fields vs/\vs.size=5)(O:f<5)
(L:∀h' e,Zq it h0 h'->(∃o,h'.get? e=aa o/\o.cls=.type "StopIteration")->E (.ref e) {s with heap:=h'}):
 ay (Vb prog w) A (setField (.ref it) f .none >>= λ_=>newExc (.type "StopIteration") [] >>= λe=>(raiseNew e:Sem PySem.Fin)) Q E s:=by
 obtain⟨o,vs,B,J,M⟩:=hi;refine UN (W5 B J (by lia) ?_);refine UN ?_;simp only[newExc,newTuple];refine UN (VD ?_ (by size_fits));refine UN (m:=firstArgMember _ _) (wpAny_of_eq (a:=Xd) (by first|rfl|(simp only[firstArgMember];rfl)) ?_);refine VD ?_ (by size_fits);simp only[raiseNew];refine UN (wpAny_handled ?_);rw[D];refine wpAny_throw ?_;exact L _ _ (((q.trans (VH ..)).extBut.push _).push _) ⟨_,UX _ rfl,rfl⟩
def J3{M a:aB}{ord:List aC}{i:Nat}{Q:PySem.Fin->UR->Prop}(b:A.handled=af)(N:NX w s.heap M a ord i)(V:i=ord.length)(hn:∀o es ep t,s.heap.get? a=aa o->o.data=.set es ep t->ord.length=es.size)
(g:∀h' e,Zq M s.heap h'->(∃o,h'.get? e=aa o/\o.cls=.type "StopIteration")->E (.ref e) {s with heap:=h'}):
 ay (Vb prog w) A (Builtin.«set_iterator.__next__» {pos:=[.ref M]}) Q E s:=by
 obtain⟨o,es,ep,t,first,O,U,J,L,m⟩:=N.ex;have l:=hn o es ep t O U;unfold Builtin.«set_iterator.__next__»;refine UN (av ?_);refine UN (wpAny_fieldsOf L rfl ?_);dsimp only;refine UN (YX O U J ?_);rw[bN (by simp)];cases m with
 |@A z _ f =>
  have v:(XH (w.params.setOrder a ep) es)[i]?.map (λe=>(e.2,z.toNat))=af:=by rw[V,U0,Ve,VX (UT _)];rfl
  refine UN (Cb O U J f ?_);show ay _ _ (match (XH (w.params.setOrder a ep) es)[i]?.map (λe=>(e.2,z.toNat))with|some (x,next)=>_|none=>_) _ _ s;rw[v];exact tw (first:=.none) (i:=0) (n:=0) (ep:=0) (a:=a) b (Yg _ _) ⟨_,_,L,rfl,rfl⟩ (by decide) g
 |@B T D _ F k =>
  have W:∀p∈D,((λp:Nat=>es[p]?.map (·.2)) p).isSome=ah:=λp r=>by have:=k p r;simp[this]
  have u:i=D.length:=by
   have S:=fy _ D W D.length;have R:=List.length_filterMap_le (λp:Nat=>es[p]?.map (·.2)) D;rcases Vd i D.length with q|q
   ·have h:=fy _ D W i;rw[V,U5 (UT _),U1 (by lia)]at h;have:=W D[(List.filterMap (λp:Nat=>es[p]?.map (·.2)) D).length] (X5 _);rw[Wc]at h;dsimp only at this;rw[←h]at this;cases this
   lia
  obtain⟨K,H,X,P,G⟩:=id F;show ay _ _ (seqItems? (.ref T) >>= _) _ _ s;refine UN (Xp H G ?_);have I:((D.map λ(p:Nat)=>Xw p 0).toArray)[i]?=af:=by simp[u]
  dsimp only;rw[V1,I];dsimp only;refine UN (W5 L rfl (by simp) ?_);exact tw (s:={s with heap:=s.heap.update M (V2 λy=>y.setIfInBounds 0 (WD 0))}) (first:=.none) (i:=0) (n:=0) (ep:=0) (a:=a) b (VH ..) ⟨_,_,Vr _ L rfl,rfl,rfl⟩ (by decide) g
 |C f c j =>
  have Y:t.place.size=es.size:=by unfold SetTable.fits at J;simp only[UQ,bW]at J;exact J.1
  have Z:i=es.size:=by rw[V,U0,Ve]
  have d:=B9 j.ri Y;refine UN (Cd O U J f c j ?_);have e1:es[SetTable.below t.place (slotAt t.place i)]?=af:=VX (by rw[Z];exact d);rw[V1,e1];exact tw (first:=.none) (i:=0) (n:=0) (ep:=0) (a:=a) b (Yg _ _) ⟨_,_,L,rfl,rfl⟩ (by decide) g
def FW(N:NX w s.heap it a ord i)(q:it≠a)(J:ord[i]?=aa x)(M:∀h',NX w h' it a ord (i+1)->VT it s.heap h'->Q (aa x) {s with heap:=h'}):
 ay (Vb prog w) A (Y8 (.ref it)) Q E s:=by
 have B:s.TypeIs (.ref it) "set_iterator":=by obtain⟨o,W,Y,t,first,O,V,U,L,m⟩:=N.ex;exact⟨_,L,rfl⟩
 unfold Y8;exact UN (wpAny_attempt (WA (name:=U7 "__next__") B mj (W6 mj B u9 (FU N q J λh' D k2=>⟨x,rfl,av (M h' D k2)⟩) (yx _))))
def J4(M:A.handled=af)(N:NX w s.heap it a ord i)(J:i=ord.length)(hn:∀o es ep t,s.heap.get? a=aa o->o.data=.set es ep t->ord.length=es.size)(U:∀h',Zq it s.heap h'->Q af {s with heap:=h'}):
 ay (Vb prog w) A (Y8 (.ref it)) Q E s:=by
 have B:s.TypeIs (.ref it) "set_iterator":=by obtain⟨o,es,ep,t,first,q,W,V,L,m⟩:=N.ex;exact⟨_,L,rfl⟩
 unfold Y8;refine UN (wpAny_attempt (WA (name:=U7 "__next__") B mj (W6 mj B u9 (J3 (A:=A.in1) M N J hn λh' e D k2=>?_) (yx _))));obtain⟨o,q,O⟩:=k2;refine UN (Xy (T:="StopIteration") (b:=ah) ⟨o,q,O⟩ isSubtype_stop ?_);exact av (U _ D)
theorem lE:∀{l:List α}{i:Nat}(h:i<l.length),(l[i]::l.eraseIdx i).Perm l
 |x::l,0,_=>.refl _
 |x::l,i+1,h=>by
  have q:i<l.length:=by simpa using h
  have:=lE q;show(l[i]::x::l.eraseIdx i).Perm (x::l);exact(List.Perm.swap _ _ _).trans (this.cons x)
def wp_choose(hn:n≠0)(h:∀i d,i<n->Q i {s with drawn:=d}):ay (Vb prog w) A (choose src n) Q E s:=by intro q p _;unfold choose;rw[Sem.wp_choose];exact⟨hn,h _ _ (Yq _ (by lia))⟩
def Af:∀(n:Nat)(xs:List α)(s:UR){Q:List α->UR->Prop},xs.length=n->(∀ys d,ys.Perm xs->Q ys {s with drawn:=d})->ay (Vb prog w) A (drawOrder n xs) Q E s:=by
 intro n
 induction n with
 |zero =>
  intro xs s Q q h;have:=List.length_eq_zero_iff.mp q;subst this;exact av (h [] s.drawn .nil)
 |succ n D =>
  intro xs s Q q h;cases xs with
  |nil=>cases q
  |cons x r =>
   show ay _ _ (choose Source.order (x::r).length >>= λi=>match (x::r)[i]? with
    |some y=>drawOrder n ((x::r).eraseIdx i) >>= λl=>pure (y::l)
    | none=>unsupported "internal:drawOrder") _ _ s
   refine UN (wp_choose (by simp) λi d B=>?_);rw[U1 B];dsimp only;refine UN (D _ _ (by rw[ZD B];lia) λys L J=>?_);refine av (h _ L ?_);exact(J.cons _).trans (lE B)
def FY(next:Nat->Nat):∀(fuel k:Nat)(left:List α)(out:Array α),left.length<=fuel->(Xq next fuel k left out).toList.Perm (out.toList++left):=by
 intro fuel
 induction fuel with
 |zero =>
  intro k left out h;have:=List.length_eq_zero_iff.mp (Nat.le_zero.mp h);subst this;show out.toList.Perm _;rw[Vn]
 |succ fuel B =>
  intro k left out h;cases left with
  |nil =>
   have e:Xq next (fuel+1) k ([]:List α) out=out:=by show(match ([]:List α)[next k%0]? with|some x=>Xq next fuel (k+1) (([]:List α).eraseIdx (next k%0)) (out.push x)|none=>out)=out;rfl
   rw[e,Vn]
  |cons x r =>
   have q:next k%(x::r).length<(x::r).length:=Yq _ (by simp)
   have e:Xq next (fuel+1) k (x::r) out=Xq next fuel (k+1) ((x::r).eraseIdx (next k%(x::r).length)) (out.push (x::r)[next k%(x::r).length]):=by show(match (x::r)[next k%(x::r).length]? with|some y=>Xq next fuel (k+1) ((x::r).eraseIdx (next k%(x::r).length)) (out.push y)|none=>out)=_;rw[U1 q]
   rw[e];refine(B _ _ _ (by rw[ZD q];simp at h⊢;lia)).trans ?_;rw[Array.toList_push,Vv];exact(lE q).append_left _
def Ag(next:Nat->Nat)(xs:Array α):(XH next xs).toList.Perm xs.toList:=by
 have:=FY next xs.size 0 xs.toList #[] (by simp)
 simpa [XH]using this
def Ce(D:s.heap.get? a=aa o)(k:o.ExactSet)(M:o.data=.set es ep t)(L:t.fits es.size=ah)(m:es.size<Xv)(h:Tb (w.params.followText "set-order") t)
(f:∀h' d V ord,NX w h' V a ord 0->(∀b o,s.heap.get? b=aa o->h'.get? b=aa o)->s.heap.objs.size<=V->s.heap.objs.size<=h'.objs.size->ord.Perm (es.toList.map (·.2))->Q (.ref V) {s with heap:=h',drawn:=d}):
 ay (Vb prog w) A (pyIter (.ref a)) Q E s:=by
 have j:s.TypeIs (.ref a) "set":=⟨o,D,k.1⟩;refine wpAny_pyIter_slot j ZQ (W6 ZQ j w6 ?_ (PySem.F.args_set_iter_1 _));unfold Builtin.«frozenset.__iter__» Builtin.Frozenset.slot0;refine UN (UN (av (av ?_)));refine UN ?_;unfold Builtin.Frozenset.sizeOf;refine UN (YX D M L (av ?_));refine UN ?_;unfold setDrawn;refine UN (Ws D M L ?_);dsimp only;refine UN (mh (av ?_));have g:typeLookup (.type "set_iterator") (U7 "__next__")=pure (aa (.builtin "set_iterator.__next__")):=mj.lookup;show ay _ _ (if(!w.params.followText "set-order"&&(!t.plain&&decide (es.size>1)))=ah then _ else _) _ _ s;have u:a<s.heap.objs.size:=UW D
 by_cases c:(!w.params.followText "set-order"&&(!t.plain&&decide (es.size>1)))=ah
 ·rw[bM c];refine UN (Af es.size (Vj es.size) s (by simp) λU d W=>?_);refine UN ?_;simp only[newTuple];have l:U.length=es.size:=by rw[W.length_eq,XU]
  refine VD ?_ (by
   have:=Xo m;show (List.map (λ(i:Nat)=>WD i) U).toArray.size<=aj;rw[US,U0];lia)
  refine UN (wpAny_setEpoch_of (UO _ D) M L ?_);refine UN ?_;unfold newFields;refine VD ?_ (by size_fits);refine av ⟨_,rfl,"set_iterator",_,⟨_,UX _ rfl,rfl⟩,g,?_⟩;have J:∀b o,s.heap.get? b=aa o->((s.heap.push {cls:=.type "tuple",data:=.seq (U.map λ(i:Nat)=>WD i).toArray}).push {cls:=.type "set_iterator",data:=.fields #[.ref s.heap.objs.size,WD 0,.ref a,WD es.size,WD ep]}).get? b=aa o:=λb o e=>UO _ (UO _ e);have lt:∀p∈U,p<es.size:=λp Y=>List.mem_range.mp (W.mem_iff.mp Y);refine f _ d _ _ ⟨⟨o,es,ep,t,_,J _ _ D,M,L,UX _ rfl,.B (pl:=U) ⟨_,UO _ (UX _ rfl),rfl,_,rfl⟩ lt⟩⟩ J (by rw[V5];exact V0 _) (by rw[V5,V5];exact Nat.le_succ_of_le (V0 _)) ?_;have r:=W.filterMap λp=>es[p]?.map (·.2);refine r.trans ?_;have n:(Vj es.size).filterMap (λp=>es[p]?.map (·.2))=es.toList.map (·.2):=by
   refine List.ext_getElem? λi=>?_;rw[fy _ _ (λp Y=>by have:=List.mem_range.mp Y;simp[this])];rcases Vd i es.size with q|q
   rw[WZ q];simp;rw[U5 (by simpa using q),U5 (by simpa using q)];rfl
  rw[n]
 ·rw[bN c];refine UN (av ?_);refine UN (wpAny_setEpoch_of D M L ?_);refine UN ?_;unfold newFields;refine VD ?_ (by size_fits);refine av ⟨_,rfl,"set_iterator",_,⟨_,UX _ rfl,rfl⟩,g,?_⟩;have J:∀b o,s.heap.get? b=aa o->(s.heap.push {cls:=.type "set_iterator",data:=.fields #[WD 0,WD 0,.ref a,WD es.size,WD ep]}).get? b=aa o:=λb o e=>UO _ e;cases O:w.params.followText "set-order" with
  |true =>
   refine f _ s.drawn _ _ ⟨⟨o,es,ep,t,_,J _ _ D,M,L,UX _ rfl,.A (z:=0) O⟩⟩ J (UT _) (by rw[V5];exact V0 _) ?_;exact(Ag _ es).map _
  |false =>
   rw[O]at c h;have Z:(!t.plain&&decide (es.size>1))=ai:=by
    cases z:(!t.plain&&decide (es.size>1))with
    |false=>rfl|true=>rw[z]at c;exact bO rfl c
   exact f _ s.drawn _ _ ⟨⟨o,es,ep,t,_,J _ _ D,M,L,UX _ rfl,.C (i:=0) O Z h⟩⟩ J (UT _) (by rw[V5];exact V0 _) (.refl _)
end
end BX
end
section
namespace BX
open PySem PySem.Spec PyProof.Rows
section
variable{prog:U4}{w:Vl}{A:VU}{E:aC->UR->Prop}{h:au}{g:Array GenState}{d:Drawn}{t:Nat}{os:OsState}{a:aB}{o:aq}
end
section
variable{prog:U4}{w:Vl}{K:Type}[DecidableEq K]{knd:KeyKind prog w K}{A:VU}{E:aC->UR->Prop}{s:UR}
end
end BX
end
section
namespace BT
open PySem
def dR{P:Prop}(h:ai=ah):P:=nomatch h
def w9{P:Prop}(h:ah=ai):P:=nomatch h
def gu{q:Type}{a:q}{P:Prop}(h:(af:Option q)=aa a):P:=nomatch h
inductive D
 |aF|bl(b:Bool)|int(i:Int)|str(x:aA)|aE(xs:List D)|aD(xs:List D)
inductive FK
 |f(x:aA)|m(c x:aA)|l(i:Nat)
 deriving DecidableEq
instance:Coe String FK:=⟨λs=>.f (U7 s)⟩
inductive Cp
 |p(d:D)|o(n:Nat)
noncomputable abbrev Ky:=Int ⊕ aA
noncomputable abbrev Pr:=D×List (Ky×D)
inductive Kd
 |t(kvs:List (aA×D))|l(kvs:List (Ky×D))|m(kvs:List (Ky×D))|q(d:D)(kvs:List (Ky×D))|s(ps:List Pr)
inductive W
 |p(d:D)|r(n:Nat)|k(kvs:Kd)|o(n:Nat)|c(f:FK)(q:List Cp)|x(c:aA)
noncomputable def Cp.w:Cp->W
 |.p d=>.p d|.o n=>.o n
@[simp]theorem Cp.w_p(d:D):Cp.w (.p d)=.p d:=rfl
@[simp]theorem Cp.w_o(n:Nat):Cp.w (.o n)=.o n:=rfl
noncomputable def vd:W->Option Cp
 |.p d=>aa (.p d)|.o n=>aa (.o n)|.r _=>af|.k _=>af|.c _ _=>af|.x _=>af
@[simp]theorem Qd(d:D):vd (.p d)=aa (.p d):=rfl
@[simp]theorem Qe(n:Nat):vd (.o n)=aa (.o n):=rfl
inductive Cl
 |l(xs:List D)|o(c:aA)(fs:List (aA×W))|d(kvs:List (Ky×D))|z|b(ns:List Nat)|s(ps:List Pr)
noncomputable abbrev HH:=List Cl
noncomputable abbrev Sl:=List (Option W)
set_option genInjectivity false in
inductive Bin
 |add|sub|mul|mod|fdiv
set_option genInjectivity false in
inductive Cm
 |eq|ne|lt|le|gt|ge|isN|notN|mem|nmem
set_option genInjectivity false in
inductive Sr
 |seq|rng1|rng2|rev|enu|zip2|rng3|itm|chs|zipG
inductive Bi
 |len|int|str|list|tuple|all|isInt|isBool|isStr|isTuple|min2|max2
 |sorted|max1|sset|maxd|min1
set_option genInjectivity false in
inductive Me
 |append|pop|extend|tindex|sindex|dget|count|lindex
inductive Tx
 |join|split|str|intS|all|inS|ninS|dget|pre
inductive Dk
 |of|ks|so|it
set_option genInjectivity false in
inductive P2
 |aE|y|mem
set_option genInjectivity false in
inductive M2
 |app|pop|upd
set_option genInjectivity false in
mutual
inductive E
 |v(i:Nat)
 |j(d:D)
 |aG(x:aA)
 |bin(o:Bin)(a b:E)
 |neg(a:E)
 |not(a:E)
 |and(a b:E)
 |or(a b:E)
 |z(o:Cm)(a b:E)
 |chain(o o':Cm)(a b c:E)
 |ite(c a b:E)
 |aE(as:Es)
 |aD(mu:Bool)(as:Es)
 |y(a i:E)
 |n(a:E)(lo hi:Es)
 |rvs(a:E)
 |stp(mu:Bool)(k:Int)(a:E)
 |call(f:aA)(as:Es)
 |i(a:E)(f:aA)
 |aH(o:E)(m:aA)(as:Es)
 |make(c:aA)(as:Es)
 |bi(b:Bi)(mu:Bool)(as:Es)
 |lsr(mu:Bool)(sr:Sr)(as:Es)
 |me(m:Me)(o:E)(as:Es)
 |comp(mu:Bool)(sr:Sr)(sa:Es)(tg:List aA)(fv:List (Nat×aA))(cond:Es)(elt:E)
 |callv(i:Nat)(as:Es)
 |methL(o:E)(m:aA)(as:Es)(L:Nat)(fv:List (Nat×aA))
 |dnew
 |frz(a:E)
 |p2(k:P2)(a b:E)
 |m2(k:M2)(o a:E)
inductive Es
 |nil
 |cons(a:E)(as:Es)
end
set_option genInjectivity false in
inductive S
 |nil
 |seq(a b:S)
 |set(i:Nat)(e:E)
 |unp(xs:List (Nat×aA))(e:E)
 |aug(i:Nat)(o:Bin)(e:E)
 |put(i:Nat)(k e:E)
 |putd(i:Nat)(k e:E)
 |setf(o:E)(f:aA)(e:E)
 |augf(o:E)(f:aA)(q:Bin)(e:E)
 |ex(e:E)
 |ret(e:E)
 |v(c:E)(a b:S)
 |j(c:E)(b:S)
 |for(tg:List (Nat×aA))(sr:Sr)(sa:Es)(b:S)
 |brk|cnt
 |bad
 |blk(b:S)
 |rai(c:aA)(e:E)
 |rai2(c:aA)(a e:E)
set_option genInjectivity false in
structure Fn where
 ps:List aA
 ns:List aA
 body:S
noncomputable abbrev cZ(a:E):Es:=.cons a .nil
noncomputable abbrev cY(a b:E):Es:=.cons a (.cons b .nil)
noncomputable abbrev cX(a b c:E):Es:=.cons a (.cons b (.cons c .nil))
noncomputable abbrev cW(a b c d:E):Es:=.cons a (.cons b (.cons c (.cons d .nil)))
noncomputable abbrev cV(a b c d e:E):Es:=.cons a (.cons b (.cons c (.cons d (.cons e .nil))))
noncomputable abbrev cU(a b c d e f:E):Es:=.cons a (.cons b (.cons c (.cons d (.cons e (.cons f .nil)))))
noncomputable def bnd{B q:Type}(x:Option (B×HH))(k:B->HH->Option q):Option q :=
 match x with|some (a,h)=>k a h|none=>af
@[simp]theorem eU{q B:Type}(a:q)(h:HH)(k:q->HH->Option B):bnd (aa (a,h)) k=k a h:=rfl
@[simp]theorem N3{B q:Type}(k:B->HH->Option q):bnd af k=af:=rfl
@[simp]noncomputable def lim:Nat:=100000
mutual
@[simp]noncomputable def eqv:D->D->Bool
 |.aF,.aF=>ah|.bl a,.bl b=>a==b|.bl a,.int j=>(if a then(1:Int)else 0)==j|.int i,.bl b=>i==(if b then(1:Int)else 0)|.int i,.int j=>i==j|.str x,.str y=>x==y|.aE xs,.aE ys=>qV xs ys|.aD xs,.aD ys=>qV xs ys|_,_=>ai
@[simp]noncomputable def qV:List D->List D->Bool
 |[],[]=>ah|x::xs,y::ys=>eqv x y&&qV xs ys|_,_=>ai
end
noncomputable def oh:Cl->Option (List D)
 |.l q=>aa q|.o _ _=>af|.d _=>af|.z=>af|.s _=>af|.b _=>af
def pG:Cl->Option (aA×List (aA×W))
 |.l _=>af|.o c fs=>aa (c,fs)|.d _=>af|.z=>af|.s _=>af|.b _=>af
noncomputable def tE:Cl->Option (List (Ky×D))
 |.l _=>af|.o _ _=>af|.d q=>aa q|.z=>af|.s _=>af|.b _=>af
@[simp]theorem Rt(ps:List Pr):oh (.s ps)=af:=rfl
@[simp]theorem Ru(ps:List Pr):pG (.s ps)=af:=rfl
@[simp]theorem Rv(ps:List Pr):tE (.s ps)=af:=rfl
@[simp]theorem Rx(ns:List Nat):oh (.b ns)=af:=rfl
@[simp]theorem Ry(ns:List Nat):pG (.b ns)=af:=rfl
@[simp]theorem Rz(ns:List Nat):tE (.b ns)=af:=rfl
@[simp]theorem RB(kvs:List (Ky×D)):oh (.d kvs)=af:=rfl
@[simp]theorem RC(kvs:List (Ky×D)):pG (.d kvs)=af:=rfl
@[simp]theorem RE(kvs:List (Ky×D)):tE (.d kvs)=aa kvs:=rfl
@[simp]theorem RG:oh .z=af:=rfl
@[simp]theorem RI:pG .z=af:=rfl
@[simp]theorem RJ:tE .z=af:=rfl
@[simp]theorem RK(xs:List D):tE (.l xs)=af:=rfl
@[simp]theorem RL(c:aA)(fs:List (aA×W)):tE (.o c fs)=af:=rfl
@[simp]theorem RM(xs:List D):oh (.l xs)=aa xs:=rfl
@[simp]theorem RN(c:aA)(fs:List (aA×W)):oh (.o c fs)=af:=rfl
@[simp]theorem RO(xs:List D):pG (.l xs)=af:=rfl
@[simp]theorem J5(c:aA)(fs:List (aA×W)):pG (.o c fs)=aa (c,fs):=rfl
def lat(h:HH)(n:Nat):Option (List D):=(h[n]?).bind oh
def oat(h:HH)(n:Nat):Option (aA×List (aA×W)):=(h[n]?).bind pG
def dat(h:HH)(n:Nat):Option (List (Ky×D)):=(h[n]?).bind tE
noncomputable def J6:Cl->Option (List Pr)
 |.s B=>aa B
 |.l q=>if q.isEmpty then aa []else af
 |_=>af
@[simp]theorem RQ(ps:List Pr):J6 (.s ps)=aa ps:=rfl
@[simp]theorem N4:J6 (.l [])=aa []:=rfl
def pat(h:HH)(n:Nat):Option (List Pr):=(h[n]?).bind J6
noncomputable def Cf:Cl->Option (List Pr)
 |.s q=>aa q|_=>af
@[simp]theorem RT(ps:List Pr):Cf (.s ps)=aa ps:=rfl
@[simp]theorem RU(xs:List D):Cf (.l xs)=af:=rfl
@[simp]theorem RV(c:aA)(fs:List (aA×W)):Cf (.o c fs)=af:=rfl
@[simp]theorem RX(kvs:List (Ky×D)):Cf (.d kvs)=af:=rfl
def sat(h:HH)(n:Nat):Option (List Pr):=(h[n]?).bind Cf
noncomputable def jx:D->Option Ky
 |.aF=>af|.bl _=>af|.int i=>aa (.inl i)|.str x=>aa (.inr x)|.aE _=>af|.aD _=>af
@[simp]theorem N5(i:Int):jx (.int i)=aa (.inl i):=rfl
@[simp]theorem N6(x:aA):jx (.str x)=aa (.inr x):=rfl
noncomputable def Ah:Ky->D
 |.inl i=>.int i|.inr x=>.str x
@[simp]theorem RY(i:Int):Ah (.inl i)=.int i:=rfl
@[simp]theorem RZ(x:aA):Ah (.inr x)=.str x:=rfl
noncomputable def dY(kvs:List (Ky×D))(k:Ky):Option D:=(kvs.find? λq=>decide (q.1=k)).map (·.2)
noncomputable def fu(kvs:List (Ky×D))(k:Ky)(v:D):List (Ky×D) :=
 if(kvs.any λq=>decide (q.1=k))=ah then kvs.map (λq=>if q.1=k then(q.1,v)else q)else kvs++[(k,v)]
def rd(w:W)(h:HH):Option D:=match w with
 |.p d=>aa d|.r n=>(lat h n).map D.aD|.k _=>af|.o _=>af|.c _ _=>af|.x _=>af
@[simp]theorem UE(d:D)(h:HH):rd (.p d) h=aa d:=rfl
noncomputable def big(i:Int):Bool:=decide (i.natAbs<2^64)
noncomputable def rep(k:Nat)(xs:List D):List D:=(Vc k xs).flatten
def mZ:Bin->D->D->Option D
 |.add,.int i,.int j=>aa (.int (i+j))
 |.add,.str x,.str y=>if x.length+y.length<=lim then aa (.str (x++y))else af
 |.add,.aE xs,.aE ys=>if xs.length+ys.length<=lim then aa (.aE (xs++ys))else af
 |.add,.aD xs,.aD ys=>if xs.length+ys.length<=lim then aa (.aD (xs++ys))else af
 |.sub,.int i,.int j=>aa (.int (i-j))
 |.mul,.int i,.int j=>if big i||big j then aa (.int (i*j))else af
 |.mul,.aE xs,.int k=>if 2<=k&&k<=1000&&!xs.isEmpty&&xs.length*k.toNat<=lim then aa (.aE (rep k.toNat xs))else af
 |.mul,.aD xs,.int k=>if -1000<=k&&k<=1000&&xs.length*k.toNat<=lim then aa (.aD (rep k.toNat xs))else af
 |.mod,.int i,.int j=>if 0<j then aa (.int (i%j))else af
 |.fdiv,.int i,.int j=>if 0<j&&j<1073741824 then aa (.int (i/j))else af
 |_,_,_=>af
def pH:Bin->D->D->Option D
 |.add,.int i,.int j=>aa (.int (i+j))|.sub,.int i,.int j=>aa (.int (i-j))
 |.mul,.int i,.int j=>if big i||big j then aa (.int (i*j))else af
 |_,_,_=>af
@[simp]theorem N7(i j:Int):pH .add (.int i) (.int j)=aa (.int (i+j)):=rfl
@[simp]theorem N8(i j:Int):pH .sub (.int i) (.int j)=aa (.int (i-j)):=rfl
@[simp]theorem ve(i j:Int):pH .mul (.int i) (.int j)=if big i||big j then aa (.int (i*j))else af:=rfl
@[simp]noncomputable def place(n:Nat)(i:Int):Option Nat :=
 if 0<=i then(if i<n then aa i.toNat else af)else if -(n:Int)<=i then aa (i+n).toNat else af
@[simp]def atP{q:Type}(xs:List q)(i:Int):Option q:=(place xs.length i).bind λj=>xs[j]?
@[simp]noncomputable def fG(k:aA):List (aA×D)->Option D
 |[]=>af
 |(x,d)::r=>if k=x then aa d else fG k r
def dP:D->D->Option D
 |.aE xs,.int i=>atP xs i|.aD xs,.int i=>atP xs i
 |.str x,.int i=>if x.length<=lim then(atP x.cps.toList i).map λc=>.str ⟨#[c]⟩else af
 |_,_=>af
@[simp]noncomputable def clip(n d:Nat):Option Int->Nat
 |none=>d
 |some v=>if v<0 then(v+(n:Int)).toNat else if v<=(n:Int)then v.toNat else n
@[simp]def cut(xs:List D)(lo hi:Option Int):List D:=(xs.drop (clip xs.length 0 lo)).take (clip xs.length xs.length hi-clip xs.length 0 lo)
@[simp]noncomputable def tF:List D->Option (Option Int)
 |[]=>aa af|[.int i]=>aa (aa i)|_=>af
def qW(x:D)(lo hi:Option Int):Option D:=match x with
 |.aE q=>aa (.aE (cut q lo hi))|.aD q=>aa (.aD (cut q lo hi))|_=>af
noncomputable def dok:Nat->D->Bool
 |_,.aF=>ah|_,.bl _=>ah|_,.int _=>ah|_,.str _=>ah|0,.aE _=>ai|0,.aD _=>ai|n+1,.aE xs=>xs.all (dok n)|n+1,.aD xs=>xs.all (dok n)
@[simp]theorem Qf(n:Nat):dok n .aF=ah:=by cases n<;>rfl
@[simp]theorem R0(n:Nat)(b:Bool):dok n (.bl b)=ah:=by cases n<;>rfl
@[simp]theorem Qg(n:Nat)(i:Int):dok n (.int i)=ah:=by cases n<;>rfl
@[simp]theorem Qh(n:Nat)(x:aA):dok n (.str x)=ah:=by cases n<;>rfl
@[simp]theorem yy(n:Nat)(xs:List D):dok (n+1) (.aE xs)=xs.all (dok n):=rfl
@[simp]theorem yz(n:Nat)(xs:List D):dok (n+1) (.aD xs)=xs.all (dok n):=rfl
def eB(x y:D):Bool:=dok 100 x||dok 100 y
@[simp]theorem N9(x:D)(y:aA):eB x (.str y)=ah:=by simp[eB]
@[simp]theorem Cg(x:D)(y:Int):eB x (.int y)=ah:=by simp[eB]
@[simp]theorem MU(x:D)(y:aA):eB (.str y) x=ah:=by simp[eB]
@[simp]theorem MV(x:D)(y:Int):eB (.int y) x=ah:=by simp[eB]
@[simp]theorem MW(x:D):eB x (.aE [])=ah:=by simp[eB,dok]
@[simp]theorem MY(x:D):eB x (.aD [])=ah:=by simp[eB,dok]
@[simp]theorem Qi(x:D)(b:Bool):eB x (.bl b)=ah:=by simp[eB]
def lF{x y:D}(h:dok 100 y=ah):eB x y=ah:=by simp[eB,h]
noncomputable def jT:D->Bool
 |.aF=>ah|.bl _=>ai|.int _=>ai|.str _=>ai|.aE _=>ai|.aD _=>ai
@[simp]theorem MZ:jT .aF=ah:=rfl
@[simp]theorem Oa(z:Bool):jT (.bl z)=ai:=rfl
@[simp]theorem M0(z:Int):jT (.int z)=ai:=rfl
@[simp]theorem M1(z:aA):jT (.str z)=ai:=rfl
@[simp]theorem M3(z:List D):jT (.aE z)=ai:=rfl
@[simp]theorem M4(z:List D):jT (.aD z)=ai:=rfl
noncomputable def tG(b:Bool):D->Bool
 |.aF=>ai|.bl c=>c==b|.int _=>ai|.str _=>ai|.aE _=>ai|.aD _=>ai
@[simp]theorem Ob(b:Bool):tG b .aF=ai:=rfl
@[simp]theorem Qj(b z:Bool):tG b (.bl z)=(z==b):=rfl
@[simp]theorem Oc(b:Bool)(z:Int):tG b (.int z)=ai:=rfl
@[simp]theorem Od(b:Bool)(z:aA):tG b (.str z)=ai:=rfl
@[simp]theorem Oe(b:Bool)(z:List D):tG b (.aE z)=ai:=rfl
@[simp]theorem Of(b:Bool)(z:List D):tG b (.aD z)=ai:=rfl
def gI:Cm->D->D->Option Bool
 |.eq,x,y=>if eB x y then aa (eqv x y)else af
 |.ne,x,y=>if eB x y then aa (!eqv x y)else af
 |.lt,.int i,.int j=>aa (decide (i<j))|.le,.int i,.int j=>aa (decide (i<=j))|.gt,.int i,.int j=>aa (decide (j<i))|.ge,.int i,.int j=>aa (decide (j<=i))|.isN,x,.aF=>aa (jT x)|.notN,x,.aF=>aa (!jT x)|.notN,x,.bl b=>aa (!tG b x)
 |.mem,x,.aE ys=>if ys.all λy=>eB y x then aa (ys.any λy=>eqv y x)else af
 |.mem,x,.aD ys=>if ys.all λy=>eB y x then aa (ys.any λy=>eqv y x)else af
 |.nmem,x,.aE ys=>if ys.all λy=>eB y x then aa (!ys.any λy=>eqv y x)else af
 |.nmem,x,.aD ys=>if ys.all λy=>eB y x then aa (!ys.any λy=>eqv y x)else af
 |_,_,_=>af
@[simp]noncomputable def intsOf:List D->Option (List Int)
 |[]=>aa []|.int i::r=>(intsOf r).map (i :: ·)|_=>af
@[simp]noncomputable def allB:List D->Option Bool
 |[]=>aa ah
 |.bl b::r=>if b then allB r else aa ai
 |_=>af
@[simp]noncomputable def anyB:List D->Option Bool
 |[]=>aa ai
 |.bl b::r=>if b then aa ah else anyB r
 |_=>af
noncomputable def isI:D->Bool
 |.aF=>ai|.bl _=>ah|.int _=>ah|.str _=>ai|.aE _=>ai|.aD _=>ai
@[simp]theorem Qk:isI .aF=ai:=rfl
@[simp]theorem R6(z:Bool):isI (.bl z)=ah:=rfl
@[simp]theorem Ql(z:Int):isI (.int z)=ah:=rfl
@[simp]theorem Qm(z:aA):isI (.str z)=ai:=rfl
@[simp]theorem Qn(z:List D):isI (.aE z)=ai:=rfl
@[simp]theorem Qo(z:List D):isI (.aD z)=ai:=rfl
noncomputable def isB:D->Bool
 |.aF=>ai|.bl _=>ah|.int _=>ai|.str _=>ai|.aE _=>ai|.aD _=>ai
@[simp]theorem Qp:isB .aF=ai:=rfl
@[simp]theorem R8(z:Bool):isB (.bl z)=ah:=rfl
@[simp]theorem Qq(z:Int):isB (.int z)=ai:=rfl
@[simp]theorem Qs(z:aA):isB (.str z)=ai:=rfl
@[simp]theorem Qt(z:List D):isB (.aE z)=ai:=rfl
@[simp]theorem Qu(z:List D):isB (.aD z)=ai:=rfl
noncomputable def isS:D->Bool
 |.aF=>ai|.bl _=>ai|.int _=>ai|.str _=>ah|.aE _=>ai|.aD _=>ai
@[simp]theorem Qv:isS .aF=ai:=rfl
@[simp]theorem Sa(z:Bool):isS (.bl z)=ai:=rfl
@[simp]theorem Qw(z:Int):isS (.int z)=ai:=rfl
@[simp]theorem Qx(z:aA):isS (.str z)=ah:=rfl
@[simp]theorem Qz(z:List D):isS (.aE z)=ai:=rfl
@[simp]theorem QA(z:List D):isS (.aD z)=ai:=rfl
noncomputable def isT:D->Bool
 |.aF=>ai|.bl _=>ai|.int _=>ai|.str _=>ai|.aE _=>ah|.aD _=>ai
@[simp]theorem QB:isT .aF=ai:=rfl
@[simp]theorem Sd(z:Bool):isT (.bl z)=ai:=rfl
@[simp]theorem QC(z:Int):isT (.int z)=ai:=rfl
@[simp]theorem QD(z:aA):isT (.str z)=ai:=rfl
@[simp]theorem QE(z:List D):isT (.aE z)=ah:=rfl
@[simp]theorem QF(z:List D):isT (.aD z)=ai:=rfl
noncomputable def isL:D->Bool
 |.aF=>ai|.bl _=>ai|.int _=>ai|.str _=>ai|.aE _=>ai|.aD _=>ah
noncomputable def sortI(ns:List Int):List Int:=ns.mergeSort λa b=>decide (a<=b)
noncomputable def vf:List Int->Option Int
 |[]=>af|n::ns=>aa (ns.foldl max n)
noncomputable def J7:List Int->Option Int
 |[]=>af|n::ns=>aa (ns.foldl min n)
@[simp]noncomputable def FZ:List D->List D->List D
 |x::xs,y::ys=>.aE [x,y]::FZ xs ys|_,_=>[]
noncomputable def ded(ns:List Int):List Int:=ns.foldl (fun q v=>if q.any (·==v)then q else q++[v]) []
noncomputable def Uh(a b c:Int):Nat:=if a<b then((b-a-1)/c+1).toNat else 0
noncomputable def stepI(a c:Int)(n:Nat):List Int:=(Vj n).map λ(k:Nat)=>a+(k:Int)*c
def biD:Bi->List D->Option D
 |.len,[.aE xs]=>aa (.int xs.length)|.len,[.aD xs]=>aa (.int xs.length)
 |.len,[.str x]=>if x.length<=lim then aa (.int x.length)else af
 |.int,[.int i]=>aa (.int i)|.int,[.bl b]=>aa (.int (if b then 1 else 0))
 |.str,[.int i]=>if big i then aa (.str (toString i))else af
 |.tuple,[.aD xs]=>aa (.aE xs)|.tuple,[.aE xs]=>aa (.aE xs)|.list,[.aD xs]=>aa (.aD xs)|.list,[.aE xs]=>aa (.aD xs)|.all,[.aD xs]=>(allB xs).map .bl|.isInt,[x]=>aa (.bl (isI x))|.isBool,[x]=>aa (.bl (isB x))|.isStr,[x]=>aa (.bl (isS x))|.isTuple,[x]=>aa (.bl (isT x))|.min2,[.int i,.int j]=>aa (.int (if j<i then j else i))|.max2,[.int i,.int j]=>aa (.int (if j>i then j else i))
 |.sorted,[.aD xs]=>(intsOf xs).bind λq=>if q.length<64 then aa (.aD ((sortI q).map .int))else af
 |.max1,[.aD xs]=>(intsOf xs).bind λq=>(vf q).map .int
 |.sset,[.aD xs]=>(intsOf xs).bind λq=>if q.length<64 then aa (.aD ((sortI (ded q)).map .int))else af
 |.maxd,[.aD xs,.int d]=>(intsOf xs).map λq=>.int ((vf q).getD d)
 |.min1,[.aD xs]=>(intsOf xs).bind λq=>(J7 q).map .int
 |_,_=>af
@[simp]noncomputable def kK:Nat->List D->List D
 |_,[]=>[]|k,x::r=>.aE [.int k,x]::kK (k+1) r
noncomputable def tH:D->Option (List D)
 |.aE q=>aa q|.aD q=>aa q|_=>af
noncomputable def upto(lo:Int)(n:Nat):List D:=(Vj n).map λ(k:Nat)=>D.int (lo+(k:Int))
noncomputable def down(a:Int)(n:Nat):List D:=(Vj n).map λi=>.int (a-(i:Nat))
noncomputable def J8(x:aA):List D:=x.cps.toList.map λc=>.str ⟨#[c]⟩
def F3:D->Option (List D)
 |.aE q=>aa q|.aD q=>aa q|.str x=>aa (J8 x)|_=>af
def gW:Sr->List D->Option (List D)
 |.seq,[x]=>tH x
 |.rng1,[.int n]=>if -100000<=n&&n<=100000 then aa (upto 0 n.toNat)else af
 |.rng2,[.int a,.int b]=>if -100000<=a&&a<=100000&&-100000<=b&&b<=100000 then aa (upto a (b-a).toNat)else af
 |.rev,[.aD q]=>aa q.reverse|.enu,[.aD q]=>aa (kK 0 q)|.zip2,[.aD q,.aD ys]=>aa (FZ q ys)|.itm,[.aD q]=>aa q|.chs,[.str x]=>aa (J8 x)
 |.zipG,[x,y]=>(F3 x).bind λq=>(F3 y).map (FZ q)
 |.rng3,[.int a,.int b,.int c]=>if c=-1/\-100000<=a/\a<=100000/\-100000<=b/\b<=100000 then aa (down a (a-b).toNat)else af
 |_,_=>af
@[simp]def j5(x:D):List D->Nat->Option Nat
 |[],_=>af
 |y::r,k=>if eqv y x then aa k else j5 x r (k+1)
@[simp]noncomputable def Og(c:Nat):List Nat->Nat->Option Nat
 |[],_=>af
 |y::r,k=>if y=c then aa k else Og c r (k+1)
@[simp]noncomputable def dQ:List W->Option (List D)
 |[]=>aa []|.p d::r=>(dQ r).map (d :: ·)|.r _::_=>af|.k _::_=>af|.o _::_=>af|.c _ _::_=>af|.x _::_=>af
def meD:Me->D->List D->Option D
 |.tindex,.aE xs,[x]=>if xs.all λy=>eB y x then(j5 x xs 0).map λ(q:Nat)=>D.int (q:Int)else af
 |.sindex,.str x,[.str y]=>match Xz x y 0 x.length 1 with
  |i::_=>aa (.int (i:Int))|[]=>af
 |.count,.aD xs,[x]=>if xs.all λy=>eB y x then aa (.int ((xs.countP λy=>eqv y x:Nat):Int))else af
 |.lindex,.aD xs,[x]=>if xs.all λy=>eB y x then(j5 x xs 0).map λ(q:Nat)=>D.int (q:Int)else af
 |_,_,_=>af
theorem J9{xs:List D}{x:D}:meD .count (.aD xs) [x]=if xs.all λy=>eB y x then aa (.int ((xs.countP λy=>eqv y x:Nat):Int))else af:=rfl
theorem Ci{xs:List D}{x:D}:meD .tindex (.aE xs) [x]=if xs.all λy=>eB y x then(j5 x xs 0).map λ(q:Nat)=>D.int (q:Int)else af:=rfl
theorem Ka{x y:aA}:meD .sindex (.str x) [.str y]=match Xz x y 0 x.length 1 with
 |i::_=>aa (.int (i:Int))|[]=>af:=rfl
def meW(m:Me)(o:W)(as:List W)(h:HH):Option (W×HH):=match m,o,as with
 |.append,.r n,[.p d]=>match lat h n with
  |some q=>if q.length<lim then aa (.p .aF,h.set n (.l (q++[d])))else af
  |none=>af
 |.pop,.r n,[]=>match lat h n with
  |some q=>match q.getLast? with
   |some d=>aa (.p d,h.set n (.l q.dropLast))|none=>af
  |none=>af
 |.extend,.r n,[w]=>match lat h n,(rd w h).bind tH with
  |some q,aa ys=>if q.length+ys.length<=lim then aa (.p .aF,h.set n (.l (q++ys)))else af
  |_,_=>af
 |.dget,.k (.t kvs),[.p (.str x)]=>aa (.p ((fG x kvs).getD .aF),h)|.dget,.k (.t _),[.p .aF]=>aa (.p .aF,h)|.dget,.k (.t kvs),[.p (.str x),.p d]=>aa (.p ((fG x kvs).getD d),h)
 |m,.p d,as=>match dQ as with
  |some B=>(meD m d B).map λx=>(.p x,h)
  |none=>af
 |_,_,_=>af
section
variable(n:Nat)(d:D)(h:HH)(kvs:List (aA×D))(x:aA)(as:List W)
@[simp]theorem xg:meW .append (.r n) [.p d] h=match lat h n with
 |some q=>if q.length<lim then aa (.p .aF,h.set n (.l (q++[d])))else af
 |none=>af:=rfl
@[simp]theorem F4:meW .pop (.r n) [] h=match lat h n with
 |some q=>match q.getLast? with
  |some d=>aa (.p d,h.set n (.l q.dropLast))|none=>af
 |none=>af:=rfl
@[simp]theorem xh(w:W):meW .extend (.r n) [w] h=match lat h n,(rd w h).bind tH with
 |some xs,aa ys=>if xs.length+ys.length<=lim then aa (.p .aF,h.set n (.l (xs++ys)))else af
 |_,_=>af:=rfl
@[simp]theorem pI:meW .tindex (.p d) as h=match dQ as with
 |some q=>(meD .tindex d q).map λx=>(.p x,h)
 |none=>af:=rfl
@[simp]theorem Ai:meW .count (.p d) as h=match dQ as with
 |some q=>(meD .count d q).map λx=>(.p x,h)
 |none=>af:=rfl
@[simp]theorem Kc:meW .lindex (.p d) as h=match dQ as with
 |some q=>(meD .lindex d q).map λx=>(.p x,h)
 |none=>af:=rfl
@[simp]theorem pJ:meW .sindex (.p d) as h=match dQ as with
 |some q=>(meD .sindex d q).map λx=>(.p x,h)
 |none=>af:=rfl
end
noncomputable def new(mu:Bool)(xs:List D)(h:HH):W×HH:=if mu then(.r h.length,h++[.l xs])else(.p (.aD xs),h)
@[simp]theorem Ui(xs:List D)(h:HH):new ai xs h=(.p (.aD xs),h):=rfl
@[simp]theorem Uj(xs:List D)(h:HH):new ah xs h=(.r h.length,h++[.l xs]):=rfl
@[simp]def rds(ws:List W)(h:HH):Option (List D):=match ws with
 |[]=>aa []
 |w::r=>(rd w h).bind λd=>(rds r h).map (d :: ·)
noncomputable def unpack(n:Nat):D->Option (List D)
 |.aE q=>if q.length=n then aa q else af
 |.aD q=>if q.length=n then aa q else af
 |_=>af
def target(n:Nat)(d:D):Option (List D):=if n=1 then aa [d]else unpack n d
section
variable(i j k a b:Int)(c:Bool)(x y:aA)(xs ys:List D)(kvs:List (aA×D))(d e:D)(lo hi:Option Int)
@[simp]theorem vg:mZ .add (.int i) (.int j)=aa (.int (i+j)):=rfl
@[simp]theorem pK:mZ .add (.str x) (.str y)=if x.length+y.length<=lim then aa (.str (x++y))else af:=rfl
@[simp]theorem pL:mZ .add (.aE xs) (.aE ys)=if xs.length+ys.length<=lim then aa (.aE (xs++ys))else af:=rfl
@[simp]theorem pM:mZ .add (.aD xs) (.aD ys)=if xs.length+ys.length<=lim then aa (.aD (xs++ys))else af:=rfl
@[simp]theorem pN:mZ .sub (.int i) (.int j)=aa (.int (i-j)):=rfl
@[simp]theorem vh:mZ .mul (.int i) (.int j)=if big i||big j then aa (.int (i*j))else af:=rfl
@[simp]theorem pO:mZ .mul (.aE xs) (.int k)=if 2<=k&&k<=1000&&!xs.isEmpty&&xs.length*k.toNat<=lim then aa (.aE (rep k.toNat xs))else af:=rfl
@[simp]theorem pP:mZ .mul (.aD xs) (.int k)=if -1000<=k&&k<=1000&&xs.length*k.toNat<=lim then aa (.aD (rep k.toNat xs))else af:=rfl
@[simp]theorem pQ:mZ .mod (.int i) (.int j)=if 0<j then aa (.int (i%j))else af:=rfl
@[simp]theorem m6:mZ .fdiv (.int i) (.int j)=if 0<j&&j<1073741824 then aa (.int (i/j))else af:=rfl
@[simp]theorem jh:dP (.aE xs) (.int i)=atP xs i:=rfl
@[simp]theorem fm:dP (.aD xs) (.int i)=atP xs i:=rfl
@[simp]theorem jy:dP (.str x) (.int i)=if x.length<=lim then(atP x.cps.toList i).map λc=>.str ⟨#[c]⟩else af:=rfl
@[simp]theorem xj:qW (.aE xs) lo hi=aa (.aE (cut xs lo hi)):=rfl
@[simp]theorem Se:qW (.aD xs) lo hi=aa (.aD (cut xs lo hi)):=rfl
@[simp]theorem tK:gI .eq d e=if eB d e then aa (eqv d e)else af:=rfl
@[simp]theorem kL:gI .ne d e=if eB d e then aa (!eqv d e)else af:=rfl
@[simp]theorem oF:gI .lt (.int i) (.int j)=aa (decide (i<j)):=rfl
@[simp]theorem oG:gI .le (.int i) (.int j)=aa (decide (i<=j)):=rfl
@[simp]theorem oH:gI .gt (.int i) (.int j)=aa (decide (j<i)):=rfl
@[simp]theorem oJ:gI .ge (.int i) (.int j)=aa (decide (j<=i)):=rfl
@[simp]theorem mq:gI .isN d .aF=aa (jT d):=rfl
@[simp]theorem kM:gI .notN d .aF=aa (!jT d):=rfl
@[simp]theorem Aj{b:Bool}:gI .notN d (.bl b)=aa (!tG b d):=rfl
@[simp]theorem iL:gI .mem d (.aE ys)=if ys.all λy=>eB y d then aa (ys.any λy=>eqv y d)else af:=rfl
@[simp]theorem gK:gI .mem d (.aD ys)=if ys.all λy=>eB y d then aa (ys.any λy=>eqv y d)else af:=rfl
@[simp]theorem iZ:gI .nmem d (.aE ys)=if ys.all λy=>eB y d then aa (!ys.any λy=>eqv y d)else af:=rfl
@[simp]theorem i6:gI .nmem d (.aD ys)=if ys.all λy=>eB y d then aa (!ys.any λy=>eqv y d)else af:=rfl
@[simp]theorem rP:biD .len [.aE xs]=aa (.int xs.length):=rfl
@[simp]theorem M5:biD .len [.aD xs]=aa (.int xs.length):=rfl
@[simp]theorem Ak:biD .len [.str x]=if x.length<=lim then aa (.int x.length)else af:=rfl
@[simp]theorem QG:biD .int [.int i]=aa (.int i):=rfl
@[simp]theorem M6:biD .int [.bl c]=aa (.int (if c then 1 else 0)):=rfl
@[simp]theorem QH:biD .str [.int i]=if big i then aa (.str (toString i))else af:=rfl
@[simp]theorem IR:biD .tuple [.aD xs]=aa (.aE xs):=rfl
@[simp]theorem IS:biD .tuple [.aE xs]=aa (.aE xs):=rfl
theorem xm:biD .sorted [.aD xs]=(intsOf xs).bind λns=>if ns.length<64 then aa (.aD ((sortI ns).map .int))else af:=rfl
theorem vj:biD .sset [.aD xs]=(intsOf xs).bind λns=>if ns.length<64 then aa (.aD ((sortI (ded ns)).map .int))else af:=rfl
theorem vm{d:Int}:biD .maxd [.aD xs,.int d]=(intsOf xs).map λns=>.int ((vf ns).getD d):=rfl
theorem Cj:biD .min1 [.aD xs]=(intsOf xs).bind λns=>(J7 ns).map .int:=rfl
theorem Ck:biD .max1 [.aD xs]=(intsOf xs).bind λns=>(vf ns).map .int:=rfl
def sortI_perm(ns:List Int):(sortI ns).Perm ns:=List.mergeSort_perm _ _
def pR(ns:List Int):(sortI ns).Pairwise (·<=·):=by have:=List.pairwise_mergeSort (le:=λ(a b:Int)=>decide (a<=b)) (λa b c B q=>by simp only[bP]at *;lia) (λa b=>by simp only[WL,bP];lia) ns;exact this.imp λh=>bS h
def foldl_max(l:List Int):∀n:Int,(l.foldl max n=n\/l.foldl max n∈l)/\n<=l.foldl max n/\∀a∈l,a<=l.foldl max n:=by
 induction l with
 |nil=>intro n;exact⟨.inl rfl,Int.le_refl _,λa h=>nomatch h⟩
 |cons x l D =>
  intro n;obtain⟨L,M,J⟩:=D (max n x);rw[WJ];refine⟨?_,by lia,λa B=>?_⟩
  ·rcases L with h|h
   ·rw[h];rcases Int.le_total n x with q|q
    exact .inr (by rw[show max n x=x by lia];exact UY);exact .inl (by lia)
   exact .inr (UV _ h)
  ·rcases List.mem_cons.mp B with rfl|B
   lia;exact J a B
theorem foldl_min:∀(l:List Int)(n:Int),(l.foldl min n=n\/l.foldl min n∈l)/\l.foldl min n<=n/\∀a∈l,l.foldl min n<=a
 |[],n=>⟨.inl rfl,Int.le_refl _,λa h=>bO h (by simp)⟩
 |b::l,n=>by
  obtain⟨J,L,D⟩:=foldl_min l (min n b);rw[WJ];refine⟨?_,by lia,λa B=>?_⟩
  ·rcases J with h|h
   ·rw[h];rcases Int.le_total n b with q|q
    exact .inl (by lia);exact .inr (by rw[show min n b=b by lia];exact UY)
   exact .inr (UV _ h)
  ·rcases List.mem_cons.mp B with rfl|B
   lia;exact D a B
def Al{ns:List Int}{M:Int}(h:J7 ns=aa M):M∈ns/\∀a∈ns,M<=a:=by
 cases ns with
 |nil=>cases h
 |cons n l =>
  cases h;obtain⟨L,J,D⟩:=foldl_min l n;refine⟨?_,λa B=>?_⟩
  ·rcases L with q|q
   rw[q];exact UY;exact UV _ q
  ·rcases List.mem_cons.mp B with rfl|B
   exact J;exact D a B
def m7{ns:List Int}{M:Int}(h:vf ns=aa M):M∈ns/\∀a∈ns,a<=M:=by
 cases ns with
 |nil=>cases h
 |cons n l =>
  cases h;obtain⟨L,J,D⟩:=foldl_max l n;refine⟨?_,λa B=>?_⟩
  ·rcases L with q|q
   rw[q];exact UY;exact UV _ q
  ·rcases List.mem_cons.mp B with rfl|B
   exact J;exact D a B
@[simp]theorem Ke:biD .list [.aD xs]=aa (.aD xs):=rfl
@[simp]theorem Kf:biD .list [.aE xs]=aa (.aD xs):=rfl
@[simp]theorem QI:biD .all [.aD xs]=(allB xs).map .bl:=rfl
@[simp]theorem M7:biD .isInt [d]=aa (.bl (isI d)):=rfl
@[simp]theorem Kg:biD .isBool [d]=aa (.bl (isB d)):=rfl
@[simp]theorem M8:biD .isStr [d]=aa (.bl (isS d)):=rfl
@[simp]theorem IT:biD .isTuple [d]=aa (.bl (isT d)):=rfl
@[simp]theorem QJ:biD .min2 [.int i,.int j]=aa (.int (if j<i then j else i)):=rfl
@[simp]theorem QK:biD .max2 [.int i,.int j]=aa (.int (if j>i then j else i)):=rfl
@[simp]theorem Sf:tH (.aE xs)=aa xs:=rfl
@[simp]theorem Sg:tH (.aD xs)=aa xs:=rfl
@[simp]theorem Cn:gW .seq [d]=tH d:=rfl
@[simp]theorem jk:gW .rng1 [.int a]=if -100000<=a&&a<=100000 then aa (upto 0 a.toNat)else af:=rfl
@[simp]theorem m8:gW .rng2 [.int a,.int b]=if -100000<=a&&a<=100000&&-100000<=b&&b<=100000 then aa (upto a (b-a).toNat)else af:=rfl
theorem rQ{c:Int}:gW .rng3 [.int a,.int b,.int c]=if c=-1/\-100000<=a/\a<=100000/\-100000<=b/\b<=100000 then aa (down a (a-b).toNat)else af:=rfl
@[simp]theorem Oh:gW .rev [.aD xs]=aa xs.reverse:=rfl
@[simp]theorem Oi{x:aA}:gW .chs [.str x]=aa (J8 x):=rfl
@[simp]theorem M9{x y:D}:gW .zipG [x,y]=(F3 x).bind λxs=>(F3 y).map (FZ xs):=rfl
@[simp]theorem Oj:gW .itm [.aD xs]=aa xs:=rfl
@[simp]theorem Kl:meD .tindex (.aE xs) [d]=if xs.all λy=>eB y d then(j5 d xs 0).map λ(q:Nat)=>D.int (q:Int)else af:=rfl
@[simp]theorem vn(n:Nat):unpack n (.aD xs)=if xs.length=n then aa xs else af:=rfl
@[simp]theorem vo(n:Nat):unpack n (.aE xs)=if xs.length=n then aa xs else af:=rfl
end
@[simp]theorem gX(d:D):target 1 d=aa [d]:=rfl
@[simp]theorem Ol(d:D):target 2 d=unpack 2 d:=rfl
noncomputable def yC(o:Option D)(out:List D)(h:HH):Option (List D×HH):=aa (match o with|some x=>x::out|none=>out,h)
def Co(r:HH->Option (List D×HH))(o:Option D)(h:HH):Option (List D×HH):=bnd (r h) (yC o)
@[simp]theorem vp(o:Option D)(out:List D)(h:HH):yC o out h=aa (match o with|some x=>x::out|none=>out,h):=rfl
@[simp]theorem yD(r:HH->Option (List D×HH))(o:Option D)(h:HH):Co r o h=bnd (r h) (yC o):=rfl
def dX(f:List D->HH->Option (Option D×HH))(n:Nat):List D->HH->Option (List D×HH)
 |[],h=>aa ([],h)
 |d::r,h=>match target n d with
  |some q=>bnd (f q h) (Co (dX f n r))|none=>af
noncomputable def fZ(d:D):Option W:=aa (.p d)
noncomputable abbrev EH:=HH->Option (W×HH)
noncomputable abbrev OpW:=W->W->HH->Option (W×HH)
@[simp]def k2(B:EH)(q:OpW)(x:W)(h:HH):Option (W×HH):=bnd (B h) (q x)
@[simp]def tL(o:Bin)(x y:W)(h:HH):Option (W×HH):=match rd x h,rd y h with
 |some d,aa e=>(mZ o d e).map λz=>(.p z,h)
 |_,_=>af
def inT(o:Cm)(x:W)(kvs:List (aA×D)):Option Bool:=match o,x with
 |.mem,.p (.str s)=>aa (fG s kvs).isSome|.mem,.p .aF=>aa ai|.nmem,.p (.str s)=>aa (!(fG s kvs).isSome)|_,_=>af
def inL(o:Cm)(x:W)(kvs:List (Ky×D)):Option Bool:=match o,x with
 |.mem,.p d=>(jx d).map λk=>(dY kvs k).isSome
 |_,_=>af
def inK(o:Cm)(x:W)(q:Kd):Option Bool:=match q with
 |.t B=>inT o x B|.l B=>inL o x B|.m _=>af|.q _ _=>af|.s _=>af
noncomputable def memC:Cm->Bool
 |.mem=>ah|.nmem=>ah|_=>ai
def pS{o:Cm}{x:W}{q:Kd}{b:Bool}(h:memC o=ai):¬inK o x q=aa b:=by intro e;cases o<;>first|exact w9 h|exact gu e|(cases q<;>first|exact gu e|(cases x<;>exact gu e))
@[simp]def lG(o:Cm)(x y:W)(h:HH):Option (W×HH):=match y with
 |.k q=>(inK o x q).map λz=>(.p (.bl z),h)
 |y=>match rd x h,rd y h with
  |some d,aa e=>(gI o d e).map λz=>(.p (.bl z),h)
  |_,_=>af
def atT(kvs:List (aA×D))(y:W):Option D:=match y with
 |.p (.str s)=>fG s kvs|_=>af
def atL(kvs:List (Ky×D))(y:W):Option D:=match y with
 |.p d=>(jx d).bind (dY kvs)|_=>af
def atK(q:Kd)(y:W):Option D:=match q with
 |.t B=>atT B y|.l B=>atL B y|.m _=>af|.q _ _=>af|.s _=>af
@[simp]theorem Uk(kvs:List (aA×D))(x:aA):atK (.t kvs) (.p (.str x))=fG x kvs:=rfl
@[simp]theorem Ul(kvs:List (Ky×D))(i:Int):atK (.l kvs) (.p (.int i))=dY kvs (.inl i):=rfl
@[simp]theorem Um(kvs:List (aA×D))(x:aA):inK .mem (.p (.str x)) (.t kvs)=aa (fG x kvs).isSome:=rfl
@[simp]theorem Uo(kvs:List (aA×D))(x:aA):inK .nmem (.p (.str x)) (.t kvs)=aa (!(fG x kvs).isSome):=rfl
@[simp]theorem Up(kvs:List (aA×D)):inK .mem (.p .aF) (.t kvs)=aa ai:=rfl
@[simp]theorem Uq(kvs:List (Ky×D))(i:Int):inK .mem (.p (.int i)) (.l kvs)=aa (dY kvs (.inl i)).isSome:=rfl
@[simp]def F5(x y:W)(h:HH):Option (W×HH):=match x with
 |.k q=>(atK q y).map λz=>(.p z,h)
 |x=>match rd x h,rd y h with
  |some d,aa e=>(dP d e).map λz=>(.p z,h)
  |_,_=>af
@[simp]noncomputable def F6(x:W)(h:HH):Option (W×HH):=match x with|.p (.int i)=>aa (.p (.int (-i)),h)|_=>af
@[simp]noncomputable def F7(x:W)(h:HH):Option (W×HH):=match x with|.p (.bl b)=>aa (.p (.bl (!b)),h)|_=>af
@[simp]noncomputable def F8(q:EH)(x:W)(h:HH):Option (W×HH):=match x with|.p (.bl c)=>if c then q h else aa (.p (.bl ai),h)|_=>af
@[simp]noncomputable def kOr(q:EH)(x:W)(h:HH):Option (W×HH):=match x with|.p (.bl c)=>if c then aa (.p (.bl ah),h)else q h|_=>af
@[simp]noncomputable def F9(B q:EH)(x:W)(h:HH):Option (W×HH):=match x with|.p (.bl c)=>if c then B h else q h|_=>af
@[simp]def Om(o':Cm)(e:D)(z:W)(h:HH):Option (W×HH):=match rd z h with
 |some f=>(gI o' e f).map λr=>(.p (.bl r),h)
 |none=>af
@[simp]def oCh(o o':Cm)(q:EH)(x y:W)(h:HH):Option (W×HH):=match rd x h,y with
 |some d,.p e=>match gI o d e with
  |some ah=>bnd (q h) (Om o' e)|some ai=>aa (.p (.bl ai),h)|none=>af
 |_,_=>af
@[simp]def Km(ws:List W)(h:HH):Option (W×HH):=match dQ ws with|some q=>if q.length<=lim then aa (.p (.aE q),h)else af|none=>af
@[simp]def Kn(mu:Bool)(ws:List W)(h:HH):Option (W×HH):=match dQ ws with|some q=>if q.length<=lim then aa (new mu q h)else af|none=>af
@[simp]def On(x:W)(l u:List W)(h:HH):Option (W×HH):=match rd x h,(dQ l).bind tF,(dQ u).bind tF with
 |some d,aa l',aa u'=>(qW d l' u').map λz=>(.p z,h)
 |_,_,_=>af
@[simp]def Oo(q:HH->Option (List W×HH))(x:W)(l:List W)(h:HH):Option (W×HH):=bnd (q h) (On x l)
@[simp]def Oq(B q:HH->Option (List W×HH))(x:W)(h:HH):Option (W×HH):=bnd (B h) (Oo q x)
@[simp]noncomputable def Sh(x:W)(h:HH):Option (W×HH):=match x with
 |.p (.aE xs)=>aa (.p (.aE xs.reverse),h)|_=>af
noncomputable def pT(k:Int)(xs:List D):List D:=(Yb (Vt af af (aa k) xs.length).1 (Vt af af (aa k) xs.length).2.1 (Vt af af (aa k) xs.length).2.2).filterMap λi=>xs[i]?
@[simp]def Ko(mu:Bool)(k:Int)(x:W)(h:HH):Option (W×HH):=match rd x h with
 |some (.aD xs)=>aa (new mu (pT k xs) h)|_=>af
@[simp]def kBi(b:Bi)(mu:Bool)(ws:List W)(h:HH):Option (W×HH):=match rds ws h with
 |some B=>match biD b B with
  |some d=>if mu then(match d with|.aD q=>aa (new ah q h)|_=>af)else aa (.p d,h)
  |none=>af
 |none=>af
def tM(x:W)(h:HH):Bool:=match x with
 |.r n=>(lat h n).isSome|.k (.t _)=>ah|.k _=>ai|_=>ah
@[simp]theorem Si(n:Nat)(h:HH):tM (.r n) h=(lat h n).isSome:=rfl
@[simp]theorem Sj(d:D)(h:HH):tM (.p d) h=ah:=rfl
@[simp]theorem Sk(d:List (aA×D))(h:HH):tM (.k (.t d)) h=ah:=rfl
@[simp]def kMe(m:Me)(q:HH->Option (List W×HH))(x:W)(h:HH):Option (W×HH):=if tM x h then bnd (q h) (meW m x)else af
@[simp]def kLs(mu:Bool)(sr:Sr)(ws:List W)(h:HH):Option (W×HH):=match (rds ws h).bind (gW sr)with
 |some q=>if q.length<=lim then aa (new mu q h)else af
 |none=>af
@[simp]def qX(w:W)(h:HH):Option (Option D×HH):=match w with|.p d=>aa (aa d,h)|_=>af
def yE(q:EH)(B:List W)(h:HH):Option (Option D×HH):=match B with
 |[]=>bnd (q h) qX|[.p (.bl ah)]=>bnd (q h) qX|[.p (.bl ai)]=>aa (af,h)|_=>af
@[simp]theorem QL(q:EH)(h:HH):yE q [] h=bnd (q h) qX:=rfl
@[simp]theorem QM(q:EH)(h:HH):yE q [.p (.bl ah)] h=bnd (q h) qX:=rfl
@[simp]theorem QN(q:EH)(h:HH):yE q [.p (.bl ai)] h=aa (af,h):=rfl
@[simp]def fN(B:Sl->HH->Option (List W×HH))(q:Sl->EH)(fs:Sl)(xs:List D)(h:HH):Option (Option D×HH) :=
 bnd (B (xs.map fZ++fs) h) (yE (q (xs.map fZ++fs)))
@[simp]def gY(mu:Bool)(out:List D)(h:HH):Option (W×HH):=if out.length<=lim then aa (new mu out h)else af
def eN(f:aA):List (aA×W)->Option W
 |[]=>af
 |(x,w)::r=>if f=x then aa w else eN f r
def eV(f:aA)(w:W):List (aA×W)->List (aA×W)
 |[]=>[(f,w)]
 |(x,u)::r=>if f=x then(f,w)::r else(x,u)::eV f w r
@[simp]theorem Os(f:aA):eN f []=af:=rfl
@[simp]theorem rR(f x:aA)(w:W)(r:List (aA×W)):eN f ((x,w)::r)=if f=x then aa w else eN f r:=rfl
@[simp]theorem Ot(f:aA)(w:W):eV f w []=[(f,w)]:=rfl
@[simp]theorem Am(f x:aA)(w u:W)(r:List (aA×W)):eV f w ((x,u)::r)=if f=x then(f,w)::r else(x,u)::eV f w r:=rfl
noncomputable def attrOk:W->Bool
 |.p _=>ah|.r _=>ah|.k _=>ai|.o _=>ah|.c _ _=>ai|.x _=>ai
@[simp]theorem Ou(d:D):attrOk (.p d)=ah:=rfl
@[simp]theorem Ow(n:Nat):attrOk (.r n)=ah:=rfl
@[simp]theorem Ox(n:Nat):attrOk (.o n)=ah:=rfl
def Ga(f:aA)(x:W)(h:HH):Option (W×HH):=match x with
 |.o n=>match oat h n with
  |some (_,fs)=>(eN f fs).map λw=>(w,h)
  |none=>af
 |_=>af
@[simp]theorem Kp(f:aA)(n:Nat)(h:HH):Ga f (.o n) h=match oat h n with
 |some (_,fs)=>(eN f fs).map λw=>(w,h)
 |none=>af:=rfl
noncomputable def xo(F:FK->List W->HH->Option (W×HH))(q:FK)(n:Nat)(ws:List W)(h:HH):Option (W×HH):=F q (.o n::ws) h
@[simp]theorem Na(F:FK->List W->HH->Option (W×HH))(q:FK)(n:Nat)(ws:List W)(h:HH):xo F q n ws h=F q (.o n::ws) h:=rfl
def Cq(F:FK->List W->HH->Option (W×HH))(m:aA)(q:HH->Option (List W×HH))(x:W)(h:HH):Option (W×HH):=match x with
 |.o n=>match oat h n with
  |some (c,fs)=>if(eN m fs).isNone then bnd (q h) (xo F (.m c m) n)else af
  |none=>af
 |_=>af
@[simp]theorem Gb(F:FK->List W->HH->Option (W×HH))(m:aA)(q:HH->Option (List W×HH))(n:Nat)(h:HH):Cq F m q (.o n) h=match oat h n with
 |some (c,fs)=>if(eN m fs).isNone then bnd (q h) (xo F (.m c m) n)else af
 |none=>af:=rfl
noncomputable def yF(n:Nat)(x:W)(h:HH):Option (W×HH):=match x with
 |.p .aF=>aa (.o n,h)|_=>af
@[simp]theorem QO(n:Nat)(h:HH):yF n (.p .aF) h=aa (.o n,h):=rfl
def IU(F:FK->List W->HH->Option (W×HH))(c:aA)(ws:List W)(h:HH):Option (W×HH):=bnd (F (.m c "__init__") (.o h.length::ws) (h++[.o c []])) (yF h.length)
@[simp]theorem Cr(F:FK->List W->HH->Option (W×HH))(c:aA)(ws:List W)(h:HH):IU F c ws h=bnd (F (.m c "__init__") (.o h.length::ws) (h++[.o c []])) (yF h.length):=rfl
noncomputable def iM:List W->Bool
 |[]=>ah|.p _::r=>iM r|_=>ai
open Classical in
def chk(q:Nat)(ds:List D)(f:List D->HH->Option (Option D×HH))(xs:List D)(h:HH):Option (Option D×HH):=match f xs h with
 |some (o,h')=>if lat h' q=aa ds then aa (o,h')else af
 |none=>af
open Classical in
def Kq(q:Nat)(ds:List D)(f:List D->HH->Option (Option D×HH))(xs:List D)(h:HH):Option (Option D×HH):=match f xs h with
 |some (o,h')=>if(lat h' q).map (kK 0)=aa ds then aa (o,h')else af
 |none=>af
def tN(mu:Bool)(sr:Sr)(n:Nat)(f:List D->HH->Option (Option D×HH))(ws:List W)(ds:List D)(h:HH):Option (W×HH):=match ws,sr with
 |[.r q],.seq=>bnd (dX (chk q ds f) n ds h) (gY mu)|[.r q],.enu=>bnd (dX (Kq q ds f) n ds h) (gY mu)|_,_=>af
theorem Cs(mu:Bool)(n:Nat)(f:List D->HH->Option (Option D×HH))(q:Nat)(ds:List D)(h:HH):tN mu .enu n f [.r q] ds h=bnd (dX (Kq q ds f) n ds h) (gY mu):=rfl
theorem Ct(mu:Bool)(n:Nat)(f:List D->HH->Option (Option D×HH))(q:Nat)(ds:List D)(h:HH):tN mu .seq n f [.r q] ds h=bnd (dX (chk q ds f) n ds h) (gY mu):=rfl
@[simp]def pU(mu:Bool)(sr:Sr)(n:Nat)(fs:Option Sl)(B:Sl->HH->Option (List W×HH))(q:Sl->EH)(ws:List W)(h:HH):Option (W×HH) :=
 match (rds ws h).bind (gW sr),fs with
 |some ds,aa fs=>if iM ws then bnd (dX (fN B q fs) n ds h) (gY mu)else tN mu sr n (fN B q fs) ws ds h
 |_,_=>af
@[simp]def jz(w:W)(ws:List W)(h:HH):Option (List W×HH):=aa (w::ws,h)
@[simp]def k9(q:HH->Option (List W×HH))(w:W)(h:HH):Option (List W×HH):=bnd (q h) (jz w)
@[simp]def frees(s:Sl):List (Nat×aA)->Option Sl
 |[]=>aa []
 |q::r=>match s[q.1]? with
  |some w=>(frees s r).map (w :: ·)|none=>af
def caps(s:Sl):List (Nat×aA)->Option (List Cp)
 |[]=>aa []
 |q::r=>match s[q.1]? with
  |some (aa w)=>(vd w).bind λx=>(caps s r).map (x :: ·)
  |_=>af
@[simp]theorem Oz(s:Sl):caps s []=aa []:=rfl
@[simp]theorem An(s:Sl)(q:Nat×aA)(r:List (Nat×aA)):caps s (q::r)=match s[q.1]? with
 |some (aa w)=>(vd w).bind λx=>(caps s r).map (x :: ·)
 |_=>af:=rfl
noncomputable def noC:List W->Bool
 |[]=>ah|.p _::r=>noC r|.r _::r=>noC r|.k _::_=>ai|.o _::r=>noC r|.c _ _::_=>ai|.x _::_=>ai
@[simp]theorem QS:noC []=ah:=rfl
@[simp]theorem Ur(d:D)(r:List W):noC (.p d::r)=noC r:=rfl
@[simp]theorem Us(d:Nat)(r:List W):noC (.r d::r)=noC r:=rfl
@[simp]theorem Ut(d:Nat)(r:List W):noC (.o d::r)=noC r:=rfl
def tO(F:FK->List W->HH->Option (W×HH))(o:Option (Option W))(ws:List W)(h:HH):Option (W×HH):=match o with
 |some (aa (.c k cs))=>if noC ws then F k (ws++cs.map Cp.w) h else af
 |_=>af
@[simp]theorem OA(F:FK->List W->HH->Option (W×HH))(k:FK)(q:List Cp)(ws:List W)(h:HH):tO F (aa (aa (.c k q))) ws h=if noC ws then F k (ws++q.map Cp.w) h else af:=rfl
def xq(w:W)(h:HH):Option (W×HH):=match w with
 |.c _ _=>af|.x _=>af|.k (.s ps)=>aa (.k (.s ps),h)|.k _=>af|w=>aa (w,h)
@[simp]theorem Sn(ps:List Pr)(h:HH):xq (.k (.s ps)) h=aa (.k (.s ps),h):=rfl
@[simp]theorem So(d:D)(h:HH):xq (.p d) h=aa (.p d,h):=rfl
@[simp]theorem Sq(n:Nat)(h:HH):xq (.r n) h=aa (.r n,h):=rfl
@[simp]theorem Ss(n:Nat)(h:HH):xq (.o n) h=aa (.o n,h):=rfl
def tP(F:FK->List W->HH->Option (W×HH))(q:FK)(n:Nat)(L:Nat)(B:Option (List Cp))(ws:List W)(h:HH):Option (W×HH):=match B with
 |some B=>bnd (F q (.o n::(ws++[.c (.l L) B])) h) xq|none=>af
@[simp]theorem Ao(F:FK->List W->HH->Option (W×HH))(q:FK)(n:Nat)(L:Nat)(B:List Cp)(ws:List W)(h:HH):tP F q n L (aa B) ws h=bnd (F q (.o n::(ws++[.c (.l L) B])) h) xq:=rfl
def xr(F:FK->List W->HH->Option (W×HH))(m:aA)(q:HH->Option (List W×HH))(L:Nat)(B:Option (List Cp))(x:W)(h:HH):Option (W×HH):=match x with
 |.o n=>match oat h n with
  |some (c,fs)=>if(eN m fs).isNone then bnd (q h) (tP F (.m c m) n L B)else af
  |none=>af
 |_=>af
@[simp]theorem Cu(F:FK->List W->HH->Option (W×HH))(m:aA)(q:HH->Option (List W×HH))(L:Nat)(B:Option (List Cp))(n:Nat)(h:HH):xr F m q L B (.o n) h=match oat h n with
 |some (c,fs)=>if(eN m fs).isNone then bnd (q h) (tP F (.m c m) n L B)else af
 |none=>af:=rfl
noncomputable def Su(c q:aA):Bool:=q==c||q=="TapeError"||q=="ValueError"
noncomputable def Sv(c q:aA):Bool:=!(c=="NoText"&&q=="NoRun")
noncomputable def strsOf:List D->Option (List aA)
 |[]=>aa []|.str x::r=>(strsOf r).map (x :: ·)|_=>af
noncomputable def boolsOf:List D->Option (List Bool)
 |[]=>aa []|.bl b::r=>(boolsOf r).map (b :: ·)|_=>af
def txD:Tx->List D->Option D
 |.join,[.str x,.aD ys]=>(strsOf ys).bind λq=>if q.length<=4000/\x.length<=10/\∀t∈q,t.length<=4000 then aa (.str (Str.join x q))else af
 |.split,[.str x,.str y]=>if y.length=1/\x.length<=lim then aa (.aD ((Txt.split x y).map .str))else af
 |.str,[.int i]=>if big i then aa (.str (toString i))else af
 |.str,[.str x]=>aa (.str x)
 |.intS,[.str x]=>if x.length<=640 then(PySem.intText? x).map .int else af
 |.all,[.aD xs]=>(boolsOf xs).map λbs=>.bl (bs.all id)
 |.inS,[.str x,.str y]=>aa (.bl (Txt.contains y x))|.ninS,[.str x,.str y]=>aa (.bl (!Txt.contains y x))
 |.pre,[.str x,.int i]=>if 0<=i/\x.length<=lim then aa (.str ⟨x.cps.extract 0 i.toNat⟩)else if i=-1/\x.length<=lim then aa (.str ⟨x.cps.extract 0 (x.length-1)⟩)else af
 |_,_=>af
def Cv(kvs:List (aA×D))(as:List W)(h:HH):Option (W×HH):=match as with
 |[.p .aF]=>aa (.p .aF,h)|[.p (.str x)]=>aa (.p ((fG x kvs).getD .aF),h)|[.p (.str x),.p d]=>aa (.p ((fG x kvs).getD d),h)|_=>af
def xu(kvs:List (Ky×D))(as:List W)(h:HH):Option (W×HH):=match as with
 |[.p (.str x)]=>aa (.p ((dY kvs (.inr x)).getD .aF),h)|[.p (.str x),.p d]=>aa (.p ((dY kvs (.inr x)).getD d),h)|_=>af
def kTx(k:Tx)(ws:List W)(h:HH):Option (W×HH):=match k,ws with
 |.dget,.k (.t kvs)::as=>Cv kvs as h|.dget,.k (.l kvs)::as=>xu kvs as h
 |k,ws=>(rds ws h).bind λq=>(txD k q).map λd=>(.p d,h)
open Classical in
def Cw(h:HH)(w:W)(h':HH):Option (W×HH):=match w with
 |.r n=>if n=h.length/\h'.take h.length=h then(dat h' n).map λq=>(.k (.m q),h)else af
 |_=>af
open Classical in
def Cy{h:HH}{kvs:List (Ky×D)}(g:HH):Cw h (.r h.length) (h++.d kvs::g)=aa (.k (.m kvs),h):=by show(if h.length=h.length/\(h++.d kvs::g).take h.length=h then(dat (h++.d kvs::g) h.length).map λkvs=>((.k (.m kvs):W),h)else af)=_;rw[bM ⟨rfl,by simp⟩];simp[dat]
noncomputable def OB(x y:W)(h:HH):Option (W×HH):=match x,y with
 |.p d,.k (.m kvs)=>aa (.k (.q d kvs),h)|_,_=>af
def OD(x y:W)(h:HH):Option (W×HH):=match x,y with
 |.k (.s ps),.p (.int i)=>(atP ps i).map λp=>(.k (.q p.1 p.2),h)
 |.k (.q d kvs),.p (.int i)=>if i=0 then aa (.p d,h)else if i=1 then aa (.k (.m kvs),h)else af
 |_,_=>af
def yG(x y:W)(h:HH):Option (W×HH):=match x,y with
 |.p d,.r n=>(dat h n).bind λq=>match d with
  |.aF=>aa (.p (.bl ai),h)
  |d=>(jx d).map λk=>(.p (.bl (dY q k).isSome),h)
 |_,_=>af
def oP2(k:P2)(x y:W)(h:HH):Option (W×HH):=match k with
 |.aE=>OB x y h|.y=>OD x y h|.mem=>yG x y h
noncomputable def lg(kvs:List (Ky×D))(k:Ky):List (Ky×D):=kvs.filter λq=>decide (q.1≠k)
def oM2(k:M2)(n:Nat)(y:W)(h:HH):Option (W×HH):=match k,y with
 |.app,.p d=>(lat h n).bind λD=>if D.length<lim then aa (.p .aF,h.set n (.l (D++[d])))else af
 |.app,.k (.q d B)=>(pat h n).bind λJ=>if J.length<lim then aa (.p .aF,h.set n (.s (J++[(d,B)])))else af
 |.pop,.p d=>(dat h n).bind λB=>(jx d).bind λk=>(dY B k).map λv=>(.p v,h.set n (.d (lg B k)))
 |.upd,.k (.m us)=>(dat h n).bind λB=>if B.length+us.length<=lim then aa (.p .aF,h.set n (.d (us.foldl (λc p=>fu c p.1 p.2) B)))else af
 |_,_=>af
def pV(k:M2)(n:Nat)(h:HH):Bool:=match k with
 |.app=>(lat h n).isSome||(sat h n).isSome
 |_=>(dat h n).isSome
def kM2(k:M2)(q:EH)(x:W)(h:HH):Option (W×HH):=match x with
 |.r n=>if pV k n h then bnd (q h) (oM2 k n)else af
 |_=>af
@[simp]theorem OE(k:M2)(q:EH)(n:Nat)(h:HH):kM2 k q (.r n) h=if pV k n h then bnd (q h) (oM2 k n)else af:=rfl
@[simp]theorem Gc(d:D)(kvs:List (Ky×D))(h:HH):oP2 .aE (.p d) (.k (.m kvs)) h=aa (.k (.q d kvs),h):=rfl
@[simp]theorem Kr(ps:List Pr)(i:Int)(h:HH):oP2 .y (.k (.s ps)) (.p (.int i)) h=(atP ps i).map λp=>(.k (.q p.1 p.2),h):=rfl
@[simp]theorem Uu(d:D)(kvs:List (Ky×D))(h:HH):oP2 .y (.k (.q d kvs)) (.p (.int 0)) h=aa (.p d,h):=rfl
@[simp]theorem Uv(d:D)(kvs:List (Ky×D))(h:HH):oP2 .y (.k (.q d kvs)) (.p (.int 1)) h=aa (.k (.m kvs),h):=rfl
@[simp]theorem Ks(n:Nat)(h:HH):oP2 .mem (.p .aF) (.r n) h=(dat h n).bind λ_=>aa (.p (.bl ai),h):=rfl
@[simp]theorem Ku(i:Int)(n:Nat)(h:HH):oP2 .mem (.p (.int i)) (.r n) h=(dat h n).bind λkvs=>aa (.p (.bl (dY kvs (.inl i)).isSome),h):=rfl
@[simp]theorem Kv(x:aA)(n:Nat)(h:HH):oP2 .mem (.p (.str x)) (.r n) h=(dat h n).bind λkvs=>aa (.p (.bl (dY kvs (.inr x)).isSome),h):=rfl
@[simp]theorem Kw(n:Nat)(d:D)(h:HH):oM2 .app n (.p d) h=(lat h n).bind λxs=>if xs.length<lim then aa (.p .aF,h.set n (.l (xs++[d])))else af:=rfl
@[simp]theorem Kx(n:Nat)(d:D)(kvs:List (Ky×D))(h:HH):oM2 .app n (.k (.q d kvs)) h=(pat h n).bind λps=>if ps.length<lim then aa (.p .aF,h.set n (.s (ps++[(d,kvs)])))else af:=rfl
@[simp]theorem Gd(n:Nat)(d:D)(h:HH):oM2 .pop n (.p d) h=(dat h n).bind λkvs=>(jx d).bind λk=>(dY kvs k).map λv=>(.p v,h.set n (.d (lg kvs k))):=rfl
@[simp]theorem Ge(n:Nat)(us:List (Ky×D))(h:HH):oM2 .upd n (.k (.m us)) h=(dat h n).bind λkvs=>if kvs.length+us.length<=lim then aa (.p .aF,h.set n (.d (us.foldl (λc p=>fu c p.1 p.2) kvs)))else af:=rfl
noncomputable def xw(h:HH):Option Cl->Option (W×HH)
 |some (.l xs)=>aa (.p (.aD xs),h)|some (.s ps)=>aa (.k (.s ps),h)|some (.d kvs)=>aa (.r h.length,h++[.d kvs])|_=>af
@[simp]theorem Sw(h:HH)(xs:List D):xw h (aa (.l xs))=aa (.p (.aD xs),h):=rfl
@[simp]theorem Sx(h:HH)(ps:List Pr):xw h (aa (.s ps))=aa (.k (.s ps),h):=rfl
@[simp]theorem Sy(h:HH)(kvs:List (Ky×D)):xw h (aa (.d kvs))=aa (.r h.length,h++[.d kvs]):=rfl
@[simp]theorem Sz(h:HH):xw h af=af:=rfl
open Classical in
def fin(h:HH)(w:W)(h':HH):Option (W×HH) :=
 if h'.length=h.length then aa (w,h')
 else if h'.take h.length=h then (match w with
  |.p d=>aa (.p d,h)
  |.r n=>if n<h.length then aa (.r n,h)else(xw h h'[n]?)
  |.o n=>if n<h.length then aa (.o n,h)else aa (.o n,h')
  |.k (.q d kvs)=>aa (.k (.q d kvs),h)|.k (.s ps)=>aa (.k (.s ps),h)|.k _=>af|.c _ _=>af
  | .x _=>af)
 else aa (w,h')
section
variable(F:FK->List W->HH->Option (W×HH))(G:aA->Option W)
mutual
@[simp]noncomputable def ev:E->Sl->HH->Option (W×HH)
 |.v i,s,h=>match s[i]? with|some (aa w)=>aa (w,h)|_=>af
 |.j d,_,h=>aa (.p d,h)
 |.aG x,_,h=>(G x).map λw=>(w,h)
 |.bin o a b,s,h=>bnd (ev a s h) (k2 (ev b s) (tL o))|.neg a,s,h=>bnd (ev a s h) F6|.not a,s,h=>bnd (ev a s h) F7|.and a b,s,h=>bnd (ev a s h) (F8 (ev b s))|.or a b,s,h=>bnd (ev a s h) (kOr (ev b s))|.z o a b,s,h=>bnd (ev a s h) (k2 (ev b s) (lG o))|.chain o o' a b c,s,h=>bnd (ev a s h) (k2 (ev b s) (oCh o o' (ev c s)))|.ite c a b,s,h=>bnd (ev c s h) (F9 (ev a s) (ev b s))|.aE as,s,h=>bnd (evs as s h) Km|.aD mu as,s,h=>bnd (evs as s h) (Kn mu)|.y a i,s,h=>bnd (ev a s h) (k2 (ev i s) F5)|.n a lo hi,s,h=>bnd (ev a s h) (Oq (evs lo s) (evs hi s))|.rvs a,s,h=>bnd (ev a s h) Sh|.stp mu k a,s,h=>bnd (ev a s h) (Ko mu k)|.call f as,s,h=>bnd (evs as s h) (F (.f f))|.i a f,s,h=>bnd (ev a s h) (Ga f)|.aH o m as,s,h=>bnd (ev o s h) (Cq F m (evs as s))|.make c as,s,h=>bnd (evs as s h) (IU F c)|.bi b mu as,s,h=>bnd (evs as s h) (kBi b mu)|.lsr mu sr as,s,h=>bnd (evs as s h) (kLs mu sr)|.me m o as,s,h=>bnd (ev o s h) (kMe m (evs as s))|.comp mu sr sa tg fv cond elt,s,h=>bnd (evs sa s h) (pU mu sr tg.length (frees s fv) (evs cond) (ev elt))|.callv i as,s,h=>bnd (evs as s h) (tO F s[i]?)|.methL o m as L fv,s,h=>bnd (ev o s h) (xr F m (evs as s) L (caps s fv))|.dnew,_,h=>aa (.r h.length,h++[.d []])|.frz a,s,h=>bnd (ev a s h) (Cw h)|.p2 k a b,s,h=>bnd (ev a s h) (k2 (ev b s) (oP2 k))|.m2 k o a,s,h=>bnd (ev o s h) (kM2 k (ev a s))
@[simp]noncomputable def evs:Es->Sl->HH->Option (List W×HH)
 |.nil,_,h=>aa ([],h)|.cons a as,s,h=>bnd (ev a s h) (k9 (evs as s))
end
inductive Fl
 |nx(s:Sl)(h:HH)|rt(w:W)(h:HH)|bk(s:Sl)(h:HH)|ct(s:Sl)(h:HH)
def Gf(h:HH)(x:Option Fl):Option Fl:=match x with
 |some (.rt w h')=>(fin h w h').map λp=>.rt p.1 p.2
 |x=>x
theorem Gg(h:HH)(w:W)(h':HH):Gf h (aa (.rt w h'))=(fin h w h').map λp=>.rt p.1 p.2:=rfl
def OF(k:Bool->HH->Option Fl)(w:W)(h:HH):Option Fl:=match w with|.p (.bl b)=>k b h|_=>af
def tst(x:Option (W×HH))(k:Bool->HH->Option Fl):Option Fl:=bnd x (OF k)
@[simp]theorem j6(b:Bool)(h:HH)(k:Bool->HH->Option Fl):tst (aa (.p (.bl b),h)) k=k b h:=rfl
noncomputable def nN(x:Option Fl)(k:Sl->HH->Option Fl):Option Fl:=match x with
 |some (.nx s h)=>k s h|y=>y
@[simp]theorem Cz(s:Sl)(h:HH)(k:Sl->HH->Option Fl):nN (aa (.nx s h)) k=k s h:=rfl
@[simp]theorem OG(w:W)(h:HH)(k:Sl->HH->Option Fl):nN (aa (.rt w h)) k=aa (.rt w h):=rfl
@[simp]theorem OH(s:Sl)(h:HH)(k:Sl->HH->Option Fl):nN (aa (.bk s h)) k=aa (.bk s h):=rfl
@[simp]theorem OI(s:Sl)(h:HH)(k:Sl->HH->Option Fl):nN (aa (.ct s h)) k=aa (.ct s h):=rfl
@[simp]theorem Kz(k:Sl->HH->Option Fl):nN af k=af:=rfl
noncomputable def lq(x:Option Fl)(k:Sl->HH->Option Fl):Option Fl:=match x with
 |some (.nx s h)=>k s h|some (.ct s h)=>k s h|some (.bk s h)=>aa (.nx s h)|y=>y
@[simp]theorem fO(s:Sl)(h:HH)(k:Sl->HH->Option Fl):lq (aa (.nx s h)) k=k s h:=rfl
@[simp]theorem OJ(s:Sl)(h:HH)(k:Sl->HH->Option Fl):lq (aa (.ct s h)) k=k s h:=rfl
@[simp]theorem OL(s:Sl)(h:HH)(k:Sl->HH->Option Fl):lq (aa (.bk s h)) k=aa (.nx s h):=rfl
@[simp]theorem OM(w:W)(h:HH)(k:Sl->HH->Option Fl):lq (aa (.rt w h)) k=aa (.rt w h):=rfl
@[simp]theorem KA(k:Sl->HH->Option Fl):lq af k=af:=rfl
@[simp]noncomputable def sets:List (Nat×aA)->List D->Sl->Sl
 |(i,_)::r,d::ds,s=>sets r ds (s.set i (aa (.p d)))|_,_,s=>s
def KB(b:Sl->HH->Option Fl)(again:Sl->HH->Option Fl)(s:Sl)(t:Bool)(h:HH):Option Fl:=if t then lq (b s h) again else aa (.nx s h)
@[simp]theorem tQ(b again:Sl->HH->Option Fl)(s:Sl)(h:HH):KB b again s ah h=lq (b s h) again:=rfl
@[simp]theorem ng(b again:Sl->HH->Option Fl)(s:Sl)(h:HH):KB b again s ai h=aa (.nx s h):=rfl
def gA(c:Sl->HH->Option (W×HH))(b:Sl->HH->Option Fl):Nat->Sl->HH->Option Fl
 |0,_,_=>af|n+1,s,h=>tst (c s h) (KB b (gA c b n) s)
@[simp]def dW(b:Sl->HH->Option Fl)(tg:List (Nat×aA)):List D->Sl->HH->Option Fl
 |[],s,h=>aa (.nx s h)
 |d::r,s,h=>match target tg.length d with
  |some q=>lq (b (sets tg q s) h) (dW b tg r)|none=>af
noncomputable def turns:Nat:=100000
@[simp]def xy(s:Sl)(i:Nat)(w:W)(h:HH):Option Fl:=aa (.nx (s.set i (aa w)) h)
@[simp]def KC(s:Sl)(xs:List (Nat×aA))(w:W)(h:HH):Option Fl:=match w with
 |.p d=>match unpack xs.length d with|some q=>aa (.nx (sets xs q s) h)|none=>af
 |_=>af
@[simp]def ON(s:Sl)(i:Nat)(o:Bin)(w:W)(h:HH):Option Fl:=match s[i]?,w with
 |some (aa (.p d)),.p d'=>(pH o d d').map λz=>.nx (s.set i (aa (.p z))) h
 |_,_=>af
@[simp]def IV(s:Sl)(n:Nat)(d:D)(q:W)(h:HH):Option Fl:=match q,lat h n with
 |.p (.int j),aa xs=>match place xs.length j with
  |some m=>aa (.nx s (h.set n (.l (xs.set m d))))|none=>af
 |_,_=>af
@[simp]def KG(q:EH)(s:Sl)(i:Nat)(w:W)(h:HH):Option Fl:=match w,s[i]? with
 |.p d,aa (aa (.r n))=>bnd (q h) (IV s n d)|_,_=>af
def xA(s:Sl)(n:Nat)(d:D)(q:W)(h:HH):Option Fl:=match q with
 |.p k=>(dat h n).bind λB=>(jx k).bind λy=>if B.length<lim then aa (.nx s (h.set n (.d (fu B y d))))else af
 |_=>af
@[simp]theorem CA(s:Sl)(n:Nat)(d k:D)(h:HH):xA s n d (.p k) h=(dat h n).bind λkvs=>(jx k).bind λy=>if kvs.length<lim then aa (.nx s (h.set n (.d (fu kvs y d))))else af:=rfl
def yH(q:EH)(s:Sl)(i:Nat)(w:W)(h:HH):Option Fl:=match w,s[i]? with
 |.p d,aa (aa (.r n))=>bnd (q h) (xA s n d)|_,_=>af
@[simp]theorem Gi(q:EH)(s:Sl)(i:Nat)(d:D)(h:HH):yH q s i (.p d) h=match s[i]? with
 |some (aa (.r n))=>bnd (q h) (xA s n d)
 |_=>af:=by
 unfold yH;cases s[i]? with
 |none=>rfl
 |some o=>cases o with
  |none=>rfl|some w=>cases w<;>rfl
def tR(s:Sl)(f:aA)(v:W)(x:W)(h:HH):Option Fl:=match x with
 |.o n=>match oat h n with
  |some (c,fs)=>if attrOk v&&fs.length<1000 then aa (.nx s (h.set n (.o c (eV f v fs))))else af
  |none=>af
 |_=>af
@[simp]theorem CB(s:Sl)(f:aA)(v:W)(n:Nat)(h:HH):tR s f v (.o n) h=match oat h n with
 |some (c,fs)=>if attrOk v&&fs.length<1000 then aa (.nx s (h.set n (.o c (eV f v fs))))else af
 |none=>af:=rfl
def CD(q:EH)(s:Sl)(f:aA)(v:W)(h:HH):Option Fl:=bnd (q h) (tR s f v)
@[simp]theorem CF(q:EH)(s:Sl)(f:aA)(v:W)(h:HH):CD q s f v h=bnd (q h) (tR s f v):=rfl
def tS(s:Sl)(f:aA)(q:Bin)(n:Nat)(c:aA)(d:D)(v:W)(h:HH):Option Fl:=match v,oat h n with
 |.p e,aa (c',fs)=>match pH q d e with
  |some z=>if c'=c/\fs.length<1000 then aa (.nx s (h.set n (.o c' (eV f (.p z) fs))))else af
  |none=>af
 |_,_=>af
@[simp]theorem CG(s:Sl)(f:aA)(q:Bin)(n:Nat)(c:aA)(d e:D)(h:HH):tS s f q n c d (.p e) h=match oat h n with
 |some (c',fs)=>match pH q d e with
  |some z=>if c'=c/\fs.length<1000 then aa (.nx s (h.set n (.o c' (eV f (.p z) fs))))else af
  |none=>af
 |none=>af:=by unfold tS;cases oat h n<;>rfl
def yI(B:EH)(s:Sl)(f:aA)(q:Bin)(x:W)(h:HH):Option Fl:=match x with
 |.o n=>match oat h n with
  |some (c,fs)=>match eN f fs with
   |some (.p d)=>bnd (B h) (tS s f q n c d)|_=>af
  |none=>af
 |_=>af
@[simp]theorem Gj(B:EH)(s:Sl)(f:aA)(q:Bin)(n:Nat)(h:HH):yI B s f q (.o n) h=match oat h n with
 |some (c,fs)=>match eN f fs with
  |some (.p d)=>bnd (B h) (tS s f q n c d)|_=>af
 |none=>af:=rfl
@[simp]noncomputable def kEx(s:Sl)(_:W)(h:HH):Option Fl:=aa (.nx s h)
@[simp]def qY(w:W)(h:HH):Option Fl:=aa (.rt w h)
@[simp]noncomputable def kIf(B q:HH->Option Fl)(t:Bool)(h:HH):Option Fl:=if t then B h else q h
def ly(sr:Sr)(q:Nat)(h:HH):Option (List D):=(lat h q).bind λB=>gW sr [.aD B]
open Classical in
def Gk(sr:Sr)(q:Nat)(ds:List D)(b:Sl->HH->Option Fl)(s:Sl)(h:HH):Option Fl:=match b s h with
 |some (.nx s h)=>if ly sr q h=aa ds then aa (.nx s h)else af
 |some (.ct s h)=>if ly sr q h=aa ds then aa (.ct s h)else af
 |x=>x
def CH(b:Sl->HH->Option Fl)(tg:List (Nat×aA))(sr:Sr)(s:Sl)(ws:List W)(ds:List D)(h:HH):Option Fl:=match ws,sr with
 |[.r q],.seq=>dW (Gk .seq q ds b) tg ds s h|[.r q],.enu=>dW (Gk .enu q ds b) tg ds s h|_,_=>af
@[simp]def kFor(b:Sl->HH->Option Fl)(tg:List (Nat×aA))(sr:Sr)(s:Sl)(ws:List W)(h:HH):Option Fl:=match (rds ws h).bind (gW sr)with
 |some q=>if iM ws then dW b tg q s h else CH b tg sr s ws q h
 |none=>af
@[simp]def evS:S->Sl->HH->Option Fl
 |.nil,s,h=>aa (.nx s h)|.seq a b,s,h=>nN (evS a s h) (evS b)|.set i e,s,h=>bnd (ev F G e s h) (xy s i)|.unp xs e,s,h=>bnd (ev F G e s h) (KC s xs)|.aug i o e,s,h=>bnd (ev F G e s h) (ON s i o)|.put i k e,s,h=>bnd (ev F G e s h) (KG (ev F G k s) s i)|.putd i k e,s,h=>bnd (ev F G e s h) (yH (ev F G k s) s i)|.setf o f e,s,h=>bnd (ev F G e s h) (CD (ev F G o s) s f)|.augf o f op e,s,h=>bnd (ev F G o s h) (yI (ev F G e s) s f op)|.ex e,s,h=>bnd (ev F G e s h) (kEx s)|.ret e,s,h=>bnd (ev F G e s h) qY|.v c a b,s,h=>tst (ev F G c s h) (kIf (evS a s) (evS b s))|.j c b,s,h=>gA (ev F G c) (evS b) turns s h|.for tg sr sa b,s,h=>bnd (evs F G sa s h) (kFor (evS b) tg sr s)|.brk,s,h=>aa (.bk s h)|.cnt,s,h=>aa (.ct s h)|.bad,_,_=>af|.blk b,s,h=>Gf h (evS b s h)|.rai _ _,_,_=>af|.rai2 _ _ _,_,_=>af
@[simp]noncomputable def ji(n:Nat)(ws:List W):Sl:=ws.map aa++Vc (n-ws.length) af
def nh(x:Option Fl)(k:W->HH->Option (W×HH)):Option (W×HH):=match x with
 |some (.rt w h)=>k w h|some (.nx _ h)=>k (.p .aF) h|_=>af
@[simp]theorem QT(w:W)(h:HH)(k:W->HH->Option (W×HH)):nh (aa (.rt w h)) k=k w h:=rfl
@[simp]theorem QU(s:Sl)(h:HH)(k:W->HH->Option (W×HH)):nh (aa (.nx s h)) k=k (.p .aF) h:=rfl
@[simp]theorem Nb(k:W->HH->Option (W×HH)):nh af k=af:=rfl
end
section
variable(T:FK->Option Fn)(G:aA->Option W)
def runN:Nat->FK->List W->HH->Option (W×HH)
 |0,_,_,_=>af
 |k+1,f,ws,h=>match T f with
  |some fn=>if ws.length=fn.ps.length then nh (evS (runN k) G fn.body (ji fn.ns.length ws) h) (fin h)else af
  |none=>af
def run_eq{T:FK->Option Fn}{G:aA->Option W}{f:FK}{fn:Fn}{ws:List W}{h:HH}{k:Nat}(B:T f=aa fn)(q:ws.length=fn.ps.length):
 runN T G (k+1) f ws h=nh (evS (runN T G k) G fn.body (ji fn.ns.length ws) h) (fin h):=by
 rw[runN,B];exact bM q
end
def SA:Fn:=⟨["state","thing"],["state","thing"],.ret (.call "worth_in" (cY (.v 0) (.v 1)))⟩
def SB:Fn:=⟨["state","thing","worth"],["state","thing","worth"],.ret (.z .ne (.call "worth_in" (cY (.v 0) (.v 1))) (.v 2))⟩
def SC:Fn:=⟨["state","thing","worth"],["state","thing","worth"],.ret (.z .ne (.call "worth_in" (cY (.v 0) (.v 1))) (.v 2))⟩
def SD:Fn:=⟨["state","term"],["state","term"],.ret (.call "reckoned" (cY (.v 1) (.v 0)))⟩
def SE:Fn:=⟨["state","term"],["state","term"],.ret (.z .ne (.call "reckoned" (cY (.v 1) (.v 0))) (.j (.int 0)))⟩
def SG:Fn:=⟨["state","term"],["state","term"],.ret (.z .ne (.call "reckoned" (cY (.v 1) (.v 0))) (.j (.int 0)))⟩
noncomputable def SH:Fn:=⟨["state"],["state"],.ret (.y (.v 0) (.aG "ROW"))⟩
noncomputable def SI:Fn:=⟨["state","row"],["state","row"],.ret (.z .eq (.y (.v 0) (.aG "ROW")) (.v 1))⟩
def SJ:Fn:=⟨["state","number"],["state","number"],.ret (.z .gt (.bi .len ai (cZ (.y (.v 0) (.aG "SAID")))) (.v 1))⟩
def SK:Fn:=⟨["state","bound"],["state","bound"],.ret (.z .le (.call "open_in" (cZ (.v 0))) (.v 1))⟩
def OO:Fn:=⟨["state","bound"],["state","bound"],.ret (.z .le (.call "open_in" (cZ (.v 0))) (.v 1))⟩
noncomputable def OP:Fn:=⟨["state","wanted"],["state","wanted"],.ret (.and (.z .eq (.y (.v 0) (.aG "NAMES")) (.y (.v 1) (.aG "NAMES"))) (.z .eq (.y (.v 0) (.aG "CELLS")) (.y (.v 1) (.aG "CELLS"))))⟩
def yJ:Fn:=⟨["state","tape","thing"],["state","tape","thing"],.ret (.z .eq (.call "written_next" (cY (.v 1) (.v 0))) (.v 2))⟩
def yK:Fn:=⟨["row","state"],["row","state"],.ret (.p2 .aE (.call "written_by" (cY (.v 0) (.v 1))) (.frz (.call "read_in" (cY (.v 0) (.v 1)))))⟩
def yL:Fn:=⟨["row","state"],["row","state"],.ret (.n (.v 1) .nil (cZ (.aG "SAID")))⟩
def qZ(i:Nat):Option Fn:=([SA,SB,SC,SD,SE,SG,SH,SI,SJ,SK,OO,OP,yJ,yK,yL]:List Fn)[i]?
noncomputable def gP:List aA:=["worths_of","last_change","next_change","moments_so","last_so","next_so","visits","last_visit","when_said","next_within","last_within","first_other","writer_of","judged","remade"]
def yM(i:Nat):aA:=gP.getD i ""
noncomputable def fJ(x:aA):aA:="<"++x++">"
end BT
end
open BT renaming HH->aN,ev->aO,W->aP,D->aQ,E->aR,rds->aS,evS->aT,dR->aU,eqv->aV,meW->aW,Es->aX,runN->aY,evs->aZ,Sl->bf,rd->bq,lat->br,oat->bw,Ky->bx,target->bA,dQ->bB,Fn->bC,Bin->bD,ded->bE,Cp->bF,gu->bG,fJ->bH,bnd->bI,Pr->bJ,Sr->bK,lG->bL
section
namespace BS
open PySem PySem.Spec PyProof.Rows L2
variable{K:UM}
def dH{q:Type}{c:Prop}[Decidable c]{a b:q}(h:(if c then aa a else af)=aa b):c/\a=b:=by
 by_cases z:c
 rw[bM z]at h;exact⟨z,U3 h⟩;rw[bN z]at h;exact nomatch h
def c5{q:Type}{a:q}{P:Prop}(h:(af:Option q)=aa a):P:=nomatch h
noncomputable def attrName(f:aA):Bool:=(["program","asked","gap","most","kept","farthest","front","now","origins","branches","tape","named"]:List aA).contains f
def vq:BT.Bi->Option (String×(aQ->Bool))
 |.isInt=>aa ("int",BT.isI)|.isBool=>aa ("bool",BT.isB)|.isStr=>aa ("str",BT.isS)|.isTuple=>aa ("tuple",BT.isT)|_=>af
noncomputable def nO(sc:Vw)(x:aA):Bool:=match sc.names.lookup x with
 |some .local=>ah|some .cell=>ah|some .free=>ah|_=>ai
noncomputable def d7(sc:Vw)(x:aA):Bool:=sc.names.lookup x==aa .globalImplicit
noncomputable def fK(x:aA):Bool:=!(x=="__debug__")&&!(x=="__classdict__")&&!(x=="__name__")
noncomputable def noStar:UP->Bool
 |.Starred _ _=>ai|_=>ah
noncomputable def kN:UP->Bool
 |.Slice _ _ _ _=>ai|_=>ah
noncomputable def dS:UP->Bool
 |.Name _ _=>ah|.Constant _ _ _=>ah|.Subscript _ _ _=>ah|.Attribute _ _ _=>ah|.Call (.Attribute _ _ _) _ _ _=>ah|.Dict _ _ _=>ah|_=>ai
noncomputable def OQ:bD->Yn
 |.add=>.Add|.sub=>.Sub|.mul=>.Mult|.mod=>.Mod|.fdiv=>.FloorDiv
def IW(o:bD)(q:Yn):Bool:=decide (q=OQ o)
noncomputable def SL:BT.Cm->CmpOp
 |.eq=>.Eq|.ne=>.NotEq|.lt=>.Lt|.le=>.LtE|.gt=>.Gt|.ge=>.GtE|.isN=>.Is|.notN=>.IsNot|.mem=>.In|.nmem=>.NotIn
def Gm(o:BT.Cm)(q:CmpOp):Bool:=decide (q=SL o)
noncomputable def IX:aQ->Const->Bool
 |.aF,.none=>ah|.bl a,.bool b=>a==b|.int i,.int j=>i==j|.str x,.str y=>x==y&&PyData.strOk x|_,_=>ai
noncomputable def CJ:BT.Bi->Bool->Option aA
 |.len,ai=>aa "len"|.int,ai=>aa "int"|.list,_=>aa "list"|.tuple,ai=>aa "tuple"|.sorted,_=>aa "sorted"|.max1,ai=>aa "max"|.min1,ai=>aa "min"|_,_=>af
def IY(b:BT.Bi)(mu:Bool)(x:aA):Bool:=CJ b mu==aa x
noncomputable def CK:BT.Bi->aA->Bool
 |.min2,x=>x=="min"|.max2,x=>x=="max"|_,_=>ai
noncomputable def Gn:UP->Option Const
 |.Constant c _ _=>aa c|_=>af
noncomputable def cInt:Const->Option Int
 |.int j=>aa j|_=>af
noncomputable def unE:UP->Option UP
 |.UnaryOp o e _=>if o=.USub then aa e else af
 |_=>af
def tT(k:Int)(e:UP):Bool:=((Gn e).bind cInt==aa k&&decide (0<k))||(((unE e).bind Gn).bind cInt==aa (-k)&&decide (k<0))
noncomputable def CM:BT.Me->aA
 |.append=>"append"|.pop=>"pop"|.extend=>"extend"|.tindex=>"index"|.sindex=>"index"|.dget=>"get"|.count=>"count"|.lindex=>"index"
noncomputable def xB:aR->Bool
 |.aG _=>ah|_=>ai
def CO(m:BT.Me)(o:aR):Bool:=match m with
 |.append=>ah|.pop=>ah|.extend=>ah|.sindex=>ah|.tindex=>xB o|.dget=>ai|.count=>ai|.lindex=>ai
noncomputable def IZ(c:aA):Bool:=(["NoMoment","NoThing","NoRun","NoText"]:List aA).contains c
def Uw(q:aA):Bool:=IZ q||q=="ValueError"
noncomputable def gZ(N:List aA):Bool:=!N.contains "_law_flags"
noncomputable def tOK:aR->Bool
 |.ite _ _ _=>ai|.not a=>tOK a|.and a b=>tOK a&&tOK b|.or a b=>tOK a&&tOK b|.aE _=>ai|.aD _ _=>ai|.comp _ _ _ _ _ _ _=>ai|.frz _=>ai|.p2 .aE _ _=>ai|_=>ah
def CU:BT.M2->aA
 |.app=>"append"|.pop=>"pop"|.upd=>"update"
noncomputable def lH:UP->Bool
 |.Set _ _ _=>ai|_=>ah
noncomputable def vA:bK->UP->Bool
 |.zip2,.Tuple _ _ _=>ah|.enu,.Tuple _ _ _=>ah|.itm,.Tuple _ _ _=>ah|.zipG,.Tuple _ _ _=>ah|.zip2,_=>ai|.enu,_=>ai|.itm,_=>ai|.zipG,_=>ai|_,_=>ah
noncomputable def eH(q sc:Vw):Vw :=
 {q with names:=q.names.map λ(n,k)=>if(k==.free&&sc.kind==.function&&sc.names.lookup n==aa .cell)then(n,.cell)else(n,k)}
noncomputable def nmE:UP->Option aA
 |.Name y _=>aa y|_=>af
noncomputable def KH:UP->List UP
 |.Tuple q _ _=>q|_=>[]
def vB(sc:Vw)(tg:List aA)(te:UP):Bool:=((tg.map aa==[nmE te])||(Nat.ble 2 tg.length&&tg.map aa==(KH te).map nmE))&&tg.all λx=>sc.names.lookup x==aa .local
noncomputable def lI:List aA->Bool
 |[]=>ah|x::r=>!r.contains x&&lI r
def lJ(sc:Vw)(N:List aA)(tg:List aA)(fv:List (Nat×aA))(B:Vw):Bool :=
 B.kind==.function&&sc.kind==.function&&B.names.all (λy=>!(y.2==.cell))&&B.names.all (λy=>!(y.2==.local)||B.names.lookup y.1==aa .local) &&
 B.names.all (λy=>!(y.2==.free)||sc.names.lookup y.1==aa .cell) &&
 fv.all (λq=>N[q.1]?==aa q.2&&B.names.contains (q.2,.free)&&sc.names.lookup q.2==aa .cell&&(eH B sc).names.lookup q.2==aa .cell)&&lI (tg++fv.map (·.2))
noncomputable def dlQ:aQ->PyData
 |.str x=>.str x|.int i=>.int i|_=>.none
noncomputable def OR:aQ->Bool
 |.str x=>PyData.strOk x|.int _=>ah|_=>ai
def dlD(kvs:List (aA×aQ)):List (PyData×PyData):=kvs.map λp=>(.str p.1,dlQ p.2)
def dlV:List (aA×aQ)->Bool
 |[]=>ah|p::r=>PyData.strOk p.1&&OR p.2&&dlV r
def dlB(kvs:List (aA×aQ))(q:List (Option UP))(B:List UP):Bool:=dlV kvs&&(q.all λx=>x.isSome)&&decide (q.length=B.length)&&!q.isEmpty&&decide (q.length<=15)&&decide (kvs.length<=15)
inductive Tq
 |e(a:aR)(x:UP)|es(as:aX)(xs:List UP)|o(as:aX)(x:Option UP)|c(as:aX)(xs:List UP)|i(sr:bK)(sa:aX)(x:UP)
set_option autoImplicit true in
class inductive CQ:Vw->List aA->Tq->Prop where
 |v(h1:N[i]?=aa x)(h2:nO sc x=ah)(q:fK x=ah):CQ sc N (.e (.v i) (.Name x p))
 |j(h:IX d c=ah):CQ sc N (.e (.j d) (.Constant c k p))
 |aG(h2:d7 sc x=ah)(q:fK x=ah):CQ sc N (.e (.aG x) (.Name x p))
 |bin(h:IW o op=ah)(q:CQ sc N (.e a l))(B:CQ sc N (.e b r)):CQ sc N (.e (.bin o a b) (.BinOp l op r p))
 |neg(q:CQ sc N (.e a x)):CQ sc N (.e (.neg a) (.UnaryOp .USub x p))
 |not(q:CQ sc N (.e a x)):CQ sc N (.e (.not a) (.UnaryOp .Not x p))
 |and2(q:CQ sc N (.e a x))(B:CQ sc N (.e b y)):CQ sc N (.e (.and a b) (.BoolOp .And [x,y] p))
 |and3(q:CQ sc N (.e a x))(B:CQ sc N (.e b (.BoolOp .And (y::z::r) p))):CQ sc N (.e (.and a b) (.BoolOp .And (x::y::z::r) p))
 |or2(q:CQ sc N (.e a x))(B:CQ sc N (.e b y)):CQ sc N (.e (.or a b) (.BoolOp .Or [x,y] p))
 |or3(q:CQ sc N (.e a x))(B:CQ sc N (.e b (.BoolOp .Or (y::z::r) p))):CQ sc N (.e (.or a b) (.BoolOp .Or (x::y::z::r) p))
 |z(h:Gm o op=ah)(q:CQ sc N (.e a l))(D:CQ sc N (.e b r))(B:Y9 op r=ai):CQ sc N (.e (.z o a b) (.Compare l [op] [r] p))
 |chain(h:Gm o op=ah)(h':Gm o' op'=ah)(J:CQ sc N (.e a l))(B:CQ sc N (.e b r))(D:CQ sc N (.e c r'))(q:lastMarks [op,op'] [r,r']=ai):CQ sc N (.e (.chain o o' a b c) (.Compare l [op,op'] [r,r'] p))
 |ite(h:tOK c=ah)(D:CQ sc N (.e c t))(q:CQ sc N (.e a x))(B:CQ sc N (.e b y)):CQ sc N (.e (.ite c a b) (.IfExp t x y p))
 |aE(h:CQ sc N (.es as es)):CQ sc N (.e (.aE as) (.Tuple es k p))
 |aD(h:CQ sc N (.es as es)):CQ sc N (.e (.aD mu as) (.List es p))
 |y(q:CQ sc N (.e a x))(hi:CQ sc N (.e i sl))(B:kN sl=ah):CQ sc N (.e (.y a i) (.Subscript x sl p))
 |n{lo:aX}(q:CQ sc N (.e a x))(D:CQ sc N (.o lo l))(B:CQ sc N (.o hi u)):CQ sc N (.e (.n a lo hi) (.Subscript x (.Slice l u af p2) p))
 |call(B:d7 sc f=ah)(hn:fK f=ah)(q:CQ sc N (.es as es)):CQ sc N (.e (.call f as) (.Call (.Name f np) es [] p))
 |sset(J:gZ N=ah)(B:d7 sc "sorted"=ah)(q:d7 sc "set"=ah)(D:noStar e=ah)(h:CQ sc N (.e a e)):
  CQ sc N (.e (.bi .sset ai (.cons a .nil)) (.Call (.Name "sorted" np) [.Call (.Name "set" zp) [e] [] pos] [] p))
 |bi(L:gZ N=ah)(D:IY b mu x=ah)(q:d7 sc x=ah)(B:noStar e=ah)(J:CQ sc N (.e a e)):CQ sc N (.e (.bi b mu (.cons a .nil)) (.Call (.Name x np) [e] [] p))
 |inst(D:vq b=aa (c,f))(B:d7 sc "isinstance"=ah)(q:d7 sc (U7 c)=ah)(J:noStar e=ah)(L:CQ sc N (.e a e)):
  CQ sc N (.e (.bi b ai (.cons a .nil)) (.Call (.Name "isinstance" np) [e,.Name (U7 c) p2] [] p))
 |me(h1:CO m o=ah)(h2:name=CM m)(J:dS oe=ah)(B:(apos.endLine==cpos.line)=ah)(L:es.length<20)(q:CQ sc N (.e o oe))(D:CQ sc N (.es as es)):
  CQ sc N (.e (.me m o as) (.Call (.Attribute oe name apos) es [] cpos))
 |comp{cond:aX}
  (L:gZ N=ah) (J:lJ sc N tg fv scope=ah) (M:vB (eH scope sc) tg te=ah) (hz:vA sr te=ah) (q:lH iter=ah) (hi:CQ sc N (.i sr sa iter))
  (B:CQ (eH scope sc) (tg++fv.map (·.2)) (.c cond ifs)) (D:CQ (eH scope sc) (tg++fv.map (·.2)) (.e elt elt')):CQ sc N (.e (.comp mu sr sa tg fv cond elt) (.ListComp elt' [⟨te,iter,ifs,0⟩] scope pos))
 |i(B:dS x=ah)(D:attrName f=ah)(q:CQ sc N (.e a x)):CQ sc N (.e (.i a f) (.Attribute x f p))
 |aH(J:dS oe=ah)(B:(apos.endLine==cpos.line)=ah)(L:es.length<20)(q:CQ sc N (.e o oe))(D:CQ sc N (.es as es)):
  CQ sc N (.e (.aH o m as) (.Call (.Attribute oe m apos) es [] cpos))
 |stp(B:tT k se=ah)(q:CQ sc N (.e a x)):CQ sc N (.e (.stp mu k a) (.Subscript x (.Slice af af (aa se) p2) p))
 |bi2(L:gZ N=ah)(J:CK b x=ah)(D:d7 sc x=ah)(q:noStar e1=ah)(B:noStar e2=ah)(h1:CQ sc N (.e a1 e1))(h2:CQ sc N (.e a2 e2)):
  CQ sc N (.e (.bi b ai (.cons a1 (.cons a2 .nil))) (.Call (.Name x np) [e1,e2] [] p))
 |make(B:d7 sc c=ah)(hn:fK c=ah)(q:CQ sc N (.es as es)):CQ sc N (.e (.make c as) (.Call (.Name c np) es [] p))
 |callv(h1:N[i]?=aa x)(h2:nO sc x=ah)(q:fK x=ah)(B:CQ sc N (.es as (e::es))):CQ sc N (.e (.callv i as) (.Call (.Name x np) (e::es) [] p))
 |dnew:CQ sc N (.e .dnew (.Dict [] [] p))
 |maxd(L:gZ N=ah)(q:d7 sc "max"=ah)(B:noStar e=ah)(J:CQ sc N (.e a e))(D:CQ sc N (.e d de)):CQ sc N (.e (.bi .maxd ai (.cons a (.cons d .nil))) (.Call (.Name "max" np) [e] [⟨aa "default",de,kp⟩] p))
 |frz(q:CQ sc N (.e a e)):CQ sc N (.e (.frz a) e)
 |ptup(D:noStar x=ah)(q:noStar y=ah)(B:CQ sc N (.e a x))(J:CQ sc N (.e b y)):CQ sc N (.e (.p2 .aE a b) (.Tuple [x,y] k p))
 |pidx(q:CQ sc N (.e a x))(hi:CQ sc N (.e i sl))(B:kN sl=ah):CQ sc N (.e (.p2 .y a i) (.Subscript x sl p))
 |pmem(q:CQ sc N (.e a l))(B:CQ sc N (.e b r))(D:Y9 .In r=ai):CQ sc N (.e (.p2 .mem a b) (.Compare l [.In] [r] p))
 |m2(h2:name=CU q)(L:dS oe=ah)(D:(apos.endLine==cpos.line)=ah)(B:noStar e=ah)(M:CQ sc N (.e o oe))(J:CQ sc N (.e a e)):CQ sc N (.e (.m2 q o a) (.Call (.Attribute oe name apos) [e] [] cpos))
 |es_nil:CQ sc N (.es .nil [])
 |es_cons(B:noStar e=ah)(q:CQ sc N (.e a e))(D:CQ sc N (.es as es)):CQ sc N (.es (.cons a as) (e::es))
 |o_nil:CQ sc N (.o .nil af)
 |o_one(q:CQ sc N (.e a e)):CQ sc N (.o (.cons a .nil) (aa e))
 |c_nil:CQ sc N (.c .nil [])
 |c_one(B:tOK a=ah)(q:CQ sc N (.e a e)):CQ sc N (.c (.cons a .nil) [e])
 |rng1(q:d7 sc "range"=ah)(B:noStar e=ah)(h:CQ sc N (.e a e)):CQ sc N (.i .rng1 (.cons a .nil) (.Call (.Name "range" p) [e] [] pos))
 |rng2(B:d7 sc "range"=ah)(D:noStar x=ah)(q:noStar y=ah)(L:CQ sc N (.e a x))(J:CQ sc N (.e b y)):CQ sc N (.i .rng2 (.cons a (.cons b .nil)) (.Call (.Name "range" p) [x,y] [] pos))
 |rng3(D:d7 sc "range"=ah)(J:noStar x=ah)(B:noStar y=ah)(q:noStar z=ah)(O:CQ sc N (.e a x))(L:CQ sc N (.e b y))(M:CQ sc N (.e c z)):CQ sc N (.i .rng3 (.cons a (.cons b (.cons c .nil))) (.Call (.Name "range" p) [x,y,z] [] pos))
 |rev(q:d7 sc "reversed"=ah)(B:noStar e=ah)(h:CQ sc N (.e a e)):CQ sc N (.i .rev (.cons a .nil) (.Call (.Name "reversed" p) [e] [] pos))
 |seq(h:CQ sc N (.e a x)):CQ sc N (.i .seq (.cons a .nil) x)
noncomputable abbrev CE'(sc:Vw)(N:List aA)(a:aR)(x:UP):Prop:=CQ sc N (.e a x)
noncomputable abbrev CEs(sc:Vw)(N:List aA)(as:aX)(xs:List UP):Prop:=CQ sc N (.es as xs)
noncomputable abbrev CC(sc:Vw)(N:List aA)(as:aX)(xs:List UP):Prop:=CQ sc N (.c as xs)
noncomputable abbrev CI(sc:Vw)(N:List aA)(sr:bK)(sa:aX)(x:UP):Prop:=CQ sc N (.i sr sa x)
inductive LPa:WH->List aA->Prop
 |one{p:Pos}:LPa ⟨[],[⟨"state",af,p⟩],af,[],[],af,[]⟩ ["state"]
 |two{p q:Pos}:LPa ⟨[],[⟨"row",af,p⟩,⟨"state",af,q⟩],af,[],[],af,[]⟩ ["row","state"]
def pW(ps fs:List aA)(sc:Vw):Bool :=
 sc.kind==.function&&!sc.isCoroutine&&!sc.isGenerator&&sc.names.all (λy=>!(y.2==.cell))&&ps.all (λx=>sc.names.lookup x==aa .local) &&
 fs.all (λx=>sc.names.lookup x==aa .free&&sc.names.contains (x,.free))&&sc.names.all (λy=>!(y.2==.free)||fs.contains y.1)&&lI (ps++fs)
noncomputable def Aq(sc:Vw)(N:List aA)(fv:List (Nat×aA)):Bool:=fv.all λq=>N[q.1]?==aa q.2&&sc.names.lookup q.2==aa .cell
inductive CL(sc:Vw)(N:List aA):aR->aA->aX->Nat->List (Nat×aA)->UP->Prop
 |zero{o bt:aR}{m:aA}{L:Nat}{fv:List (Nat×aA)}{B be:UP}{apos cpos lp:Pos}{D:WH}{q:Vw}{ns ps:List aA}(O:BT.qZ L=aa ⟨ns,ns,.ret bt⟩)(J:LPa D ps)(hn:ns=ps++fv.map (·.2))(Y:pW ps (fv.map (·.2)) q=ah)(U:Aq sc N fv=ah)
  (ht:N.contains (bH (BT.yM L))=ah) (W:CE' q ns bt be) (Z:dS B=ah) (M:(apos.endLine==cpos.line)=ah) (V:CE' sc N o B):CL sc N o m .nil L fv (.Call (.Attribute B m apos) [.Lambda D be q lp] [] cpos)
 |one{o bt a:aR}{m:aA}{L:Nat}{fv:List (Nat×aA)}{B be e:UP}{apos cpos lp:Pos}{D:WH}{q:Vw}{ns ps:List aA}(U:BT.qZ L=aa ⟨ns,ns,.ret bt⟩)(J:LPa D ps)(hn:ns=ps++fv.map (·.2))(hk:pW ps (fv.map (·.2)) q=ah)(V:Aq sc N fv=ah)
  (ht:N.contains (bH (BT.yM L))=ah) (Z:CE' q ns bt be) (h3:dS B=ah) (O:(apos.endLine==cpos.line)=ah) (Y:CE' sc N o B) (M:noStar e=ah) (W:CE' sc N a e):CL sc N o m (.cons a .nil) L fv (.Call (.Attribute B m apos) [e,.Lambda D be q lp] [] cpos)
def KT(K:UM)(a:aB)(xs:List V):Prop :=
 ∃(o:aq) (q:Array aC) (n:Nat),(K.lookup a=aa o/\o.cls=.type "tuple"/\o.data=.seq q n/\q.size<=aj/\dF xs q.toList)/\o.dict=af
def KL(K:UM)(a:aB)(xs:List V):Prop:=∃(q:List aC) (n:Nat),K.lookup a=aa {cls:=.type "list",data:=.seq q.toArray n}/\q.length<=aj/\dF xs q
def LL(K:UM)(H:Hp)(a:aB)(xs:List V):Prop:=Rd H a (.aD xs)\/KL K a xs
def LL.sq{H:Hp}{a:aB}{xs:List V}(h:LL K H a xs):SqL K H a xs:=by
 rcases h with h|⟨its,n,h1,h2,h3⟩
 exact .inl h;exact .inr ⟨_,its.toArray,n,h1,rfl,rfl,rfl,by simpa using h2,by simpa using h3⟩
def KD(P:U4)(w:Vl)(K:UM)(a:aB)(es:List (aA×V)):Prop :=
 (a==Wt)=ai/\∃B:List (Key×aC),KV (es.map λq=>(Sum.inr q.1,q.2)) B/\∀h:au,K.In h->h.DictOf (dI P w) a B
mutual
inductive RD(K:UM)(m:List aB)(H:Hp):V->aQ->Prop
 |aF:RD K m H .aF .aF
 |bl(b:Bool):RD K m H (.bl b) (.bl b)
 |int(i:Int):RD K m H (.int i) (.int i)
 |str(x:aA)(h:PyData.strOk x=ah):RD K m H (.str x) (.str x)
 |aE{a:aB}{vs:List V}{ds:List aQ}(h:(Rd H a (.aE vs)/\a∉m)\/KT K a vs)(r:RDs K m H vs ds):RD K m H (.ref a) (.aE ds)
 |aD{a:aB}{vs:List V}{ds:List aQ}(h:(Rd H a (.aD vs)/\a∉m)\/KL K a vs)(r:RDs K m H vs ds):RD K m H (.ref a) (.aD ds)
inductive RDs(K:UM)(m:List aB)(H:Hp):List V->List aQ->Prop
 |nil:RDs K m H [] []
 |cons{v:V}{d:aQ}{vs:List V}{ds:List aQ}(r:RD K m H v d)(t:RDs K m H vs ds):RDs K m H (v::vs) (d::ds)
end
inductive RDk(K:UM):List (aA×V)->List (aA×aQ)->Prop
 |nil:RDk K [] []
 |cons{x:aA}{v:V}{d:aQ}{es:List (aA×V)}{kvs:List (aA×aQ)}(r:∀m H,RD K m H v d)(t:RDk K es kvs):RDk K ((x,v)::es) ((x,d)::kvs)
inductive RA(K:UM)(m:List aB)(H:Hp):V->aP->Prop
 |p{v:V}{d:aQ}(r:RD K m H v d):RA K m H v (.p d)
 |r{a:aB}{n:Nat}(h:m[n]?=aa a):RA K m H (.ref a) (.r n)
 |o{a:aB}{n:Nat}(h:m[n]?=aa a):RA K m H (.ref a) (.o n)
def Tr(m:List aB)(H:Hp)(a:aB)(o:aq):Prop:=H a=aa (.frz o (.own 0))/\a∉m
noncomputable def Ar(x:aA):aA:=x++".<locals>."++"<lambda>"
inductive jX(m:List aB)(H:Hp)(cl:List (aA×aB)):List aA->List V->Prop
 |nil:jX m H cl [] []
 |cons{x:aA}{c:aB}{o:aq}{u:aC}{v:V}{xs:List aA}{vs:List V}(h1:cl.lookup x=aa c)(h2:Tr m H c o)(q:o.data=.cell (aa u))(r:RelV v u)(t:jX m H cl xs vs):jX m H cl (x::xs) (v::vs)
inductive jU(m:List aB)(H:Hp)(f:aB)(L:Nat)(vs:List V):Prop
 |mk(bt:_)(ps:_)(fs:_)(D:_)(be:_)(sc:_)(cl:_)(pm:_)(B:_)(c':_)(J:_)(os:_)(t:_)(q:_)(h1:BT.qZ L=aa ⟨ps++fs,ps++fs,.ret bt⟩)(h2:LPa D ps)(h3:pW ps fs sc=ah)(h4:CE' sc (ps++fs) bt be)(h5:(∀x y c,cl.lookup x=aa c->cl.lookup y=aa c->x=y))(W:(∀x c,cl.lookup x=aa c->x∈fs))(Z:Tr m H f (X3 "<lambda>" q D be sc cl pm c' B))(Y:Tr m H c' J)(U:J.data=.fields os)(O:os[1]?=aa (.str q t))(M:jX m H cl fs vs):jU m H f L vs
inductive RCs(K:UM)(m:List aB)(H:Hp):List V->List bF->Prop
 |nil:RCs K m H [] []
 |cons{v:V}{x:bF}{vs:List V}{xs:List bF}(r:RA K m H v x.w)(t:RCs K m H vs xs):RCs K m H (v::vs) (x::xs)
def TB(K:UM)(H:Hp):Prop:=∀x∈BT.gP,∀c P,VJ K x=aa (c,P)->∃q,H P=aa (.tbl q)/\TriplesOk q.toList ∧
 ∀B v,XJ B q.toList=aa v->∃J D os t,v=.ref J/\H J=aa (.frz D (.own 0))/\D.data=.fields os/\os[1]?=aa (.str (Ar x) t)
def TB.mono{H H':Hp}(h:TB K H)(h1:∀P ps,H P=aa (.tbl ps)->H' P=aa (.tbl ps))(h2:∀a o vs,o.data=.fields vs->H a=aa (.frz o (.own 0))->H' a=aa (.frz o (.own 0))):TB K H':=λx O c P e=>by obtain⟨ps,e1,e2,U⟩:=h x O c P e;refine⟨ps,h1 _ _ e1,e2,λB v q=>?_⟩;obtain⟨V,M,os,t,L,J,D⟩:=U B v q;exact⟨V,M,os,t,L,h2 _ _ _ D.1 J,D⟩
def CN(K:UM)(c:aA)(C:aB):Prop:=Vu K U6 c=aa (aa (.ref C))
structure XT(K:UM)(c:aA)(C:aB):Prop where
 ga:Vq K (.ref C) "__getattribute__"=aa (aa (.builtin "BaseException.__getattribute__"))
 nga:Vq K (.ref C) "__getattr__"=aa af
 mrb:Yt K C (.type "BaseException")=aa ah
 dct:WG K C=ah
 fnd:Vq K (.ref C) "__class__"=aa (aa (.builtin "object.__class__"))
 spc:aao K (.builtin "object.__class__") "__get__"=aa (aa (.builtin "getset_descriptor.__get__"))
 tak:aaR K (.builtin "object.__class__")=aa ah
 mro:Yt K C (.type "object")=aa ah
 own:∀cn,IZ cn=ah->BT.Sv c cn=ah->∃D,CN K cn D/\We K (.ref C) (.ref D)=aa (BT.Su c cn)
 val:We K (.ref C) (.type "ValueError")=aa ah
def excAt(K:UM)(c:aA)(a:aB):au->Prop:=λh=>∃o C,CN K c C/\XT K c C/\h.get? a=aa o/\o.cls=.ref C
inductive RKs(K:UM)(m:List aB)(H:Hp):List (Key×V)->List (bx×aQ)->Prop
 |nil:RKs K m H [] []
 |cons{k:Key}{v:V}{d:aQ}{vs:List (Key×V)}{kvs:List (bx×aQ)}(q:RD K m H (kV k) (BT.Ah k))(r:RD K m H v d)(t:RKs K m H vs kvs):RKs K m H ((k,v)::vs) ((k,d)::kvs)
inductive RP(K:UM)(m:List aB)(H:Hp):V->aQ->List (bx×aQ)->Prop
 |mk{t b:aB}{v:V}{d:aQ}{ws:List (Key×V)}{kvs:List (bx×aQ)}(h:Rd H t (.aE [v,.ref b])/\t∉m)(r:RD K m H v d)(g:Rd H b (.dK ws)/\b∉m)(q:RKs K m H ws kvs):RP K m H (.ref t) d kvs
inductive RPs(K:UM)(m:List aB)(H:Hp):List V->List bJ->Prop
 |nil:RPs K m H [] []
 |cons{v:V}{d:aQ}{kvs:List (bx×aQ)}{vs:List V}{ps:List bJ}(r:RP K m H v d kvs)(t:RPs K m H vs ps):RPs K m H (v::vs) ((d,kvs)::ps)
inductive RW(P:U4)(w:Vl)(K:UM)(m:List aB)(H:Hp):V->aP->Prop
 |p{v:V}{d:aQ}(r:RD K m H v d):RW P w K m H v (.p d)
 |r{a:aB}{n:Nat}(h:m[n]?=aa a):RW P w K m H (.ref a) (.r n)
 |k{a:aB}{es:List (aA×V)}{kvs:List (aA×aQ)}(h:KD P w K a es)(r:RDk K es kvs):RW P w K m H (.ref a) (.k (.t kvs))
 |kl{a:aB}{o:aq}{vs:List (Key×V)}{kvs:List (bx×aQ)}(h:H a=aa (.frz o (.dK vs))/\a∉m)(r:RKs K m H vs kvs):RW P w K m H (.ref a) (.k (.l kvs))
 |km{a:aB}{vs:List (Key×V)}{kvs:List (bx×aQ)}(h:Rd H a (.dK vs)/\a∉m)(r:RKs K m H vs kvs):RW P w K m H (.ref a) (.k (.m kvs))
 |kq{v:V}{d:aQ}{kvs:List (bx×aQ)}(r:RP K m H v d kvs):RW P w K m H v (.k (.q d kvs))
 |ks{a:aB}{vs:List V}{ps:List bJ}(h:Rd H a (.aD vs)/\a∉m)(r:RPs K m H vs ps):RW P w K m H (.ref a) (.k (.s ps))
 |o{a:aB}{n:Nat}(h:m[n]?=aa a):RW P w K m H (.ref a) (.o n)
 |c{f:aB}{L:Nat}{vs:List V}{q:List bF}(h:jU m H f L vs)(r:RCs K m H vs q):RW P w K m H (.ref f) (.c (.l L) q)
 |x{a:aB}{c:aA}(h:H a=aa (.ext (excAt K c a)))(n:a∉m)(q:∃C,XT K c C):RW P w K m H (.ref a) (.x c)
 |g{f:aB}{x:aA}(h:Vu K U6 x=aa (aa (.ref f)))(r:VY K (.ref f)=ah):RW P w K m H (.ref f) (.c (.f x) [])
inductive RFs(K:UM)(m:List aB)(H:Hp):List (aA×V)->List (aA×aP)->Prop
 |nil:RFs K m H [] []
 |cons{f:aA}{v:V}{x:aP}{vs:List (aA×V)}{fs:List (aA×aP)}(r:RA K m H v x)(t:RFs K m H vs fs):RFs K m H ((f,v)::vs) ((f,x)::fs)
def CN.inj{c:aA}{C q:aB}(h:CN K c C)(h':CN K c q):C=q:=by have e:=h.symm.trans h';simpa using e
structure nQ(K:UM)(c:aA)(C:aB):Prop where
 cn:CN K c C
 cls:Cls K C
 no:∀f,attrName f=ah->jZ K C f
 rd:aaS K C (.type "type")=ah
inductive RBs(m:List aB):List V->List Nat->Prop
 |nil:RBs m [] []
 |cons{n:Nat}{a:aB}{vs:List V}{ns:List Nat}(h:m[n]?=aa a)(t:RBs m vs ns):RBs m (.ref a::vs) (n::ns)
def jA(K:UM)(m:List aB)(H:Hp)(a:aB):BT.Cl->Prop
 |.l D=>∃q,H a=aa (.aD q)/\RDs K m H q D|.o c fs=>∃C M q,H a=aa (.ins C M q)/\nQ K c C/\RFs K m H q fs|.d B=>∃q,H a=aa (.dK q)/\RKs K m H q B|.z=>∃ob q,H a=aa (.frz ob (.dK q))|.b L=>∃q,H a=aa (.aD q)/\RBs m q L|.s J=>∃q,H a=aa (.aD q)/\RPs K m H q J
inductive RWs(P:U4)(w:Vl)(K:UM)(m:List aB)(H:Hp):List V->List aP->Prop
 |nil:RWs P w K m H [] []
 |cons{v:V}{x:aP}{vs:List V}{xs:List aP}(r:RW P w K m H v x)(t:RWs P w K m H vs xs):RWs P w K m H (v::vs) (x::xs)
structure RH(K:UM)(m:List aB)(H:Hp)(h:aN):Prop where
 nd:m.Nodup
 len:m.length=h.length
 cl:∀(i:Nat)(a:aB)(c:BT.Cl),m[i]?=aa a->h[i]?=aa c->jA K m H a c
 tb:TB K H
def CV{h:aN}{n:Nat}{xs:List aQ}(e:br h n=aa xs):h[n]?=aa (.l xs):=by
 unfold br at e;cases g:h[n]? with
 |none=>rw[g]at e;exact c5 e|some c=>rw[g]at e;cases c<;>simp[BT.oh]at e;rw[e]
def CW{h:aN}{n:Nat}{c:aA}{fs:List (aA×aP)}(e:bw h n=aa (c,fs)):h[n]?=aa (.o c fs):=by
 unfold bw at e;cases g:h[n]? with
 |none=>rw[g]at e;exact c5 e|some c=>rw[g]at e;cases c<;>simp[BT.pG]at e;rw[e.1,e.2]
def CY{h:aN}{n:Nat}{kvs:List (bx×aQ)}(e:BT.dat h n=aa kvs):h[n]?=aa (.d kvs):=by
 unfold BT.dat at e;cases g:h[n]? with
 |none=>rw[g]at e;exact c5 e|some c=>rw[g]at e;cases c<;>simp[BT.tE]at e;rw[e]
def RH.pX{m:List aB}{H:Hp}{h:aN}(R:RH K m H h)(i:Nat)(a:aB)(kvs:List (bx×aQ))(e:m[i]?=aa a)(g:BT.dat h i=aa kvs):∃vs,H a=aa (.dK vs)/\RKs K m H vs kvs:=R.cl i a _ e (CY g)
def RH.cell{m:List aB}{H:Hp}{h:aN}(R:RH K m H h)(i:Nat)(a:aB)(xs:List aQ)(e:m[i]?=aa a)(g:br h i=aa xs):∃vs,H a=aa (.aD vs)/\RDs K m H vs xs:=R.cl i a _ e (CV g)
inductive OC(K:UM)(m:List aB)(H:Hp)(a:aB)(c:aA)(fs:List (aA×aP)):Prop
 |mk(C:aB)(dx:_)(vs:_)(h1:H a=aa (.ins C dx vs))(h2:nQ K c C)(q:RFs K m H vs fs):OC K m H a c fs
def RH.rS{m:List aB}{H:Hp}{h:aN}(R:RH K m H h)(i:Nat)(a:aB)(c:aA)(fs:List (aA×aP))(e:m[i]?=aa a)(g:bw h i=aa (c,fs)):OC K m H a c fs:=by obtain⟨C,L,q,J,D,B⟩:=R.cl i a _ e (CW g);exact⟨C,L,q,J,D,B⟩
structure RS(P:U4)(w:Vl)(K:UM)(m:List aB)(H:Hp)(σ:L2.St)(s:bf):Prop where
 len:σ.length=s.length
 get:∀(i:Nat)(x:aP),s[i]?=aa (aa x)->∃v,σ[i]?=aa (aa v)/\RW P w K m H v x
noncomputable def CZ:HO->Bool
 |.tbl _=>ah|_=>ai
structure Ext(m:List aB)(H:Hp)(m':List aB)(H':Hp):Prop where
 pre:∃e,m'=m++e/\∀a∈e,H a=af
 keep:∀a o,H a=aa o->a∉m->CZ o=ai->H' a=aa o
 live:∀a,H' a=af->H a=af
 frz:∀a ob vs,H a=aa (.frz ob (.dK vs))->H' a=aa (.frz ob (.dK vs))
def Ext.refl(m:List aB)(H:Hp):Ext m H m H:=⟨⟨[],by simp,by simp⟩,λ_ _ h _ _=>h,λ_ h=>h,λ_ _ _ h=>h⟩
def Ext.iN{m m':List aB}{H H':Hp}(x:Ext m H m' H'){a:aB}{o:HO}(h:H a=aa o)(n:a∉m):a∉m':=by
 obtain⟨e,rfl,B⟩:=x.pre;intro q;rcases List.mem_append.mp q with q|q
 exact n q;rw[B a q]at h;exact c5 h
def Ext.trans{m J m2:List aB}{H H1 H2:Hp}(x:Ext m H J H1)(y:Ext J H1 m2 H2):Ext m H m2 H2:=by
 obtain⟨e,rfl,L⟩:=x.pre;obtain⟨O,rfl,B⟩:=y.pre;refine⟨⟨e++O,by rw[Vv],λa M=>?_⟩,λa o h n t=>y.keep a o (x.keep a o h n t) (x.iN h n) t,λa h=>x.live a (y.live a h),λa ob D h=>y.frz a ob D (x.frz a ob D h)⟩;rcases List.mem_append.mp M with q|q
 exact L a q;exact x.live a (B a q)
def Rd.ext{m m':List aB}{H H':Hp}(x:Ext m H m' H'){a:aB}{u:HO}(h:Rd H a u)(n:a∉m)(t:CZ u=ai:=by rfl):Rd H' a u/\a∉m':=by
 rcases h with h|⟨o,h⟩
 exact⟨.inl (x.keep _ _ h n t),x.iN h n⟩;exact⟨.inr ⟨o,x.keep _ _ h n rfl⟩,x.iN h n⟩
def Tr.ext{m m':List aB}{H H':Hp}(x:Ext m H m' H'){a:aB}{o:aq}(h:Tr m H a o):Tr m' H' a o:=⟨x.keep _ _ h.1 h.2 rfl,x.iN h.1 h.2⟩
def jX.ext{m m':List aB}{H H':Hp}(x:Ext m H m' H'){cl:List (aA×aB)}{xs:List aA}{vs:List V}(r:jX m H cl xs vs):jX m' H' cl xs vs:=by
 induction r with
 |nil=>exact .nil|cons J D B r t q=>exact .cons J (D.ext x) B r q
def jU.ext{m m':List aB}{H H':Hp}(x:Ext m H m' H'){f:aB}{L:Nat}{vs:List V}(h:jU m H f L vs):jU m' H' f L vs:=by obtain⟨l,M,fs,U,n,J,cl,O,D,k,W,os,t,q,j,i,g,e,d,c,b,a,Z,Y,B⟩:=h;exact⟨l,M,fs,U,n,J,cl,O,D,k,W,os,t,q,j,i,g,e,d,c,b.ext x,a.ext x,Z,Y,B.ext x⟩
section
variable{P:U4}{w:Vl}{K:UM}{m m':List aB}{H H':Hp}
mutual
theorem RD.ext(x:Ext m H m' H'):∀{v:V}{d:aQ},RD K m H v d->RD K m' H' v d
 |_,_,.aF=>.aF|_,_,.bl b=>.bl b|_,_,.int i=>.int i|_,_,.str y h=>.str y h|_,_,.aE h r=>.aE (h.elim (λq=>.inl (Rd.ext x q.1 q.2)) .inr) (RDs.ext x r)|_,_,.aD h r=>.aD (h.elim (λq=>.inl (Rd.ext x q.1 q.2)) .inr) (RDs.ext x r)
theorem RDs.ext(x:Ext m H m' H'):∀{vs:List V}{ds:List aQ},RDs K m H vs ds->RDs K m' H' vs ds
 |_,_,.nil=>.nil|_,_,.cons r t=>.cons (RD.ext x r) (RDs.ext x t)
end
def RA.rw{v:V}{d:aP}(r:RA K m H v d):RW P w K m H v d:=by
 cases r with
 |p r=>exact .p r|r h=>exact .r h|o h=>exact .o h
def RW.ra{v:V}{d:aP}(r:RW P w K m H v d)(q:BT.attrOk d=ah):RA K m H v d:=by
 cases r with
 |p r=>exact .p r|r h=>exact .r h|o h=>exact .o h|_=>exact aU q
def Ext.ix(x:Ext m H m' H'){n:Nat}{a:aB}(h:m[n]?=aa a):m'[n]?=aa a:=by obtain⟨e,rfl,_⟩:=x.pre;rw[UU (by rcases Vd _ m.length with q|q;exact q;rw[U5 q]at h;exact c5 h)];exact h
def RA.ext(x:Ext m H m' H'){v:V}{d:aP}(r:RA K m H v d):RA K m' H' v d:=by
 cases r with
 |p r=>exact .p (r.ext x)|r h=>exact .r (x.ix h)|o h=>exact .o (x.ix h)
def RCs.ext(x:Ext m H m' H'){vs:List V}{q:List bF}(r:RCs K m H vs q):RCs K m' H' vs q:=by
 induction r with
 |nil=>exact .nil|cons r t B=>exact .cons (r.ext x) B
def RKs.ext(x:Ext m H m' H'){vs:List (Key×V)}{kvs:List (bx×aQ)}(r:RKs K m H vs kvs):RKs K m' H' vs kvs:=by
 induction r with
 |nil=>exact .nil|cons B r t q=>exact .cons (B.ext x) (r.ext x) q
def RP.ext(x:Ext m H m' H'){v:V}{d:aQ}{kvs:List (bx×aQ)}(r:RP K m H v d kvs):RP K m' H' v d kvs:=by
 cases r with
 |mk h r g q=>exact .mk (Rd.ext x h.1 h.2) (r.ext x) (Rd.ext x g.1 g.2) (q.ext x)
def RPs.ext(x:Ext m H m' H'){vs:List V}{ps:List bJ}(r:RPs K m H vs ps):RPs K m' H' vs ps:=by
 induction r with
 |nil=>exact .nil|cons r t q=>exact .cons (r.ext x) q
def RPs.length{vs:List V}{ps:List bJ}(r:RPs K m H vs ps):vs.length=ps.length:=by
 induction r with
 |nil=>rfl|cons r t q=>rw[Va,Va,q]
def RPs.append{vs us:List V}{ps q:List bJ}(r:RPs K m H vs ps)(t:RPs K m H us q):RPs K m H (vs++us) (ps++q):=by
 induction r with
 |nil=>exact t|cons r _ B=>exact .cons r B
def RPs.get{vs:List V}{ps:List bJ}(r:RPs K m H vs ps):∀{i:Nat}{p:bJ},ps[i]?=aa p->∃v,vs[i]?=aa v/\RP K m H v p.1 p.2:=by
 induction r with
 |nil=>intro i p e;simp at e
 |cons r t q =>
  intro i p e;cases i with
  |zero=>simp at e;subst e;exact⟨_,rfl,r⟩|succ i=>simpa using q (by simpa using e)
def RW.ext(x:Ext m H m' H'){v:V}{d:aP}(r:RW P w K m H v d):RW P w K m' H' v d:=by
 cases r with
 |p r=>exact .p (r.ext x)
 |r h =>
  obtain⟨e,rfl,_⟩:=x.pre;refine .r ?_;rw[UU (by rcases Vd _ m.length with q|q;exact q;rw[U5 q]at h;exact c5 h)];exact h
 |k h r=>exact .k h r|kl h r=>exact .kl ⟨x.keep _ _ h.1 h.2 rfl,x.iN h.1 h.2⟩ (r.ext x)|km h r=>exact .km (Rd.ext x h.1 h.2) (r.ext x)|kq r=>exact .kq (r.ext x)|ks h r=>exact .ks (Rd.ext x h.1 h.2) (r.ext x)|c h r=>exact .c (h.ext x) (r.ext x)|g h r=>exact .g h r|x h n B=>exact .x (x.keep _ _ h n rfl) (x.iN h n) B
 |o h =>
  obtain⟨e,rfl,_⟩:=x.pre;refine .o ?_;rw[UU (by rcases Vd _ m.length with q|q;exact q;rw[U5 q]at h;exact c5 h)];exact h
def RFs.ext(x:Ext m H m' H'){vs:List (aA×V)}{fs:List (aA×aP)}(r:RFs K m H vs fs):RFs K m' H' vs fs:=by
 induction r with
 |nil=>exact .nil|cons r t q=>exact .cons (r.ext x) q
def RBs.ext(x:Ext m H m' H'){vs:List V}{ns:List Nat}(r:RBs m vs ns):RBs m' vs ns:=by
 induction r with
 |nil=>exact .nil|cons h t q=>exact .cons (x.ix h) q
def jA.ext(x:Ext m H m' H'){a:aB}(e:H' a=H a){c:BT.Cl}(r:jA K m H a c):jA K m' H' a c:=by
 cases c with
 |o c fs=>obtain⟨C,L,q,B,D,J⟩:=r;exact⟨C,L,q,e.trans B,D,J.ext x⟩|z=>obtain⟨ob,q,B⟩:=r;exact⟨ob,q,e.trans B⟩|_=>obtain⟨q,B,D⟩:=r;exact⟨q,e.trans B,D.ext x⟩
def jA.some{a:aB}{c:BT.Cl}(r:jA K m H a c):∃o,H a=aa o:=by
 cases c with
 |o c fs=>obtain⟨C,L,B,q,D,J⟩:=r;exact⟨_,q⟩|z=>obtain⟨ob,B,q⟩:=r;exact⟨_,q⟩|_=>obtain⟨B,q,D⟩:=r;exact⟨_,q⟩
def RWs.ext(x:Ext m H m' H'){vs:List V}{ds:List aP}(r:RWs P w K m H vs ds):RWs P w K m' H' vs ds:=by
 induction r with
 |nil=>exact .nil|cons r t q=>exact .cons (r.ext x) q
def RS.ext(x:Ext m H m' H'){σ:L2.St}{s:bf}(r:RS P w K m H σ s):RS P w K m' H' σ s :=
 ⟨r.len,λi y e=>by obtain⟨v,h,q⟩:=r.get i y e;exact⟨v,h,q.ext x⟩⟩
theorem RDs.length:∀{vs:List V}{ds:List aQ},RDs K m H vs ds->vs.length=ds.length
 |_,_,.nil=>rfl
 |_,_,.cons _ t=>by rw[Va,Va,RDs.length t]
theorem RWs.length:∀{vs:List V}{ds:List aP},RWs P w K m H vs ds->vs.length=ds.length
 |_,_,.nil=>rfl
 |_,_,.cons _ t=>by rw[Va,Va,RWs.length t]
theorem RDs.get:∀{vs:List V}{ds:List aQ}{i:Nat}{d:aQ},RDs K m H vs ds->ds[i]?=aa d->∃v,vs[i]?=aa v/\RD K m H v d
 |_,_,_,_,.nil,e=>by simp at e
 |_,_,0,_,.cons r _,e=>by simp at e;subst e;exact⟨_,rfl,r⟩
 |_,_,i+1,d,.cons _ t,e=>by obtain⟨u,B,q⟩:=RDs.get (i:=i) (d:=d) t (by simpa using e);exact⟨u,by simpa using B,q⟩
theorem RDs.append:∀{vs ws:List V}{ds es:List aQ},RDs K m H vs ds->RDs K m H ws es->RDs K m H (vs++ws) (ds++es)
 |_,_,_,_,.nil,s=>s|_,_,_,_,.cons r t,s=>.cons r (RDs.append t s)
theorem RDs.take:∀{vs:List V}{ds:List aQ}(n:Nat),RDs K m H vs ds->RDs K m H (vs.take n) (ds.take n)
 |_,_,0,_=>.nil|_,_,_+1,.nil=>.nil|_,_,n+1,.cons r t=>.cons r (RDs.take n t)
theorem RDs.drop:∀{vs:List V}{ds:List aQ}(n:Nat),RDs K m H vs ds->RDs K m H (vs.drop n) (ds.drop n)
 |_,_,0,r=>r|_,_,_+1,.nil=>.nil|_,_,n+1,.cons _ t=>RDs.drop n t
theorem RDs.set{v:V}{d:aQ}(r:RD K m H v d):∀{vs:List V}{ds:List aQ}(i:Nat),RDs K m H vs ds->RDs K m H (vs.set i v) (ds.set i d)
 |_,_,_,.nil=>.nil|_,_,0,.cons _ t=>.cons r t|_,_,i+1,.cons q t=>.cons q (RDs.set r i t)
theorem RDs.pick{vs:List V}{ds:List aQ}(r:RDs K m H vs ds):∀l:List Nat,RDs K m H (l.filterMap λi=>vs[i]?) (l.filterMap λi=>ds[i]?)
 |[]=>.nil
 |i::l=>by
  rw[Vs,Vs];cases g:ds[i]? with
  |none =>
   have:vs[i]?=af:=by have h:=r.length;rw[ZL]at g⊢;lia
   rw[this];exact RDs.pick r l
  |some d =>
   obtain⟨v,e,q⟩:=r.get g;rw[e];exact .cons q (RDs.pick r l)
theorem RDs.dropLast:∀{vs:List V}{ds:List aQ},RDs K m H vs ds->RDs K m H vs.dropLast ds.dropLast
 |_,_,.nil=>.nil|_,_,.cons _ .nil=>.nil|_,_,.cons r (.cons q t)=>.cons r (RDs.dropLast (.cons q t))
theorem RDs.rep{vs:List V}{ds:List aQ}(r:RDs K m H vs ds):∀k:Nat,RDs K m H (Vc k vs).flatten (Vc k ds).flatten
 |0=>.nil
 |k+1=>by rw[V8,V8,WN,WN];exact RDs.append r (RDs.rep r k)
def getD_some{q:Type}{xs:List q}{n:Nat}{a:q}(h:xs[n]?=aa a):n<xs.length:=by
 rcases Vd n xs.length with z|z
 exact z;rw[U5 z]at h;exact c5 h
def rT{N:List aB}(D:N.Nodup){i j:Nat}{x:aB}(a:N[i]?=aa x)(b:N[j]?=aa x):i=j:=by
 have B:i<N.length:=by
  rcases Vd i N.length with z|z
  exact z;rw[U5 z]at a;exact c5 a
 have q:j<N.length:=by
  rcases Vd j N.length with z|z
  exact z;rw[U5 z]at b;exact c5 b
 rw[U1 B]at a;rw[U1 q]at b;exact(List.getElem_inj D).mp ((U3 a).trans (U3 b).symm)
inductive RR(K:UM)(m:List aB)(H:Hp):V->aQ->Prop
 |d{v:V}{d:aQ}(r:RD K m H v d):RR K m H v d
 |l{a:aB}{vs:List V}{ds:List aQ}(h:H a=aa (.aD vs))(r:RDs K m H vs ds):RR K m H (.ref a) (.aD ds)
def d8{h:aN}(B:RH K m H h){v:V}{x:aP}{d:aQ}(r:RW P w K m H v x)(e:bq x h=aa d):RR K m H v d:=by
 cases r with
 |p r=>cases e;exact .d r
 |@r a n q =>
  simp only[bq]at e;cases g:br h n with
  |none=>rw[g]at e;exact c5 e
  |some D =>
   rw[g]at e;cases e;obtain⟨M,L,J⟩:=B.cell n a D q g;exact .l L J
 |_=>exact c5 e
inductive RLs(K:UM)(m:List aB)(H:Hp)(v:V)(ds:List aQ):Prop
 |mk(a:aB)(vs:List V)(e:v=.ref a)(l:LL K H a vs)(r:RDs K m H vs ds):RLs K m H v ds
inductive RTs(K:UM)(m:List aB)(H:Hp)(v:V)(ds:List aQ):Prop
 |mk(a:aB)(vs:List V)(e:v=.ref a)(l:SqT K H a vs)(r:RDs K m H vs ds):RTs K m H v ds
theorem RR.aD{v:V}{ds:List aQ}(r:RR K m H v (.aD ds)):RLs K m H v ds:=by
 cases r with
 |d r=>cases r with|aD h r=>exact⟨_,_,rfl,h.elim (λq=>.inl q.1) .inr,r⟩
 |l h r=>exact⟨_,_,rfl,.inl (.inl h),r⟩
theorem RR.aE{v:V}{ds:List aQ}(r:RR K m H v (.aE ds)):RTs K m H v ds:=by
 cases r with
 |d r=>cases r with|aE h r=>exact⟨_,_,rfl,h.elim (λq=>.inl q.1) (λ⟨o,its,n,q,_⟩=>.inr ⟨o,its,n,q⟩),r⟩
def RR.int{v:V}{i:Int}(r:RR K m H v (.int i)):v=.int i:=by cases r with|d r=>cases r;rfl
theorem RR.str{v:V}{x:aA}(r:RR K m H v (.str x)):v=.str x/\PyData.strOk x=ah:=by cases r with|d r=>cases r with|str _ h=>exact⟨rfl,h⟩
def RR.bl{v:V}{b:Bool}(r:RR K m H v (.bl b)):v=.bl b:=by cases r with|d r=>cases r;rfl
def RR.aF{v:V}(r:RR K m H v .aF):v=.aF:=by cases r with|d r=>cases r;rfl
def TB.new{p:aB}{o:HO}(q:H p=af)(h:TB K H):TB K (upd H p o) :=
 h.mono (λP B e=>by rw[dD (dJ e q)];exact e) λa o _ _ e=>by rw[dD (dJ e q)];exact e
def gB{p:aB}{o:HO}(B:H p=af):Ext m H m (upd H p o) :=
 ⟨⟨[],by simp,by simp⟩,λa q h _ _=>by rw[dD (dJ h B)];exact h,λa h=>by
  by_cases e:a=p
  rw[e];exact B
  ·rw[dD e] at h;exact h,λa ob D h=>by rw[dD (dJ h B)];exact h⟩
def RH.iN{h:aN}(R:RH K m H h){p:aB}(D:H p=af):p∉m:=by
 intro q;obtain⟨i,B⟩:=Wp q;have J:i<h.length:=by
  rw[←R.len];rcases Vd i m.length with z|z
  exact z;rw[U5 z]at B;exact c5 B
 obtain⟨o,e⟩:=(R.cl i p h[i] B (U1 J)).some;rw[e]at D;cases D
def Le(H H':Hp):Prop:=∀a u,H a=aa u->H' a=aa u
def Le.tb(q:Le H H')(t:TB K H):TB K H':=t.mono (λ_ _ e=>q _ _ e) λ_ _ _ _ e=>q _ _ e
def C1{p:aB}{o:HO}(q:H p=af):Le H (upd H p o):=λa u e=>by rw[dD (dJ e q)];exact e
def RH.ext{h:aN}(R:RH K m H h)(x:Ext m H m H')(k:Le H H'):RH K m H' h :=
 ⟨R.nd,R.len,λi a c e1 e2=>by obtain⟨o,e⟩:=(R.cl i a c e1 e2).some;exact(R.cl i a c e1 e2).ext x (by rw[e];exact k _ _ e),k.tb R.tb⟩
noncomputable def OS:HO->Bool
 |.aD _=>ah|.ins _ _ _=>ah|.dK _=>ah|_=>ai
noncomputable def Gp:HO->Bool
 |.frz _ (.dK _)=>ah|.aD _=>ah|.ins _ _ _=>ah|.dK _=>ah|_=>ai
def RH.mu{h:aN}(R:RH K m H h){a:aB}(L:a∈m):∃o,H a=aa o/\Gp o=ah:=by
 obtain⟨i,B⟩:=Wp L;have J:i<h.length:=by
  rw[←R.len];rcases Vd i m.length with z|z
  exact z;rw[U5 z]at B;exact c5 B
 have z:=R.cl i a h[i] B (U1 J);cases g:h[i]with
 |o c fs=>rw[g]at z;obtain⟨C,U,D,q,M,O⟩:=z;exact⟨_,q,rfl⟩|z=>rw[g]at z;obtain⟨ob,D,q⟩:=z;exact⟨_,q,rfl⟩|_=>rw[g]at z;obtain⟨D,q,M⟩:=z;exact⟨_,q,rfl⟩
def RH.nin{h:aN}(R:RH K m H h){a:aB}{o:HO}(e:H a=aa o)(n:Gp o=ai):a∉m:=λz=>by obtain⟨u,B,q⟩:=R.mu z;rw[e]at B;cases B;rw[n]at q;cases q
def RH.new{h:aN}(R:RH K m H h){p:aB}{o:HO}(q:H p=af):RH K m (upd H p o) h :=
 R.ext (gB q) (C1 q)
def j7{p:aB}{o:HO}(B:H p=af):Ext m H (m++[p]) (upd H p o) :=
 ⟨⟨[p],rfl,by simpa using B⟩,λa q h _ _=>by rw[dD (dJ h B)];exact h,λa h=>by
  by_cases e:a=p
  rw[e];exact B
  ·rw[dD e] at h;exact h,λa ob D h=>by rw[dD (dJ h B)];exact h⟩
def RH.KI{h:aN}(R:RH K m H h){p:aB}{o:HO}{c:BT.Cl}(q:H p=af)(r:jA K (m++[p]) (upd H p o) p c):RH K (m++[p]) (upd H p o) (h++[c]):=by
 have B:=R.iN q;have x:Ext m H (m++[p]) (upd H p o):=j7 q;refine⟨List.nodup_append.mpr ⟨R.nd,by simp,λa M b D=>by simp at D;subst D;exact λe=>B (e ▸ M)⟩,by simp[R.len],λi a J e1 e2=>?_,R.tb.new q⟩
 by_cases c:i<m.length
 ·rw[UU c]at e1;rw[UU (by rw[←R.len];exact c)]at e2;have L:a≠p:=by intro e;subst e;exact B (UZ e1)
  exact(R.cl i a J e1 e2).ext x (dD L)
 ·have e:i=m.length:=by
   rcases Vd i (m++[p]).length with z|z
   simp at z;lia;rw[U5 z]at e1;exact c5 e1
  subst e;simp at e1;rw[R.len]at e2;simp at e2;subst e1 e2;exact r
def RH.SM{h:aN}(R:RH K m H h){p:aB}{vs:List V}{xs:List aQ}(q:H p=af)(r:RDs K m H vs xs):RH K (m++[p]) (upd H p (.aD vs)) (h++[.l xs]) :=
 R.KI q ⟨vs,dM,r.ext (j7 q)⟩
def TB.set{a:aB}{o:HO}(B:∃u,H a=aa u/\Gp u=ah)(h:TB K H):TB K (upd H a o):=by obtain⟨w,hw,q⟩:=B;refine h.mono (λP D e=>?_) λb ob _ _ e=>?_;rw[dD (λz=>by subst z;rw[hw]at e;cases e;exact aU q)];exact e;rw[dD (λz=>by subst z;rw[hw]at e;cases e;exact aU q)];exact e
def jl{a:aB}{o:HO}(M:a∈m)(B:∃u,H a=aa u/\OS u=ah):Ext m H m (upd H a o) :=
 ⟨⟨[],by simp,by simp⟩,λb u q n _=>by
  have D:b≠a:=by intro e;subst e;exact n M
  rw[dD D];exact q,λb q=>by
  by_cases e:b=a
  subst e;rw[dM]at q;cases q
  ·rw[dD e]at q;exact q,λb ob O q=>by
  obtain ⟨u,J,L⟩:=B;rw[dD (λz=>by subst z;rw[J] at q;cases q;exact aU L)];exact q⟩
def g9{a:aB}{vs us:List V}(q:a∈m)(h:H a=aa (.aD us)):Ext m H m (upd H a (.aD vs)):=jl q ⟨_,h,rfl⟩
def RH.setC{h:aN}(R:RH K m H h){n:Nat}{a:aB}{o:HO}{c:BT.Cl}(hn:m[n]?=aa a)(B:∃u,H a=aa u/\OS u=ah)(r:jA K m (upd H a o) a c):RH K m (upd H a o) (h.set n c):=by
 have x:Ext m H m (upd H a o):=jl (UZ hn) B;refine⟨R.nd,by simp[R.len],λi b q e1 e2=>?_,R.tb.set (R.mu (UZ hn))⟩
 by_cases c:i=n
 ·subst c;rw[hn]at e1;cases e1;have J:i<h.length:=by
   rw[←R.len];rcases Vd i m.length with z|z
   exact z;rw[U5 z]at hn;exact c5 hn
  rw[VB J]at e2;cases e2;exact r
 ·rw[Vm (VN c)]at e2;have D:b≠a:=by intro e;subst e;exact c (rT R.nd e1 hn)
  exact(R.cl i b q e1 e2).ext x (dD D)
def RH.set{h:aN}(R:RH K m H h){n:Nat}{a:aB}{vs us:List V}{xs:List aQ}(hn:m[n]?=aa a)(q:H a=aa (.aD us))(r:RDs K m H vs xs):RH K m (upd H a (.aD vs)) (h.set n (.l xs)) :=
 R.setC hn ⟨_,q,rfl⟩ ⟨vs,dM,r.ext (g9 (UZ hn) q)⟩
end
end BS
end
section
namespace BS
open PySem PySem.Spec PyProof.Rows L2 PySem.SeqAt
def oi{E:aC->UR->Prop}(f:Nat->β->Sem (ForInStep β))(n:Nat)(I:Nat->β->UR->Prop)(Q:β->UR->Prop)
(turn:∀i b s,i<n->I i b s->ay M A (f i b) (λr s'=>match r with|.yield D=>I (i+1) D s'|.done D=>Q D s') E s)
(fin:∀b s,I n b s->Q b s)(b:β)(h:I 0 b s):ay M A (forIn [:n] b f) Q E s:=by
 rw[Std.Legacy.Range.forIn_eq_forIn_range'];have e:aaD [:n].start [:n].size [:n].step=aaD 0 (n-0):=by simp[Std.Legacy.Range.size]
 rw[e];refine wpAny_forIn_list f (λrest b s=>∃i,i<=n/\rest=aaD i (n-i)/\I i b s) Q (λx rest b s ⟨i,hi,hr,q⟩=>?_) (λb s ⟨i,hi,hr,q⟩=>?_) _ b ⟨0,VL _,rfl,h⟩
 ·have B:i<n:=by
   rcases Vd i n with z|z
   exact z;rw[show n-i=0 by lia]at hr;simp at hr
  rw[show n-i=(n-(i+1))+1 by lia,List.range'_succ]at hr
  injection hr with e1 e2
  subst e1;refine Wm (turn x b s B q) (λr s' z=>?_) λ_ _ z=>z;cases r with
  |yield D=>exact⟨x+1,B,e2,z⟩|done D=>exact z
 ·have:i=n:=by
   rcases Vd i n with z|z
   rw[show n-i=(n-(i+1))+1 by lia,List.range'_succ]at hr;simp at hr;lia
  subst this;exact fin b s q
def q8(l:aB)(items:Array aC)(n:Nat)(dd:Option aB)(O:Array (Option aC))(x:aC)(e:aC->Bool)(j:Nat)(Z:j<items.size)
(L:e items[j]=ah)(J:∀m (Y:m<items.size),m<j->e items[m]=ai):
 Meets (Builtin.«tuple.index» ⟨[.ref l,x],[]⟩)
  (λA R s=>s.heap.get? l=aa {cls:=.type "tuple",dict:=dd,data:=.seq items n,slots:=O}/\(∀y,y∈items->EqAt A.in1 s y x (e y))/\R (.ok (.ret (.int j s.toks))) {s with toks:=s.toks+1}) :=
 .of_wp λB w A R s h=>by
 obtain⟨U,g,d,M,os⟩:=s;obtain⟨V,W,h⟩:=h
 wp_walk using Xh V,oi _ _ (λi b D=>i<=j/\b.1=af/\D=⟨U,g,d,M,os⟩) _
 case turn =>
  rintro i b D hi ⟨hij,hb,rfl⟩
  have q:i<items.size:=by lia
  rw[VA q];refine UN (W _ (Array.getElem_mem q) B w _ _ ?_)
  by_cases c:i=j
  ·subst c;rw[L]
   wp_walk
   exact⟨_,rfl,h⟩
  ·rw[J i q (by lia)]
   wp_walk
   exact⟨by lia,rfl,rfl⟩
 case fin =>
  rintro b D ⟨hij,_,_⟩
  lia
 case h=>exact⟨VL _,rfl,rfl⟩
def xC(l:aB)(items:Array aC)(n:Nat)(dd:Option aB)(U:Array (Option aC))(k:Int)(t:Tok)(h1:-1000<=k)(h2:k<=1000)(D:¬items.isEmpty=ah)(V:k≠1)(i:0<k)(hz:items.size*k.toNat<=aj):
 Meets (Builtin.«tuple.__mul__» ⟨[.ref l,.int k t],[]⟩)
  (λA R s=>s.heap.get? l=aa {cls:=.type "tuple",dict:=dd,data:=.seq items n,slots:=U}/\R (.ok (.ret (.ref s.heap.objs.size))) {s with heap:=s.heap.push {cls:=.type "tuple",data:=.seq ((Vc k.toNat items).foldl (λB q=>B++q) #[])} }) :=
 .of_wp λM w A R s h=>by
 obtain⟨e,g,d,b,os⟩:=s;obtain⟨L,h⟩:=h;have f:=aav;have Z:¬(decide (k < -2^63)||decide (k ≥ 2^63))=ah:=by simp;lia
 have o:¬(items.isEmpty||k==1)=ah:=by simp at D⊢;exact⟨D,V⟩
 have m:¬(decide (k<=0)||items.isEmpty)=ah:=by simp at D⊢;exact⟨by lia,D⟩
 have O:(k.toNat:Int)=k:=by lia
 have Y:¬((items.size:Int)*k>(2^63-1)/8):=by
  have z:((items.size*k.toNat:Nat):Int)<=(aj:Nat):=Int.ofNat_le.mpr hz;rw[Int.natCast_mul,O]at z;have a:((aj:Nat):Int)<=(2^63-1)/8:=by decide
  lia
 have j:¬Yy ((items.size:Int)*k)=ah:=by have z:((items.size*k.toNat:Nat):Int)<=(aj:Nat):=Int.ofNat_le.mpr hz;rw[Int.natCast_mul,O]at z;simp only[Yy,bP];lia
 have J:sizeOk (.seq ((Vc k.toNat items).foldl (λB q=>B++q) #[])):=by show((Vc k.toNat items).foldl (λB q=>B++q) #[]).size<=aj;rw[AutoListH.size_joined,Array.size_empty,W4];lia
 wp_walk using Xh L
 rw[bN Z]
 wp_walk using Xh L
 refine YC (λc=>bO c ?_) (λ_=>?_);intro c;have W:=Y;simp at W c;lia
 wp_walk using Xh L
 refine wpAny_ite_false (bQ (Nat.not_lt.mpr J)) ?_
 wp_walk
 exact⟨_,rfl,h⟩
def ni:fillsNumberSlot (.type "tuple") "mul"=pure ai :=
 PySem.fillsNumberSlot_seq (id:="tuple.__mul__") (r:=aa (.builtin "tuple.__rmul__")) F.slot_tuple_mul.lookup (by decide +kernel) F.slot_tuple_rmul.lookup (by decide +kernel)
def tU:seqRepeat? (.type "tuple")=pure (aa (.builtin "tuple.__mul__")):=by unfold seqRepeat?;rw[PySem.seqSlot_of (T:="tuple") (name:="__mul__") (id:="tuple.__mul__") F.slot_tuple_mul.lookup (by decide +kernel),PySem.seqSlot_of (T:="tuple") (name:="__rmul__") (id:="tuple.__rmul__") F.slot_tuple_rmul.lookup (by decide +kernel)];rfl
def pY(a:Int)(t:Tok)(l:aB)(items:Array aC)(n:Nat)(dd:Option aB)(B:Array (Option aC)):
 Meets (Builtin.«int.__rmul__» ⟨[.int a t,.ref l],[]⟩) (λ_ R s=>s.heap.get? l=aa {cls:=.type "tuple",dict:=dd,data:=.seq items n,slots:=B}/\R (.ok (.ret Value.notImplemented)) s) :=
 .of_wp λq w A R s h=>by obtain⟨J,g,d,D,os⟩:=s;obtain⟨L,h⟩:=h;wp_walk;exact⟨_,rfl,h⟩
def oj(l:aB)(items:Array aC)(n:Nat)(b:aB)(q:Array aC)(U:Nat)(dd:Option aB)(O:Array (Option aC))(V:¬(!items.isEmpty&&VZ (items.size+q.size))=ah)(J:items.size<=aj)(D:items.size+q.size<=aj+1):
 Meets (Builtin.«list.extend» ⟨[.ref l,.ref b],[]⟩) (λ_ R s=>s.heap.get? l=aa {cls:=.type "list",dict:=af,data:=.seq items n,slots:=#[]}/\s.heap.get? b=aa {cls:=.type "tuple",dict:=dd,data:=.seq q U,slots:=O}/\R (.ok (.ret Xd)) {s with heap:=s.heap.update l (WQ λx=>x++q),toks:=s.toks}) :=
 .of_wp λL w A R s h=>by
  obtain⟨Z,g,d,Y,os⟩:=s;obtain⟨M,W,h⟩:=h;have i:=aav;have f:=AutoSeq1.sub_tuple_tuple;have e:=AutoSeq1.sub_list_list;have c:=AutoSeq1.sub_tuple_list;have a:=AutoSeq1.sub_list_tuple;have B:(items++q).size<=aj+1:=by rw[Array.size_append];exact D
  wp_walk using (WR M rfl (hz:=J) (_hz':=B)),Xh M,Xh W;exact⟨_,rfl,h⟩
end BS
end
section
namespace BS
open PySem PySem.Spec PyProof.Rows L2
variable{K:UM}
inductive Bnd{α β:Type}(x:Option (α×aN))(k:α->aN->Option β)(r:β):Prop
 |mk(a:α)(g:aN)(h1:x=aa (a,g))(h2:k a g=aa r):Bnd x k r
inductive OT{α β:Type}(x:Option α)(f:α->β)(r:β):Prop
 |mk(a:α)(h1:x=aa a)(h2:f a=r):OT x f r
inductive Bind(o:bD)(x y:aP)(h:aN)(z:aP)(h':aN):Prop
 |mk(d d' q:aQ)(h1:bq x h=aa d)(h2:bq y h=aa d')(B:BT.mZ o d d'=aa q)(D:z=.p q)(J:h'=h):Bind o x y h z h'
def dg{D B:Type}{x:Option (D×aN)}{k:D->aN->Option B}{r:B}(h:bI x k=aa r):Bnd x k r:=by
 cases x with
 |none=>exact c5 h|some q=>exact⟨q.1,q.2,rfl,h⟩
def dG{B q:Type}{x:Option B}{f:B->q}{r:q}(h:x.map f=aa r):OT x f r:=by
 cases x with
 |none=>exact c5 h|some a=>exact⟨a,rfl,U3 h⟩
def Post(P:U4)(w:Vl)(K:UM)(m:List aB)(H:Hp)(z:aP)(h':aN)(Q:VK):Prop :=
 ∀v q B,Ext m H B q->RH K B q h'->RW P w K B q v z->Q v q
inductive rOp(P:U4)(w:Vl)(K:UM)(f:aP->aP->aN->Option (aP×aN))(v u:V)(H:Hp)(Q:VK):Prop
 |mk(m:List aB)(h:aN)(x y z:aP)(h':aN)(R:RH K m H h)(B:RW P w K m H v x)(q:RW P w K m H u y)(e:f x y h=aa (z,h'))(p:Post P w K m H z h' Q):rOp P w K f v u H Q
def mw{o:bD}{x y:aP}{h:aN}{z:aP}{h':aN}(e:BT.tL o x y h=aa (z,h')):Bind o x y h z h':=by
 unfold BT.tL at e;cases e1:bq x h with
 |none=>rw[e1]at e;exact c5 e
 |some d =>
  cases e2:bq y h with
  |none=>rw[e1,e2]at e;exact c5 e
  |some D =>
   rw[e1,e2]at e;obtain⟨q,eq,B⟩:=dG e;cases B;exact⟨d,D,q,e1,e2,eq,rfl,rfl⟩
section
variable{X:Cx}
def fL:BT.lim<=aj:=by decide
inductive OU(s:UR)(a:aB)(xs:List V):Prop
 |mk(z:xs.length<=aj)(q:List aC)(n:Nat)(r:dF xs q)(l:xs.length=q.length)(e:s.heap.get? a=aa {cls:=.type "list",data:=.seq q.toArray n}):OU s a xs
def rdL(I:Inv X zt σ H s)(r:LL X.K H a xs):OU s a xs:=by
 rcases r with r|⟨q,n,h1,h2,h3⟩
 ·obtain⟨z,q,n,r,e⟩:=r.ok I.aL;exact⟨z,q,n,r,r.length,e⟩
 exact⟨by rw[h3.length];exact h2,q,n,h3,h3.length,I.kIn a _ h1⟩
def C2(I:Inv X zt σ H s)(O:LL X.K H a xs)(M:LL X.K H b ys)(hz:xs.length+ys.length<=aj)
(q:∀p,H p=af->Q (.ref p) (upd H p (.aD (xs++ys)))):ay (Vb X.prog X.w) X.A (Wo .Add (.ref a) (.ref b)) (EP X zt σ Q) X.xe s:=by
 obtain⟨z,D,n,r,Y,e⟩:=rdL I O;obtain⟨V,B,W,J,L,e2⟩:=rdL I M;refine PySem.P.add_list e e2 ?_ (by rw[US,US];lia);have U:D.toArray++B.toArray=(D++B).toArray:=by simp
 rw[U];exact⟨.ref _,_,I.NZ (t':=s.toks) (r.append J) (by rw[U9];lia),rfl,q _ I.fresh⟩
def As(I:Inv X zt σ H s)(d:SqT X.K H a xs)(Z:SqT X.K H b ys)(hz:xs.length+ys.length<=aj)
(j:xs=[]->Q (.ref b) H)(i:ys=[]->Q (.ref a) H)(q:∀p,H p=af->Q (.ref p) (upd H p (.aE (xs++ys)))):ay (Vb X.prog X.w) X.A (Wo .Add (.ref a) (.ref b)) (EP X zt σ Q) X.xe s:=by
 by_cases c:xs=[]
 ·obtain⟨D,h,k,_⟩:=I.tuple d;obtain⟨B,o,p2,_⟩:=I.tuple Z;obtain⟨⟨m,dd,e,g⟩,V,Y,n,W⟩:=id k;obtain⟨⟨f,U,data2,O⟩,J,M,l,L⟩:=id p2;simp only at Y W M L;subst Y W M L;have z:D=[]:=h.lW.mpr c;exact concat_meets ⟨_,V,rfl⟩ ⟨_,J,rfl⟩ ZO aaH XW XN (XA _ _)
   (tuple_addW0 a b D.toArray B.toArray n l dd U g O (by simp[z])) ⟨V,J,⟨.ref b,H,I,rfl,j c⟩⟩
 exact FG zt s σ H (.ref a) (.ref b) _ _ Q I rfl rfl ⟨a,b,xs,ys,rfl,rfl,d,Z,c,hz,i,λ_=>q⟩
def mz(R:RH X.K m H h)(q:H p=af)(r:RDs X.K m H vs ds)(B:Post X.prog X.w X.K m H (.p (.aE ds)) h Q):Q (.ref p) (upd H p (.aE vs)) :=
 B _ _ m (gB q) (R.new q) (.p (.aE (.inl ⟨.inl dM,R.iN q⟩) (r.ext (gB q))))
def jB(R:RH X.K m H h)(q:H p=af)(r:RDs X.K m H vs ds)(B:Post X.prog X.w X.K m H (.p (.aD ds)) h Q):Q (.ref p) (upd H p (.aD vs)) :=
 B _ _ m (gB q) (R.new q) (.p (.aD (.inl ⟨.inl dM,R.iN q⟩) (r.ext (gB q))))
def tV(R:RH X.K m H h)(q:H p=af)(r:RDs X.K m H vs ds)(B:Post X.prog X.w X.K m H (.r h.length) (h++[.l ds]) Q):Q (.ref p) (upd H p (.aD vs)) :=
 B _ _ (m++[p]) (j7 q) (R.SM q r) (.r (by rw[←R.len];simp))
def tW(R:RH X.K m H h)(B:H p=af)(r:RDs X.K m H vs ds)(q:Post X.prog X.w X.K m H (BT.new mu ds h).1 (BT.new mu ds h).2 Q):Q (.ref p) (upd H p (.aD vs)):=by
 cases mu with
 |false=>exact jB R B r q|true=>exact tV R B r q
def Post.here(R:RH X.K m H h)(q:Post X.prog X.w X.K m H (.p d) h Q)(r:RD X.K m H v d):Q v H:=q v H m (.refl _ _) R (.p r)
def tX(B:PyData.strOk x=ah)(q:PyData.strOk y=ah):PyData.strOk (x++y)=ah:=by show(x.cps++y.cps).all _=ah;rw[Array.all_append];simp only[PyData.strOk]at B q;rw[B,q];rfl
def KJ:OpR X (Wo .Add) (rOp X.prog X.w X.K (BT.tL .add)):=by
 intro f s Z H v u E F Q I O U h;obtain⟨m,h,x,y,z,G,R,k,j,e,D⟩:=h;obtain⟨d,C,q,e1,e2,B,rfl,rfl⟩:=mw e;have M:=d8 R k e1;have L:=d8 R j e2;cases d<;>cases C<;>first|exact c5 B|simp only[BT.vg,BT.pK,BT.pL,BT.pM,BT.pN,BT.vh,BT.pO,BT.pP,BT.pQ,BT.m6]at B
 ·cases B;cases M.int;cases L.int;exact JJ f s Z H _ _ _ _ Q I O U ⟨_,_,rfl,rfl,D.here R (.int _)⟩
 ·obtain⟨c,B⟩:=dH B;cases B;obtain⟨ev,l⟩:=M.str;obtain⟨A,n⟩:=L.str;subst ev;subst A;have:=fL;exact wN f s Z H _ _ _ _ Q I O U ⟨_,_,rfl,rfl,by lia,D.here R (.str _ (tX l n))⟩
 ·obtain⟨c,B⟩:=dH B;cases B;obtain⟨a,g,rfl,Y,ra⟩:=M.aE;obtain⟨b,i,rfl,W,J⟩:=L.aE;cases O;cases U;have t:=ra.length;have o:=J.length;have:=fL;refine As I Y W (by lia) (λz=>?_) (λz=>?_) λp V=>mz R V (ra.append J) D
  ·subst z;cases ra;cases L with|d r=>exact D.here R r
  ·subst z;cases J;rw[Vn]at D;cases M with|d r=>exact D.here R r
 ·obtain⟨c,B⟩:=dH B;cases B;obtain⟨a,g,rfl,Y,ra⟩:=M.aD;obtain⟨b,i,rfl,W,J⟩:=L.aD;cases O;cases U;have t:=ra.length;have o:=J.length;have:=fL;exact C2 I Y W (by lia) λp V=>jB R V (ra.append J) D
noncomputable def SN:bD->Bool
 |.add=>ai|.mul=>ai|_=>ah
def tY{o:bD}{d d' z:aQ}(q:SN o=ah)(e:BT.mZ o d d'=aa z):∃i j,d=.int i/\d'=.int j:=by cases o<;>first|exact aU q|(cases d<;>first|exact c5 e|(cases d'<;>first|exact c5 e|exact⟨_,_,rfl,rfl⟩))
def KM:OpR X (Wo .Sub) (rOp X.prog X.w X.K (BT.tL .sub)):=by intro J s D H v u W Y Q I U V h;obtain⟨m,h,x,y,z,Z,R,O,M,e,L⟩:=h;obtain⟨d,a,q,e1,e2,B,rfl,rfl⟩:=mw e;obtain⟨i,j,rfl,rfl⟩:=tY rfl B;rw[BT.pN]at B;cases B;cases (d8 R O e1).int;cases (d8 R M e2).int;exact JK J s D H _ _ _ _ Q I U V ⟨_,_,rfl,rfl,L.here R (.int _)⟩
def KN:OpR X (Wo .Mod) (rOp X.prog X.w X.K (BT.tL .mod)):=by intro J s D H v u W Y Q I U V h;obtain⟨m,h,x,y,z,Z,R,O,M,e,L⟩:=h;obtain⟨d,a,q,e1,e2,B,rfl,rfl⟩:=mw e;obtain⟨i,j,rfl,rfl⟩:=tY rfl B;rw[BT.pQ]at B;obtain⟨c,B⟩:=dH B;cases B;cases (d8 R O e1).int;cases (d8 R M e2).int;exact JM J s D H _ _ _ _ Q I U V ⟨_,_,rfl,rfl,c,L.here R (.int _)⟩
def Gq:OpR X (Wo .FloorDiv) (rOp X.prog X.w X.K (BT.tL .fdiv)):=by intro J s D H v u W Y Q I U V h;obtain⟨m,h,x,y,z,Z,R,O,M,e,L⟩:=h;obtain⟨d,a,q,e1,e2,B,rfl,rfl⟩:=mw e;obtain⟨i,j,rfl,rfl⟩:=tY rfl B;rw[BT.m6]at B;obtain⟨c,B⟩:=dH B;simp only[UQ,bP]at c;cases B;cases (d8 R O e1).int;cases (d8 R M e2).int;exact Fq J s D H _ _ _ _ Q I U V ⟨_,_,rfl,rfl,⟨c.1,c.2⟩,L.here R (.int _)⟩
def tZ(h:BT.big i=ah):-(2^64)<i/\i<2^64:=by unfold BT.big at h;have:=bS h;lia
def Au(I:Inv X zt σ H s)(h:SqT X.K H a xs)(h1:2<=k)(h2:k<=1000)(J:xs≠[])(hz:xs.length*k.toNat<=aj)
(q:∀p,H p=af->Q (.ref p) (upd H p (.aE (Vc k.toNat xs).flatten))):ay (Vb X.prog X.w) X.A (Wo .Mult (.ref a) (.int k t)) (EP X zt σ Q) X.xe s:=by
 obtain⟨B,r,p,_⟩:=I.tuple h;obtain⟨⟨j,dd,V,L⟩,e,O,n,M⟩:=id p;simp only at O M;subst O M;have d:=r.length;have D:B.toArray.size*k.toNat<=aj:=by rw[US,←d];exact hz
 have i:ZS (λZ Y=>Z++Y) #[] (Vc k.toNat B.toArray)=(Vc k.toNat B).flatten.toArray:=by have:=foldl_rep B k.toNat [];rw[W7]at this;exact this
 have f:¬B.toArray.isEmpty=ah:=by
  intro z;have W:B=[]:=by simpa using z
  exact J (r.lW.mp W)
 refine aal (T:="tuple") (U:="int") (by decide) ⟨_,e,rfl⟩ (λc=>typeIs_int c k t) ni F.fills_int_mul F.slot_int_rmul tU F.slot_int_index.lookup
  (Xc F.slot_int_rmul (typeIs_int s k t) F.entry_int_rmul (F.args_int_rmul_2 _ _) (pY k t a B.toArray n dd L)
   ⟨e,rfl,⟨_,e,rfl⟩,Xc F.slot_tuple_mul ⟨_,e,rfl⟩ F.entry_tuple_mul (F.args_tuple_mul_2 _ _) (xC a B.toArray n dd L k t (by lia) h2 f (by lia) (by lia) D) ⟨e,?_⟩⟩)
 rw[i];have g:H s.heap.objs.size=af:=I.aL.fresh (UT _);refine⟨.ref s.heap.objs.size,_,I.laid (t':=s.toks) (o:=.aE (Vc k.toNat xs).flatten) (λb ob q=>UO _ q) (UT _) ?_,rfl,q _ g⟩;exact⟨by rw[len_rep,W4];exact hz,_,r.rep k.toNat,IsTup.new _ _⟩
def C3(I:Inv X zt σ H s)(c:LL X.K H l xs)(h1:-(2^63)<=k)(h2:k<=1000)(hz:xs.length*k.toNat<=aj)
(q:∀p,H p=af->Q (.ref p) (upd H p (.aD (Vc k.toNat xs).flatten))):ay (Vb X.prog X.w) X.A (Wo .Mult (.ref l) (.int k t)) (EP X zt σ Q) X.xe s:=by
 have Y:k<2^63:=by lia
 obtain⟨z,B,n,r,b,e⟩:=rdL I c;have L:B.toArray.size*k.toNat<=aj:=by rw[US,←b];exact hz
 have O:¬B.toArray.size*k.toNat>(2^63-1)/8:=by
  have:(aj:Nat)<=(2^63-1)/8:=by decide
  lia
 have M:¬(!Builtin.List.listFitsIndex k)=ah:=by rw[fitsIndex_both h1 Y];exact Vz
 have D:¬VZ (B.toArray.size*k.toNat)=ah:=by rw[pB L];exact Vz
 have J:ZS (λW V=>W++V) #[] (Vc (if B.toArray.isEmpty=ah then 0 else k.toNat) B.toArray)=(Vc k.toNat B).flatten.toArray:=by
  have d:∀m:Nat,ZS (λW V=>W++V) #[] (Vc m B.toArray)=(Vc m B).flatten.toArray:=λm=>by have:=foldl_rep B m [];rw[W7]at this;exact this
  rw[d];cases B with
  |nil=>simp|cons a f=>rw[bN (by simp)]
 refine aal (T:="list") (U:="int") (by decide) ⟨_,e,rfl⟩ (λZ=>typeIs_int Z k t) noFill_list_mul F.fills_int_mul F.slot_int_rmul repeat_list F.slot_int_index.lookup
  (Xc F.slot_int_rmul (typeIs_int s k t) F.entry_int_rmul (F.args_int_rmul_2 _ _) (int___rmul___int_list k t l B.toArray n)
   ⟨e,rfl,⟨_,e,rfl⟩,Xc F.slot_list_mul ⟨_,e,rfl⟩ F.entry_list_mul (F.args_list_mul_2 _ _) (AutoListH.list___mul___list_int_3 l B.toArray n k t M O D) ⟨e,?_⟩⟩)
 rw[J];exact⟨.ref _,_,I.NZ (t':=s.toks) (r.rep k.toNat) (by rw[len_rep,W4];exact hz),rfl,q _ I.fresh⟩
def KO:OpR X (Wo .Mult) (rOp X.prog X.w X.K (BT.tL .mul)):=by
 intro Z s Y H v u j k Q I J L h;obtain⟨m,h,x,y,z,l,R,g,f,e,D⟩:=h;obtain⟨d,i,q,e1,e2,B,rfl,rfl⟩:=mw e;have O:=d8 R g e1;have M:=d8 R f e2;cases d<;>cases i<;>first|exact c5 B|simp only[BT.vg,BT.pK,BT.pL,BT.pM,BT.pN,BT.vh,BT.pO,BT.pP,BT.pQ,BT.m6]at B
 ·obtain⟨c,B⟩:=dH B;cases B;cases O.int;cases M.int;refine JL Z s Y H _ _ _ _ Q I J L ⟨_,_,rfl,rfl,?_,D.here R (.int _)⟩;rcases WL _ _ ▸ c with c|c
  exact .inl (tZ c);exact .inr (tZ c)
 ·obtain⟨c,B⟩:=dH B;simp only[UQ,bP]at c;cases B;obtain⟨a,b,rfl,W,ra⟩:=O.aE;cases M.int;obtain⟨t,rfl⟩:=L;cases J;have U:=ra.length;have:=fL;simp only[Xg,List.isEmpty_eq_false_iff]at c;refine Au I W (by lia) (by lia) (λz=>?_) (by rw[U];lia) λp V=>mz R V (ra.rep _) D;subst z;cases ra;exact c.1.2 rfl
 ·obtain⟨c,B⟩:=dH B;simp only[UQ,bP]at c;cases B;obtain⟨a,b,rfl,W,ra⟩:=O.aD;cases M.int;obtain⟨t,rfl⟩:=L;cases J;have U:=ra.length;have:=fL;refine C3 I W (by lia) (by lia) (by rw[U];lia) λp V=>jB R V (ra.rep _) D
end
mutual
noncomputable def pd:aQ->PyData
 |.aF=>.none|.bl b=>.bool b|.int i=>.int i|.str x=>.str x|.aE q=>.tuple (pds q)|.aD q=>.list (pds q)
noncomputable def pds:List aQ->List PyData
 |[]=>[]|x::r=>pd x::pds r
end
mutual
theorem pZ:∀x y:aQ,PyData.eqv (pd x) (pd y)=aV x y
 |.aF,.aF=>rfl|.aF,.bl _=>rfl|.aF,.int _=>rfl|.aF,.str _=>rfl
 |.aF,.aE _=>by simp[pd,PyData.eqv,aV]
 |.aF,.aD _=>by simp[pd,PyData.eqv,aV]
 |.bl _,.aF=>rfl|.bl _,.bl _=>rfl|.bl _,.int _=>rfl|.bl _,.str _=>rfl
 |.bl _,.aE _=>by simp[pd,PyData.eqv,aV]
 |.bl _,.aD _=>by simp[pd,PyData.eqv,aV]
 |.int _,.aF=>rfl|.int _,.bl _=>rfl|.int _,.int _=>rfl|.int _,.str _=>rfl
 |.int _,.aE _=>by simp[pd,PyData.eqv,aV]
 |.int _,.aD _=>by simp[pd,PyData.eqv,aV]
 |.str _,.aF=>rfl|.str _,.bl _=>rfl|.str _,.int _=>rfl|.str _,.str _=>rfl
 |.str _,.aE _=>by simp[pd,PyData.eqv,aV]
 |.str _,.aD _=>by simp[pd,PyData.eqv,aV]
 |.aE _,.aF=>by simp[pd,PyData.eqv,aV]
 |.aE _,.bl _=>by simp[pd,PyData.eqv,aV]
 |.aE _,.int _=>by simp[pd,PyData.eqv,aV]
 |.aE _,.str _=>by simp[pd,PyData.eqv,aV]
 |.aE xs,.aE ys=>by simp only[pd,PyData.eqv,aV];exact ua xs ys
 |.aE _,.aD _=>by simp[pd,PyData.eqv,aV]
 |.aD _,.aF=>by simp[pd,PyData.eqv,aV]
 |.aD _,.bl _=>by simp[pd,PyData.eqv,aV]
 |.aD _,.int _=>by simp[pd,PyData.eqv,aV]
 |.aD _,.str _=>by simp[pd,PyData.eqv,aV]
 |.aD _,.aE _=>by simp[pd,PyData.eqv,aV]
 |.aD xs,.aD ys=>by simp only[pd,PyData.eqv,aV];exact ua xs ys
theorem ua:∀xs ys:List aQ,PyData.eqvAll (pds xs) (pds ys)=BT.qV xs ys
 |[],[]=>by simp[pds,PyData.eqvAll,BT.qV]
 |[],_::_=>by simp[pds,PyData.eqvAll,BT.qV]
 |_::_,[]=>by simp[pds,PyData.eqvAll,BT.qV]
 |x::xs,y::ys=>by simp only[pds,PyData.eqvAll,BT.qV];rw[pZ x y,ua xs ys]
end
theorem j8:∀{xs:List aQ},(∀x∈xs,(pd x).depth<=n)->PyData.depthAll (pds xs)<=n
 |[],_=>by simp[pds,PyData.depthAll]
 |x::xs,h=>by simp only[pds,PyData.depthAll];exact Nat.max_le.mpr ⟨h x UY,j8 λy q=>h y (UV _ q)⟩
theorem kO:∀(n:Nat)(d:aQ),BT.dok n d=ah->(pd d).depth<=n
 |n,.aF,_=>by simp[pd,PyData.depth]
 |n,.bl _,_=>by simp[pd,PyData.depth]
 |n,.int _,_=>by simp[pd,PyData.depth]
 |n,.str _,_=>by simp[pd,PyData.depth]
 |0,.aE _,h=>by simp[BT.dok]at h
 |0,.aD _,h=>by simp[BT.dok]at h
 |n+1,.aE xs,h=>by simp only[pd,PyData.depth];rw[BT.yy,Wi]at h;exact Zf (j8 λx q=>kO n x (h x q))
 |n+1,.aD xs,h=>by simp only[pd,PyData.depth];rw[BT.yz,Wi]at h;exact Zf (j8 λx q=>kO n x (h x q))
section
variable{K:UM}
mutual
theorem iI:∀{v:V}{d:aQ},RD K m H v d->(pd d).canLay0=ah
 |_,_,.aF=>rfl|_,_,.bl _=>rfl|_,_,.int _=>rfl
 |_,_,.str _ h=>by simpa [pd,PyData.canLay0]using h
 |_,_,.aE _ r=>by simp only[pd,PyData.canLay0];exact jC r
 |_,_,.aD _ r=>by simp only[pd,PyData.canLay0];exact jC r
theorem jC:∀{vs:List V}{ds:List aQ},RDs K m H vs ds->PyData.canLayAll0 (pds ds)=ah
 |_,_,.nil=>by simp[pds,PyData.canLayAll0]
 |_,_,.cons r t=>by simp only[pds,PyData.canLayAll0];rw[iI r,jC t];rfl
end
mutual
theorem j9(I:Inv X zt σ H s):∀{v:V}{d:aQ}{u:aC},RD X.K m H v d->RelV v u->∃as,Reads s.heap u (pd d) as
 |_,_,_,.aF,r=>by cases r;exact⟨_,.none⟩
 |_,_,_,.bl b,r=>by cases r;exact⟨_,.bool b⟩
 |_,_,_,.int i,r=>by obtain⟨t,rfl⟩:=r;exact⟨_,.int i t⟩
 |_,_,_,.str x _,r=>by obtain⟨t,rfl⟩:=r;exact⟨_,.str x t⟩
 |_,_,_,.aE h r,q=>by cases q;obtain⟨B,D,⟨o,e1,e2,n,J⟩,_⟩:=I.tuple (h.elim (λq=>.inl q.1) (λ⟨o,B,n,q,_⟩=>.inr ⟨o,B,n,q⟩));obtain⟨as,ra⟩:=kP I r D;exact⟨_,.tuple e1 e2 J (by simpa using ra)⟩
 |_,_,_,.aD h r,q=>by cases q;obtain⟨z,B,n,D,_,e⟩:=rdL I (h.elim (λq=>.inl q.1) .inr);obtain⟨as,ra⟩:=kP I r D;exact⟨_,.list e rfl rfl (by simpa using ra)⟩
theorem kP(I:Inv X zt σ H s):∀{vs:List V}{ds:List aQ}{us:List aC},RDs X.K m H vs ds->dF vs us->∃as,ReadsAll s.heap us (pds ds) as
 |_,_,_,.nil,q=>by cases q;exact⟨_,.nil⟩
 |_,_,_,.cons r t,q=>by
  cases q with
  |cons J D =>
   obtain⟨as,ra⟩:=j9 I r J;obtain⟨bs,B⟩:=kP I t D;exact⟨_,.cons ra B⟩
end
def kg(I:Inv X zt σ H s)(r:RR X.K m H v d)(q:RelV v u):∃as,Reads s.heap u (pd d) as:=by
 cases r with
 |d r=>exact j9 I r q
 |l h r =>
  cases q;obtain⟨z,D,n,B,_,e⟩:=rdL I (.inl (.inl h));obtain⟨as,ra⟩:=kP I r B;exact⟨_,.list e rfl rfl (by simpa using ra)⟩
def jm(r:RR K m H v d):(pd d).canLay0=ah:=by
 cases r with
 |d r=>exact iI r|l h r=>simp only[pd,PyData.canLay0];exact jC r
def uc(h:BT.eB x y=ah):min (pd x).depth (pd y).depth<=100:=by
 unfold BT.eB at h;rcases WL _ _ ▸ h with h|h
 have:=kO 100 x h;lia;have:=kO 100 y h;lia
def jD(e:bL o x y h=aa (z,h')):
 (∃kvs b,y=.k kvs/\BT.inK o x kvs=aa b/\z=.p (.bl b)/\h'=h)\/∃d d' b,bq x h=aa d/\bq y h=aa d'/\BT.gI o d d'=aa b/\z=.p (.bl b)/\h'=h:=by
 unfold bL at e;split at e
 ·rename_i kvs;obtain⟨b,e1,e2⟩:=dG e;cases e2;exact .inl ⟨kvs,b,rfl,e1,rfl,rfl⟩
 ·refine .inr ?_;cases e1:bq x h with
  |none=>rw[e1]at e;exact c5 e
  |some d =>
   cases e2:bq y h with
   |none=>rw[e1,e2]at e;exact c5 e
   |some d' =>
    rw[e1,e2]at e;obtain⟨q,eq,B⟩:=dG e;cases B;exact⟨d,d',q,rfl,rfl,eq,rfl,rfl⟩
def OV(g:X.A.units+150<cLine):OpR X (VM .Eq) (rOp X.prog X.w X.K (bL .eq)):=by
 intro Z s Y H v u a f Q I O U h;obtain⟨m,h,x,y,z,i,R,M,L,e,J⟩:=h;rcases jD e with⟨W,b,rfl,e1,_,_⟩|⟨d,d',b,e1,e2,q,rfl,rfl⟩
 exact bO e1 (BT.pS rfl)
 ·have D:=d8 R M e1;have B:=d8 R L e2;rw[BT.tK]at q;obtain⟨c,q⟩:=dH q;cases q;obtain⟨j,ra⟩:=kg I D O;obtain⟨bs,V⟩:=kg I B U;have:=uc c;refine SeqAt.compareEq_reads ra V (jm D) (jm B) (by lia) ?_;rw[pZ];exact⟨.bl _,H,I,rfl,J.here R (.bl _)⟩
def OW(g:X.A.units+150<cLine):OpR X (VM .NotEq) (rOp X.prog X.w X.K (bL .ne)):=by
 intro Z s Y H v u a f Q I O U h;obtain⟨m,h,x,y,z,i,R,M,L,e,J⟩:=h;rcases jD e with⟨W,b,rfl,e1,_,_⟩|⟨d,d',b,e1,e2,q,rfl,rfl⟩
 exact bO e1 (BT.pS rfl)
 ·have D:=d8 R M e1;have B:=d8 R L e2;rw[BT.kL]at q;obtain⟨c,q⟩:=dH q;cases q;obtain⟨j,ra⟩:=kg I D O;obtain⟨bs,V⟩:=kg I B U;have:=uc c;refine SeqAt.compareNe_reads ra V (jm D) (jm B) (by lia) ?_;rw[pZ];exact⟨.bl _,H,I,rfl,J.here R (.bl _)⟩
noncomputable def OX:BT.Cm->Bool
 |.lt=>ah|.le=>ah|.gt=>ah|.ge=>ah|_=>ai
def Gs{o:BT.Cm}{d d':aQ}{b:Bool}(q:OX o=ah)(e:BT.gI o d d'=aa b):∃i j,d=.int i/\d'=.int j:=by cases o<;>first|exact aU q|(cases d<;>first|exact c5 e|(cases d'<;>first|exact c5 e|exact⟨_,_,rfl,rfl⟩))
def ud{o:BT.Cm}{c:CmpOp}{f:Int->Int->Bool}(U:OpR X (VM c) (rI0 λi j=>.bl (f i j)))(W:OX o=ah)(Y:BT.memC o=ai)(Z:∀i j,BT.gI o (.int i) (.int j)=aa (f i j)):OpR X (VM c) (rOp X.prog X.w X.K (bL o)):=by
 intro B s q H v u a g Q I M O h;obtain⟨m,h,x,y,z,k,R,L,J,e,D⟩:=h;rcases jD e with⟨V,b,rfl,e1,_,_⟩|⟨d,d',b,e1,e2,e3,rfl,rfl⟩
 exact bO e1 (BT.pS Y)
 ·obtain⟨i,j,rfl,rfl⟩:=Gs W e3;rw[Z]at e3;cases e3;cases (d8 R L e1).int;cases (d8 R J e2).int;exact U B s q H _ _ _ _ Q I M O ⟨_,_,rfl,rfl,D.here R (.bl _)⟩
def yN(r:RR K m H v d):decide (v=.aF)=BT.jT d:=by
 cases r with
 |d r=>cases r<;>rfl|l h r=>rfl
def Gu{v:V}{d:aQ}{u:aC}{b:Bool}(r:RR K m H v d)(q:RelV v u):isSame u (.bool b)=pure (BT.tG b d):=by
 cases r with
 |d r=>cases r<;>first|(cases q;cases b<;>first|rfl|(rename_i c;cases c<;>rfl))|(obtain⟨t,rfl⟩:=q;cases b<;>rfl)
 |l h r=>cases q;rfl
def KP:OpR X (VM .Is) (rOp X.prog X.w X.K (bL .isN)):=by
 intro B s q H v u Y Z Q I M O h;obtain⟨m,h,x,y,z,a,R,L,J,e,D⟩:=h;rcases jD e with⟨W,b,rfl,e1,_,_⟩|⟨d,d',b,e1,e2,e3,rfl,rfl⟩
 exact bO e1 (BT.pS rfl)
 ·have V:=d8 R L e1;have U:=d8 R J e2;cases d'<;>first|exact c5 e3|simp only[BT.oF,BT.oG,BT.oH,BT.oJ,BT.mq,BT.kM,BT.iL,BT.gK,BT.iZ,BT.i6]at e3
  cases e3;cases U.aF;refine JN B s q H _ _ _ _ Q I M O ⟨rfl,?_⟩;rw[yN V];exact D.here R (.bl _)
def Gv:OpR X (VM .IsNot) (rOp X.prog X.w X.K (bL .notN)):=by
 intro O s M H v u Y Z Q I B D h;obtain⟨m,h,x,y,z,a,R,V,U,e,q⟩:=h;rcases jD e with⟨W,b,rfl,e1,_,_⟩|⟨d,d',b,e1,e2,e3,rfl,rfl⟩
 exact bO e1 (BT.pS rfl)
 ·have L:=d8 R V e1;have J:=d8 R U e2;cases d'<;>first|exact c5 e3|simp only[BT.oF,BT.oG,BT.oH,BT.oJ,BT.mq,BT.kM,BT.Aj,BT.iL,BT.gK,BT.iZ,BT.i6]at e3
  ·cases e3;cases J.aF;refine Ft O s M H _ _ _ _ Q I B D ⟨rfl,?_⟩;rw[yN L];exact q.here R (.bl _)
  ·cases e3;cases J.bl;cases D;exact UN (wpAny_of_eq (Gu L B) (av ⟨.bl _,H,I,rfl,q.here R (.bl _)⟩))
open Classical in
def fQ(h:au)(dx:PyData)(y:aC):Bool:=if q:∃B D,Reads h y B D/\B.canLay0=ah then PyData.eqv (Classical.choose q) dx else ai
def xD(r:Reads h y B as)(c:B.canLay0=ah):fQ h dx y=PyData.eqv B dx:=by have q:∃B as,Reads h y B as/\B.canLay0=ah:=⟨B,as,r,c⟩;unfold fQ;rw[dif_pos q];obtain⟨J,D,L⟩:=Classical.choose_spec q;rw[SeqAt.Reads.unique _ _ _ _ _ c r D]
theorem mC(I:Inv X zt σ H s):∀{vs:List V}{ds:List aQ}{us:List aC},RDs X.K m H vs ds->dF vs us->us.any (fQ s.heap (pd d))=ds.any λy=>aV y d
 |_,_,_,.nil,q=>by cases q;rfl
 |_,_,_,.cons r t,q=>by
  cases q with
  |cons D B =>
   obtain⟨J,ra⟩:=j9 I r D;rw[Xs,Xs,mC I t B,xD ra (iI r),pZ]
theorem jE(U:X.A.units+150<cLine)(I:Inv X zt σ H s)(D:RR X.K m H v d)(J:RelV v u):∀{vs:List V}{ds:List aQ}{us:List aC},RDs X.K m H vs ds->dF vs us->(ds.all λy=>BT.eB y d)=ah →
 ∀y∈us,SeqAt.EqAt X.A.in1 s y u (fQ s.heap (pd d) y)
 |_,_,_,.nil,q,_=>by cases q;intro y B;simp at B
 |_,_,_,.cons r t,q,c=>by
  cases q with
  |cons O M =>
   rw[ZY,UQ]at c;intro y B;rcases List.mem_cons.mp B with rfl|B
   ·obtain⟨W,ra⟩:=j9 I r O;obtain⟨bs,L⟩:=kg I D J;rw[xD ra (iI r)];have:=uc c.1;refine SeqAt.eqAt_reads _ _ _ _ _ _ _ _ ra L (iI r) (jm D) ?_;show X.A.units+1+_<_;lia
   exact jE U I D J t M c.2 y B
def KQ(l:X.A.units+150 < cLine)(p:∀ {kvs:BT.Kd}{x:aP}{b:Bool}{m:List aB}{H:Hp}{v u:V}{L M:aC}{zt σ s Q},Inv X zt σ H s->RelV v L->RelV u M->RW X.prog X.w X.K m H v x->RW X.prog X.w X.K m H u (.k kvs)->BT.inK .mem x kvs=aa b->Q (V.bl b) H →
 ay (Vb X.prog X.w) X.A (VM .In L M) (EP X zt σ Q) X.xe s):OpR X (VM .In) (rOp X.prog X.w X.K (bL .mem)):=by
 intro zt s σ H v u L M Q I O U h;obtain⟨m,h,x,y,z,r,R,g,f,e,J⟩:=h;rcases jD e with⟨kvs,b,rfl,e1,rfl,rfl⟩|⟨d,d',b,e1,e2,B,rfl,rfl⟩
 exact p I O U g f e1 (J.here R (.bl _))
 ·have j:=d8 R g e1;have i:=d8 R f e2;cases d'<;>first|exact c5 B|simp only[BT.oF,BT.oG,BT.oH,BT.oJ,BT.mq,BT.kM,BT.iL,BT.gK,BT.iZ,BT.i6]at B
  ·obtain⟨c,B⟩:=dH B;cases B;obtain⟨a,o,rfl,Z,ra⟩:=i.aE;cases U;obtain⟨q,D,W,_⟩:=I.tuple Z;refine SeqAt.in_tupleAt (fQ s.heap (pd d)) W (λy Y=>jE l I j O ra D c y (by simpa using Y)) ⟨.bl _,H,I,rfl,?_⟩;rw[show q.toArray.any (fQ s.heap (pd d))=q.any (fQ s.heap (pd d)) by simp,mC I ra D];exact J.here R (.bl _)
  ·obtain⟨c,B⟩:=dH B;cases B;obtain⟨a,o,rfl,Z,ra⟩:=i.aD;cases U;obtain⟨z,q,n,D,_,W⟩:=rdL I Z;refine SeqAt.in_listAt (fQ s.heap (pd d)) ⟨_,W,rfl,_,rfl⟩ (λy Y=>jE l I j O ra D c y (by simpa using Y)) ⟨.bl _,H,I,rfl,?_⟩;rw[show q.toArray.any (fQ s.heap (pd d))=q.any (fQ s.heap (pd d)) by simp,mC I ra D];exact J.here R (.bl _)
def Gw(l:X.A.units+150 < cLine)(p:∀ {kvs:BT.Kd}{x:aP}{b:Bool}{m:List aB}{H:Hp}{v u:V}{L M:aC}{zt σ s Q},Inv X zt σ H s->RelV v L->RelV u M->RW X.prog X.w X.K m H v x->RW X.prog X.w X.K m H u (.k kvs)->BT.inK .nmem x kvs=aa b->Q (V.bl b) H →
 ay (Vb X.prog X.w) X.A (VM .NotIn L M) (EP X zt σ Q) X.xe s):OpR X (VM .NotIn) (rOp X.prog X.w X.K (bL .nmem)):=by
 intro zt s σ H v u L M Q I O U h;obtain⟨m,h,x,y,z,r,R,g,f,e,J⟩:=h;rcases jD e with⟨kvs,b,rfl,e1,rfl,rfl⟩|⟨d,d',b,e1,e2,B,rfl,rfl⟩
 exact p I O U g f e1 (J.here R (.bl _))
 ·have j:=d8 R g e1;have i:=d8 R f e2;cases d'<;>first|exact c5 B|simp only[BT.oF,BT.oG,BT.oH,BT.oJ,BT.mq,BT.kM,BT.iL,BT.gK,BT.iZ,BT.i6]at B
  ·obtain⟨c,B⟩:=dH B;cases B;obtain⟨a,o,rfl,Z,ra⟩:=i.aE;cases U;obtain⟨q,D,W,_⟩:=I.tuple Z;refine SeqAt.notIn_tupleAt (fQ s.heap (pd d)) W (λy Y=>jE l I j O ra D c y (by simpa using Y)) ⟨.bl _,H,I,rfl,?_⟩;rw[show q.toArray.any (fQ s.heap (pd d))=q.any (fQ s.heap (pd d)) by simp,mC I ra D];exact J.here R (.bl _)
  ·obtain⟨c,B⟩:=dH B;cases B;obtain⟨a,o,rfl,Z,ra⟩:=i.aD;cases U;obtain⟨z,q,n,D,_,W⟩:=rdL I Z;refine SeqAt.notIn_listAt (fQ s.heap (pd d)) ⟨_,W,rfl,_,rfl⟩ (λy Y=>jE l I j O ra D c y (by simpa using Y)) ⟨.bl _,H,I,rfl,?_⟩;rw[show q.toArray.any (fQ s.heap (pd d))=q.any (fQ s.heap (pd d)) by simp,mC I ra D];exact J.here R (.bl _)
end
section
variable{P:U4}{w:Vl}{K:UM}{m m':List aB}{H H':Hp}
def RKs.length(r:RKs K m H vs kvs):vs.length=kvs.length:=by
 induction r with
 |nil=>rfl|cons _ _ _ q=>simp[q]
def Av(e:p.1=k):BT.dY (p::r) k=aa p.2:=by simp[BT.dY,Xa,e]
def Aw(e:¬p.1=k):BT.dY (p::r) k=BT.dY r k:=by simp[BT.dY,Xa,e]
def RKs.get(r:RKs K m H vs kvs)(k:Key):(BT.dY kvs k=af/\uZ vs k=af)\/∃v d,BT.dY kvs k=aa d/\uZ vs k=aa v/\RD K m H v d:=by
 induction r with
 |nil=>exact .inl ⟨rfl,rfl⟩
 |@cons j v d vs kvs B r t q =>
  by_cases c:j=k
  exact .inr ⟨v,d,Av c,u0 c,r⟩;rw[Aw (p:=(j,d)) c,u5 (p:=(j,v)) c];exact q
def qa(r:RD K m H v d)(e:BT.jx d=aa k):v=kV k:=by cases r<;>cases e<;>rfl
def KR(r:RD K m H v d)(e:BT.jx d=aa k):RD K m H (kV k) (BT.Ah k):=by
 cases r with
 |int i=>cases e;exact .int i|str x h=>cases e;exact .str x h|_=>cases e
inductive C4(X:Cx)(m:List aB)(H:Hp)(s:UR)(a:aB)(kvs:List (bx×aQ))(k:Key):Prop
 |no(vs:List (Key×aC))(d:s.heap.DictOf (dI X.prog X.w) a vs)(n:(a==Wt)=ai)(e1:BT.dY kvs k=af)(e2:valueAt vs k=af):C4 X m H s a kvs k
 |is(vs:List (Key×aC))(d:s.heap.DictOf (dI X.prog X.w) a vs)(n:(a==Wt)=ai)(x:aQ)(v:V)(u:aC)(e1:BT.dY kvs k=aa x)(e2:valueAt vs k=aa u)(r:RelV v u)(q:RD X.K m H v x):C4 X m H s a kvs k
def ue(I:Inv X zt σ H s)(h:Rd H a (.dK ws))(O:RKs X.K m H ws kvs)(k:Key):C4 X m H s a kvs k:=by
 obtain⟨z,M,B,D,dd⟩:=BV I.aL h;have q:=D.val k;rcases O.get k with⟨L,J⟩|⟨v,d,L,J,g3⟩
 ·rw[J]at q;cases e:valueAt B k with
  |none=>exact .no B dd M L e|some u=>rw[e]at q;exact q.elim
 ·rw[J]at q;cases e:valueAt B k with
  |none=>rw[e]at q;exact q.elim|some u=>rw[e]at q;exact .is B dd M d v u L e q g3
end
section
variable{P:U4}{w:Vl}{K:UM}{m m':List aB}{H:Hp}
mutual
theorem RD.shrink(x:∀a∈m,a∈m'):∀{v:V}{d:aQ},RD K m' H v d->RD K m H v d
 |_,_,.aF=>.aF|_,_,.bl b=>.bl b|_,_,.int i=>.int i|_,_,.str y h=>.str y h|_,_,.aE h r=>.aE (h.elim (λq=>.inl ⟨q.1,λz=>q.2 (x _ z)⟩) .inr) (RDs.shrink x r)|_,_,.aD h r=>.aD (h.elim (λq=>.inl ⟨q.1,λz=>q.2 (x _ z)⟩) .inr) (RDs.shrink x r)
theorem RDs.shrink(x:∀a∈m,a∈m'):∀{vs:List V}{ds:List aQ},RDs K m' H vs ds->RDs K m H vs ds
 |_,_,.nil=>.nil|_,_,.cons r t=>.cons (RD.shrink x r) (RDs.shrink x t)
end
end
theorem RFs.shrink{K:UM}{m ex e2:List aB}{H H':Hp}(sub:∀a∈m++e2,a∈m++ex):∀{q vs:List (aA×V)}{fs:List (aA×aP)},RFs K m H q fs->RFs K (m++ex) H' vs fs->RFs K (m++e2) H' vs fs
 |_,_,_,.nil,.nil=>.nil
 |_,_,_,.cons r0 t0,.cons r t=>by
  refine .cons ?_ (RFs.shrink sub t0 t);have back:∀{n:Nat}{a b:aB},m[n]?=aa b->(m++ex)[n]?=aa a->(m++e2)[n]?=aa a:=λ{n a b} h1 h2=>by rw[UU (getD_some h1)]at h2⊢;exact h2
  cases r with
  |p r=>exact .p (r.shrink sub)
  |r h=>cases r0 with|r B=>exact .r (back B h)
  |o h=>cases r0 with|o B=>exact .o (back B h)
def RKs.shrink{K:UM}{m m':List aB}{H:Hp}(sub:∀a∈m,a∈m'){vs:List (Key×V)}{kvs:List (bx×aQ)}(r:RKs K m' H vs kvs):RKs K m H vs kvs:=by
 induction r with
 |nil=>exact .nil|cons B r t q=>exact .cons (B.shrink sub) (r.shrink sub) q
def RBs.shrink{m ex e2:List aB}{q:List V}{ns:List Nat}(J:RBs m q ns):∀{vs:List V},RBs (m++ex) vs ns->RBs (m++e2) vs ns:=by
 induction J with
 |nil=>intro vs r;cases r;exact .nil
 |cons h t L =>
  intro vs r;cases r with
  |cons B D =>
   rw[UU (getD_some h)]at B;exact .cons (by rw[UU (getD_some h)];exact B) (L D)
def RP.shrink{K:UM}{m m':List aB}{H:Hp}(sub:∀a∈m,a∈m'){v:V}{d:aQ}{kvs:List (bx×aQ)}(r:RP K m' H v d kvs):RP K m H v d kvs:=by
 cases r with
 |mk h r g t=>exact .mk ⟨h.1,λz=>h.2 (sub _ z)⟩ (r.shrink sub) ⟨g.1,λz=>g.2 (sub _ z)⟩ (t.shrink sub)
def RPs.shrink{K:UM}{m m':List aB}{H:Hp}(sub:∀a∈m,a∈m'){vs:List V}{ps:List bJ}(r:RPs K m' H vs ps):RPs K m H vs ps:=by
 induction r with
 |nil=>exact .nil|cons r t q=>exact .cons (r.shrink sub) q
def vC{m ex e2:List aB}{H H':Hp}{h g:aN}(R:RH K m H h)(f:RH K (m++ex) H' g)(e:g.take h.length=h)(s2:∀a∈e2,a∈ex){i:Nat}{a:aB}{xs:BT.Cl}(e1:m[i]?=aa a)(q:h[i]?=aa xs):jA K (m++e2) H' a xs:=by
 have sub:∀a∈m++e2,a∈m++ex:=λa W=>(List.mem_append.mp W).elim (VG _) λz=>Vf _ (s2 a z);have U:i<m.length:=getD_some e1;have O:i<h.length:=by rw[←R.len];exact U
 have Y:g[i]?=aa xs:=by rw[←e,W3 O]at q;exact q
 have z:=f.cl i a xs (by rw[UU U];exact e1) Y;cases xs with
 |o c fs =>
  obtain⟨k,Z,L,_,_,M⟩:=R.cl i a _ e1 q;obtain⟨C,d,B,J,D,V⟩:=z;exact⟨C,d,B,J,D,M.shrink sub V⟩
 |z=>exact z
 |b j =>
  obtain⟨L,_,M⟩:=R.cl i a _ e1 q;obtain⟨B,J,D⟩:=z;exact⟨B,J,M.shrink D⟩
 |_=>obtain⟨B,J,D⟩:=z;exact⟨B,J,D.shrink sub⟩
def C6{m ex:List aB}{H H':Hp}{h g:aN}(R:RH K m H h)(q:RH K (m++ex) H' g)(D:g.take h.length=h):RH K m H' h :=
 ⟨R.nd,R.len,λi a J e1 e2=>by have z:=vC (e2:=[]) R q D (λa B=>bO B (by simp)) e1 e2;rw[Vn]at z;exact z,q.tb⟩
def yO{m ex:List aB}{H H':Hp}{h g:aN}(R:RH K m H h)(J:RH K (m++ex) H' g){n:Nat}{a:aB}(hn:(m++ex)[n]?=aa a)(c:¬n<h.length):a∉m:=λz=>by
 obtain⟨j,B⟩:=Wp z;have q:=getD_some B;have D:(m++ex)[j]?=aa a:=by rw[UU q];exact B
 have:=rT J.nd D hn;rw[R.len]at q;lia
def Ax{P:U4}{w:Vl}{m m':List aB}{H H':Hp}{h g h':aN}{y z:aP}{v:V}(e:BT.Cw h y g=aa (z,h'))(R:RH K m H h)(x:Ext m H m' H')(B:RH K m' H' g)(r:RW P w K m' H' v y):
 Ext m H m H'/\RH K m H' h'/\RW P w K m H' v z:=by
 unfold BT.Cw at e;cases y with
 |r n =>
  simp only at e;split at e
  case isFalse=>exact c5 e
  rename_i c;obtain⟨O,M⟩:=c;obtain⟨q,e1,e2⟩:=dG e;cases e2;obtain⟨ex,rfl,U⟩:=x.pre;cases r with
  |@r a _ hn =>
   obtain⟨ws,L,D⟩:=B.pX n a q hn e1;exact⟨⟨⟨[],by simp,by simp⟩,x.keep,x.live,x.frz⟩,C6 R B M,.km ⟨.inl L,yO R B hn (by rw[O];exact VR _)⟩ (D.shrink λa J=>VG _ J)⟩
 |_=>exact c5 e
def kQ{P:U4}{w:Vl}{m m':List aB}{H H':Hp}{h g h':aN}{y z:aP}{v:V}(e:BT.fin h y g=aa (z,h'))(R:RH K m H h)(x:Ext m H m' H')(D:RH K m' H' g)(r:RW P w K m' H' v y):
 ∃m2,Ext m H m2 H'/\RH K m2 H' h'/\RW P w K m2 H' v z:=by
 unfold BT.fin at e;split at e;cases e;exact⟨m',x,D,r⟩
 ·split at e
  ·rename_i G f;obtain⟨ex,rfl,k⟩:=x.pre;have sub:∀a∈m,a∈m++ex:=λa t=>VG _ t;have J:Ext m H m H':=⟨⟨[],by simp,by simp⟩,x.keep,x.live,x.frz⟩;have R2:RH K m H' h:=C6 R D f;cases r with
   |p r=>cases e;exact⟨m,J,R2,.p (r.shrink sub)⟩|kq r=>cases e;exact⟨m,J,R2,.kq (r.shrink sub)⟩|ks h r=>cases e;exact⟨m,J,R2,.ks ⟨h.1,λz=>h.2 (sub _ z)⟩ (r.shrink sub)⟩
   |@o a n hn =>
    simp only at e;split at e
    ·rename_i U;cases e;refine⟨m,J,R2,.o ?_⟩;rw[UU (by rw[R.len];exact U)]at hn;exact hn
    cases e;exact⟨m++ex,x,D,.o hn⟩
   |@r a n hn =>
    simp only at e;split at e
    ·rename_i U;cases e;refine⟨m,J,R2,.r ?_⟩;rw[UU (by rw[R.len];exact U)]at hn;exact hn
    ·rename_i U;have out:=yO R D hn U;cases gc:g[n]? with
     |none=>rw[gc]at e;exact c5 e
     |some c =>
      rw[gc]at e;have z:=D.cl n a c hn gc;cases c with
      |l E=>obtain⟨W,O,M⟩:=z;cases e;exact⟨m,J,R2,.p (.aD (.inl ⟨.inl O,out⟩) (M.shrink sub))⟩|s F=>obtain⟨W,O,M⟩:=z;cases e;exact⟨m,J,R2,.ks ⟨.inl O,out⟩ (M.shrink sub)⟩
      |d j =>
       obtain⟨W,O,M⟩:=z;cases e;have A:a∈ex:=by
        rcases List.mem_append.mp (UZ hn)with q|q
        exact bO q out;exact q
       have Y:∀b∈[a],b∈ex:=λb B=>by simp at B;subst B;exact A
       have L:∀b∈m++[a],b∈m++ex:=λb B=>(List.mem_append.mp B).elim (VG _) λz=>Vf _ (Y b z);refine⟨m++[a],⟨⟨[a],rfl,λb B=>k b (Y b B)⟩,x.keep,x.live,x.frz⟩,⟨List.nodup_append.mpr ⟨R.nd,by simp,λb B d Z=>by simp at Z;subst Z;exact λe=>out (e ▸ B)⟩,by simp[R.len],λi b C e1 e2=>?_,D.tb⟩,.r (by rw[←R.len];simp)⟩
       by_cases c:i<m.length
       ·rw[UU c]at e1;rw[UU (by rw[←R.len];exact c)]at e2;exact vC R D f Y e1 e2
       ·have u:i=m.length:=by have:=getD_some e1;simp at this;lia
        subst u;simp at e1;rw[R.len]at e2;simp at e2;subst e1 e2;exact⟨W,O,M.shrink L⟩
      |_=>exact c5 e
   |_=>exact c5 e
  cases e;exact⟨m',x,D,r⟩
section
variable{prog:U4}{w:Vl}{A:VU}{E:aC->UR->Prop}{s:UR}
def Ay{Q:Int->UR->Prop}(h:Q 4238894112 {s with toks:=s.toks+1}):ay (Vb prog w) A (pyHash .none) Q E s:=by show ay _ _ (pyHashByItsType .none) _ _ _;refine PySem.W.pyHash_slot (T:="NoneType") (typeIs_none s) PySem.F.slot_NoneType_hash PySem.F.entry_NoneType_hash (PySem.F.args_NoneType_hash_1 _) (by decide) (.inl rfl) ?_;show ay _ _ (slotArgs "__hash__" 0 ⟨[Xd],[]⟩ >>= λ_=>retInt 4238894112) _ _ _;rw[slotArgs.eq_1];refine UN (av ?_);unfold retInt;refine UN (wpAny_mkInt ?_);exact av ⟨_,_,rfl,h⟩
end
def C7:Option Key->aC->Bool
 |none,.none=>ah|none,_=>ai|some k,v=>jS k v
def jF{v:aC}(h:C7 af v=ah):v=.none:=by cases v<;>first|rfl|(exfalso;exact Vz h)
def C8(a b:Key):decide (aa a=aa b)=decide (a=b):=by simp
def optKind(prog:U4)(w:Vl):PySem.KeyKind prog w (Option Key) where
 is:=C7
 hash:=λk=>match k with|none=>4238894112|some k=>Nn w k
 inj:=λv a b B q=>by
  cases a with
  |none =>
   cases jF B;cases b with
   |none=>rfl
   |some b=>rcases dN (show jS b .none=ah from q)with⟨i,t,rfl,e⟩|⟨x,t,rfl,e⟩<;>exact nomatch e
  |some a =>
   cases b with
   |none =>
    cases jF q;rcases dN (show jS a .none=ah from B)with⟨i,t,rfl,e⟩|⟨x,t,rfl,e⟩<;>exact nomatch e
   |some b=>rw[(dI prog w).inj v a b B q]
 byValue:=λk v h=>by
  cases k with
  |none=>cases jF h;rfl|some k=>exact(dI prog w).byValue k v h
 pyHash:=λ{A E s k v Q} hv h=>by
  cases k with
  |none=>cases jF hv;exact Ay h|some k=>exact(dI prog w).pyHash (k:=k) hv h
 eqBool:=λ{A E s a b u v Q} hu hv h=>by
  cases a with
  |none =>
   cases jF hu;cases b with
   |none=>cases jF hv;exact SeqAt.EqAt.same _ _ _ _ _ (by simpa using h)
   |some b =>
    have h:Q ai s:=by simpa using h
    rcases dN (show jS b v=ah from hv)with⟨i,t,rfl,rfl⟩|⟨x,t,rfl,rfl⟩
    exact SeqAt.EqAt.none_int i t _ _ _ _ h;exact SeqAt.EqAt.none_str x t _ _ _ _ h
  |some a =>
   cases b with
   |none =>
    cases jF hv;have h:Q ai s:=by simpa using h
    rcases dN (show jS a u=ah from hu)with⟨i,t,rfl,rfl⟩|⟨x,t,rfl,rfl⟩
    exact SeqAt.EqAt.int_none i t _ _ _ _ h;exact SeqAt.EqAt.str_none x t _ _ _ _ h
   |some b=>rw[C8]at h;exact(dI prog w).eqBool (a:=a) (b:=b) hu hv h
 «strs»:=λk x t v h=>by
  cases k with
  |none=>exact nomatch jF h
  |some k=>exact(dI prog w).strs k x t v h
def map_none{prog:U4}{w:Vl}{h:au}{a:aB}{vs:List (Key×aC)}(dd:h.DictOf (dI prog w) a vs):∃f,h.MapOf (optKind prog w) a f/\f af=af:=by
 obtain⟨o,D,W,O,M,U,L,_⟩:=dd;refine⟨λk=>findBy C7 D k,⟨o,D,W,O,M,U,λe J=>?_,λk=>rfl⟩,?_⟩
 ·obtain⟨k,B,V⟩:=L e J;exact⟨aa k,B,V⟩
 ·show(Array.find? (λe=>C7 af e.key) D).map (·.val)=af;have:Array.find? (λe=>C7 af e.key) D=af:=by rw[Array.find?_eq_none];intro e J q;obtain⟨k,B,_⟩:=L e J;rw[jF q]at B;rcases dN (show jS k .none=ah from B)with⟨i,t,rfl,e⟩|⟨x,t,rfl,e⟩<;>exact nomatch e
  rw[this];rfl
section
variable{X:Cx}
def RDs.atI{K:UM}{m:List aB}{H:Hp}{vs:List V}{ds:List aQ}{i:Int}{d:aQ}(r:RDs K m H vs ds)(e:BT.atP ds i=aa d):∃v,L2.atI vs i=aa v/\RD K m H v d:=by unfold BT.atP at e;unfold L2.atI;obtain⟨j,J,D⟩:=Option.bind_eq_some_iff.mp e;obtain⟨v,B,q⟩:=r.get D;refine⟨v,?_,q⟩;rw[r.length];show((BT.place ds.length i).bind λj=>vs[j]?)=aa v;rw[J];exact B
def Gx{x y:aP}{h:aN}{z:aP}{h':aN}(e:BT.F5 x y h=aa (z,h')):
 (∃kvs k d,x=.k (.t kvs)/\y=.p (.str k)/\BT.fG k kvs=aa d/\z=.p d/\h'=h)\/(∃kvs e k d,x=.k (.l kvs)/\y=.p e/\BT.jx e=aa k/\BT.dY kvs k=aa d/\z=.p d/\h'=h)\/∃d d' b,bq x h=aa d/\bq y h=aa d'/\BT.dP d d'=aa b/\z=.p b/\h'=h:=by
 unfold BT.F5 at e;split at e
 ·rename_i kvs;obtain⟨b,e1,e2⟩:=dG e;cases e2;cases kvs with
  |t kvs =>
   cases y with
   |p d =>
    cases d with
    |str x=>exact .inl ⟨kvs,_,b,rfl,rfl,e1,rfl,rfl⟩|_=>exact c5 e1
   |_=>exact c5 e1
  |l kvs =>
   cases y with
   |p d =>
    obtain⟨k,D,B⟩:=Option.bind_eq_some_iff.mp (show(BT.jx d).bind (BT.dY kvs)=aa b from e1);exact .inr (.inl ⟨kvs,d,k,b,rfl,rfl,D,B,rfl,rfl⟩)
   |_=>exact c5 e1
  |_=>exact c5 e1
 ·refine .inr (.inr ?_);cases e1:bq x h with
  |none=>rw[e1]at e;exact c5 e
  |some d =>
   cases e2:bq y h with
   |none=>rw[e1,e2]at e;exact c5 e
   |some d' =>
    rw[e1,e2]at e;obtain⟨q,eq,J⟩:=dG e;cases J;exact⟨d,d',q,rfl,rfl,eq,rfl,rfl⟩
theorem C9{K:UM}{k:aA}{d:aQ}:∀{es:List (aA×V)}{kvs:List (aA×aQ)}{vs:List (Key×aC)},RDk K es kvs->KV (es.map λq=>((Sum.inr q.1:Key),q.2)) vs->BT.fG k kvs=aa d →
 ∃u v,valueAt vs (Sum.inr k)=aa u/\RelV v u/\∀m H,RD K m H v d
 |_,_,_,.nil,_,e=>by simp[BT.fG]at e
 |_,_,_,@RDk.cons _ x v dd es kvs r t,q,e=>by
  cases q with
  |@cons p z f b U O =>
   obtain⟨a,L⟩:=z;obtain⟨D,B⟩:=U;simp only at D B;subst D;rw[BT.fG]at e
   by_cases c:k=x
   ·rw[bM c]at e;cases e;subst c;exact⟨L,v,by simp[valueAt],B,r⟩
   ·rw[bN c]at e;obtain⟨u,M,J,Z,Y⟩:=C9 t O e;refine⟨u,M,?_,Z,Y⟩;have W:¬((Sum.inr x:Key)=Sum.inr k):=λz=>c (Sum.inr.inj z).symm;simp only[valueAt]at J⊢;rw[X7 (by simpa using W)];exact J
def Az{x:aA}{c:Nat}(h:PyData.strOk x=ah)(B:c∈x.cps.toList):PyData.strOk ⟨#[c]⟩=ah:=by simp only[PyData.strOk,Array.all_eq_true_iff_forall_mem]at h⊢;intro y q;simp at q;subst q;exact h y (by simpa using B)
def KS:IxR X (rOp X.prog X.w X.K BT.F5):=by
 intro q slice W s V H v u v' N Q I M O h U;obtain⟨m,h,x,y,z,h',R,Y,B,e,J⟩:=h;rcases Gx e with⟨o,k,d,rfl,rfl,e1,rfl,rfl⟩|⟨o,e',k,d,rfl,rfl,e0,e1,rfl,rfl⟩|⟨d,d',b,e1,e2,e3,rfl,rfl⟩
 ·cases Y with
  |@k a es _ S Z =>
   cases M;cases B with
   |p B =>
    cases B with
    |str _ ok =>
     obtain⟨t,rfl⟩:=O;obtain⟨hm,L,P,dd⟩:=S;obtain⟨w',z,E,A,h3⟩:=C9 Z P e1;have D:=dd s.heap I.kIn;refine aaF (ops:=[.ref a,.str k t]) D.typeIs slot_dict_getitem.lookup ?_ U;exact wpAny_getItem_of (knd:=dI X.prog X.w) (iY _ _ k t) D.mapOf E ⟨z,H,I.tok _,A,J.here R (h3 _ _)⟩
 ·cases Y with
  |@kl a ob ws _ T Z =>
   cases M;cases B with
   |p B =>
    have ek:=qa B e0;subst ek;cases ue I (.inr ⟨_,T.1⟩) Z k with
    |no _ _ _ C _=>rw[C]at e1;exact c5 e1
    |is L dd n x G u1 C g2 g3 g4 =>
     rw[C]at e1;cases e1;refine aaF (ops:=[.ref a,N]) dd.typeIs slot_dict_getitem.lookup ?_ U;exact wpAny_getItem_of (knd:=dI X.prog X.w) (pF O) dd.mapOf g2 ⟨G,H,I.tok _,g3,J.here R g4⟩
 ·have g:=d8 R Y e1;have f:=d8 R B e2;cases d<;>cases d'<;>first|exact c5 e3|simp only[BT.jh,BT.fm,BT.jy]at e3
  ·split at e3
   ·rename_i c;obtain⟨cc,F,e5⟩:=dG e3;subst e5;obtain⟨rfl,ok⟩:=g.str;cases f.int;have:=fL;refine JV q slice W s V H _ _ _ _ Q I M O ⟨_,_,cc,rfl,rfl,by lia,F,J.here R (.str _ (Az ok ?_))⟩ U;obtain⟨j,E,A⟩:=Option.bind_eq_some_iff.mp F;exact UZ A
   exact c5 e3
  ·obtain⟨a,L,rfl,r,ra⟩:=g.aE;cases f.int;obtain⟨z,l,i⟩:=ra.atI e3;exact wX q slice W s V H _ _ _ _ Q I M O ⟨a,L,_,z,rfl,rfl,r,l,J.here R i⟩ U
  ·obtain⟨a,L,rfl,r,ra⟩:=g.aD;cases f.int;obtain⟨z,l,i⟩:=ra.atI e3;exact yv q slice W s V H _ _ _ _ Q I M O ⟨a,L,_,z,rfl,rfl,r.sq,l,J.here R i⟩ U
def mD(n d:Nat)(o:Option Int):BT.clip n d o=HT.sIx n d o:=by
 cases o with
 |none=>rfl
 |some v =>
  simp only[BT.clip,HT.sIx];split;rfl
  ·split;lia;lia
def q9{prog:U4}{w:Vl}{A:VU}{E:aC->UR->Prop}{s:UR}{t B:aB}{items:Array aC}{U O:aC}{lo hi:Option Int}{Q:aC->UR->Prop}(q:IsTup s.heap t items)(V:s.heap.IsSliceOf B U O .none)(pl:ZN U lo)(W:ZN O hi)
(hw:HT.sIx items.size 0 lo=0/\HT.sIx items.size items.size hi=items.size)(h:Q (.ref t) s):ay (Vb prog w) A (Zu (.ref t) (.ref B)) Q E s:=by
 obtain⟨os,D,L,hds⟩:=id V;have M:s.TypeIs (.ref B) "slice":=⟨os,D,L⟩;unfold Zu
 try with_reducible refine VO ?_
 first|refine UN (av ?_)|skip
 refine UN (wpAny_sequenceKey q.typeIs (by decide) ?_);refine UN (WA (name:=U7 "__getitem__") q.typeIs Wd
  (W6 Wd q.typeIs entry_tuple_getitem ?_ (args_tuple_getitem _ _)))
 show ay _ _ (Yz (.ref t) >>= _) _ _ s;refine UN (tupleItemsOf_ q ?_);refine UN (Xu M ?_);rw[bM (by decide)];refine UN (HT.jj V pl W ?_);have J:(((HT.sIx items.size 0 lo:Nat):Int)==0&&(1:Int)==1&&(HT.sIx items.size items.size hi-HT.sIx items.size 0 lo)==items.size)=ah:=by rw[hw.1,hw.2];simp
 show ay _ _ (if(((HT.sIx items.size 0 lo:Nat):Int)==0&&(1:Int)==1&&(HT.sIx items.size items.size hi-HT.sIx items.size 0 lo)==items.size)=ah then _ else _) _ _ s;rw[bM J];unfold Builtin.Tuple.tupleIsExact;refine UN (UN (Xu q.typeIs (av ?_)));rw[bM (by decide)];refine UN (YJ ?_)
 first
  |exact av ⟨_,rfl,av h⟩
  |exact av ⟨_,rfl,h⟩
  |exact UN (av (av ⟨_,rfl,av h⟩))
inductive rSl(P:U4)(w:Vl)(K:UM)(v:V)(lo hi:Option Int)(H:Hp)(Q:VK):Prop
 |mk(m:List aB)(h:aN)(x:aP)(d b:aQ)(R:RH K m H h)(q:RW P w K m H v x)(e:bq x h=aa d)(e2:BT.qW d lo hi=aa b)(p:Post P w K m H (.p b) h Q):rSl P w K v lo hi H Q
def RDs.cut{K:UM}{m:List aB}{H:Hp}{vs:List V}{ds:List aQ}(r:RDs K m H vs ds)(lo hi:Option Int):RDs K m H (uW vs lo hi) (BT.cut ds lo hi):=by unfold uW BT.cut;rw[mD,mD,r.length];exact(r.drop _).take _
def AA{ds:List aQ}{lo hi:Option Int}(h1:HT.sIx ds.length 0 lo=0)(h2:HT.sIx ds.length ds.length hi=ds.length):BT.cut ds lo hi=ds:=by unfold BT.cut;rw[mD,mD,h1,h2];simp
def osl:SlR X (rSl X.prog X.w X.K):=by
 intro Z s Y H v o f e lo B g Q I i V O M h;obtain⟨m,h,x,d,b,R,k,e1,e2,J⟩:=h;have L:=d8 R k e1;cases d<;>simp only[BT.qW]at e2<;>try contradiction
 ·cases e2;obtain⟨a,q,rfl,D,ra⟩:=L.aE;cases i
  by_cases c:HT.sIx q.length 0 lo=0/\HT.sIx q.length q.length B=q.length
  ·obtain⟨U,l,j,_⟩:=I.tuple D;have n:U.toArray.size=q.length:=by rw[US];exact l.length.symm
   refine⟨"tuple",_,PyProof.Rows.slot_tuple_getitem.lookup,j.typeIs,q9 j V O M (by rw[n];exact c) ⟨.ref a,H,I,rfl,?_⟩⟩;cases L with
   |d r =>
    refine J.here R ?_;rw[AA (by rw[←ra.length];exact c.1) (by rw[←ra.length];exact c.2)];exact r
  exact JU Z s Y H (.ref a) (.ref a) f e lo B g Q I rfl V O M ⟨a,q,rfl,D,c,λp W=>mz R W (ra.cut lo B) J⟩
 ·cases e2;obtain⟨a,q,rfl,D,ra⟩:=L.aD;exact FH Z s Y H _ _ f e lo B g Q I i V O M ⟨a,q,rfl,D.sq,λp W=>jB R W (ra.cut lo B) J⟩
end
def yP(m:BT.Me)(d:aQ)(as:List aP)(h:aN):aW m (.p d) as h=(match bB as with|some ds=>(BT.meD m d ds).map λx=>(.p x,h)|none=>af):=by cases m<;>rfl
section
variable{X:Cx}
inductive rMe(P:U4)(w:Vl)(K:UM)(me:BT.Me)(v:V)(vs:List V)(H:Hp)(Q:VK):Prop
 |mk(m:List aB)(h:aN)(x:aP)(ws:List aP)(z:aP)(h':aN)(R:RH K m H h)(B:RW P w K m H v x)(q:RWs P w K m H vs ws)(e:aW me x ws h=aa (z,h'))(p:Post P w K m H z h' Q):rMe P w K me v vs H Q
def AB:MtR X "list.append" (rMe X.prog X.w X.K .append):=by
 intro O s M H v b f i Q I Y J h;obtain⟨m,h,x,ws,z,k,R,W,D,e,U⟩:=h;cases x with
 |p d=>cases ws with
  |nil=>exact c5 e|cons _ _=>rw[yP]at e;split at e<;>(try exact c5 e)
 |r n =>
  cases D with
  |nil=>(first|exact c5 e|simp[aW]at e)
  |@cons y Z _ _ q t =>
   cases t with
   |cons _ _=>cases q<;>(first|exact c5 e|simp[aW]at e)
   |nil =>
    cases q with
    |p q =>
     rw[BT.xg]at e;cases g:br h n with
     |none=>rw[g]at e;exact c5 e
     |some V =>
      rw[g]at e;simp only at e;obtain⟨c,e⟩:=dH e;cases e;cases W with
      |@r a _ hn =>
       obtain⟨B,L,r⟩:=R.cell n a V hn g;have:=fL;have j:=r.length;exact rO O s M H _ _ _ _ Q I Y J ⟨a,B,y,rfl,rfl,L,by lia,U _ _ m (g9 (UZ hn) L) (R.set hn L (r.append (.cons q .nil))) (.p .aF)⟩
    |_=>(first|exact c5 e|simp[aW]at e)
 |_=>(first|exact c5 e|simp[aW]at e)
def Dc{q:Type}{xs:List q}{d:q}(h:xs.getLast?=aa d):xs[xs.length-1]?=aa d:=by rw[←List.getLast?_eq_getElem?];exact h
def KU:MtR X "list.pop" (rMe X.prog X.w X.K .pop):=by
 intro V s U H v i j k Q I b D h;obtain⟨m,h,x,ws,z,l,R,Z,B,e,W⟩:=h;cases x with
 |p d=>cases ws with
  |nil=>exact c5 e|cons _ _=>rw[yP]at e;split at e<;>(try exact c5 e)
 |r n =>
  cases B with
  |cons _ _=>(first|exact c5 e|simp[aW]at e)
  |nil =>
   rw[BT.F4]at e;cases g:br h n with
   |none=>rw[g]at e;exact c5 e
   |some M =>
    rw[g]at e;simp only at e;cases L:M.getLast? with
    |none=>rw[L]at e;exact c5 e
    |some d =>
     rw[L]at e;cases e;cases Z with
     |@r a _ hn =>
      obtain⟨q,J,r⟩:=R.cell n a M hn g;have f:=r.length;obtain⟨y,c,Y⟩:=r.get (Dc L);have O:Ext m H m (upd H a (.aD q.dropLast)):=g9 (UZ hn) J;exact JY V s U H _ _ _ _ Q I b D ⟨a,q,y,rfl,rfl,J,by rw[f];exact c,W _ _ m O (R.set hn J r.dropLast) (.p (Y.ext O))⟩
 |_=>(first|exact c5 e|simp[aW]at e)
def Dd{zt:List (aB×aq)}{s:UR}{σ:L2.St}{H:Hp}{l b:aB}{xs zs:List V}{Q:VK}(I:Inv X zt σ H s)(M:H l=aa (.aD xs))(Y:LL X.K H b zs)(hz:xs.length+zs.length<=aj)(q:Q .aF (upd H l (.aD (xs++zs)))):
 ay (Vb X.prog X.w) X.A (call (.builtin "list.extend") [.ref l,.ref b]) (EP X zt σ Q) X.xe s:=by
 obtain⟨z,D,n,r,a,e⟩:=I.FJ M;obtain⟨Z,B,U,O,W,e2⟩:=rdL I Y;have L:D.toArray.size+B.toArray.size<=aj:=by rw[US,US];lia
 have J:¬(!D.toArray.isEmpty&&VZ (D.toArray.size+B.toArray.size))=ah:=by rw[pB L,Bool.and_false];exact Vz
 refine Xc F.slot_list_extend ⟨_,e,rfl⟩ F.entry_list_extend (F.args_list_extend_2 _ _)
  (AutoSeq1.list_extend_list_list_0 l D.toArray n b B.toArray U J (by rw[US];lia) (by lia)) ⟨e,e2,?_⟩
 refine⟨.aF,_,I.FI (its':=D++B) M e (by simp) (r.append O) ?_,rfl,q⟩;rw[U9];lia
def Gy{zt:List (aB×aq)}{s:UR}{σ:L2.St}{H:Hp}{l b:aB}{xs zs:List V}{Q:VK}(I:Inv X zt σ H s)(W:H l=aa (.aD xs))(d:SqT X.K H b zs)(hz:xs.length+zs.length<=aj)(q:Q .aF (upd H l (.aD (xs++zs)))):
 ay (Vb X.prog X.w) X.A (call (.builtin "list.extend") [.ref l,.ref b]) (EP X zt σ Q) X.xe s:=by
 obtain⟨z,D,n,r,g,e⟩:=I.FJ W;obtain⟨B,M,p2,_⟩:=I.tuple d;obtain⟨⟨f,dd,Y,Z⟩,e2,U,a,O⟩:=id p2;simp only at U O;subst U O;have c:=M.length;have L:D.toArray.size+B.toArray.size<=aj:=by rw[US,US];lia
 have J:¬(!D.toArray.isEmpty&&VZ (D.toArray.size+B.toArray.size))=ah:=by rw[pB L,Bool.and_false];exact Vz
 refine Xc F.slot_list_extend ⟨_,e,rfl⟩ F.entry_list_extend (F.args_list_extend_2 _ _)
  (oj l D.toArray n b B.toArray a dd Z J (by rw[US];lia) (by lia)) ⟨e,e2,?_⟩
 refine⟨.aF,_,I.FI (its':=D++B) W e (by simp) (r.append M) ?_,rfl,q⟩;rw[U9];lia
def AC:MtR X "list.extend" (rMe X.prog X.w X.K .extend):=by
 intro A s o H v E F G Q I l J h;obtain⟨m,h,x,ws,z,P,R,k,D,e,U⟩:=h;cases x with
 |p d=>cases ws with
  |nil=>exact c5 e|cons _ _=>rw[yP]at e;split at e<;>(try exact c5 e)
 |r n =>
  cases D with
  |nil=>(first|exact c5 e|simp[aW]at e)
  |@cons y Z _ _ j t =>
   cases t with
   |cons _ _=>(first|exact c5 e|simp[aW]at e)
   |nil =>
    rw[BT.xh]at e;cases g:br h n with
    |none=>rw[g]at e;exact c5 e
    |some Y =>
     cases O:(bq Z h).bind BT.tH with
     |none=>rw[g,O]at e;exact c5 e
     |some C =>
      rw[g,O]at e;simp only at e;obtain⟨c,e⟩:=dH e;cases e;obtain⟨d,e1,e2⟩:=Option.bind_eq_some_iff.mp O;have W:=d8 R j e1;cases k with
      |@r a _ hn =>
       obtain⟨i,q,r⟩:=R.cell n a Y hn g;cases l;obtain⟨u,rfl,V⟩:=J.one;have:=fL;have N:=r.length;cases d<;>simp only[BT.tH]at e2<;>try contradiction
       ·cases e2;obtain⟨b,f,rfl,M,B⟩:=W.aE;cases V;have L:=B.length;exact Gy I q M (by lia) (U _ _ m (g9 (UZ hn) q) (R.set hn q (r.append B)) (.p .aF))
       ·cases e2;obtain⟨b,f,rfl,M,B⟩:=W.aD;cases V;have L:=B.length;exact Dd I q M (by lia) (U _ _ m (g9 (UZ hn) q) (R.set hn q (r.append B)) (.p .aF))
 |_=>(first|exact c5 e|simp[aW]at e)
def RWs.pure{P:U4}{w:Vl}{m:List aB}{H:Hp}:∀{vs:List V}{ws:List aP}{ds:List aQ},RWs P w K m H vs ws->bB ws=aa ds->RDs K m H vs ds:=by
 intro vs ws
 induction ws generalizing vs with
 |nil =>
  intro ds r e;cases r;cases e;exact .nil
 |cons x ws B =>
  intro ds r e;cases r with
  |cons r t =>
   cases r with
   |p r =>
    simp only[bB]at e;obtain⟨q,e1,e2⟩:=dG e;subst e2;exact .cons r (B t e1)
   |_=>exact c5 e
theorem qb{x:aQ}:∀{ds:List aQ}{k j:Nat},BT.j5 x ds k=aa j->∃i,j=k+i/\∃(hi:i<ds.length),aV ds[i] x=ah/\∀m (q:m<ds.length),m<i->aV ds[m] x=ai
 |[],_,_,e=>by exact c5 e
 |y::r,k,j,e=>by
  simp only[BT.j5]at e;split at e
  ·rename_i c;cases e;exact⟨0,rfl,by simp,c,λm _ h=>by lia⟩
  ·rename_i c;obtain⟨i,rfl,hi,J,D⟩:=qb e;refine⟨i+1,by lia,by simp;lia,by simpa using J,λm q B=>?_⟩;cases m with
   |zero=>simpa using c|succ m=>simpa using D m (by simpa using q) (by lia)
theorem oK{zt:List (aB×aq)}{σ:L2.St}{s:UR}{m:List aB}{H:Hp}{d:aQ}(I:Inv X zt σ H s):∀{vs:List V}{ds:List aQ}{us:List aC},RDs X.K m H vs ds->dF vs us->∀(i:Nat)(h1:i<us.length)(h2:i<ds.length),fQ s.heap (pd d) us[i]=aV ds[i] d
 |_,_,_,.nil,q=>by cases q;intro i h1;simp at h1
 |_,_,_,.cons r t,q=>by
  cases q with
  |cons D B =>
   intro i h1 h2;cases i with
   |zero =>
    obtain⟨J,ra⟩:=j9 I r D;simp only[List.getElem_cons_zero];rw[xD ra (iI r),pZ]
   |succ i=>simpa using oK I t B i (by simpa using h1) (by simpa using h2)
def AD(P:X.A.units+150<cLine):MtR X "tuple.index" (rMe X.prog X.w X.K .tindex):=by
 intro zt s σ H v vs v' us Q I o M h;obtain⟨m,h,x,ws,z,h',R,J,L,e,f⟩:=h;cases x with
 |r n=>cases ws with
  |_=>(first|exact c5 e|simp[aW]at e)
 |p d =>
  rw[BT.pI]at e;cases g:bB ws with
  |none=>rw[g]at e;exact c5 e
  |some ds =>
   rw[g]at e;obtain⟨b,e1,e2⟩:=dG e;cases e2;have rds:=L.pure g;cases d<;>first|exact c5 e1|skip
   rename_i xs;cases ds with
   |nil=>exact c5 e1
   |cons d0 dr =>
    cases dr with
    |cons _ _=>exact c5 e1
    |nil =>
     rw[BT.Ci]at e1;split at e1
     ·rename_i c;obtain⟨j,e3,e4⟩:=dG e1;subst e4;obtain⟨i,rfl,hi,h1,h2⟩:=qb e3;cases rds with
      |cons E C =>
       cases C;obtain⟨u,rfl,t⟩:=M.one;cases J with
       |p J =>
        obtain⟨a,vt,rfl,ha,ra⟩:=RR.aE (.d J);cases o;obtain⟨q,D,G,_⟩:=I.tuple ha;obtain⟨⟨cls,dd,Z,l⟩,V,Y,n,W⟩:=id G;simp only at Y W;subst Y W;have hl:=D.length;have S:=ra.length;have U:i<q.toArray.size:=by rw[US];lia
        refine Xc F.slot_tuple_index ⟨_,V,rfl⟩ F.entry_tuple_index (F.args_tuple_index_2 _ _)
         (q8 a q.toArray n dd l u (fQ s.heap (pd d0)) i U ?_ ?_) ⟨V,?_,?_⟩
        rw[show q.toArray[i]=q[i]'(by lia) by simp,oK I ra D i (by lia) hi];exact h1
        ·intro k T O;have B:k<q.length:=by simpa using T
         rw[show q.toArray[k]=q[k]'B by simp,oK I ra D k B (by lia)];exact h2 k (by lia) O
        ·intro y N;exact jE P I (.d E) t ra D c y (by simpa using N)
        ·refine⟨.int (((0+i:Nat):Nat):Int),H,I.tok _,⟨s.toks,?_⟩,f.here R (.int _)⟩;simp
     exact c5 e1
 |_=>(first|exact c5 e|simp[aW]at e)
def AE:MtR X "str.index" (rMe X.prog X.w X.K .sindex):=by
 intro c s a H v f i k Q I U D h;obtain⟨m,h,x,ws,z,l,R,q,B,e,M⟩:=h;cases x with
 |r n=>cases ws with
  |_=>(first|exact c5 e|simp[aW]at e)
 |p d =>
  rw[BT.pJ]at e;cases g:bB ws with
  |none=>rw[g]at e;exact c5 e
  |some Y =>
   rw[g]at e;obtain⟨b,e1,e2⟩:=dG e;cases e2;have rds:=B.pure g;cases d<;>first|exact c5 e1|skip
   cases Y with
   |nil=>exact c5 e1
   |cons L Z =>
    cases Z with
    |cons _ _=>cases L<;>exact c5 e1
    |nil =>
     cases L<;>first|exact c5 e1|skip
     rename_i x y;rw[BT.Ka]at e1;cases J:Xz x y 0 x.length 1 with
     |nil=>rw[J]at e1;exact c5 e1
     |cons j rest =>
      rw[J]at e1;cases e1;cases rds with
      |cons W V =>
       cases V;cases W;obtain⟨u,rfl,O,rfl⟩:=D.one;cases q with
       |p q =>
        cases q;obtain⟨t,rfl⟩:=U;exact call_gives F.slot_str_index (typeIs_str s x t) F.entry_str_index (F.args_str_index_2 _ _) (gives_str_index x y t O j rest J) ⟨.int j,H,I.tok _,⟨_,rfl⟩,M.here R (.int _)⟩
 |_=>(first|exact c5 e|simp[aW]at e)
end
section
inductive rBi(P:U4)(w:Vl)(K:UM)(b:BT.Bi)(mu:Bool)(vs:List V)(H:Hp)(Q:VK):Prop
 |mk(m:List aB)(h:aN)(ws:List aP)(z:aP)(h':aN)(R:RH K m H h)(q:RWs P w K m H vs ws)(e:BT.kBi b mu ws h=aa (z,h'))(p:Post P w K m H z h' Q):rBi P w K b mu vs H Q
inductive RRs(K:UM)(m:List aB)(H:Hp):List V->List aQ->Prop
 |nil:RRs K m H [] []
 |cons{v:V}{d:aQ}{vs:List V}{ds:List aQ}(r:RR K m H v d)(t:RRs K m H vs ds):RRs K m H (v::vs) (d::ds)
theorem iz{K:UM}(R:RH K m H h):∀{vs:List V}{ws:List aP}{ds:List aQ},RWs P w K m H vs ws->aS ws h=aa ds->RRs K m H vs ds
 |_,_,_,.nil,e=>by cases e;exact .nil
 |_,_,_,.cons r t,e=>by simp only[aS]at e;obtain⟨d,e1,e2⟩:=Option.bind_eq_some_iff.mp e;obtain⟨q,D,B⟩:=dG e2;subst B;exact .cons (d8 R r e1) (iz R t D)
inductive BiI(b:BT.Bi)(mu:Bool)(ws:List aP)(h:aN)(z:aP)(h':aN):Prop
 |mk(ds:List aQ)(d:aQ)(h1:aS ws h=aa ds)(h2:BT.biD b ds=aa d)(q:(mu=ai/\z=.p d/\h'=h)\/∃xs,mu=ah/\d=.aD xs/\z=.r h.length/\h'=h++[.l xs]):BiI b mu ws h z h'
def iO(e:BT.kBi b mu ws h=aa (z,h')):BiI b mu ws h z h':=by
 unfold BT.kBi at e;cases e1:aS ws h with
 |none=>rw[e1]at e;exact c5 e
 |some q =>
  rw[e1]at e;simp only at e;cases e2:BT.biD b q with
  |none=>rw[e2]at e;exact c5 e
  |some d =>
   rw[e2]at e;simp only at e;cases mu with
   |false=>cases e;exact⟨q,d,e1,e2,.inl ⟨rfl,rfl,rfl⟩⟩
   |true =>
    simp only[if_true]at e;cases d<;>simp only at e<;>try contradiction
    cases e;exact⟨q,_,e1,e2,.inr ⟨_,rfl,rfl,rfl,rfl⟩⟩
def RRs.one{K:UM}{m:List aB}{H:Hp}{vs:List V}{d:aQ}(r:RRs K m H vs [d]):∃v,vs=[v]/\RR K m H v d:=by
 cases r with
 |cons r t=>cases t;exact⟨_,rfl,r⟩
def KW:fF X (.builtin "len") (rBi X.prog X.w X.K .len ai):=by
 intro J s D H Z O Q I B h;obtain⟨m,h,ws,z,b,R,U,e,L⟩:=h;obtain⟨Y,d,e1,e2,⟨_,rfl,rfl⟩|⟨_,q,_⟩⟩:=iO e
 ·have V:=iz R U e1
  match Y,e2 with
  |[.aE xs],e2 =>
   cases e2;obtain⟨v,rfl,r⟩:=V.one;obtain⟨a,M,rfl,W,ra⟩:=r.aE;exact lX J s D H _ O Q I B ⟨a,M,rfl,.inr W,by rw[ra.length];exact L.here R (.int _)⟩
  |[.aD xs],e2 =>
   cases e2;obtain⟨v,rfl,r⟩:=V.one;obtain⟨a,M,rfl,W,ra⟩:=r.aD;exact lX J s D H _ O Q I B ⟨a,M,rfl,.inl W.sq,by rw[ra.length];exact L.here R (.int _)⟩
  |[.str x],e2 =>
   rw[BT.Ak]at e2;split at e2
   ·rename_i c;cases e2;obtain⟨v,rfl,r⟩:=V.one;obtain⟨rfl,_⟩:=r.str;have:=fL;exact sY J s D H _ O Q I B ⟨x,rfl,by lia,L.here R (.int _)⟩
   exact c5 e2
 exact aU q
def KY:fF X (.type "int") (rBi X.prog X.w X.K .int ai):=by
 intro L s J H W O Q I B h;obtain⟨m,h,ws,z,Y,R,D,e,M⟩:=h;obtain⟨V,d,e1,e2,⟨_,rfl,rfl⟩|⟨_,q,_⟩⟩:=iO e
 ·have U:=iz R D e1
  match V,e2 with
  |[.int i],e2 =>
   cases e2;obtain⟨v,rfl,r⟩:=U.one;cases r.int;exact rJ L s J H _ O Q I B (.inl ⟨i,rfl,M.here R (.int _)⟩)
  |[.bl i],e2 =>
   cases e2;obtain⟨v,rfl,r⟩:=U.one;cases r.bl;exact rJ L s J H _ O Q I B (.inr ⟨i,rfl,M.here R (.int _)⟩)
 exact aU q
def yQ:fF X (.type "list") (rBi X.prog X.w X.K .list mu):=by
 intro U s O H g Y Q I J h;obtain⟨m,h,ws,z,i,R,L,e,W⟩:=h;obtain⟨f,d,e1,e2,c⟩:=iO e;have Z:=iz R L e1;have fin:∀{p:aB}{q:List V}{D:List aQ},d=.aD D->H p=af->RDs X.K m H q D->Q (.ref p) (upd H p (.aD q)):=by
  intro p q D b B r;rcases c with⟨_,rfl,rfl⟩|⟨ys,_,e3,rfl,rfl⟩
  subst b;exact jB R B r W;rw[b]at e3;cases e3;exact tV R B r W
 match f,e2 with
 |[.aE D],e2 =>
  cases e2;obtain⟨v,rfl,r⟩:=Z.one;obtain⟨a,q,rfl,M,ra⟩:=r.aE;exact lY U s O H _ Y Q I J ⟨a,q,rfl,.inr M,λp B=>fin rfl B ra⟩
 |[.aD D],e2 =>
  cases e2;obtain⟨v,rfl,r⟩:=Z.one;obtain⟨a,q,rfl,M,ra⟩:=r.aD;exact lY U s O H _ Y Q I J ⟨a,q,rfl,.inl M.sq,λp B=>fin rfl B ra⟩
theorem gM:∀{xs:List aQ}{ns:List Int},BT.intsOf xs=aa ns->xs=ns.map aQ.int
 |[],ns,h=>by cases h;rfl
 |.int i::r,ns,h=>by simp only[BT.intsOf]at h;obtain⟨q,e1,e2⟩:=dG h;subst e2;rw[gM e1];rfl
 |.aF::_,_,h=>by exact c5 h
 |.bl _::_,_,h=>by exact c5 h
 |.str _::_,_,h=>by exact c5 h
 |.aE _::_,_,h=>by exact c5 h
 |.aD _::_,_,h=>by exact c5 h
theorem gC{K:UM}:∀{ns:List Int}{vs:List V},RDs K m H vs (ns.map aQ.int)->vs=ns.map V.int
 |[],vs,r=>by cases r;rfl
 |n::ns,vs,r=>by
  cases r with
  |cons r t=>cases r;rw[gC t];rfl
theorem qc{K:UM}:∀(ns:List Int),RDs K m H (ns.map V.int) (ns.map aQ.int)
 |[]=>.nil|n::ns=>.cons (.int n) (qc ns)
def AF(i:X.calm=ah):fF X (.builtin "max") (λxs H Q=>∃(a:aB) (ns:List Int),xs=[.ref a]/\SqL X.K H a (ns.map V.int)/\0<ns.length/\∀M,M∈ns->(∀z∈ns,z<=M)->Q (.int M) H):=by
 intro m s l H xs n Q I r h;obtain⟨a,ns,rfl,d,O,q⟩:=h;obtain⟨u,rfl,e⟩:=vals1 r;cases e;obtain⟨b,Z,p,J⟩:=I.list d;have W:=intsAre_of Z;obtain⟨D,e⟩:=W.allInts.items;have B:ns=D.toList.map (·.1):=by rw[←W.numsOf,←aaJ,←e]
 have L:0<D.size:=by have Y:=O;rw[B,U0,Ve]at Y;exact Y
 have U:=p.isList;rw[e]at U;refine max_intList (I.ok.hd i) U L λv x o c f=>?_;obtain⟨t,rfl⟩:=Z4 c;obtain⟨w,k⟩:=argBest_gt (numAt D) (D.size-1);refine⟨.int _,H,I.aJ f,⟨t,rfl⟩,q _ ?_ λz J=>?_⟩;rw[B,ZU];exact getD_mem (by rw[U0,Ve];lia)
 ·rw[B]at J;obtain⟨j,g,rfl⟩:=mem_getD J;rw[U0,Ve]at g;rw[←ZU];exact k j (by lia)
def AG(i:X.calm=ah):fF X (.builtin "min") (λxs H Q=>∃(a:aB) (ns:List Int),xs=[.ref a]/\SqL X.K H a (ns.map V.int)/\0<ns.length/\∀M,M∈ns->(∀z∈ns,M<=z)->Q (.int M) H):=by
 intro m s l H xs n Q I r h;obtain⟨a,ns,rfl,d,O,q⟩:=h;obtain⟨u,rfl,e⟩:=vals1 r;cases e;obtain⟨b,Z,p,J⟩:=I.list d;have W:=intsAre_of Z;obtain⟨D,e⟩:=W.allInts.items;have B:ns=D.toList.map (·.1):=by rw[←W.numsOf,←aaJ,←e]
 have L:0<D.size:=by have Y:=O;rw[B,U0,Ve]at Y;exact Y
 have U:=p.isList;rw[e]at U;refine min_intList (I.ok.hd i) U L λv x o c f=>?_;obtain⟨t,rfl⟩:=Z4 c;obtain⟨w,k⟩:=argBest_lt (numAt D) (D.size-1);refine⟨.int _,H,I.aJ f,⟨t,rfl⟩,q _ ?_ λz J=>?_⟩;rw[B,ZU];exact getD_mem (by rw[U0,Ve];lia)
 ·rw[B]at J;obtain⟨j,g,rfl⟩:=mem_getD J;rw[U0,Ve]at g;rw[←ZU];exact k j (by lia)
def vD:fF X (.builtin "sorted") (λxs H Q=>∃(a:aB) (ns:List Int),xs=[.ref a]/\SqL X.K H a (ns.map V.int)/\ns.length<64/\∀(l:aB)(B:List Int),H l=af->B.Perm ns->B.Pairwise (·<=·)->Q (.ref l) (upd H l (.aD (B.map V.int)))):=by intro f s d H xs g Q I r h;obtain⟨a,ns,rfl,O,Y,q⟩:=h;obtain⟨u,rfl,e⟩:=vals1 r;cases e;obtain⟨D,J,p,k⟩:=I.list O;have U:=intsAre_of J;have len:=J.length;rw[U0]at len;refine sorted_ints p.isList U (by lia) λout B c L Z=>?_;obtain⟨e,W⟩:=sortedAll_at s.heap D out;have M:=kJ c;have j:=L.length_eq;refine⟨.ref _,_,I.laid (t':=s.toks) (λb u q=>sortedAll_old q) (V0 _) ?_,rfl,q _ B (I.aL.fresh (V0 _)) L Z⟩;have i:aj=16777216:=WT;exact⟨by rw[U0];lia,out.toList,e,M,W⟩
def Gz(j:X.calm=ah):fF X (.builtin "max") (rBi X.prog X.w X.K .max1 ai):=by
 intro U s O H p W Q I D h;obtain⟨m,h,ws,z,t,R,B,e,V⟩:=h;obtain⟨l,d,e1,e2,⟨_,rfl,rfl⟩|⟨_,q,_⟩⟩:=iO e
 ·have b:=iz R B e1
  match l,e2 with
  |[.aD xs],e2 =>
   rw[BT.Ck]at e2;obtain⟨L,g,f⟩:=Option.bind_eq_some_iff.mp e2;obtain⟨M,J,c⟩:=dG f;subst c;obtain⟨v,rfl,r⟩:=b.one;obtain⟨a,o,rfl,k,ra⟩:=r.aD;rw[gM g]at ra;have ev:=gC ra;subst ev;obtain⟨Z,Y⟩:=BT.m7 J;refine AF j U s O H _ W Q I D ⟨a,L,rfl,k.sq,by cases L with|nil=>cases J|cons _ _=>exact aar _,λn i m2=>?_⟩;have:n=M:=ZF (Y _ i) (m2 _ Z);subst this;exact V.here R (.int _)
 exact aU q
def GA(j:X.calm=ah):fF X (.builtin "min") (rBi X.prog X.w X.K .min1 ai):=by
 intro U s O H p W Q I D h;obtain⟨m,h,ws,z,t,R,B,e,V⟩:=h;obtain⟨l,d,e1,e2,⟨_,rfl,rfl⟩|⟨_,q,_⟩⟩:=iO e
 ·have b:=iz R B e1
  match l,e2 with
  |[.aD xs],e2 =>
   rw[BT.Cj]at e2;obtain⟨L,g,f⟩:=Option.bind_eq_some_iff.mp e2;obtain⟨M,J,c⟩:=dG f;subst c;obtain⟨v,rfl,r⟩:=b.one;obtain⟨a,o,rfl,k,ra⟩:=r.aD;rw[gM g]at ra;have ev:=gC ra;subst ev;obtain⟨Z,Y⟩:=BT.Al J;refine AG j U s O H _ W Q I D ⟨a,L,rfl,k.sq,by cases L with|nil=>cases J|cons _ _=>exact aar _,λn i m2=>?_⟩;have:n=M:=ZF (m2 _ Z) (Y _ i);subst this;exact V.here R (.int _)
 exact aU q
def rV:fF X (.builtin "sorted") (rBi X.prog X.w X.K .sorted mu):=by
 intro b s Z H u f Q I O h;obtain⟨m,h,ws,z,x,R,M,e,W⟩:=h;obtain⟨t,d,e1,e2,k⟩:=iO e;have g:=iz R M e1;have fin:∀{p:aB}{D:List V}{B:List aQ},d=.aD B->H p=af->RDs X.K m H D B->Q (.ref p) (upd H p (.aD D)):=by
  intro p D B L Y r;rcases k with⟨_,rfl,rfl⟩|⟨ys,_,e3,rfl,rfl⟩
  subst L;exact jB R Y r W;rw[L]at e3;cases e3;exact tV R Y r W
 match t,e2 with
 |[.aD B],e2 =>
  rw[BT.xm]at e2;obtain⟨q,i,J⟩:=Option.bind_eq_some_iff.mp e2
  by_cases c:q.length<64
  ·rw[bM c]at J;have L:=(U3 J).symm;obtain⟨v,rfl,r⟩:=g.one;obtain⟨a,D,rfl,o,ra⟩:=r.aD;rw[gM i]at ra;have ev:=gC ra;subst ev;refine vD b s Z H _ f Q I O ⟨a,q,rfl,o.sq,c,λl U n j m2=>?_⟩;have:U=BT.sortI q:=aaz (j.trans (BT.sortI_perm q).symm) m2 (BT.pR q);subst this;exact fin L n (qc _)
  rw[bN c]at J;exact c5 J
def De:fF X (.type "tuple") (rBi X.prog X.w X.K .tuple ai):=by
 intro O s M H b V Q I B h;obtain⟨m,h,ws,z,c,R,J,e,U⟩:=h;obtain⟨Z,d,e1,e2,⟨_,rfl,rfl⟩|⟨_,q,_⟩⟩:=iO e
 ·have W:=iz R J e1
  match Z,e2 with
  |[.aE xs],e2 =>
   cases e2;obtain⟨v,rfl,r⟩:=W.one;obtain⟨a,D,rfl,L,ra⟩:=r.aE;refine k8 O s M H _ V Q I B ⟨a,D,rfl,.inr ⟨L,?_⟩⟩;cases r with
   |d r=>exact U.here R r
  |[.aD xs],e2 =>
   cases e2;obtain⟨v,rfl,r⟩:=W.one;obtain⟨a,D,rfl,L,ra⟩:=r.aD;exact k8 O s M H _ V Q I B ⟨a,D,rfl,.inl ⟨L.sq,λp Y=>mz R Y ra U⟩⟩
 exact aU q
noncomputable def tyD:aQ->String
 |.aF=>"NoneType"|.bl _=>"bool"|.int _=>"int"|.str _=>"str"|.aE _=>"tuple"|.aD _=>"list"
def GB{E:aC->UR->Prop}
(I:Inv X zt σ H s)(r:RR X.K m H v d)(q:RelV v u)(e:We X.K (.type (tyD d)) (.type c)=aa b)(h:∀tk,Q (.bool b) {s with toks:=tk}):
 ay (Vb X.prog X.w) A (call (.builtin "isinstance") [u,.type c]) Q E s:=by
 cases d with
 |aF=>cases r.aF;cases q;exact W0 PySem.W.kitx_none I.kIn True.intro e (λz=>nomatch z) h|bl y=>cases r.bl;cases q;exact W0 PySem.W.kitx_bool I.kIn True.intro e (λz=>nomatch z) h|int i=>cases r.int;obtain⟨t,rfl⟩:=q;exact W0 PySem.W.kitx_int I.kIn True.intro e (λz=>nomatch z) h|str y=>obtain⟨rfl,_⟩:=r.str;obtain⟨t,rfl⟩:=q;exact W0 PySem.W.kitx_str I.kIn True.intro e (λz=>nomatch z) h
 |aE L =>
  obtain⟨a,M,rfl,D,_⟩:=r.aE;cases q;obtain⟨B,_,⟨o,J,O,_⟩,_⟩:=I.tuple D;exact W0 PySem.W.kitx_tuple I.kIn ⟨o,J,O⟩ e (λz=>nomatch z) h
 |aD L =>
  obtain⟨a,M,rfl,D,_⟩:=r.aD;cases q;obtain⟨_,B,n,_,_,J⟩:=rdL I D;exact W0 PySem.W.kitx_list I.kIn ⟨_,J,rfl⟩ e (λz=>nomatch z) h
def Df(K:UM)(t:String):We K (.type t) (.type t)=aa ah:=by unfold We;rw[bM (by simp)]
def Dg(h:vq b=aa (c,f))(d:aQ):BT.biD b [d]=aa (.bl (f d)):=by
 cases b<;>simp only[vq]at h<;>try contradiction
 all_goals (cases h;rfl)
def Dh(h:vq b=aa (c,f))(K:UM)(d:aQ):We K (.type (tyD d)) (.type c)=aa (f d):=by
 cases b<;>simp only[vq]at h<;>try contradiction
 all_goals (cases h;cases d)
 all_goals first
  |exact Df K _
  |(simp only[tyD];unfold We;rw[bN (by decide)];unfold PySem.W.kitCls;first|rfl|kernel_rfl|decide +kernel)
end
end BS
end
section
namespace BX
open PySem PySem.Spec PyProof.Rows
section
variable{prog:U4}{w:Vl}{A:VU}{R:Z8->UR->Prop}{I:aB}{fp wr:List aB}{n:Nat}{P:Nat->aC->Prop}{St:Nat->au->Prop}{kw:List (aA×aC)}
def Di(W:Walks prog w A.in1 I fp wr n P St)(bt:Nat->Nat->Bool)(C:CmpOf prog w A.in1 .Gt P bt)(S:aB)(p:¬S∈fp):∀(k j:Nat)(s:UR)(J:aC)(c:Nat),n-(j+1)=k->j+1<=n->St (j+1) s.heap->P (YY bt j) J->s.heap.get? S=aa {cls:=.type "list",data:=.seq #[J,J] c} →
 (∀(v:aC)(h':au)(tk:Nat),P (YY bt (n-1)) v->(∀b o,¬b∈wr->b≠S->s.heap.get? b=aa o->h'.get? b=aa o)->R (.ok (.ret v)) {s with heap:=h',toks:=tk}) →
 ak (Vb prog w) A (.builtin "max.loop" ⟨[.ref I,.none,.ref S],kw⟩) R s:=by
 have V:¬S∈wr:=λz=>p (W.sub S z);intro k
 induction k with
 |zero =>
  intro j s J c r t st Y U Z;have x:j+1=n:=by omega
  refine codeAny_builtin F.entry_max_loop ?_;rw[VF F.plain_max_loop _];unfold Builtin.«max.loop»;refine UN (Xp U rfl ?_);refine UN (XZ (W.done s _ _ (x ▸ st) λh' tk L=>?_));have q:=L S _ V U;refine UN (WR q rfl (UN (Z2 (av ?_))) (by simp[WT]) (by simp[WT]));refine Z _ _ _ (by rw[show n-1=j by omega];exact Y) λb o D M e=>?_;show(h'.update S _).get? b=aa o;rw[VC _ _ (VN M)];exact L b o D e
 |succ k m =>
  intro j s J c r t st Y U Z;refine codeAny_builtin F.entry_max_loop ?_;rw[VF F.plain_max_loop _];unfold Builtin.«max.loop»;refine UN (Xp U rfl ?_);refine UN (XZ (W.item (j+1) s _ _ (by omega) st λv h' tk l O L=>?_));have q:=L S _ V U;refine UN (av ?_);refine UN (XZ (VO (UN (C _ _ _ _ _ _ _ l Y ?_))));refine UN (VO (V3 ?_));refine UN (Z2 (av ?_));have a:YY bt (j+1)=if bt (j+1) (YY bt j)then j+1 else YY bt j:=rfl
  cases g:bt (j+1) (YY bt j)with
  |true =>
   rw[bM rfl];rw[g,bM rfl]at a;refine UN (WR q rfl (UN (Z2 (av ⟨plainId_quiet F.plain_max_loop _,?_⟩))) (by simp[WT]) (by simp[WT]));refine m (j+1) _ v _ (by omega) (by omega) (W.frame _ _ _ O λb u o e=>?_) (by rw[a];exact l) (Vr _ q rfl) λd i B h f=>Z d i B h λb o D M e=>f b o D M ?_
   ·show(h'.update S _).get? b=aa o;rw[VC _ _ (λz:S=b=>p (by rw[z];exact u))];exact e
   ·show(h'.update S _).get? b=aa o;rw[VC _ _ (VN M)];exact L b o D e
  |false =>
   rw[bN (by decide)];rw[g,bN (by decide)]at a;refine UN (Z2 (av ⟨plainId_quiet F.plain_max_loop _,?_⟩));exact m (j+1) _ J _ (by omega) (by omega) O (by rw[a];exact Y) q λd i B h f=>Z d i B h λb o D M e=>f b o D M (L b o D e)
def AH(W:Walks prog w A.in1 I fp wr n P St)(bt:Nat->Nat->Bool)(C:CmpOf prog w A.in1 .Gt P bt)(S:aB)(L:¬S∈fp)(hn:0<n){s:UR}{c:Nat}(st:St 0 s.heap)(O:s.heap.get? S=aa {cls:=.type "list",data:=.seq #[] c})
(g:∀(v:aC)(h':au)(tk:Nat),P (YY bt (n-1)) v->(∀b o,¬b∈wr->b≠S->s.heap.get? b=aa o->h'.get? b=aa o)->R (.ok (.ret v)) {s with heap:=h',toks:=tk}):
 ak (Vb prog w) A (.builtin "max.loop" ⟨[.ref I,.none,.ref S],kw⟩) R s:=by
 have J:¬S∈wr:=λz=>L (W.sub S z);refine codeAny_builtin F.entry_max_loop ?_;rw[VF F.plain_max_loop _];unfold Builtin.«max.loop»;refine UN (Xp O rfl ?_);refine UN (XZ (W.item 0 s _ _ hn st λv h' tk d D M=>?_));have q:=M S _ J O;refine UN (av ?_);refine UN (WR q rfl (av ⟨plainId_quiet F.plain_max_loop _,?_⟩) (by simp[WT]) (by simp[WT]));refine Di W bt C S L (n-1) 0 _ v _ rfl hn (W.frame _ _ _ D λb f o e=>?_) d (Vr _ q rfl) λY h B a Z=>g Y h B a λb o V U e=>Z b o V U ?_
 ·show(h'.update S _).get? b=aa o;rw[VC _ _ (λz:S=b=>L (by rw[z];exact f))];exact e
 ·show(h'.update S _).get? b=aa o;rw[VC _ _ (VN U)];exact M b o V e
def AI{nm:aA}{d:aC}(W:Walks prog w A.in1 I fp wr 0 P St)(S:aB){s:UR}{c:Nat}(st:St 0 s.heap)(B:s.heap.get? S=aa {cls:=.type "list",data:=.seq #[] c})
(D:∀(h':au)(tk:Nat),(∀b o,¬b∈wr->s.heap.get? b=aa o->h'.get? b=aa o)->R (.ok (.ret d)) {s with heap:=h',toks:=tk}):
 ak (Vb prog w) A (.builtin "max.loop" ⟨[.ref I,.none,.ref S],[(nm,d)]⟩) R s:=by
 refine codeAny_builtin F.entry_max_loop ?_;rw[VF F.plain_max_loop _];unfold Builtin.«max.loop»;refine UN (Xp B rfl ?_);refine UN (XZ (W.done s _ _ st λh' tk q=>?_));refine UN (YJ (av ?_));exact D _ _ q
def xE(a d:aC):argsOk "max" ⟨[a],[(U7 "default",d)]⟩:=by
 show _=_
 kernel_rfl
def AJ{E:aC->UR->Prop}{s:UR}{l:aB}{xs:Array (Int×Tok)}{d:aC}{Q:aC->UR->Prop}(V:A.handled=af)(U:s.heap.IsList l (aaK xs))
(h1:0<xs.size->∀(v:aC)(h':au)(tk:Nat),(aaK xs)[YY (λi j=>decide (numAt xs i>numAt xs j)) (xs.size-1)]?=aa v->(∀b o,s.heap.get? b=aa o->h'.get? b=aa o)->Q v {s with heap:=h',toks:=tk})
(Y:xs.size=0->∀(h':au)(tk:Nat),(∀b o,s.heap.get? b=aa o->h'.get? b=aa o)->Q d {s with heap:=h',toks:=tk}):
 ay (Vb prog w) A (call (.builtin "max") [.ref l] [(U7 "default",d)]) Q E s:=by
 refine kmk_tree F.kind_max F.plain_max F.entry_max (xE _ _) ?_;refine UN (wpAny_of_eq (a:=[af,aa d]) rfl ?_);refine UN (av ?_);refine UN (iter_intList U λJ e2 st lt M=>?_);subst e2;refine UN (wpAny_newList (av ⟨plainId_quiet F.plain_max_loop _,?_⟩));have W:=Walks.list (prog:=prog) (w:=w) (A:=A.in1) V s.heap.objs.size l M (aaK xs);have sz:(aaK xs).size=xs.size:=by simp[aaK]
 have O:¬(s.heap.push {cls:=.type "list_iterator",data:=.fields #[.ref l,.int 0 0]}).objs.size∈[s.heap.objs.size,l]:=λz=>VR _ (lt _ z);have L:∀{h':au},(∀b o,¬b∈[s.heap.objs.size]->b≠(s.heap.push {cls:=.type "list_iterator",data:=.fields #[.ref l,.int 0 0]}).objs.size->((s.heap.push {cls:=.type "list_iterator",data:=.fields #[.ref l,.int 0 0]}).push {cls:=.type "list",data:=.seq #[]}).get? b=aa o->h'.get? b=aa o)->∀b o,s.heap.get? b=aa o->h'.get? b=aa o:=λ{h'} k b o e=>by have D:=UW e;refine k b o (λz=>?_) (λz=>?_) (UO _ (UO _ e));rw[List.mem_singleton.mp z]at D;exact VR _ D;rw[z,V5]at D;exact bO D (Nat.not_lt.mpr (V0 _))
 have B:=W.frame 0 _ (((s.heap.push {cls:=.type "list_iterator",data:=.fields #[.ref l,.int 0 0]}).push {cls:=.type "list",data:=.seq #[]})) st λb _ o e=>UO _ e;rcases Nat.eq_zero_or_pos xs.size with z|z
 ·rw[sz,z]at W;exact AI W _ B (UX _ rfl) λh' tk k=>Y z h' tk (L λb o Z _ e=>k b o Z e)
 refine AH W (λi j=>decide (numAt xs i>numAt xs j)) (CmpOf.ints_gt _ λi v e=>Z4 e) _ O (by rw[sz];exact z) B (UX _ rfl) λv h' tk q k=>h1 z v h' tk (by rw[sz]at q;exact q) (L k)
end
end BX
end
section
namespace BS
open PySem PySem.Spec PyProof.Rows L2
variable{K:UM}
noncomputable abbrev FT:=BT.FK->List aP->aN->Option (aP×aN)
inductive spF(P:U4)(w:Vl)(K:UM)(g:List aP->aN->Option (aP×aN))(vs:List V)(H:Hp)(Q:VK)(E:XK):Prop
 |mk(m:List aB)(ws:List aP)(h:aN)(z:aP)(h':aN)(R:RH K m H h)(r:RWs P w K m H vs ws)(e:g ws h=aa (z,h'))(p:Post P w K m H z h' Q):spF P w K g vs H Q E
inductive tD(X:Cx)(F:FT)(G:aA->Option aP)(e:aR)(σ:L2.St)(H:Hp)(Q:VK):Prop
 |mk(m:List aB)(s:bf)(h:aN)(z:aP)(h':aN)(R:RH X.K m H h)(S:RS X.prog X.w X.K m H σ s)(q:aO F G e s h=aa (z,h'))(p:Post X.prog X.w X.K m H z h' Q):tD X F G e σ H Q
inductive tDs(X:Cx)(F:FT)(G:aA->Option aP)(es:aX)(σ:L2.St)(H:Hp)(Q:List V->Hp->Prop):Prop
 |mk(m:List aB)(s:bf)(h:aN)(zs:List aP)(h':aN)(R:RH X.K m H h)(S:RS X.prog X.w X.K m H σ s)(q:aZ F G es s h=aa (zs,h'))(p:∀vs H' m',Ext m H m' H'->RH X.K m' H' h'->RWs X.prog X.w X.K m' H' vs zs->Q vs H'):tDs X F G es σ H Q
inductive tDT(X:Cx)(F:FT)(G:aA->Option aP)(e:aR)(σ:L2.St)(H:Hp)(Q:Bool->Hp->Prop):Prop
 |mk(m:List aB)(s:bf)(h:aN)(b:Bool)(h':aN)(R:RH X.K m H h)(S:RS X.prog X.w X.K m H σ s)(q:aO F G e s h=aa (.p (.bl b),h'))(p:∀H' m',Ext m H m' H'->RH X.K m' H' h'->Q b H'):tDT X F G e σ H Q
def vE(P:U4)(w:Vl)(K:UM)(mg:aA->Option aC)(base:au)(k L:Nat)(g:List aP->aN->Option (aP×aN)):Prop :=
 ∀(A:VU)(q:List Env)(s:UR)(H:Hp) (f:aB) (J:List aC) (D B:List V) (m:List aB) (ws:List aP) (O:List bF) (h:aN) (z:aP) (M:aN) (Q:VK) (E:XK),fM k A->o9 P w K mg base A q s H->dF D J →
  RH K m H h->RWs P w K m H D ws->BT.noC ws=ah->jU m H f L B->RCs K m H B O->g (ws++O.map bF.w) h=aa (z,M)->Post P w K m H z M Q->ak (Vb P w) A (.call (.ref f) ⟨J,[]⟩) (CR CX0 q P w H s Q E) s
structure LX(X:Cx)(x:aA):Prop where
 mem:x∈BT.gP
 ex:∃c P,VJ X.K x=aa (c,P)/\X.env.code=.ref c/\PySem.W.CodeHd X.base c P/\∀y∈BT.gP,∀c2,VJ X.K y=aa (c2,P)->y=x
 ql:X.env.qual=x++".<locals>."
 bm:∃bm ob,X.mg "__builtins__"=aa (.ref bm)/\bm≠WI/\X.base.get? bm=aa ob/\ob.cls=.type "module"/\ob.dict=aa WI/\ob.data=.plain
noncomputable def OY:List aA:=["len","abs","int","list","tuple","isinstance","str","bool","range","reversed","enumerate","zip","min","max","sorted","sum","all","any","set","ValueError","dict"]
inductive OkC(P:U4)(w:Vl)(K:UM)(mg:aA->Option aC)(base:au)(A:VU)(f:aA)(sp:Sp):Prop
 |mk(q:aB)(fd:Wq)(ps:List aA)(k:Nat)(h1:mg f=aa (.ref q))(h2:VY K (.ref q)=ah)(B:Binds K fd ps [])(D:fM k A)(J:jv P w K mg base CX0 k q fd ps sp):OkC P w K mg base A f sp
inductive OkM(P:U4)(w:Vl)(K:UM)(mg:aA->Option aC)(base:au)(A:VU)(CX:CXT)(c m:aA)(sp:Sp):Prop
 |mk(C g:aB)(fd:Wq)(ps:List aA)(k:Nat)(h1:nQ K c C)(h2:z9 K C m g)(q:Binds K fd ps [])(B:fM k A)(D:jv P w K mg base CX k g fd ps sp):OkM P w K mg base A CX c m sp
inductive OkN(P:U4)(w:Vl)(K:UM)(mg:aA->Option aC)(base:au)(A:VU)(c:aA)(sp:Sp):Prop
 |mk(C g:aB)(fd:Wq)(ps:List aA)(k:Nat)(h1:nQ K c C)(h2:mg c=aa (.ref C))(q:Mk K C g)(B:Binds K fd ps [])(J:fM (k+1) A)(D:jv P w K mg base CX0 k g fd ps sp):OkN P w K mg base A c sp
structure Ok(X:Cx)(F:FT)(G:aA->Option aP)(sc:Vw)(N:List aA):Prop where
 hsc:X.env.scope=sc
 hN:X.N=N
 nd:X.N.Nodup
 calm:gZ N=ah->X.calm=ah
 hu:X.A.units+150<cLine
 own:aab (Vb X.prog X.w) X.A X.env X.xe
 glob:∀x z,G x=aa z->∃u v,X.mg x=aa u/\RelV v u/\∀m H,RW X.prog X.w X.K m H v z
 call:∀(f:aA) ws h r,F (.f f) ws h=aa r->OkC X.prog X.w X.K X.mg X.base X.A f (spF X.prog X.w X.K (F (.f f)))
 aH:∀(c m:aA) ws h r,F (.m c m) ws h=aa r->OkM X.prog X.w X.K X.mg X.base X.A CX0 c m (spF X.prog X.w X.K (F (.m c m)))
 mkc:∀(c:aA) ws h r,F (.m c "__init__") ws h=aa r->OkN X.prog X.w X.K X.mg X.base X.A c (spF X.prog X.w X.K (F (.m c "__init__")))
 blt:∀x∈OY,X.mg x=af
 lam:∀(L:Nat) ws h r,F (.l L) ws h=aa r->∃k,fM k X.A/\vE X.prog X.w X.K X.mg X.base k L (F (.l L))
 lamx:(∀x,X.fn x=ah)->∀x,N.contains (bH x)=ah->LX X x
def PE.weak{X:Cx}{e:UP}{t t':TE}(h:PE X e t)(q:∀σ H Q,t' σ H Q->t σ H Q):PE X e t':=λB s σ H Q I hw=>h B s σ H Q I (q _ _ _ hw)
def PT.weak{X:Cx}{e:UP}{t t':TT}(h:PT X e t)(q:∀σ H Q,t' σ H Q->t σ H Q):PT X e t':=λB s σ H Q I hw=>h B s σ H Q I (q _ _ _ hw)
def PW.weak{X:Cx}{e:UP}{t t':TT}(h:PW X e t)(q:∀σ H Q,t' σ H Q->t σ H Q):PW X e t':=λD B s σ H Q I hw=>h D B s σ H Q I (q _ _ _ hw)
def PA.weak{X:Cx}{es:List UP}{t t':TA}(h:PA X es t)(q:∀σ H Q,t' σ H Q->t σ H Q):PA X es t':=λB D s σ H Q I hw=>h B D s σ H Q I (q _ _ _ hw)
def c9{e:UP}{es:List UP}{env:Env}(h:noStar e=ah):Vo (e::es) env=(ai,eval e env)::Vo es env:=by cases e<;>first|rfl|exact aU h
def vF{b:UP}(h:kN b=ah):yu b:=λo i=>by cases b<;>first|rfl|exact aU h
def jG{o:UP}{name:aA}{env:Env}(h:dS o=ah):Yj o name env (eval o env)=eval o env:=by
 cases o with
 |Call fn q ks p =>
  cases fn with
  |Attribute _ _ _=>rfl|_=>exact aU h
 |_=>first|rfl|exact c5 h
def dw:List UP->Bool
 |[]=>ah|e::es=>noStar e&&dw es
theorem dO{pos:Pos}{env:Env}:∀{es:List UP},dw es=ah->(WU pos (Vo es env)).any (·.1)=ai
 |[],_=>rfl
 |e::es,h=>by simp only[dw,UQ]at h;rw[c9 h.1];show(ai||(WU pos (Vo es env)).any (·.1))=ai;rw[dO h.2];rfl
theorem kh{pos:Pos}{env:Env}:∀{es:List UP},dw es=ah->(WU pos (Vo es env)).all (λx=>!x.1)=ah
 |[],_=>rfl
 |e::es,h=>by simp only[dw,UQ]at h;rw[c9 h.1];show(!ai&&(WU pos (Vo es env)).all (λx=>!x.1))=ah;rw[kh h.2];rfl
def OZ:Tq->Prop
 |.es _ q=>dw q=ah|_=>True
def Dj{sc:Vw}{N:List aA}{t:Tq}(h:CQ sc N t):OZ t:=by
 induction h with
 |es_nil=>exact rfl
 |es_cons B _ _ _ q =>
  show(noStar _&&dw _)=ah;rw[UQ];exact⟨B,q⟩
 |_=>exact True.intro
def iJ{sc:Vw}{N:List aA}{as:aX}{es:List UP}(h:CEs sc N as es):dw es=ah:=Dj h
noncomputable def noM:Tq->Prop
 |.es (.cons _ _) []=>False|_=>True
def KZ{sc:Vw}{N:List aA}{t:Tq}(h:CQ sc N t):noM t:=by
 induction h with
 |_=>exact True.intro
def qd{sc:Vw}{N:List aA}{a:aR}{r:aX}(h:CEs sc N (.cons a r) []):False:=KZ h
section
variable{X:Cx}{F:FT}{G:aA->Option aP}{sc:Vw}{N:List aA}
def lK{f:BT.OpW}{e a b:aR}(g:∀s h,aO F G e s h=bI (aO F G a s h) (BT.k2 (aO F G b s) f))(σ:L2.St)(H:Hp)(Q:VK)(q:tD X F G e σ H Q):
 tOp (rOp X.prog X.w X.K f) (tD X F G a) (tD X F G b) σ H Q:=by
 obtain⟨m,s,h,z,i,R,S,M,O⟩:=q;rw[g]at M;obtain⟨x,L,e1,e2⟩:=dg M;simp only[BT.k2]at e2;obtain⟨y,J,k,j⟩:=dg e2;refine⟨m,s,h,x,L,R,S,e1,λv r d D n Z=>?_⟩;refine⟨d,s,L,y,J,n,S.ext D,k,λu p m2 B R2 Y=>?_⟩;exact⟨m2,J,x,y,z,i,R2,Z.ext B,Y,j,λV o c U l W=>O V o c ((D.trans B).trans U) l W⟩
def qe{e:aR}{t:TE}(h:∀σ H Q,tD X F G e σ H Q->t σ H Q)(σ:L2.St)(H:Hp)(Q:Bool->Hp->Prop)(q:tDT X F G e σ H Q):Bw t σ H Q:=by
 obtain⟨m,s,J,b,L,R,S,M,B⟩:=q;refine h σ H _ ⟨m,s,J,_,L,R,S,M,λv U D x O r=>?_⟩;cases r with
 |p r=>cases r;exact⟨b,rfl,B U D x O⟩
def opB{o:bD}{q:Yn}(h:IW o q=ah):OpR X (Wo q) (rOp X.prog X.w X.K (BT.tL o)):=by rw[bS h];cases o;exact KJ;exact KM;exact KO;exact KN;exact Gq
def Ja{vs:List (Key×aC)}{k:aA}:∀{es:List (aA×V)}{kvs:List (aA×aQ)}{K:UM},RDk K es kvs->KV (es.map λq=>((Sum.inr q.1:Key),q.2)) vs->(valueAt vs (Sum.inr k)).isSome=(BT.fG k kvs).isSome:=by
 intro es
 induction es generalizing vs with
 |nil =>
  intro kvs K r q;cases r;cases q;rfl
 |cons p es O =>
  intro kvs K r q;cases r with
  |@cons x v dd _ kvs r t =>
   cases q with
   |@cons p z Z Y L J =>
    obtain⟨W,U⟩:=z;obtain⟨B,D⟩:=L;simp only at B D;subst B;rw[BT.fG]
    by_cases c:k=x
    ·subst c;simp[valueAt]
    ·rw[bN c];have M:¬((Sum.inr x:Key)=Sum.inr k):=λz=>c (Sum.inr.inj z).symm;have:=O t J;simp only[valueAt]at this⊢;rw[X7 (by simpa using M)];exact this
def opC(O:Ok X F G sc N){o:BT.Cm}{i:CmpOp}(h:Gm o i=ah):OpR X (VM i) (rOp X.prog X.w X.K (bL o)):=by
 rw[bS h];cases o;exact OV O.hu;exact OW O.hu;exact ud NO rfl rfl λ_ _=>rfl;exact ud NP rfl rfl λ_ _=>rfl;exact ud NQ rfl rfl λ_ _=>rfl;exact ud NR rfl rfl λ_ _=>rfl;exact KP;exact Gv
 ·refine KQ O.hu ?_;intro B x b m H v u z A y r s Q I M U J L e q;cases B with
  |t B =>
   cases x with
   |p d =>
    cases d<;>first|exact c5 e|skip
    ·obtain rfl:=U3 e;cases L with
     |@k a j _ V L =>
      cases U;cases J with
      |p J =>
       cases J;cases M;obtain⟨W,c,g,dd⟩:=V;obtain⟨f,C,fn⟩:=map_none (dd s.heap I.kIn);refine XF (knd:=optKind X.prog X.w) (k:=af) rfl W C ?_;rw[fn];exact⟨.bl _,H,I.tok _,rfl,q⟩
    obtain rfl:=U3 e;cases L with
    |@k a j _ V L =>
     cases U;cases J with
     |p J =>
      cases J with
      |str x ok =>
       obtain⟨t,rfl⟩:=M;obtain⟨W,c,g,dd⟩:=V;have D:=dd s.heap I.kIn;refine XF (knd:=dI X.prog X.w) (iY _ _ _ t) W D.mapOf ?_;rw[Ja L g];exact⟨.bl _,H,I.tok _,rfl,q⟩
   |_=>exact c5 e
  |l B =>
   cases x with
   |p d =>
    obtain⟨k,Z,Y⟩:=dG (show(BT.jx d).map (λk=>(BT.dY B k).isSome)=aa b from e);subst Y;cases L with
    |@kl a ob ws _ E L =>
     cases U;cases J with
     |p J =>
      have P:=qa J Z;subst P;cases ue I (.inr ⟨_,E.1⟩) L k with
      |no c dd n Z Y =>
       refine XF (knd:=dI X.prog X.w) (pF M) n dd.mapOf ?_;rw[Y];exact⟨.bl _,H,I.tok _,rfl,by rw[Z]at q;exact q⟩
      |is c dd n x R S Z Y g3 T =>
       refine XF (knd:=dI X.prog X.w) (pF M) n dd.mapOf ?_;rw[Y];exact⟨.bl _,H,I.tok _,rfl,by rw[Z]at q;exact q⟩
   |_=>exact c5 e
  |_=>exact c5 e
 ·refine Gw O.hu ?_;intro B x b m H v u z A y r s Q I M U J L e q;cases B with
  |t B =>
   cases x with
   |p d =>
    cases d<;>first|exact c5 e|skip
    obtain rfl:=U3 e;cases L with
    |@k a j _ V L =>
     cases U;cases J with
     |p J =>
      cases J with
      |str x ok =>
       obtain⟨t,rfl⟩:=M;obtain⟨W,c,g,dd⟩:=V;have D:=dd s.heap I.kIn;refine wpAny_notIn_of (knd:=dI X.prog X.w) (iY _ _ _ t) W D.mapOf ?_;rw[Ja L g];exact⟨.bl _,H,I.tok _,rfl,q⟩
   |_=>exact c5 e
  |_=>exact c5 e
end
section
variable{X:Cx}{F:FT}{G:aA->Option aP}{sc:Vw}{N:List aA}
def GC(O:Ok X F G sc N)(x:aA):X.env.kindOf x=sc.names.lookup x:=by rw[←O.hsc];rfl
def ig(h:fK x=ah):(x==("__debug__":aA))=ai/\(x==("__classdict__":aA))=ai/\x≠"__name__":=by simp only[fK,UQ,Xg]at h;exact⟨h.1.1,h.1.2,λe=>by rw[e]at h;simp at h⟩
def d9(O:Ok X F G sc N)(h:d7 sc x=ah):Gl X x:=by show X.env.kindOf x=_;rw[GC O];exact bT h
def Dl(O:Ok X F G sc N)(h:nO sc x=ah):Vis X.env.scope x:=by
 rw[O.hsc];unfold nO at h;unfold Vis;cases e:sc.names.lookup x with
 |none=>rw[e]at h;exact aU h
 |some k=>rw[e]at h;cases k<;>first|(exact .inl rfl)|(exact .inr (.inl rfl))|(exact .inr (.inr rfl))|exact aU h
def uf(O:Ok X F G sc N)(h2:N[i]?=aa y)(M:nO sc y=ah)(L:fK y=ah):PE X (.Name y pos) (tD X F G (.v i)):=by
 obtain⟨V,U,_⟩:=ig L;refine PE.weak (Bj (i:=i) (by rw[O.hN];exact h2) (Dl O M) V U) fun W H Q q=>?_;obtain⟨m,s,h,z,Y,R,S,B,D⟩:=q;simp only[aO]at B;split at B
 ·rename_i w e;cases B;obtain⟨v,J,r⟩:=S.get i _ e;exact⟨v,J,D v H m (.refl _ _) R r⟩
 exact c5 B
def GD(h:IX d c=ah):PE X (.Constant c k pos) (tD X F G (.j d)):=by
 have fin:∀{v:V},(∀m H,RD X.K m H v d)->∀B H Q,tD X F G (.j d) B H Q->tC v B H Q:=λr B H Q q=>by obtain⟨m,s,h,z,L,R,S,D,J⟩:=q;simp only[aO]at D;cases D;exact J _ H m (.refl _ _) R (.p (r m H))
 cases d<;>cases c<;>first|exact aU h|skip
 exact PE.weak Jw (fin λ_ _=>.aF);cases bT h;exact PE.weak Nr (fin λ_ _=>.bl _);cases bT h;exact PE.weak wG (fin λ_ _=>.int _)
 ·have h:=Bool.and_eq_true_iff.mp h;cases bT h.1;exact PE.weak Jx (fin λ_ _=>.str _ h.2)
def GE(O:Ok X F G sc N)(h2:d7 sc y=ah)(U:fK y=ah):PE X (.Name y pos) (tD X F G (.aG y)):=by obtain⟨V,Z,_⟩:=ig U;intro J s D H Q I q;obtain⟨m,W,h,z,Y,R,S,B,L⟩:=q;simp only[aO]at B;obtain⟨w,e1,e2⟩:=dG B;cases e2;obtain⟨u,v,M,r,rw⟩:=O.glob _ _ e1;exact yj (d9 O h2) M r V J s D H Q I (L v H m (.refl _ _) R (rw m H))
def Jb(Y:∀s h,aO F G e s h=bI (aO F G a s h) k)(q:tD X F G e σ H Q)
(h1:∀m h x z h' v H1,RH X.K m H1 h->RW X.prog X.w X.K m H1 v x->k x h=aa (z,h')->Post X.prog X.w X.K m H1 z h' Q->R' v H1):tD X F G a σ H R':=by
 obtain⟨m,s,h,z,h',R,S,B,D⟩:=q;rw[Y]at B;obtain⟨x,g,e1,e2⟩:=dg B;exact⟨m,s,h,x,g,R,S,e1,λv H1 W L b U=>h1 W g x z h' v H1 b U e2 λM c V J Z O=>D M c V (L.trans J) Z O⟩
def oM(Y:∀s h,aO F G e s h=bI (aZ F G as s h) k)(q:tD X F G e σ H Q)
(h1:∀m h xs z h' vs H1,RH X.K m H1 h->RWs X.prog X.w X.K m H1 vs xs->k xs h=aa (z,h')->Post X.prog X.w X.K m H1 z h' Q->R' vs H1):tDs X F G as σ H R':=by
 obtain⟨m,s,h,z,h',R,S,B,D⟩:=q;rw[Y]at B;obtain⟨x,g,e1,e2⟩:=dg B;exact⟨m,s,h,x,g,R,S,e1,λv H1 W L a U=>h1 W g x z h' v H1 a U e2 λM b V J Z O=>D M b V (L.trans J) Z O⟩
def ty_list(R:RH X.K m H h)(r:RW X.prog X.w X.K m H v (.r n))(ok:BT.tM (.r n) h=ah):tyV X.K "list" v H:=by
 cases r with
 |@r a _ hn =>
  obtain⟨q,e⟩:=Option.isSome_iff_exists.mp ok;obtain⟨B,e,_⟩:=R.cell n a q hn e;exact .inl ⟨rfl,B,.inl (.inl e)⟩
def yR(e:BT.kMe m ea x h=aa r):BT.tM x h=ah/\bI (ea h) (aW m x)=aa r:=by unfold BT.kMe at e;split at e;rename_i c;exact⟨c,e⟩;exact c5 e
def SO(B:m=.append\/m=.pop\/m=.extend)(e:aW m x ws h=aa (z,h')):∃n,x=.r n:=by
 cases x with
 |r n=>exact⟨n,rfl⟩
 |p d =>
  rcases B with rfl|rfl|rfl<;>cases ws<;>rw[yP]at e<;>(split at e<;>(try exact c5 e))<;>exact c5 e
 |k q =>
  rcases B with rfl|rfl|rfl<;>cases ws<;>(first|exact c5 e|simp[aW]at e)
 |x _ =>
  rcases B with rfl|rfl|rfl<;>cases ws<;>(first|exact c5 e|simp[aW]at e)
 |c _ _ =>
  rcases B with rfl|rfl|rfl<;>cases ws<;>(first|exact c5 e|simp[aW]at e)
 |o q =>
  rcases B with rfl|rfl|rfl<;>cases ws<;>(first|exact c5 e|simp[aW]at e)
end
section
def ug{X:Cx}{e a:aR}{k:bf->aP->aN->Option (aP×aN)}(b:∀s h,aO F G e s h=bI (aO F G a s h) (k s)){σ:L2.St}{H:Hp}{Q:VK}(q:tD X F G e σ H Q){J:V->Hp->Prop}
(h1:∀m s h x z h' v H1,RH X.K m H1 h->RS X.prog X.w X.K m H1 σ s->RW X.prog X.w X.K m H1 v x->k s x h=aa (z,h')->Post X.prog X.w X.K m H1 z h' Q->J v H1):tD X F G a σ H J:=by
 obtain⟨m,s,h,z,h',R,S,D,L⟩:=q;rw[b]at D;obtain⟨x,g,e1,e2⟩:=dg D;exact⟨m,s,h,x,g,R,S,e1,λv H1 Z B d W=>h1 Z s g x z h' v H1 d (S.ext B) W e2 λO f Y M c U=>L O f Y (B.trans M) c U⟩
def K0{X:Cx}{e a:aR}{k:bf->Bool->aN->Option (aP×aN)}{kk:bf->aP->aN->Option (aP×aN)}(Z:∀s h,aO F G e s h=bI (aO F G a s h) (kk s))
(Y:∀s x h r,kk s x h=aa r->∃b,x=.p (.bl b)/\k s b h=aa r){σ:L2.St}{H:Hp}{Q:VK}(q:tD X F G e σ H Q){J:Bool->Hp->Prop}
(h1:∀m s h b z h' H1,RH X.K m H1 h->RS X.prog X.w X.K m H1 σ s->k s b h=aa (z,h')->Post X.prog X.w X.K m H1 z h' Q->J b H1):tDT X F G a σ H J:=by
 obtain⟨m,s,h,z,h',R,S,D,L⟩:=q;rw[Z]at D;obtain⟨x,g,e1,e2⟩:=dg D;obtain⟨b,rfl,c⟩:=Y _ _ _ _ e2;exact⟨m,s,h,b,g,R,S,e1,λH1 W B f=>h1 W s g b z h' H1 f (S.ext B) c λO i V M d U=>L O i V (B.trans M) d U⟩
def nj(r:RW P w K m H v (.p (.bl b))):v=.bl b:=by cases r with|p r=>cases r;rfl
def yS(e:BT.F8 eb x h=aa r):∃b,x=.p (.bl b)/\(if b=ah then eb h else aa (.p (.bl ai),h))=aa r:=by
 cases x with
 |p d =>
  cases d<;>simp only[BT.F8]at e<;>try contradiction
  exact⟨_,rfl,e⟩
 |_=>exact c5 e
def Dm(e:BT.kOr eb x h=aa r):∃b,x=.p (.bl b)/\(if b=ah then aa (.p (.bl ah),h)else eb h)=aa r:=by
 cases x with
 |p d =>
  cases d<;>simp only[BT.kOr]at e<;>try contradiction
  exact⟨_,rfl,e⟩
 |_=>exact c5 e
def GF(e:BT.F9 ea eb x h=aa r):∃b,x=.p (.bl b)/\(if b=ah then ea h else eb h)=aa r:=by
 cases x with
 |p d =>
  cases d<;>simp only[BT.F9]at e<;>try contradiction
  exact⟨_,rfl,e⟩
 |_=>exact c5 e
def yT(e:BT.F7 x h=aa r):∃b,x=.p (.bl b)/\r=(.p (.bl (!b)),h):=by
 cases x with
 |p d =>
  cases d<;>simp only[BT.F7]at e<;>try contradiction
  cases e;exact⟨_,rfl,rfl⟩
 |_=>exact c5 e
def GG(e:BT.F6 x h=aa r):∃i,x=.p (.int i)/\r=(.p (.int (-i)),h):=by
 cases x with
 |p d =>
  cases d<;>simp only[BT.F6]at e<;>try contradiction
  cases e;exact⟨_,rfl,rfl⟩
 |_=>exact c5 e
def yU{X:Cx}{a b:aR}(σ:L2.St)(H:Hp)(Q:VK)(q:tD X F G (.and a b) σ H Q):II (tD X F G a) (tD X F G b) σ H Q:=by
 refine ug (k:=λs=>BT.F8 (aO F G b s)) (λs h=>by simp only[aO]) q λm s h x z D v J R S r e B=>?_;obtain⟨c,rfl,e2⟩:=yS e;refine⟨c,nj r,?_⟩;cases c with
 |true=>rw[bM rfl]at e2⊢;exact⟨m,s,h,z,D,R,S,e2,B⟩|false=>rw[bN (by decide)]at e2⊢;cases e2;exact B.here R (.bl _)
def Dn{X:Cx}{a b:aR}(σ:L2.St)(H:Hp)(Q:VK)(q:tD X F G (.or a b) σ H Q):Nv (tD X F G a) (tD X F G b) σ H Q:=by
 refine ug (k:=λs=>BT.kOr (aO F G b s)) (λs h=>by simp only[aO]) q λm s h x z D v J R S r e B=>?_;obtain⟨c,rfl,e2⟩:=Dm e;refine⟨c,nj r,?_⟩;cases c with
 |true=>rw[bM rfl]at e2⊢;cases e2;exact B.here R (.bl _)|false=>rw[bN (by decide)]at e2⊢;exact⟨m,s,h,z,D,R,S,e2,B⟩
def yV(σ:L2.St)(H:Hp)(Q:Bool->Hp->Prop)(q:tDT X F G (.and a b) σ H Q):Nt (tDT X F G a) (tDT X F G b) σ H Q:=by
 obtain⟨m,s,h,c,V,R,S,M,J⟩:=q;simp only[aO]at M;obtain⟨x,g,e1,e2⟩:=dg M;obtain⟨d,rfl,B⟩:=yS e2;refine⟨m,s,h,d,g,R,S,e1,λY L D O=>?_⟩;cases d with
 |true=>rw[bM rfl]at B⊢;exact⟨L,s,g,c,V,O,S.ext D,B,λW m2 U R2=>J W m2 (D.trans U) R2⟩|false=>rw[bN (by decide)]at B⊢;cases B;exact J Y L D O
def Do(σ:L2.St)(H:Hp)(Q:Bool->Hp->Prop)(q:tDT X F G (.or a b) σ H Q):tOr (tDT X F G a) (tDT X F G b) σ H Q:=by
 obtain⟨m,s,h,c,V,R,S,M,J⟩:=q;simp only[aO]at M;obtain⟨x,g,e1,e2⟩:=dg M;obtain⟨d,rfl,B⟩:=Dm e2;refine⟨m,s,h,d,g,R,S,e1,λY L D O=>?_⟩;cases d with
 |true=>rw[bM rfl]at B⊢;cases B;exact J Y L D O|false=>rw[bN (by decide)]at B⊢;exact⟨L,s,g,c,V,O,S.ext D,B,λW m2 U R2=>J W m2 (D.trans U) R2⟩
def GH(σ:L2.St)(H:Hp)(Q:Bool->Hp->Prop)(q:tDT X F G (.not a) σ H Q):Nu (tDT X F G a) σ H Q:=by obtain⟨m,s,h,c,M,R,S,B,D⟩:=q;simp only[aO]at B;obtain⟨x,g,e1,e2⟩:=dg B;obtain⟨d,rfl,O⟩:=yT e2;cases O;exact⟨m,s,h,d,M,R,S,e1,λV L J U=>D V L J U⟩
def GI{X:Cx}{a:aR}(σ:L2.St)(H:Hp)(Q:VK)(q:tD X F G (.not a) σ H Q):IJ (tD X F G a) σ H Q:=by refine ug (k:=λs=>BT.F7) (λs h=>by simp only[aO]) q λm s h x z D v J R S r e B=>?_;obtain⟨c,rfl,e2⟩:=yT e;cases e2;exact⟨c,nj r,B.here R (.bl _)⟩
def K1{X:Cx}{c a b:aR}(σ:L2.St)(H:Hp)(Q:VK)(q:tD X F G (.ite c a b) σ H Q):tIf (tDT X F G c) (tD X F G a) (tD X F G b) σ H Q:=by
 refine K0 (k:=λs t h=>if t=ah then aO F G a s h else aO F G b s h) (kk:=λs=>BT.F9 (aO F G a s) (aO F G b s)) (λs h=>by simp only[aO]) (λs x h r e=>GF e) q λm s h t z D J R S e B=>?_;cases t with
 |true=>rw[bM rfl]at e⊢;exact⟨m,s,h,z,D,R,S,e,B⟩|false=>rw[bN (by decide)]at e⊢;exact⟨m,s,h,z,D,R,S,e,B⟩
def K2{X:Cx}{a:aR}(σ:L2.St)(H:Hp)(Q:VK)(q:tD X F G (.neg a) σ H Q):tUn (rU λi=>.int (-i)) (tD X F G a) σ H Q:=by refine ug (k:=λs=>BT.F6) (λs h=>by simp only[aO]) q λm s h x z D v J R S r e B=>?_;obtain⟨c,rfl,e2⟩:=GG e;cases e2;cases r with|p r=>cases r;exact⟨c,rfl,B.here R (.int _)⟩
def vG(σ:L2.St)(H:Hp)(Q:VK)(q:tD X F G (.chain o o' a b c) σ H Q):
 wM (rOp X.prog X.w X.K (bL o)) (rOp X.prog X.w X.K (bL o')) (tD X F G a) (tD X F G b) (tD X F G c) σ H Q:=by
 obtain⟨m,s,h,z,h',R,S,T,n⟩:=q;simp only[aO]at T;obtain⟨x,P,e1,e2⟩:=dg T;simp only[BT.k2]at e2;obtain⟨y,L,e3,B⟩:=dg e2;refine⟨m,s,h,x,P,R,S,e1,λv H1 m1 Y R1 r1=>?_⟩;refine⟨m1,s,P,y,L,R1,S.ext Y,e3,λu H2 m2 W R2 C=>?_⟩;unfold BT.oCh at B;cases g:bq x L with
 |none=>rw[g]at B;exact c5 B
 |some d =>
  cases y with
  |p J =>
   rw[g]at B;simp only at B;have N:∀(o:BT.Cm)(i:aP)(O:aN) dd,bq i O=aa dd->∀U D,bq U O=aa D->bL o i U O=(BT.gI o dd D).map λz=>(.p (.bl z),O):=by
    intro o i O dd E U D j;unfold bL;cases U with
    |p _=>simp only[E,j]|r _=>simp only[E,j]|_=>exact c5 j
   cases l:BT.gI o d J with
   |none=>rw[l]at B;exact c5 B
   |some t =>
    rw[l]at B;refine⟨m2,L,x,.p J,.p (.bl t),L,R2,r1.ext W,C,by rw[N o x L d g (.p J) J rfl,l];rfl,λv3 H3 I V R3 r3=>⟨t,nj r3,?_⟩⟩;cases t with
    |false =>
     rw[bN (by decide)];cases B;exact n _ H3 I ((Y.trans W).trans V) R3 (.p (.bl _))
    |true =>
     rw[bM rfl];obtain⟨Z,e,e5,M⟩:=dg B;refine⟨I,s,L,Z,e,R3,((S.ext Y).ext W).ext V,e5,λv4 H4 m4 A R4 r4=>?_⟩;unfold BT.Om at M;cases k:bq Z e with
     |none=>rw[k]at M;exact c5 M
     |some f =>
      rw[k]at M;simp only at M;refine⟨m4,e,.p J,Z,z,h',R4,(C.ext V).ext A,r4,by rw[N o' (.p J) e J rfl Z f k];exact M,λv5 H5 m5 x5 R5 r5=>n v5 H5 m5 ((((Y.trans W).trans V).trans A).trans x5) R5 r5⟩
  |_=>rw[g]at B;exact c5 B
def K3{lo:aX}(t:∀σ H (Q:Option Int->Hp->Prop),(∃m s h l zs h',RH X.K m H h/\RS X.prog X.w X.K m H σ s/\aZ F G lo s h=aa (zs,h')/\(bB zs).bind BT.tF=aa l/\∀H' m',Ext m H m' H'->RH X.K m' H' h'->Q l H')->tl σ H Q)
(y:∀σ H (Q:Option Int->Hp->Prop),(∃m s h l zs h',RH X.K m H h/\RS X.prog X.w X.K m H σ s/\aZ F G hi s h=aa (zs,h')/\(bB zs).bind BT.tF=aa l/\∀H' m',Ext m H m' H'->RH X.K m' H' h'->Q l H')->th σ H Q)
(σ:L2.St)(H:Hp)(Q:VK)(q:tD X F G (.n a lo hi) σ H Q):tSl (rSl X.prog X.w X.K) (tD X F G a) tl th σ H Q:=by
 obtain⟨m,s,h,z,h',R,S,c,f⟩:=q;simp only[aO]at c;obtain⟨x,Z,e1,e2⟩:=dg c;simp only[BT.Oq]at e2;obtain⟨W,Y,N,e⟩:=dg e2;simp only[BT.Oo]at e;obtain⟨V,A,I,B⟩:=dg e;unfold BT.On at B;cases D:bq x A with
 |none=>rw[D]at B;exact c5 B
 |some d =>
  cases J:(bB W).bind BT.tF with
  |none=>rw[D,J]at B;exact c5 B
  |some l =>
   cases O:(bB V).bind BT.tF with
   |none=>rw[D,J,O]at B;exact c5 B
   |some u =>
    rw[D,J,O]at B;simp only at B;obtain⟨b,E,C⟩:=dG B;cases C;refine⟨m,s,h,x,Z,R,S,e1,λv H1 r M R1 k=>t σ H1 _ ⟨r,s,Z,l,W,Y,R1,S.ext M,N,J,λH2 m2 L R2=>y σ H2 _ ⟨m2,s,Y,u,V,h',R2,(S.ext M).ext L,I,O,λH3 p U T=>?_⟩⟩⟩;exact⟨p,h',x,d,b,T,(k.ext L).ext U,D,E,λi H5 o g P j=>f i H5 o (((M.trans L).trans U).trans g) P j⟩
end
section
def yW(J:sp=spF X.prog X.w X.K (F (.f f)))(q:tD X F G (.call f as) σ H Q):BH sp [] E0 (tDs X F G as) σ H Q:=by subst J;refine oM (k:=λws h=>F (.f f) ws h) (λs h=>by simp only[aO]) q λm h D z L M O R r e B=>?_;rw[Vn];exact⟨m,D,h,z,L,R,r,e,B⟩
def kR(q:tDs X F G .nil σ H Q):BD σ H Q:=by obtain⟨m,s,h,J,L,R,S,B,D⟩:=q;simp only[aZ]at B;cases B;exact D [] H m (.refl _ _) R .nil
def Dp(O:Ok X F G sc N)(W:d7 sc f=ah)(hn:fK f=ah)(Y:CEs sc N as es)(c:PA X es (tDs X F G as)):
 PE X (.Call (.Name f p) es [] pos) (tD X F G (.call f as)):=by
 have B:=iJ Y;intro J s D H Q I q;have L:=q;obtain⟨m,g,h,z,l,R,S,b,d⟩:=q;simp only[aO]at b;obtain⟨ws,j,e1,e2⟩:=dg b;obtain⟨o,n,i,k,U,V,Z,M,ok⟩:=O.call _ _ _ _ e2;cases es with
 |nil =>
  cases as with
  |cons a r=>exact(qd Y).elim|nil=>exact(PE.weak (BK ok M (d9 O W) U V Z .nil pC (ig hn).1) (fun D H Q z=>kR (yW (X:=X) rfl z))) J s D H Q I L
 |cons e es =>
  simp only[dw,UQ]at B;exact(PE.weak (Fx ok M (d9 O W) U V Z .nil pC c (ig hn).1 (c9 B.1) (dO B.2)) (fun D H Q z=>yW rfl z)) J s D H Q I L
def uh{id:String}(j:PlainAttrs T)(D:Slot T name id)
(U:typeOf (.builtin id)=pure (.type "method_descriptor"))(l:MtR X id (rMe X.prog X.w X.K me))(t:dS oe=ah)(n:(apos.endLine==cpos.line)=ah)(W:es.length<20)(k:PE X oe (tD X F G o))(p:CEs sc N as es)(P:PA X es (tDs X F G as))
(ty:∀(m:List aB)(h h2:aN)(H:Hp)(v:V) (x:aP) ws r,RH X.K m H h->RW X.prog X.w X.K m H v x->BT.tM x h=ah->aW me x ws h2=aa r->(∃σ s,RS X.prog X.w X.K m H σ s/\∃h0,aO F G o s h0=aa (x,h))->tyV X.K T v H):
 PE X (.Call (.Attribute oe name apos) es [] cpos) (tD X F G (.me me o as)):=by
 have B:=iJ p;have O:∀σ H Q,tD X F G (.me me o as) σ H Q->tBM X.K T (rMe X.prog X.w X.K me) (tD X F G o) (tDs X F G as) σ H Q:=by intro σ H Q q;obtain⟨m,s,h,z,g,R,S,b,Z⟩:=q;simp only[aO]at b;obtain⟨x,f,e1,e2⟩:=dg b;obtain⟨ok,e2⟩:=yR e2;obtain⟨ws,h2,e3,u⟩:=dg e2;refine⟨m,s,h,x,f,R,S,e1,λv c M J Y L=>⟨ty M f h2 c v x ws _ Y L ok u ⟨σ,s,S.ext J,h,e1⟩,M,s,f,ws,h2,Y,S.ext J,e3,λvs H2 m2 i R2 E=>?_⟩⟩;exact⟨m2,h2,x,ws,z,g,R2,L.ext i,E,u,λA H5 I y R5 C=>Z A H5 I ((J.trans i).trans y) R5 C⟩
 cases es with
 |nil =>
  cases as with
  |cons a r=>exact(qd p).elim
  |nil =>
   refine PE.weak (JX j D U l k (jG t) n) fun σ H Q q=>?_;obtain⟨m,s,h,z,g,R,S,b,Z⟩:=O σ H Q q;exact⟨m,s,h,z,g,R,S,b,λv c M J Y L=>⟨(Z v c M J Y L).1,kR (Z v c M J Y L).2⟩⟩
 |cons e es =>
  simp only[dw,UQ] at B;refine PE.weak (uX j D U l k P (jG t) ?_ n (c9 B.1) (dO B.2)) O;rw[kh (es:=e::es) (by simp only[dw,UQ];exact B)];have d:decide ((e::es).length+([]:List X6).length+(if ([]:List X6).isEmpty then 0 else 1) < 30)=ah:=bR (by
   simp only[Va,Wa,List.isEmpty_nil,if_true] at W ⊢;lia)
  rw[d];rfl
def jV(q:tD X F G (.bi b mu as) σ H Q):tCB (rBi X.prog X.w X.K b mu) (tDs X F G as) σ H Q:=by refine oM (k:=λws h=>BT.kBi b mu ws h) (λs h=>by simp only[aO]) q λm h D z J L M R r e B=>?_;exact⟨m,h,D,z,J,R,r,e,B⟩
def K4(O:Ok X F G sc N)(U:gZ N=ah)(V:IY b mu x=ah)(B:d7 sc x=ah)(q:dw (e::es)=ah)(D:PA X (e::es) (tDs X F G as)):
 PE X (.Call (.Name x p) (e::es) [] pos) (tD X F G (.bi b mu as)):=by
 simp only[dw,UQ]at q;have M:CJ b mu=aa x:=bT V;have J:=O.blt;cases b<;>cases mu<;>first|exact c5 M|(change aa _=aa _ at M)
 all_goals (cases M)
 exact PE.weak (gU KW (d9 O B) (J _ (by decide)) PySem.boot_len D (by decide) (by decide) (c9 q.1) (dO q.2)) (fun L H Q z=>jV z);exact PE.weak (kI KY (d9 O B) (J _ (by decide)) (by decide +kernel) D (by decide) (by decide) (c9 q.1) (dO q.2)) (fun L H Q z=>jV z);exact PE.weak (kI yQ (d9 O B) (J _ (by decide)) (by decide +kernel) D (by decide) (by decide) (c9 q.1) (dO q.2)) (fun L H Q z=>jV z);exact PE.weak (kI yQ (d9 O B) (J _ (by decide)) (by decide +kernel) D (by decide) (by decide) (c9 q.1) (dO q.2)) (fun L H Q z=>jV z);exact PE.weak (kI De (d9 O B) (J _ (by decide)) (by decide +kernel) D (by decide) (by decide) (c9 q.1) (dO q.2)) (fun L H Q z=>jV z);exact PE.weak (gU rV (d9 O B) (J _ (by decide +kernel)) (by decide +kernel) D (by decide) (by decide) (c9 q.1) (dO q.2)) (fun L H Q z=>jV z);exact PE.weak (gU rV (d9 O B) (J _ (by decide +kernel)) (by decide +kernel) D (by decide) (by decide) (c9 q.1) (dO q.2)) (fun L H Q z=>jV z);exact PE.weak (gU (Gz (O.calm U)) (d9 O B) (J _ (by decide +kernel)) (by decide +kernel) D (by decide) (by decide) (c9 q.1) (dO q.2)) (fun L H Q z=>jV z);exact PE.weak (gU (GA (O.calm U)) (d9 O B) (J _ (by decide +kernel)) (by decide +kernel) D (by decide) (by decide) (c9 q.1) (dO q.2)) (fun L H Q z=>jV z)
def AK(L:vq b=aa (c,f)):fF X (.builtin "isinstance") (λvs H Q=>∃v,vs=[v,.ty c]/\rBi X.prog X.w X.K b ai [v] H Q):=by
 intro Y s W H vs Z Q I D h;obtain⟨v,rfl,m,h,ws,z,g,R,B,e,M⟩:=h;obtain⟨u,a,rfl,U,J⟩:=D.two;cases J;obtain⟨i,d,e1,e2,⟨_,rfl,rfl⟩|⟨_,q,_⟩⟩:=iO e
 ·have V:=iz R B e1;cases V with
  |cons r t =>
   cases t;rw[Dg L]at e2;cases e2;exact GB I r U (Dh L X.K _) λO=>⟨.bl _,H,I.tok O,rfl,M.here R (.bl _)⟩
 exact aU q
def Dq(O:Ok X F G sc N)(L:vq b=aa (c,f))(l:d7 sc "isinstance"=ah)(B:d7 sc (U7 c)=ah)(D:noStar e=ah)(o:PE X e (tD X F G a)):
 PE X (.Call (.Name "isinstance" p) [e,.Name (U7 c) p2] [] pos) (tD X F G (.bi b ai (.cons a .nil))):=by
 have J:=O.blt;have n:PE X (.Name (U7 c) p2) (tC (.ty c)):=by
  cases b<;>simp only[vq]at L<;>try contradiction
  all_goals (cases L)
  exact oE (d9 O B) (J _ (by decide)) (u:=.type "int") (by decide +kernel) rfl (by decide) (by decide);exact oE (d9 O B) (J _ (by decide)) (u:=.type "bool") (by decide +kernel) rfl (by decide) (by decide);exact oE (d9 O B) (J _ (by decide)) (u:=.type "str") (by decide +kernel) rfl (by decide) (by decide);exact oE (d9 O B) (J _ (by decide)) (u:=.type "tuple") (by decide +kernel) rfl (by decide) (by decide)
 refine PE.weak (gU (AK L) (d9 O l) (J _ (by decide)) (by decide +kernel) (ju o (ju n sV) (c9 D)) (by decide) (by decide) (c9 D) rfl) fun C H Q q=>?_;obtain⟨m,s,h,z,r,R,S,U,W⟩:=q;simp only[aO,aZ]at U;obtain⟨ws,M,e1,e2⟩:=dg U;obtain⟨x,E,t,V⟩:=dg e1;simp only[BT.k9,BT.eU,BT.jz]at V;cases V;refine⟨m,s,h,x,M,R,S,t,λv I k Z y i=>?_⟩;exact⟨v,rfl,k,M,[x],z,r,y,.cons i .nil,e2,λd A j Y w g=>W d A j (Z.trans Y) w g⟩
def K5(σ:L2.St)(H:Hp)(Q:VK)(q:tD X F G (.aE as) σ H Q):JQ (tDs X F G as) σ H Q:=by
 refine oM (k:=λws h=>BT.Km ws h) (λs h=>by simp only[aO]) q λm h D z O L V R r e B=>?_;unfold BT.Km at e;cases g:bB D with
 |none=>rw[g]at e;exact c5 e
 |some U =>
  rw[g]at e;simp only at e;obtain⟨c,e⟩:=dH e;cases e;have rd:=r.pure g;have:=fL;have M:=rd.length;exact⟨by lia,λp J=>mz R J rd B⟩
def K6(σ:L2.St)(H:Hp)(Q:VK)(q:tD X F G (.aD mu as) σ H Q):NU (tDs X F G as) σ H Q:=by
 refine oM (k:=λws h=>BT.Kn mu ws h) (λs h=>by simp only[aO]) q λm h D z L U W R r e B=>?_;unfold BT.Kn at e;cases g:bB D with
 |none=>rw[g]at e;exact c5 e
 |some O =>
  rw[g]at e;simp only at e;split at e
  ·rename_i c;have rd:=r.pure g;have:=fL;have V:=rd.length;have M:BT.new mu O h=(z,L):=U3 e;exact⟨by lia,λp J=>tW (mu:=mu) R J rd (by rw[M];exact B)⟩
  exact c5 e
def cons_of(σ:L2.St)(H:Hp)(Q:List V->Hp->Prop)(q:tDs X F G (.cons a as) σ H Q):IM (tD X F G a) (tDs X F G as) σ H Q:=by obtain⟨m,s,h,f,b,R,S,L,O⟩:=q;simp only[aZ]at L;obtain⟨x,J,e1,e2⟩:=dg L;simp only[BT.k9]at e2;obtain⟨U,i,c,M⟩:=dg e2;simp only[BT.jz]at M;cases M;exact⟨m,s,h,x,J,R,S,e1,λv j Z D d Y=>⟨Z,s,J,U,b,d,S.ext D,c,λg e m2 B R2 W=>O _ e m2 (D.trans B) R2 (.cons (Y.ext B) W)⟩⟩
end
section
variable{K:UM}
theorem RFs.get:∀{vs:List (aA×V)}{fs:List (aA×aP)},RFs K m H vs fs->BT.eN f fs=aa x->∃v,vs.lookup f=aa v/\RA K m H v x
 |_,_,.nil,e=>by exact c5 e
 |_,_,.cons (f:=g) r t,e=>by
  rw[BT.rR]at e
  by_cases c:f=g
  rw[bM c]at e;cases e;subst c;exact⟨_,by simp,r⟩
  ·rw[bN c]at e;obtain⟨v,B,q⟩:=RFs.get t e;exact⟨v,by rw[Wg];rw[beq_false_of_ne c];exact B,q⟩
theorem RFs.none:∀{vs:List (aA×V)}{fs:List (aA×aP)},RFs K m H vs fs->(BT.eN f fs).isNone=ah->vs.lookup f=af
 |_,_,.nil,_=>rfl
 |_,_,.cons (f:=g) r t,e=>by
  rw[BT.rR]at e
  by_cases c:f=g
  rw[bM c]at e;exact aU e
  ·rw[bN c]at e;rw[Wg,beq_false_of_ne c];exact RFs.none t e
theorem RFs.put(q:RA K m H v x):∀{vs:List (aA×V)}{fs:List (aA×aP)},RFs K m H vs fs->RFs K m H (L2.eV f v vs) (BT.eV f x fs)
 |_,_,.nil=>.cons q .nil
 |_,_,.cons (f:=g) r t=>by
  rw[L2.eV,BT.Am]
  by_cases c:f=g
  rw[bM c,bM c.symm];subst c;exact .cons q t;rw[bN c,bN (VN c)];exact .cons r (RFs.put q t)
theorem RFs.length:∀{vs:List (aA×V)}{fs:List (aA×aP)},RFs K m H vs fs->vs.length=fs.length
 |_,_,.nil=>rfl
 |_,_,.cons _ t=>by rw[Va,Va,RFs.length t]
end
section
def GJ(e:BT.Ga f x h=aa r):∃n c fs w,x=.o n/\bw h n=aa (c,fs)/\BT.eN f fs=aa w/\r=(w,h):=by
 cases x with
 |o n =>
  rw[BT.Kp]at e;cases g:bw h n with
  |none=>rw[g]at e;exact c5 e
  |some q =>
   obtain⟨c,fs⟩:=q;rw[g]at e;obtain⟨w,e1,e2⟩:=dG e;exact⟨n,c,fs,w,rfl,g,e1,e2.symm⟩
 |_=>exact c5 e
def GK{sc:Vw}{N:List aA}(M:dS x=ah)(L:attrName f=ah)(O:PE X x (tD X F G a)):PE X (.Attribute x f p) (tD X F G (.i a f)):=by
 refine PE.weak (JO O (jG M)) fun b H Q q=>?_;refine Jb (k:=BT.Ga f) (λs h=>by simp only[aO]) q λm h x z d v Z R r e D=>?_;obtain⟨n,c,fs,w,rfl,e1,e2,W⟩:=GJ e;cases W;cases r with
 |o hn =>
  obtain⟨C,Y,J,V,B,U⟩:=R.rS _ _ _ _ hn e1;obtain⟨u,l,ra⟩:=U.get e2;exact⟨_,C,Y,J,u,rfl,V,B.cls,B.no f L,l,D u Z m (.refl _ _) R ra.rw⟩
def nk(O:dS o=ah)(q:dw args=ah)(D:args.length<20)(L:(apos.endLine==pos.line)=ah):
 eval (.Call (.Attribute o m apos) args [] pos) env=(do
  let ov ←eval o env
  Z3 apos.atName
  let (f,first) ←Yi [ov] (Z5 ov m (do return (←importBound o env).getD ah))
  callWith pos f first (WU pos (Vo args env)) (Za pos (XI [] env))):=by
 have M:methodCallForm (args.length+([]:List X6).length) (WU pos (Vo args env)) (Za pos (XI [] env))=ah:=by
  unfold methodCallForm;have B:decide (args.length+([]:List X6).length+(if (Za pos (XI [] env)).isEmpty then 0 else 1) < 30)=ah:=bR (by
   show args.length+0+0 < 30;lia)
  rw[B,kh q];rfl
 rw[arm_eval_Call,jG O];unfold methodCall;rw[M];have J:methodCallPos ah o env apos pos=pure pos:=by unfold methodCallPos;rw[L];rfl
 rw[J];rfl
def Dr(e:BT.Cq F m ea x h=aa r):
 ∃n c fs ws g,x=.o n/\bw h n=aa (c,fs)/\(BT.eN m fs).isNone=ah/\ea h=aa (ws,g)/\F (.m c m) (.o n::ws) g=aa r:=by
 cases x with
 |o n =>
  rw[BT.Gb]at e;cases g:bw h n with
  |none=>rw[g]at e;exact c5 e
  |some q =>
   obtain⟨c,fs⟩:=q;rw[g]at e;simp only at e;split at e
   ·rename_i D;obtain⟨ws,B,e1,e2⟩:=dg e;exact⟨n,c,fs,ws,B,rfl,g,D,e1,e2⟩
   exact c5 e
 |_=>exact c5 e
def Ds(O:Ok X F G sc N)(hb:dS oe=ah)(P:(apos.endLine==cpos.line)=ah)(D:es.length<20)(E:PE X oe (tD X F G o))(T:CEs sc N as es)(ha:PA X es (tDs X F G as)):
 PE X (.Call (.Attribute oe m apos) es [] cpos) (tD X F G (.aH o m as)):=by
 have J:=iJ T;intro u s Y H Q I q;obtain⟨m0,A,h,z,p,R,S,U,Z⟩:=q;simp only[aO]at U;obtain⟨x,h1,e1,e2⟩:=dg U;obtain⟨n,c,fs,ws,g,rfl,e3,e4,e5,e6⟩:=Dr e2;obtain⟨C,ga,fd,ps,k,l,hM,hB,hR,ok⟩:=O.aH _ _ _ _ _ e6;have L:BI C m (spF X.prog X.w X.K (F (.m c m))) [] E0 (tD X F G o) (tDs X F G as) Y H Q:=by
  refine⟨m0,A,h,.o n,h1,R,S,e1,λv H1 j M W b=>?_⟩;cases b with
  |@o a _ hn =>
   obtain⟨C',t,vs,i,f,d⟩:=W.rS _ _ _ _ hn e3;cases f.cn.inj l.cn;refine⟨a,t,vs,rfl,i,d.none e4,j,A,h1,ws,g,W,S.ext M,e5,λus H2 m2 y R2 r2=>?_⟩;show spF X.prog X.w X.K (F (.m c m)) (V.ref a::(us++[])) H2 Q E0;rw[Vn];exact⟨m2,.o n::ws,g,z,p,R2,.cons (.o (y.ix hn)) r2,e6,λv5 H5 m5 x5 R5 r5=>Z v5 H5 m5 ((M.trans y).trans x5) R5 r5⟩
 cases es with
 |nil =>
  cases as with
  |cons a r=>exact(qd T).elim
  |nil =>
   refine BN E l.cls hM ok hR hB .nil pC (nk hb J D P) u s Y H Q I ?_;obtain⟨m,s,h,z,p,R,S,U,Z⟩:=L;refine⟨m,s,h,z,p,R,S,U,λv H1 j M W b=>?_⟩;obtain⟨a,t,fs,i,f,d,q4⟩:=Z v H1 j M W b;exact⟨a,t,fs,i,f,d,kR q4⟩
 |cons e es =>
  have B:=J;simp only[dw,UQ]at B;exact Fy E l.cls hM ok hR hB .nil pC ha (c9 B.1) (dO B.2) (nk hb J D P) u s Y H Q I L
def Dt(O:Ok X F G sc N)(t:d7 sc c=ah)(hn:fK c=ah)(u:CEs sc N as es)(ha:PA X es (tDs X F G as)):
 PE X (.Call (.Name c p) es [] pos) (tD X F G (.make c as)):=by
 have J:=iJ u;intro i s b H Q I q;obtain⟨m0,s',h,z,T,R,S,ee,zr⟩:=q;simp only[aO]at ee;obtain⟨ws,L,e1,e2⟩:=dg ee;rw[BT.Cr]at e2;obtain⟨y,h2,e3,Z⟩:=dg e2;have g:y=.p .aF/\(z,T)=(.o L.length,h2):=by
  cases y with
  |p d=>cases d<;>simp[BT.yF]at Z;exact⟨rfl,by rw[Z.1,Z.2]⟩|_=>exact c5 Z
 obtain⟨rfl,g⟩:=g;cases g;obtain⟨C,ga,fd,ps,k,hC,Y,E,P,A,ok⟩:=O.mkc _ _ _ _ e3;have W:BJ C (spF X.prog X.w X.K (F (.m c "__init__"))) [] E0 (tDs X F G as) b H Q:=by
  refine⟨m0,s',h,ws,L,R,S,e1,λus M D x1 R1 r1 x B nx V ne=>?_⟩;rw[Vn];have l:Ext D M D (upd M B (.own x)):=gB V;have Ra:RH X.K D (upd M B (.own x)) L:=R1.new V;have U:upd M B (.own x) x=af:=by rw[dD (VN ne)];exact nx
  have j:Ext D (upd M B (.own x)) (D++[x]) (upd (upd M B (.own x)) x (.ins C B [])):=j7 U;have Rb:RH X.K (D++[x]) (upd (upd M B (.own x)) x (.ins C B [])) (L++[.o c []]):=Ra.KI U ⟨C,B,[],dM,hC,.nil⟩;have ix:(D++[x])[L.length]?=aa x:=by rw[←R1.len];simp
  refine⟨D++[x],.o L.length::ws,L++[.o c []],.p .aF,T,Rb,.cons (.o ix) (r1.ext (l.trans j)),e3,λv H2 m2 n R2 f=>?_⟩;cases f with
  |p f =>
   cases f;exact⟨rfl,zr _ H2 m2 (((x1.trans l).trans j).trans n) R2 (.o (n.ix ix))⟩
 cases es with
 |nil =>
  cases as with
  |cons a r=>exact(qd u).elim
  |nil =>
   refine BO E ok A (d9 O t) Y P .nil pC (ig hn).1 i s b H Q I ?_;exact kR W
 |cons e es =>
  simp only[dw,UQ]at J;exact Fz E ok A (d9 O t) Y P .nil pC ha (ig hn).1 (c9 J.1) (dO J.2) i s b H Q I W
def K7(o:bD):TIp:=λx y H Q=>∃i j z,x=.int i/\y=.int j/\BT.pH o (.int i) (.int j)=aa (.int z)/\Q (.int z) H
noncomputable def Du:bD->Yn->Bool
 |.add,.Add=>ah|.sub,.Sub=>ah|.mul,.Mult=>ah|_,_=>ai
def yX(h:Du o op=ah):PIp X op (K7 o):=by
 rintro zt s σ H x y u v Q I rx ry ⟨i,j,z,rfl,rfl,e,q⟩
 obtain⟨t,rfl⟩:=(show ∃t,u=Xw i t from rx);obtain⟨B,rfl⟩:=(show ∃B,v=Xw j B from ry);cases o<;>cases op<;>cases h;cases e;exact PyProof.Rows.iadd_int ⟨.int (i+j),H,I.tok _,⟨_,rfl⟩,q⟩;cases e;exact PyProof.Rows.isub_int ⟨.int (i-j),H,I.tok _,⟨_,rfl⟩,q⟩
 ·rw[BT.ve]at e;obtain⟨c,e⟩:=dH e;cases e;have D:Fp i j:=by
   rcases WL _ _ ▸ c with c|c
   exact .inl (tZ c);exact .inr (tZ c)
  exact PyProof.Rows.imul_int ⟨.int (i*j),H,I.tok _,⟨_,rfl⟩,q⟩ D.ok
def yY(h:BT.pH o d e=aa z):∃i j k,d=.int i/\e=.int j/\z=.int k:=by
 cases d with
 |int i =>
  cases e with
  |int j =>
   refine⟨i,j,?_⟩;cases o with
   |add=>exact⟨_,rfl,rfl,(U3 h).symm⟩|sub=>exact⟨_,rfl,rfl,(U3 h).symm⟩
   |mul =>
    rw[BT.ve]at h;split at h;exact⟨_,rfl,rfl,(U3 h).symm⟩;exact c5 h
   |_=>exact c5 h
  |_=>cases o<;>exact c5 h
 |_=>cases o<;>exact c5 h
end
section
variable{K:UM}
end
theorem nq(r:dF vs us):∀l:List Nat,dF (l.filterMap λi=>vs[i]?) (l.filterMap λi=>us[i]?)
 |[]=>.nil
 |i::l=>by
  rw[Vs,Vs];cases g:vs[i]? with
  |none =>
   have:us[i]?=af:=by have h:=r.length;rw[ZL]at g⊢;lia
   rw[this];exact nq r l
  |some d =>
   obtain⟨v,e,q⟩:=r.get g;rw[e];exact .cons q (nq r l)
noncomputable def vH(k:Int)(xs:List V):List V:=(Yb (Vt af af (aa k) xs.length).1 (Vt af af (aa k) xs.length).2.1 (Vt af af (aa k) xs.length).2.2).filterMap λi=>xs[i]?
section
def K8(l:k≠0)(r:PE X e te)(j:PE X se (tC (.int k))):
 PE X (.Subscript e (.Slice af af (aa se) p2) pos) (fun σ H Q=>te σ H λx H1=>∃a xs,x=.ref a/\SqL X.K H1 a xs/\∀p,H1 p=af->Q (.ref p) (upd H1 p (.aD (vH k xs)))):=by
 intro J s σ H Q I h;refine Subscript_ (thn (r J s σ H _ I h) λv Y M=>?_);obtain⟨x,H1,C,c,a,xs,ex,g,q⟩:=M;subst ex;cases c;refine wpAny_Slice ?_;rw[aaL];refine av (av ?_);rw[evalPart_some];refine thn (j J Y σ H1 (λv F=>v=.int k/\F=H1) C ⟨rfl,rfl⟩) λG B M=>?_;obtain⟨y,E,u,Z,f,m⟩:=M;subst f m;obtain⟨t,rfl⟩:=Z;have O:Inv X J σ E {B with heap:=B.heap.push {cls:=.type "slice",data:=.fields #[.none,.none,.int k t]} }:=u.aJ (t':=B.toks) λb ob q=>UO _ q;obtain⟨D,U,p,N⟩:=O.list g;have n:ay (Vb X.prog X.w) X.A (Zu (.ref a) (.ref B.heap.objs.size)) (EP X J σ Q) X.xe {B with heap:=B.heap.push {cls:=.type "slice",data:=.fields #[.none,.none,.int k t]} }:=by
  have L:=U.length;refine aax p.isList (Zg ..) .none .none (.int k t) (by intro z;exact l (U3 z)) ?_ (by rw[US];lia);have W:slicePick D.toArray af af (aa k)=((Yb (Vt af af (aa k) xs.length).1 (Vt af af (aa k) xs.length).2.1 (Vt af af (aa k) xs.length).2.2).filterMap λi=>D[i]?).toArray:=by unfold slicePick;rw[US,←L];simp
  rw[W];have V:=nq U (Yb (Vt af af (aa k) xs.length).1 (Vt af af (aa k) xs.length).2.1 (Vt af af (aa k) xs.length).2.2);have d:(vH k xs).length<=xs.length:=by have:=slicePick_size_le D.toArray af af (aa k);rw[W,US,US]at this;have e:=V.length;unfold vH;lia
  refine⟨.ref (B.heap.push {cls:=.type "slice",data:=.fields #[.none,.none,.int k t]}).objs.size,_,O.laid (t':=B.toks) (o:=.aD (vH k xs)) (λb ob q=>UO _ q) (UT _) ?_,rfl,q _ (O.aL.fresh (UT _))⟩;exact⟨by lia,_,0,V,UX _ rfl⟩
 show ay (Vb X.prog X.w) X.A (aaG e (.Slice af af (aa se) p2) (.ref a) (.ref B.heap.objs.size)) (EP X J σ Q) X.xe {B with heap:=B.heap.push {cls:=.type "slice",data:=.fields #[.none,.none,.int k t]} };exact aaF (ops:=[.ref a,.ref B.heap.objs.size]) p.isList.typeIs slot_list_getitem.lookup n (by with_unfolding_all rfl)
def yZ(h:(Gn e).bind cInt=aa k):∃a b,e=.Constant (.int k) a b:=by
 cases e with
 |Constant c a b =>
  cases c with
  |int j=>cases h;exact⟨a,b,rfl⟩|_=>exact bO (show(af:Option Int)=aa _ from h) (λz=>nomatch z)
 |_=>exact bO (show(af:Option Int)=aa _ from h) (λz=>nomatch z)
def Dv(h:tT k e=ah):(∃a b,e=.Constant (.int k) a b/\0<k)\/∃j a b p,e=.UnaryOp .USub (.Constant (.int j) a b) p/\k=-j/\0<j:=by
 unfold tT at h;rw[WL,UQ,UQ,bP,bP]at h;rcases h with⟨q,B⟩|⟨q,B⟩
 ·obtain⟨a,b,e1⟩:=yZ (bT q);exact .inl ⟨a,b,e1,B⟩
 ·have q:=bT q;cases e with
  |UnaryOp o e p =>
   by_cases c:o=.USub
   ·subst c;have D:(Gn e).bind cInt=aa (-k):=q;obtain⟨a,b,rfl⟩:=yZ D;exact .inr ⟨-k,a,b,p,rfl,by lia,by lia⟩
   ·have:unE (.UnaryOp o e p)=af:=bN c;rw[this]at q;exact c5 q
  |_=>exact bO (show(af:Option Int)=aa _ from q) (λz=>nomatch z)
def GL(Y:tT k se=ah)(Z:PE X x (tD X F G a)):PE X (.Subscript x (.Slice af af (aa se) p2) p) (tD X F G (.stp mu k a)):=by
 have D:k≠0/\PE X se (tC (.int k)):=by
  rcases Dv Y with⟨a,b,rfl,h⟩|⟨j,a,b,p,rfl,rfl,h⟩
  exact⟨by lia,wG⟩;exact⟨by lia,PE.weak (IL Bu wG) fun J H Q q=>⟨_,rfl,q⟩⟩
 refine PE.weak (K8 D.1 Z D.2) fun J H Q q=>?_;refine Jb (k:=BT.Ko mu k) (λs h=>by simp only[aO]) q λm h x z c v i R r e L=>?_;unfold BT.Ko at e;cases g:bq x h with
 |none=>rw[g]at e;exact c5 e
 |some d =>
  rw[g]at e;cases d with
  |aD M =>
   simp only at e;have U:=d8 R r g;obtain⟨a,O,rfl,W,B⟩:=U.aD;have f:BT.new mu (BT.pT k M) h=(z,c):=U3 e;refine⟨a,O,rfl,W.sq,λp V=>tW (mu:=mu) R V ?_ (by rw[f];exact L)⟩;unfold vH BT.pT;rw[B.length];exact RDs.pick B _
  |_=>exact c5 e
def Dw{X:Cx}{b:BT.Bi}{g:Int->Int->Int}(Z:∀ds d,BT.biD b ds=aa d->∃i j,ds=[.int i,.int j]/\d=.int (g i j)){id:String}(Y:fF X (.builtin id) (λxs H Q=>∃i j,xs=[.int i,.int j]/\Q (.int (g i j)) H)):fF X (.builtin id) (rBi X.prog X.w X.K b ai):=by
 intro L s J H a O Q I D h;obtain⟨m,h,ws,z,c,R,B,e,M⟩:=h;obtain⟨ds,d,e1,e2,⟨_,rfl,rfl⟩|⟨_,q,_⟩⟩:=iO e
 ·have V:=iz R B e1;obtain⟨i,j,rfl,rfl⟩:=Z _ _ e2;cases V with
  |cons r t =>
   cases t with
   |cons W U =>
    cases U;cases r.int;cases W.int;exact Y L s J H _ O Q I D ⟨i,j,rfl,M.here R (.int _)⟩
 exact aU q
def GM{X:Cx}{sc:Vw}{N:List aA}(O:Ok X F G sc N)(J:gZ N=ah){b:BT.Bi}{as:aX}{x:aA}{e:UP}{es:List UP}{p pos:Pos}(B:CK b x=ah)(L:d7 sc x=ah)(q:dw (e::es)=ah)(M:PA X (e::es) (tDs X F G as)):
 PE X (.Call (.Name x p) (e::es) [] pos) (tD X F G (.bi b ai as)):=by
 simp only[dw,UQ]at q;have U:=O.blt;cases b<;>first|exact aU B|(replace B:=bT B)
 ·subst B;refine PE.weak (gU (Dw (b:=.min2) (g:=λi j=>if j<i then j else i) (λD d h=>?_) (z6 (O.calm J))) (d9 O L) (U _ (by decide +kernel)) (by decide +kernel) M (by decide) (by decide) (c9 q.1) (dO q.2)) (fun V H Q z=>jV z)
  match D,h with
  |[.int i,.int j],h=>exact⟨i,j,rfl,(U3 h).symm⟩
 ·subst B;refine PE.weak (gU (Dw (b:=.max2) (g:=λi j=>if j>i then j else i) (λD d h=>?_) (z5 (O.calm J))) (d9 O L) (U _ (by decide +kernel)) (by decide +kernel) M (by decide) (by decide) (c9 q.1) (dO q.2)) (fun V H Q z=>jV z)
  match D,h with
  |[.int i,.int j],h=>exact⟨i,j,rfl,(U3 h).symm⟩
end
section
variable{P:U4}{w:Vl}{K:UM}{m:List aB}{H H':Hp}
def mE(H H':Hp):Prop:=(∀a q,Rd H a (.aE q)->Rd H' a (.aE q))/\(∀a q,Rd H a (.aD q)->Rd H' a (.aD q))/\∀a q,Rd H a (.dK q)->Rd H' a (.dK q)
mutual
theorem RD.tr(q:mE H H'):∀{v:V}{d:aQ},RD K m H v d->RD K m H' v d
 |_,_,.aF=>.aF|_,_,.bl b=>.bl b|_,_,.int i=>.int i|_,_,.str y h=>.str y h|_,_,.aE h r=>.aE (h.elim (λz=>.inl ⟨q.1 _ _ z.1,z.2⟩) .inr) (RDs.tr q r)|_,_,.aD h r=>.aD (h.elim (λz=>.inl ⟨q.2.1 _ _ z.1,z.2⟩) .inr) (RDs.tr q r)
theorem RDs.tr(q:mE H H'):∀{vs:List V}{ds:List aQ},RDs K m H vs ds->RDs K m H' vs ds
 |_,_,.nil=>.nil|_,_,.cons r t=>.cons (RD.tr q r) (RDs.tr q t)
end
def RA.tr(q:mE H H'){v:V}{x:aP}(r:RA K m H v x):RA K m H' v x:=by
 cases r with
 |p r=>exact .p (r.tr q)|r h=>exact .r h|o h=>exact .o h
def RFs.tr(q:mE H H'){vs:List (aA×V)}{fs:List (aA×aP)}(r:RFs K m H vs fs):RFs K m H' vs fs:=by
 induction r with
 |nil=>exact .nil|cons r t B=>exact .cons (r.tr q) B
def RCs.tr(q:mE H H'){vs:List V}{B:List bF}(r:RCs K m H vs B):RCs K m H' vs B:=by
 induction r with
 |nil=>exact .nil|cons r t D=>exact .cons (r.tr q) D
def RWs.tr(q:mE H H'){vs:List V}{ws:List aP}(r:RWs P w K m H vs ws)(n:BT.noC ws=ah):RWs P w K m H' vs ws:=by
 induction r with
 |nil=>exact .nil
 |cons r t B =>
  cases r with
  |p r=>exact .cons (.p (r.tr q)) (B n)|r h=>exact .cons (.r h) (B n)|o h=>exact .cons (.o h) (B n)|_=>exact aU n
def RCs.ws{vs:List V}{q:List bF}(r:RCs K m H vs q):RWs P w K m H vs (q.map bF.w):=by
 induction r with
 |nil=>exact .nil|cons r t B=>exact .cons r.rw B
def RWs.app{vs us:List V}{ws zs:List aP}(r:RWs P w K m H vs ws)(t:RWs P w K m H us zs):RWs P w K m H (vs++us) (ws++zs):=by
 induction r with
 |nil=>exact t|cons r _ q=>exact .cons r q
def RKs.tr(q:mE H H'){vs:List (Key×V)}{kvs:List (bx×aQ)}(r:RKs K m H vs kvs):RKs K m H' vs kvs:=by
 induction r with
 |nil=>exact .nil|cons D r t B=>exact .cons (D.tr q) (r.tr q) B
def RP.tr(q:mE H H'){v:V}{d:aQ}{kvs:List (bx×aQ)}(r:RP K m H v d kvs):RP K m H' v d kvs:=by
 cases r with
 |mk h r g t=>exact .mk ⟨q.1 _ _ h.1,h.2⟩ (r.tr q) ⟨q.2.2 _ _ g.1,g.2⟩ (t.tr q)
def RPs.tr(q:mE H H'){vs:List V}{ps:List bJ}(r:RPs K m H vs ps):RPs K m H' vs ps:=by
 induction r with
 |nil=>exact .nil|cons r t B=>exact .cons (r.tr q) B
def RW.trS(q:mE H H'){v:V}{ps:List bJ}(r:RW P w K m H v (.k (.s ps))):RW P w K m H' v (.k (.s ps)):=by
 cases r with
 |ks h r=>exact .ks ⟨q.2.1 _ _ h.1,h.2⟩ (r.tr q)
def RH.tr{h:aN}(R:RH K m H h)(q:mE H H')(k:∀a∈m,H' a=H a)(tb:TB K H'):RH K m H' h:=by
 refine⟨R.nd,R.len,λi a c e1 e2=>?_,tb⟩;have z:=R.cl i a c e1 e2;have e:=k a (UZ e1);cases c with
 |o c fs=>obtain⟨C,M,B,D,J,L⟩:=z;exact⟨C,M,B,e.trans D,J,L.tr q⟩|z=>obtain⟨ob,B,D⟩:=z;exact⟨ob,B,e.trans D⟩|b O=>obtain⟨B,D,J⟩:=z;exact⟨B,e.trans D,J⟩|_=>obtain⟨B,D,J⟩:=z;exact⟨B,e.trans D,J.tr q⟩
def Le.rd(q:Le H H'){a:aB}{u:HO}(r:Rd H a u):Rd H' a u:=r.elim (λz=>.inl (q _ _ z)) λ⟨o,z⟩=>.inr ⟨o,q _ _ z⟩
def Le.sq(q:Le H H'):mE H H':=⟨λa B r=>q.rd r,λa B r=>q.rd r,λa B r=>q.rd r⟩
def RH.le{h:aN}(R:RH K m H h)(q:Le H H'):RH K m H' h:=R.tr q.sq (λa B=>by obtain⟨o,e,_⟩:=R.mu B;rw[e];exact q _ _ e) (q.tb R.tb)
def jX.le(q:Le H H'){cl:List (aA×aB)}{xs:List aA}{vs:List V}(r:jX m H cl xs vs):jX m H' cl xs vs:=by
 induction r with
 |nil=>exact .nil|cons L B J r t D=>exact .cons L ⟨q _ _ B.1,B.2⟩ J r D
def jU.le(q:Le H H'){f:aB}{L:Nat}{vs:List V}(h:jU m H f L vs):jU m H' f L vs:=by obtain⟨n,W,fs,Z,o,O,cl,Y,D,l,a,os,t,U,k,j,i,g,e,d,M,J,c,b,B⟩:=h;exact⟨n,W,fs,Z,o,O,cl,Y,D,l,a,os,t,U,k,j,i,g,e,d,⟨q _ _ M.1,M.2⟩,⟨q _ _ J.1,J.2⟩,c,b,B.le q⟩
def RW.le(q:Le H H'){v:V}{x:aP}(r:RW P w K m H v x):RW P w K m H' v x:=by
 cases r with
 |p r=>exact .p (r.tr q.sq)|r h=>exact .r h|k h r=>exact .k h r|kl h r=>exact .kl ⟨q _ _ h.1,h.2⟩ (r.tr q.sq)|km h r=>exact .km ⟨q.rd h.1,h.2⟩ (r.tr q.sq)|kq r=>exact .kq (r.tr q.sq)|ks h r=>exact .ks ⟨q.rd h.1,h.2⟩ (r.tr q.sq)|o h=>exact .o h|c h r=>exact .c (h.le q) (r.tr q.sq)|x h n B=>exact .x (q _ _ h) n B|g h r=>exact .g h r
end
def f6(cl:List (aA×aB))(H:Hp):Prop:=∀x c,cl.lookup x=aa c->∃o u,H c=aa (.frz o (.own 0))/\o.data=.cell u
open Classical in
noncomputable def hid(cl:List (aA×aB))(H:Hp):Hp:=λb=>if ∃x,cl.lookup x=aa b then af else H b
open Classical in
noncomputable def ret(cl:List (aA×aB))(q H:Hp):Hp:=λb=>if ∃x,cl.lookup x=aa b then q b else H b
section
variable{cl:List (aA×aB)}{H H':Hp}{b:aB}{u:HO}
def xF{x:aA}(e:cl.lookup x=aa b):hid cl H b=af:=bM ⟨x,e⟩
def fV(e:¬ ∃x,cl.lookup x=aa b):hid cl H b=H b:=bN e
def iP(e:H b=af):hid cl H b=af:=by unfold hid;split<;>first|rfl|exact e
def qf{x:aA}(e:cl.lookup x=aa b):ret cl H H' b=H b:=bM ⟨x,e⟩
def iB(e:¬ ∃x,cl.lookup x=aa b):ret cl H H' b=H' b:=bN e
def K9(e:hid cl H b=aa u):H b=aa u/\¬ ∃x,cl.lookup x=aa b:=by unfold hid at e;split at e;exact bG e;rename_i c;exact⟨e,c⟩
noncomputable def mF:HO->Bool
 |.frz o (.own _)=>match o.data with|.cell _=>ah|_=>ai
 |_=>ai
def O0{o:HO}(z:Gp o=ah):mF o=ai:=by
 cases o with
 |frz ob u=>cases u<;>first|rfl|exact aU z
 |_=>first|rfl|exact aU z
def f6.out(C:f6 cl H)(e:H b=aa u)(n:mF u=ai):¬ ∃x,cl.lookup x=aa b:=λ⟨x,q⟩=>by obtain⟨o,v,B,D⟩:=C x b q;rw[e]at B;cases B;simp[mF,D]at n
def f6.hid(C:f6 cl H)(e:H b=aa u)(n:mF u=ai):BS.hid cl H b=aa u:=by rw[fV (C.out e n)];exact e
def f6.sq(C:f6 cl H):mE H (BS.hid cl H):=⟨λa q r=>r.elim (λz=>.inl (C.hid z rfl)) λ⟨o,z⟩=>.inr ⟨o,C.hid z rfl⟩,λa q r=>r.elim (λz=>.inl (C.hid z rfl)) λ⟨o,z⟩=>.inr ⟨o,C.hid z rfl⟩,λa q r=>r.elim (λz=>.inl (C.hid z rfl)) λ⟨o,z⟩=>.inr ⟨o,C.hid z rfl⟩⟩
def f6.tb(C:f6 cl H)(t:TB K H):TB K (BS.hid cl H):=t.mono (λP B e=>C.hid e rfl) λa o q d e=>C.hid e (by simp[mF,d])
def f6.rh(C:f6 cl H){m:List aB}{h:aN}(R:RH K m H h):RH K m (BS.hid cl H) h:=R.tr C.sq (λa q=>by obtain⟨o,e,z⟩:=R.mu q;rw[e];exact C.hid e (O0 z)) (C.tb R.tb)
def La(N:∀x c,cl.lookup x=aa c->H' c=af):Le H' (ret cl H H'):=λa u e=>by rw[iB (λ⟨x,q⟩=>by rw[N x a q]at e;exact bG e)];exact e
def f6.Lb(C:f6 cl H)(N:∀x c,cl.lookup x=aa c->H' c=af){m m':List aB}{h':aN}(x:Ext m (BS.hid cl H) m' H')(R:RH K m' H' h'):Ext m H m' (ret cl H H'):=by
 obtain⟨e,D,M⟩:=x.pre;refine⟨⟨e,D,λa J=>?_⟩,λa o h n t=>?_,λa h=>?_,λa ob L h=>?_⟩
 ·have z:=M a J;have B:¬ ∃y,cl.lookup y=aa a:=λ⟨y,q⟩=>by obtain⟨o,e1,_⟩:=R.mu (a:=a) (by rw[D];exact Vf _ J);rw[N y a q]at e1;exact bG e1
  rw[fV B]at z;exact z
 ·by_cases c:∃y,cl.lookup y=aa a
  obtain⟨y,q⟩:=c;rw[qf q];exact h;rw[iB c];exact x.keep a o (by rw[fV c];exact h) n t
 ·by_cases c:∃y,cl.lookup y=aa a
  obtain⟨y,q⟩:=c;rw[qf q]at h;exact h;rw[iB c]at h;have z:=x.live a h;rw[fV c]at z;exact z
 ·by_cases c:∃y,cl.lookup y=aa a
  obtain⟨y,q⟩:=c;rw[qf q];exact h;rw[iB c];exact x.frz a ob L (by rw[fV c];exact h)
end
def jX.get{m:List aB}{H:Hp}{cl:List (aA×aB)}{fs:List aA}{vs:List V}(r:jX m H cl fs vs):∀{i:Nat}{x:aA},fs[i]?=aa x->∃c o u v,cl.lookup x=aa c/\Tr m H c o/\o.data=.cell (aa u)/\vs[i]?=aa v/\RelV v u:=by
 induction r with
 |nil=>intro i x e;simp at e
 |cons J D B r t q =>
  intro i x e;cases i with
  |zero=>simp at e;subst e;exact⟨_,_,_,_,J,D,B,rfl,r⟩|succ i=>simpa using q (by simpa using e)
def jX.len{m:List aB}{H:Hp}{cl:List (aA×aB)}{fs:List aA}{vs:List V}(r:jX m H cl fs vs):vs.length=fs.length:=by
 induction r with
 |nil=>rfl|cons J D B r t q=>simp[q]
def jX.cells{m:List aB}{H:Hp}{cl:List (aA×aB)}{fs:List aA}{vs:List V}(r:jX m H cl fs vs)(D:∀x c,cl.lookup x=aa c->x∈fs):f6 cl H:=λx c e=>by obtain⟨i,B⟩:=Wp (D x c e);obtain⟨M,o,u,v,q,L,J,_⟩:=r.get B;rw[e]at q;cases q;exact⟨o,_,L.1,J⟩
def GN{D:WH}{ps:List aA}(L:LPa D ps){name q:aA}{be:UP}{sc:Vw}{cl:List (aA×aB)}{pm cdv B:aC}{us:List aC}(J:us.length=ps.length):ZV (PySem.W.kla_fn name q D be sc cl pm cdv B) ⟨us,[]⟩=pure (ps.zip us):=by
 cases L with
 |one=>match us,J with|[_],_=>rfl
 |two=>match us,J with|[_,_],_=>rfl
def Lc{D:WH}{ps:List aA}(J:LPa D ps)(q:ps.Nodup){us:List aC}(B:us.length=ps.length){i:Nat}{x:aA}(e:ps[i]?=aa x):∃u,us[i]?=aa u/\(ps.zip us).reverse.lookup x=aa u:=by
 cases J with
 |one =>
  match us,B,i,e with
  |[u],_,0,e=>simp at e;subst e;exact⟨u,rfl,by simp⟩|[u],_,i+1,e=>simp at e
 |two =>
  match us,B,i,e with
  |[u,v],_,0,e =>
   simp at e;subst e;simp at q;exact⟨u,rfl,by simp[Wg,beq_false_of_ne q]⟩
  |[u,v],_,1,e=>simp at e;subst e;exact⟨v,rfl,by simp⟩|[u,v],_,i+2,e=>simp at e
structure LF(ps fs:List aA)(sc:Vw):Prop where
 kd:sc.kind=.function
 co:sc.isCoroutine=ai
 ge:sc.isGenerator=ai
 cell:∀y∈sc.names,y.2≠.cell
 loc:∀x∈ps,sc.names.lookup x=aa .local
 fre:∀x∈fs,sc.names.lookup x=aa .free/\(x,VP)∈sc.names
 all:∀y∈sc.names,y.2=.free->y.1∈fs
 nd:(ps++fs).Nodup
theorem qh:∀{l:List aA},lI l=ah->l.Nodup
 |[],_=>Yv
 |x::r,h=>by simp only[lI,UQ,Xg]at h;refine List.nodup_cons.mpr ⟨λz=>?_,qh h.2⟩;have:=h.1;simp[z]at this
def O1(h:pW ps fs sc=ah):LF ps fs sc:=by
 simp only[pW,UQ,Xg]at h;obtain⟨⟨⟨⟨⟨⟨⟨W,V⟩,U⟩,M⟩,L⟩,J⟩,D⟩,O⟩:=h;rw[Wi]at M L J D;refine⟨bT W,V,U,λy q e=>?_,λx B=>bT (L x B),λx B=>?_,λy q e=>?_,qh O⟩;have:=M y q;rw[e]at this;exact aU this
 ·have:=J x B;simp only[UQ]at this;exact⟨bT this.1,by simpa using this.2⟩
 ·have:=D y q;rw[e]at this;simpa using this
def Dy(P:U4)(w:Vl)(K:UM)(mg:aA->Option aC)(base:au)(N:List aA)(q:aA)(sc:Vw)(cl:List (aA×aB))(f c':aB)(A:VU)(outer:List Env)(s:UR)(H:Hp):Cx where
 prog:=P
 w:=w
 K:=K
 mg:=mg
 base:=base
 A:=A.deeper (Xx q sc s.heap.objs.size f (.ref c') cl)
 N:=N
 s₀:=s
 H₀:=hid cl H
 env:=Xx q sc s.heap.objs.size f (.ref c') cl
 outer:=outer
 stack:=Xx q sc s.heap.objs.size f (.ref c') cl::outer
 ex:=[]
 calm:=ah
 fn:=λ_=>ai
 pn:=[]
 xe:=λ_ _=>False
def y9(C:f6 cl H)(ok:HOk P w H h)(k:∀b o,h.get? b=aa o->h1.get? b=aa o):HOk P w (hid cl H) h1:=λb u e=>by obtain⟨e1,_⟩:=K9 e;exact(ok b u e1).stay (λc o _ q=>k c o q) (λc q=>C.hid q rfl) λc B q=>C.hid q rfl
def GO 
(Y:LPa pa ps)(F:LF ps fs sc)(inj:∀x y c,cl.lookup x=aa c->cl.lookup y=aa c->x=y)(U:∀x c,cl.lookup x=aa c->x∈fs)(V:jX m H cl fs cvs)(R:A.handled=af)(D:o9 P w K mg base A outer s H)(r:dF vs us)(g:us.length=ps.length)
(Z:h1.Ns s.heap.objs.size (λy=>(ps.zip us).reverse.lookup y))(J:∀b o,s.heap.get? b=aa o->h1.get? b=aa o):
 Inv (Dy P w K mg base (ps++fs) q sc cl f c' A outer s H) [] (vs.map aa++cvs.map aa) (hid cl H) {s with heap:=h1,toks:=tk}:=by
 have C:=V.cells U;have W:vs.length=ps.length:=r.length.trans g;have E:=V.len;have M:∀b:aB,b∉(Dy P w K mg base (ps++fs) q sc cl f c' A outer s H).ex:=λb z=>bO (show b∈([]:List aB) from z) (by simp);have d:∀x c,cl.lookup x=aa c->∃u,s.heap.IsCell c (aa u):=λx c e=>by obtain⟨i,a⟩:=Wp (U x c e);obtain⟨k,o,u,v,B,L,j,_⟩:=V.get a;rw[e]at B;cases B;exact⟨u,o,(D.aL _ _ L.1).1,j⟩
 refine ⟨⟨D.mod,F.kd,rfl,rfl,UT _,inj,λx O=>?_,λx c z=>bO (show ai=ah from z) (by decide),λ_=>R,aag D.frames,.inr ⟨rfl,rfl⟩,λb z=>bO z (M b),λb o e=>⟨(D.bs b o e).1,iP (D.bs b o e).2⟩,D.bsz,λb _ _=>M b,λb z=>bO z (M b),D.kY,λb S=>iP (D.frf b S)⟩,
  rfl,D.bare,Un.aJ J,⟨_,Z,λi x v B L j=>?_⟩,λx c e=>?_,iP (D.aL.fresh (UT _)),λx c e=>xF e,λp Y=>bO (show p∈([]:List (aB×aq)) from Y) (by simp),y9 C D.aL J,?_⟩
 ·have O:sc.names.lookup x=aa .cell\/sc.names.lookup x=aa .free:=O;rcases O with O|O
  exact bO rfl (F.cell _ (V7 O))
  ·obtain⟨i,a⟩:=Wp (F.all _ (V7 O) rfl);obtain⟨c,_,_,_,B,_⟩:=V.get a;exact⟨c,B⟩
 ·have B:(ps++fs)[i]?=aa x:=B
  by_cases c:i<ps.length
  ·rw[UU c]at B;rw[UU (by simpa [W]using c),Vh]at L;obtain⟨u,g4,g5⟩:=Lc Y (F.nd.sublist (List.sublist_append_left _ _)) g B;obtain⟨v',X,T⟩:=Option.map_eq_some_iff.mp L;cases T;obtain⟨u',h,t⟩:=r.get X;rw[g4]at h;cases h;exact⟨u,t,.inl ⟨F.loc x (UZ B),g5⟩⟩
  ·rw[Vk (by lia)]at B;rw[Vk (by simp[W];lia),Vh]at L;simp only[U0,W]at L;obtain⟨k,o,u,v2,Q,k2,N,I,G⟩:=V.get B;rw[I]at L;cases L;exact⟨u,G,.inr ⟨.inr (F.fre x (UZ B)).1,k,Q,o,J _ _ (D.aL _ _ k2.1).1,N⟩⟩
 ·obtain⟨u,o,n,l⟩:=d x c e;exact⟨aa u,o,J _ _ n,l⟩
 ·show _=(ps++fs).length;simp[W,E]
section
def AL(e:BT.tO F o ws h=aa r):∃k q,o=aa (aa (.c k q))/\BT.noC ws=ah/\F k (ws++q.map bF.w) h=aa r:=by
 unfold BT.tO at e;split at e
 ·rename_i k q;split at e;rename_i c;exact⟨k,q,rfl,c,e⟩;exact c5 e
 exact c5 e
def jU.fnAt(l:jU m H f L vs)(ok:HOk P w H h):PySem.W.FnAt f h:=by obtain⟨g,M,fs,U,i,D,cl,O,B,e,V,os,t,J,d,c,b,a,Z,Y,q,_⟩:=l;exact⟨_,_,_,_,(ok _ _ q.1).1⟩
def Post.ext(p:Post P w K m H z h' Q)(x:Ext m H m' H'):Post P w K m' H' z h' Q:=λv q m2 y R r=>p v q m2 (x.trans y) R r
def Dz(O:Ok X F G sc N)(h1:N[i]?=aa x)(h2:nO sc x=ah)(h3:fK x=ah)(hc:CEs sc N as (e::es))(ha:PA X (e::es) (tDs X F G as)):
 PE X (.Call (.Name x np) (e::es) [] pos) (tD X F G (.callv i as)):=by
 have D:=iJ hc;simp only[dw,UQ]at D;intro l s j H Q I q;obtain⟨m,s',h,z,y,R,S,ee,P⟩:=q;simp only[aO]at ee;obtain⟨ws,g,e1,e2⟩:=dg ee;obtain⟨k,cs,k1,k2,n⟩:=AL e2;obtain⟨v,hv,rv⟩:=S.get i _ k1;obtain⟨d1,d2,_⟩:=ig h3;refine V4 ?_;refine thn (Bj (i:=i) (by rw[O.hN];exact h1) (Dl O h2) d1 d2 l s j H (λT Y=>T=v/\Y=H) I ⟨v,hv,rfl,rfl⟩) λu s1 zq=>?_;obtain⟨T,Y,V,r2,ev,eh⟩:=zq;subst ev eh;have hA:tDs X F G as j Y (λB U=>∃J,Ext m Y J U/\RH X.K J U g/\RWs X.prog X.w X.K J U B ws):=⟨m,s',h,ws,g,R,S,e1,λB U J M d Z=>⟨J,M,d,Z⟩⟩;cases rv with
 |@c f L C _ t rc =>
  obtain rfl:u=.ref f:=r2;refine PySem.W.callWith_F (t.fnAt V.aL) (thn (ha pos l s1 j Y _ V hA) λus s2 ⟨B,U,I3,Z,J,M,d,w3⟩=>⟨(t.ext M).fnAt I3.aL,?_⟩) (c9 D.1) (dO D.2);obtain⟨k,o,lo⟩:=O.lam _ _ _ _ n;refine X9 (codeAny_mono (lo X.A X.stack s2 U f us B C J ws cs g z y Q E0 o I3.JS Z d w3 k2 (t.ext M) (rc.ext M) n (P.ext M)) λr s' p=>?_);cases r with
  |error e=>exact VE p
  |ok fl =>
   cases fl with
   |ret u=>exact I3.after p|_=>exact VE p
 |@g f x' hn hk =>
  obtain rfl:u=.ref f:=r2;have a:F (.f x') ws g=aa (z,y):=by simpa using n
  obtain⟨fa,fd,ps,k,hm,_,hb,o,ok⟩:=O.call _ _ _ _ a;have b:=WE V.ok.mod.kin V.ok.mod.glob hn;rw[hm]at b;cases b;refine W1 (h₀:=X.base) V.ok.mod.kin hk (thn (ha pos l s1 j Y _ V hA) λus s2 ⟨B,U,I3,Z,J,M,d,w3⟩=>⟨I3.kIn,?_⟩) (c9 D.1) (dO D.2);refine pq (E:=E0) ok o hb .nil pC I3 Z ?_;rw[Vn];exact⟨J,ws,g,z,y,d,w3,a,P.ext M⟩
end
section
open PySem.W PySem.Calls PySem.Builtin PySem.Builtin.ObjectAttr PySem.Builtin.Getset_descriptor
variable{E:aC->UR->Prop}{K:UM}
end
section
end
section
variable{X:Cx}
def O3(N:X.A.units+150<cLine):MtR X "list.count" (rMe X.prog X.w X.K .count):=by
 intro zt s σ H v vs v' us Q I o M h;obtain⟨m,h,x,ws,z,h',R,J,L,e,k⟩:=h;cases x with
 |r n=>cases ws with
  |_=>(first|exact c5 e|simp[aW]at e)
 |p d =>
  rw[BT.Ai]at e;cases g:bB ws with
  |none=>rw[g]at e;exact c5 e
  |some ds =>
   rw[g]at e;obtain⟨b,e1,e2⟩:=dG e;cases e2;have rds:=L.pure g;cases d<;>first|exact c5 e1|skip
   rename_i D;cases ds with
   |nil=>exact c5 e1
   |cons B dr =>
    cases dr with
    |cons _ _=>exact c5 e1
    |nil =>
     rw[BT.J9]at e1;obtain⟨c,e1⟩:=dH e1;cases e1;cases rds with
     |cons E C =>
      cases C;obtain⟨u,rfl,t⟩:=M.one;cases J with
      |p J =>
       obtain⟨a,vt,rfl,S,ra⟩:=RR.aD (.d J);cases o;obtain⟨zz,q,n,O,_,W⟩:=rdL I S;have hl:=O.length;have P:=ra.length;have T:q.countP (fQ s.heap (pd B))=D.countP λy=>aV y B:=by
        have U:q.map (fQ s.heap (pd B))=D.map λy=>aV y B:=by refine List.ext_getElem (by rw[U0,U0];lia) λi Z Y=>?_;rw[U0]at Z Y;rw[Y6,Y6];exact oK I ra O i Z Y
        have j:∀{V:Type}(f:V->Bool)(l:List V),l.countP f=(l.map f).countP id:=λf l=>by rw[List.countP_map];rfl
        rw[j,j (λy=>aV y B),U]
       refine Xc F.slot_list_count ⟨_,W,rfl⟩ F.entry_list_count (F.args_list_count_2 _ _) (SeqAt.list_countAt a q.toArray n af #[] u (fQ s.heap (pd B))) ⟨W,?_,?_⟩
       ·intro y G;exact jE N I (.d E) t ra O c y (by simpa using G)
       ·refine⟨.int ((D.countP λy=>aV y B:Nat):Int),H,I.tok _,⟨s.toks,?_⟩,k.here R (.int _)⟩;rw[←T]
 |_=>(first|exact c5 e|simp[aW]at e)
end
structure vI(K:UM)(J:It)(m0:List aB)(H0:Hp)(ds:List aQ)(C:aN->Prop):Prop where
 go:∀m H h (i:Nat),Ext m0 H0 m H->RH K m H h->C h->i<ds.length->J.go i H
 yld:∀m H h (i:Nat) x H' d,Ext m0 H0 m H->RH K m H h->C h->ds[i]?=aa d->J.yld i H x H'->Ext m H m H'/\Le H H'/\RD K m H' x d
 stop:∀m H h,Ext m0 H0 m H->RH K m H h->C h->J.stop ds.length H
def vJ(sr:bK)(ws:List aP):Prop:=BT.iM ws=ah\/((sr=.seq\/sr=.enu)/\∃q,ws=[.r q])
def nu(sr:bK)(ws:List aP)(ds:List aQ)(h:aN):Prop:=∀q,ws=[.r q]->BT.ly sr q h=aa ds
def vJ.p{sr:bK}{ws:List aP}(h:vJ sr ws)(n:¬(sr=.seq\/sr=.enu)):BT.iM ws=ah:=h.resolve_right λz=>n z.1
def Ld{q:Nat}{ds:List aQ}{h:aN}(e:BT.ly .seq q h=aa ds):br h q=aa ds:=by
 unfold BT.ly at e;cases g:br h q with
 |none=>rw[g]at e;exact c5 e|some B=>rw[g]at e;exact e
def qi{sr:bK}{ws:List aP}{ds:List aQ}{h:aN}(a:BT.iM ws=ah):nu sr ws ds h:=λq e=>by subst e;exact aU a
noncomputable def Itv(K:UM)(a:aB)(n:Nat):It :=
 ⟨λi H=>i<n/\∃q,SqL K H a q/\q.length=n,λi H x B=>B=H/\∀q,SqL K H a q->q[n-1-i]?=aa x,λi H=>i=n⟩
theorem DA(a B:aB)(n:Nat):Turn P w K tg (Itv K a n) [B] B (λi h=>h.IsRevIter B a ((n:Int)-1-i)) where
 mem:=by simp
 obj:=λi h st b J=>by
  have e:b=B:=by simpa using J
  subst e;obtain⟨o,e,c,d⟩:=st;exact⟨o,e,λv z=>by rw[d]at z;cases z⟩
 keep:=λi h O st k=>st.at λo e=>k B (by simp) o e
 item:=by
  intro X U hw V y i l s j H E I M st L;subst U hw V;obtain⟨hi,A,r,hx⟩:=L;obtain⟨G,m,p,hz⟩:=I.list r;have hl:=m.length;have t:n-1-i<A.length:=by lia
  obtain⟨u,Q,F⟩:=m.get (U1 t);obtain⟨g,f,R,Z,Y,W⟩:=M B (by simp);have S:((n:Int)-1-(i:Int))=(((n-1-i:Nat)):Int):=by lia
  have D:s.heap.IsRevIter B a (((n-1-i:Nat)):Int):=by rw[←S];exact st
  refine wpAny_pyNext_rev_item D p.isList (x:=u) (by simpa using Q) λO q C=>?_;have I1:Inv X l j H {s with heap:=O}:=I.turned (t':=s.toks) (λb o J e=>(C.2 b J).trans e) g f Z Y W;obtain⟨o,e,c,d⟩:=id q;refine⟨u,rfl,uS (s:={s with heap:=O}) e c d (by decide) ⟨_,H,I1,F,⟨rfl,λys N=>by rw[I.uQ N r];exact U1 t⟩,?_,λb J=>(M b J).1⟩⟩;have e2:(((n-1-i:Nat)):Int)-1=(n:Int)-1-((i+1:Nat):Int):=by lia
  rw[e2]at q;exact q
 done:=by
  intro X U hw V y i l s j H E I M st L;subst U hw V;have L:i=n:=L;subst L;obtain⟨g,f,R,Z,Y,W⟩:=M B (by simp);have e1:(i:Int)-1-(i:Int)=-1:=by lia
  have D:s.heap.IsRevIter B a (-1):=by rw[←e1];exact st
  exact wpAny_pyNext_rev_end (I.ok.hd y) D λO T=>⟨rfl,I.turned (t':=s.toks) (λb o J e=>T b o J e) g f Z Y W⟩
 self:=λ_ _ _ _ _ st h=>wpAny_pyIter_revIter st h
inductive iD(X:Cx)(F:FT)(G:aA->Option aP)(sr:bK)(sa:aX)(σ:L2.St)(H:Hp)(R:It->Hp->Prop):Prop
 |mk(m:List aB)(s:bf)(h:aN)(ws:List aP)(h':aN)(ds:List aQ)(RR:RH X.K m H h)(S:RS X.prog X.w X.K m H σ s)(e:aZ F G sa s h=aa (ws,h'))(e2:(aS ws h').bind (BT.gW sr)=aa ds)(q:vJ sr ws)
  (p:∀H' m' J,Ext m H m' H'->RH X.K m' H' h'->vI X.K J m' H' ds (nu sr ws ds)->R J H'):iD X F G sr sa σ H R
def PI.weak(h:PI X tg e t)(q:∀σ H R,t' σ H R->t σ H R):PI X tg e t':=λB s σ H R I hw=>h B s σ H R I (q _ _ _ hw)
section
def GP(h:(Rd H0 a (.aD vs)/\a∉m0)\/KL K a vs)(r:RDs K m0 H0 vs ds):vI K (Itl K a) m0 H0 ds C:=by
 have k:∀{m H},Ext m0 H0 m H->SqL K H a vs:=λx=>LL.sq (h.elim (λq=>.inl (Rd.ext x q.1 q.2).1) .inr);refine⟨λm H D i x _ _ B=>?_,λm H D i v O d x RR _ J y=>?_,λm H _ x _ _=>⟨vs,k x,by rw[r.length];exact UT _⟩⟩;exact⟨vs,_,k x,U1 (by rw[r.length];exact B)⟩
 ·obtain⟨rfl,y⟩:=y;obtain⟨u,M,L⟩:=(r.ext x).get J;have:=y vs (k x);rw[M]at this;cases this;exact⟨.refl _ _,λ_ _ e=>e,L⟩
def Lf(h:(Rd H0 a (.aE vs)/\a∉m0)\/KT K a vs)(r:RDs K m0 H0 vs ds):vI K (Itt K a) m0 H0 ds C:=by
 have k:∀{m H},Ext m0 H0 m H->SqT K H a vs:=λx=>h.elim (λq=>.inl (Rd.ext x q.1 q.2).1) λ⟨o,its,n,q,_⟩=>.inr ⟨o,its,n,q⟩;refine⟨λm H D i x _ _ B=>?_,λm H D i v O d x RR _ J y=>?_,λm H _ x _ _=>⟨vs,k x,by rw[r.length];exact UT _⟩⟩;exact⟨vs,_,k x,U1 (by rw[r.length];exact B)⟩
 ·obtain⟨rfl,y⟩:=y;obtain⟨u,M,L⟩:=(r.ext x).get J;have:=y vs (k x);rw[M]at this;cases this;exact⟨.refl _ _,λ_ _ e=>e,L⟩
def Lg(h:(Rd H0 a (.aD vs)/\a∉m0)\/KL K a vs)(r:RDs K m0 H0 vs ds):vI K (Itv K a ds.length) m0 H0 ds.reverse C:=by
 have k:∀{m H},Ext m0 H0 m H->SqL K H a vs:=λx=>LL.sq (h.elim (λq=>.inl (Rd.ext x q.1 q.2).1) .inr);refine⟨λm H L i x _ _ B=>?_,λm H L i v U d x RR _ J y=>?_,λm H _ x _ _=>by show ds.reverse.length=ds.length;simp⟩;exact⟨by simpa using B,vs,k x,r.length⟩
 ·obtain⟨rfl,y⟩:=y;have B:i<ds.length:=by have:=getD_some J;simpa using this
  have D:ds[ds.length-1-i]?=aa d:=by rw[List.getElem?_reverse B]at J;exact J
  obtain⟨u,O,M⟩:=(r.ext x).get D;have:=y vs (k x);rw[O]at this;cases this;exact⟨.refl _ _,λ_ _ e=>e,M⟩
def DB(lo:Int)(n:Nat):vI K (Itr lo n) m0 H0 (BT.upto lo n) C:=by
 have D:(BT.upto lo n).length=n:=by simp[BT.upto]
 refine⟨λm H J i x _ _ q=>by rw[D]at q;exact q,λm H J i v L d x RR _ B y=>?_,λm H _ x _ _=>by rw[D];exact UT n⟩;obtain⟨rfl,rfl⟩:=y;have:d=.int (lo+i):=by
  have q:i<n:=by have:=getD_some B;rw[D]at this;exact this
  simp only[BT.upto,Vh]at B;rw[WZ q]at B;simpa using B.symm
 subst this;exact⟨.refl _ _,λ_ _ e=>e,.int _⟩
def uq:∀{ws:List aP},BT.iM ws=ah->∃ds:List aQ,ws=ds.map aP.p:=by
 intro ws
 induction ws with
 |nil=>exact λ_=>⟨[],rfl⟩
 |cons w ws q =>
  intro h;cases w with
  |p d =>
   obtain⟨ds,rfl⟩:=q h;exact⟨d::ds,rfl⟩
  |_=>exact aU h
def xG(h:aN)(ds:List aQ):aS (ds.map aP.p) h=aa ds:=by
 induction ds with
 |nil=>rfl
 |cons d ds q =>
  show(aS (ds.map aP.p) h).map (d :: ·)=_;rw[q];rfl
def DC(B:sr=.seq\/sr=.rev\/sr=.rng1)(e:(aS ws h).bind (BT.gW sr)=aa ds)(D:BT.iM ws=ah):∃d,ws=[.p d]/\BT.gW sr [d]=aa ds:=by
 obtain⟨q,rfl⟩:=uq D;rw[xG,Wc]at e;cases q with
 |nil=>rcases B with rfl|rfl|rfl<;>exact c5 e
 |cons d q =>
  cases q with
  |nil=>exact⟨d,rfl,e⟩
  |cons J q=>rcases B with rfl|rfl|rfl<;>cases d<;>exact c5 e
def ur(e:aZ F G (.cons a .nil) s h=aa (ws,h')):∃w,ws=[w]/\aO F G a s h=aa (w,h'):=by simp only[aZ]at e;obtain⟨w,g,e1,e2⟩:=dg e;simp only[BT.k9,BT.eU,BT.jz]at e2;cases e2;exact⟨w,rfl,e1⟩
def GQ{J:List aB}{O:Hp}{a:aB}{q:Nat}{ds:List aQ}(L:J[q]?=aa a):vI K (Itl K a) J O ds (nu .seq [.r q] ds):=by
 have k:∀{m H h},Ext J O m H->RH K m H h->nu .seq [.r q] ds h->∃B,SqL K H a B/\RDs K m H B ds:=λ{m H h} x RR c=>by
  obtain⟨e,rfl,_⟩:=x.pre;have e1:(J++e)[q]?=aa a:=by rw[UU (List.getElem?_eq_some_iff.mp L).1];exact L
  obtain⟨B,b,Z⟩:=RR.cell q a ds e1 (Ld (c q rfl));exact⟨B,LL.sq (.inl (.inl b)),Z⟩
 refine⟨λm H M i x RR c U=>?_,λm H M i v f d x RR c V y=>?_,λm H M x RR c=>?_⟩
 ·obtain⟨B,D,k2⟩:=k x RR c;exact⟨B,_,D,U1 (by rw[k2.length];exact U)⟩
 ·obtain⟨B,D,k2⟩:=k x RR c;obtain⟨rfl,y⟩:=y;obtain⟨u,Y,W⟩:=k2.get V;have:=y B D;rw[Y]at this;cases this;exact⟨.refl _ _,λ_ _ e=>e,W⟩
 ·obtain⟨B,D,k2⟩:=k x RR c;exact⟨B,D,by rw[k2.length];exact UT _⟩
def GR(f:PE X x (tD X F G a)):PI X tg x (iD X F G .seq (.cons a .nil)):=by
 intro Z s Y H R I q;obtain⟨m,c,h,ws,O,k,RR,S,e,e2,i,b⟩:=q;rcases i with i|⟨_,q,rfl⟩
 case inr =>
  obtain⟨w,j,V⟩:=ur e;cases j;have g:br O q=aa k:=by
   simp only[aS,bq,WC]at e2;cases g:br O q with
   |none=>rw[g]at e2;exact c5 e2|some t=>rw[g]at e2;cases e2;rfl
  refine ym f Z s Y H R I ⟨m,c,h,_,O,RR,S,V,λv U M J D B=>?_⟩;cases B with
  |@r a n hn =>
   obtain⟨L,l,u⟩:=D.cell q a k hn g;exact⟨a,rfl,⟨L,LL.sq (.inl (.inl l))⟩,b U M _ J D (GQ hn)⟩
 obtain⟨d,rfl,W⟩:=DC (.inl rfl) e2 i;obtain⟨w,j,V⟩:=ur e;cases j;rw[BT.Cn]at W;cases d<;>simp only[BT.tH]at W<;>try contradiction
 ·cases W;refine JG f Z s Y H R I ⟨m,c,h,_,O,RR,S,V,λv U M J D B=>?_⟩;cases B with
  |p B =>
   cases B with
   |@aE a L _ h r=>exact⟨a,rfl,⟨L,h.elim (λq=>.inl q.1) λ⟨o,its,n,q,_⟩=>.inr ⟨o,its,n,q⟩⟩,b U M _ J D (Lf h r)⟩
 ·cases W;refine ym f Z s Y H R I ⟨m,c,h,_,O,RR,S,V,λv U M J D B=>?_⟩;cases B with
  |p B =>
   cases B with
   |@aD a L _ h r=>exact⟨a,rfl,⟨L,LL.sq (h.elim (λq=>.inl q.1) .inr)⟩,b U M _ J D (GP h r)⟩
def DE(O:Ok X F G sc N)(Y:d7 sc "range"=ah)(W:noStar e=ah)(D:PA X [e] (tDs X F G sa)):PI X tg (.Call (.Name "range" p) [e] [] pos) (iD X F G .rng1 sa):=by
 refine PI.weak (zY (d9 O Y) (O.blt _ (by decide)) D (c9 W)) fun f H R q=>?_;obtain⟨m,M,h,ws,Z,i,RR,S,e,e2,D,J⟩:=q;obtain⟨d,rfl,B⟩:=DC (.inr (.inr rfl)) e2 (D.p (by rintro (z|z)<;>cases z));refine⟨m,M,h,_,Z,RR,S,e,λg b V L a U=>?_⟩;obtain⟨j,rfl⟩:∃j:Int,d=.int j:=by
  cases d with
  |int j=>exact⟨j,rfl⟩|_=>exact bO (show(af:Option (List aQ))=aa _ from B) (λz=>nomatch z)
 rw[BT.jk]at B;obtain⟨c,B⟩:=dH B;simp only[UQ,bP]at c;cases B;cases U with
 |cons r t =>
  cases t;cases r with
  |p r =>
   cases r;exact⟨j,rfl,by lia,by lia,J b V _ L a (DB 0 j.toNat)⟩
def O4(e:(aS ws h).bind (BT.gW .rng2)=aa ds)(D:BT.iM ws=ah):∃i j:Int,ws=[.p (.int i),.p (.int j)]/\(-100000<=i/\i<=100000/\-100000<=j/\j<=100000)/\ds=BT.upto i (j-i).toNat:=by
 obtain⟨q,rfl⟩:=uq D;rw[xG,Wc]at e;have B:∃i j:Int,q=[.int i,.int j]:=by
  match q,e with
  |[.int i,.int j],_=>exact⟨i,j,rfl⟩
 obtain⟨i,j,rfl⟩:=B;rw[BT.m8]at e;obtain⟨c,e⟩:=dH e;simp only[UQ,bP]at c;cases e;exact⟨i,j,rfl,⟨c.1.1.1,c.1.1.2,c.1.2,c.2⟩,rfl⟩
def DF(O:Ok X F G sc N)(a:d7 sc "range"=ah)(Z:noStar x=ah)(B:noStar y=ah)(J:PA X [x,y] (tDs X F G sa)):PI X tg (.Call (.Name "range" p) [x,y] [] pos) (iD X F G .rng2 sa):=by
 refine PI.weak (zZ (d9 O a) (O.blt _ (by decide)) J (by rw[c9 Z,c9 B];rfl) (by rw[c9 B];rfl)) fun g H R q=>?_;obtain⟨m,V,h,ws,b,l,RR,S,e,e2,J,L⟩:=q;obtain⟨i,j,rfl,c,rfl⟩:=O4 e2 (J.p (by rintro (z|z)<;>cases z));refine⟨m,V,h,_,b,RR,S,e,λk f Y M d W=>?_⟩;cases W with
 |cons r t =>
  cases t with
  |cons D U =>
   cases U;cases r with
   |p r =>
    cases r;cases D with
    |p D =>
     cases D;exact⟨i,j,rfl,⟨by lia,by lia,by lia,by lia⟩,L f Y _ M d (DB i (j-i).toNat)⟩
def GS(O:Ok X F G sc N)(A:d7 sc "reversed"=ah)(g:noStar e=ah)(C:PE X e (tD X F G a)):PI X tg (.Call (.Name "reversed" p) [e] [] pos) (iD X F G .rev (.cons a .nil)):=by
 intro l s k H R I q;obtain⟨m,t,h,ws,i,ds,RR,S,e,e2,P,n⟩:=q;obtain⟨d,rfl,j⟩:=DC (.inr (.inl rfl)) e2 (P.p (by rintro (z|z)<;>cases z));obtain⟨w,T,e4⟩:=ur e;cases T;obtain⟨J,rfl⟩:∃J:List aQ,d=.aD J:=by
  cases d with
  |aD J=>exact⟨J,rfl⟩|_=>exact bO (show(af:Option (List aQ))=aa _ from j) (λz=>nomatch z)
 ·cases j;refine Call_ (jg (u:=.type "reversed") I (d9 O A) (O.blt _ (by decide)) (by decide +kernel) (VS (thn (ju C sV (c9 g) pos l s k H (λf D=>∃a M,f=[.ref a]/\∃B,Ext m H B D/\RH X.K B D i/\((Rd D a (.aD M)/\a∉B)\/KL X.K a M)/\RDs X.K B D M J) I ?_) λus s1 ⟨f,D,I1,V,q1⟩=>?_) (c9 g) rfl))
  ·refine⟨m,t,h,_,i,RR,S,e4,λv D B Z c V=>?_⟩;cases V with
   |p V =>
    cases V with
    |@aD a M _ Y r=>exact⟨a,M,rfl,B,Z,c,Y,r⟩
  ·obtain⟨a,M,rfl,B,Z,c,Y,r⟩:=q1;obtain⟨u,rfl,x⟩:=vals1 V;cases x;obtain⟨z,L,nn,rv,y,ee⟩:=rdL I1 (Y.elim (λq=>.inl q.1) .inr);have Q:s1.heap.IsList a L.toArray:=⟨_,ee,rfl,_,rfl⟩;have W:=r.length;refine call_reversed_list Q ?_;have U:({s1 with heap:=s1.heap.push (revObj a ((L.toArray.size:Int)-1))}:UR).heap.IsRevIter s1.heap.objs.size a ((J.length:Int)-1-((0:Nat):Int)):=by refine⟨_,UX _ rfl,rfl,?_⟩;show Data.fields #[.ref a,WD ((L.toArray.size:Int)-1)]=_;rw[US,←y,W];simp
   refine wpAny_pyIter_revIter U ?_;refine⟨s1.heap.objs.size,[s1.heap.objs.size],_,_,D,rfl,I1.aJ (t':=s1.toks) λb o e=>UO _ e,DA a _ J.length,U,λb E=>?_,n D B _ Z c (Lg Y r)⟩;have e:b=s1.heap.objs.size:=by simpa using E
   subst e;exact I1.Bt (UT _) (I1.aL.fresh (UT _))
end
section
variable{K:UM}
def RKs.any(r:RKs K m H vs kvs)(k:Key):(vs.any λq=>decide (q.1=k))=kvs.any λq=>decide (q.1=k):=by
 induction r with
 |nil=>rfl|cons _ _ _ B=>rw[Xs,Xs,B]
def RKs.snoc(r:RKs K m H vs kvs)(k:Key)(D:RD K m H (kV k) (BT.Ah k))(q:RD K m H v d):RKs K m H (vs++[(k,v)]) (kvs++[(k,d)]):=by
 induction r with
 |nil=>exact .cons D q .nil|cons h r _ B=>exact .cons h r B
def RKs.repl(r:RKs K m H vs kvs)(k:Key)(q:RD K m H v d):RKs K m H (vs.map λB=>if B.1=k then(B.1,v)else B) (kvs.map λB=>if B.1=k then(B.1,d)else B):=by
 induction r with
 |nil=>exact .nil
 |@cons j L M vs kvs J r t D =>
  rw[U8,U8]
  by_cases c:j=k
  rw[bM c,bM c];exact .cons J q D;rw[bN c,bN c];exact .cons J r D
def RKs.put(r:RKs K m H vs kvs)(k:Key)(B:RD K m H (kV k) (BT.Ah k))(q:RD K m H v d):RKs K m H (putK vs k v) (BT.fu kvs k d):=by unfold putK BT.fu;rw[r.any k];split;exact r.repl k q;exact r.snoc k B q
end
section
variable{X:Cx}{F:FT}{G:aA->Option aP}
def GT:PE X (.Dict [] [] p) (tD X F G .dnew):=by intro M s L H Q I q;obtain⟨m,O,h,z,U,R,S,D,J⟩:=q;simp only[aO]at D;cases D;have B:H s.heap.objs.size=af:=I.aL.fresh (UT _);refine wpAny_Dict_empty ⟨.ref s.heap.objs.size,_,I.laid (a:=s.heap.objs.size) (o:=.dK []) (t':=s.toks) (λ_ _ q=>UO _ q) (UT _) (BW s.heap I.big),rfl,?_⟩;refine J _ _ (m++[s.heap.objs.size]) (j7 B) (R.KI B ⟨[],dM,.nil⟩) (.r ?_);rw[←R.len];simp
def Jc:V->V->V->Hp->(Hp->Prop)->Prop:=λo i v H Q=>∃p q k,o=.ref p/\i=kV k/\H p=aa (.dK q)/\q.length<aj/\Q (upd H p (.dK (putK q k v)))
def set_dict:JC X Jc:=by
 intro f s d H o i v g h u Q I O U M q;obtain⟨a,D,k,rfl,rfl,e,l,q⟩:=q;cases O;obtain⟨z,b,L,B,dd⟩:=yw I.aL e;have V:L.length<=aj:=by rw[←B.length];exact z
 have Y:(putK D k v).length<=aj:=by have:=nM D k v;lia
 refine wpAny_setItem_pairs (hsz:=V) (pF U) dd λc J W=>⟨_,?_,q⟩;have Z:∃q,c.get? a=aa q:=let ⟨q,_,_,hq,_⟩:=J;⟨q,hq⟩;exact sZ I (by rw[e];exact True.intro) W Z (w5 Y b (B.put k M) J)
end
section
variable{E:aC->UR->Prop}
def vK(L:ay (Vb prog w) A.in1 (collect v) (λvs B=>vs.length<=aj/\ay (Vb prog w) A.in1.in1 (Builtin.«list.sort» { pos:=[.ref B.heap.objs.size] }) (λfin s2=>∃ u,fin=.done (.ret u)/\Q (.ref B.heap.objs.size) s2) E
 { B with heap:=B.heap.push (seqObj "list" vs.toArray 0) }) E s):ay (Vb prog w) A (call (.builtin "sorted") [v]) Q E s:=by
 refine Calls.call_function_entry kind_sorted plain_sorted entry_sorted (args_sorted1 v) ?_;show ay _ _ (Builtin.sorted {pos:=[v]}) _ _ s;unfold Builtin.sorted;refine UN (av ?_);refine UN (Wm L (λvs B D=>?_) λ_ _ x=>x);obtain⟨J,D⟩:=D;simp only[newList];refine UN (VD ?_ (by first|size_fits|(rw[US];exact J)|exact J));refine UN (VO (W6 slot_list_sort ⟨_,UX _ rfl,rfl⟩ entry_list_sort ?_ (args_list_sort _)));refine Wm D (λfin s2 q=>?_) λ_ _ x=>x;obtain⟨u,rfl,q⟩:=q;exact⟨u,rfl,av ⟨_,rfl,q⟩⟩
end
section
variable{X:Cx}{F:FT}{G:aA->Option aP}
end
section
variable{X:Cx}{F:FT}{G:aA->Option aP}{K:UM}{m:List aB}{H:Hp}
end
section
variable{F:FT}{G:aA->Option aP}
end
section
variable{F:FT}{G:aA->Option aP}
end
section
variable{X:Cx}{F:FT}{G:aA->Option aP}
def TyX(X:Cx)(T:String)(k:BT.Tx):Prop:=∀(D:List (aB×aq)) (s:UR) (B:L2.St) (H:Hp) (v:V) (q:aC) (m:List aB) (x:aP) (ws:List aP) (h:aN) (r:aP×aN),
 Inv X D B H s->RelV v q->RW X.prog X.w X.K m H v x->BT.kTx k (x::ws) h=aa r->s.TypeIs q T/\∀a,q=.ref a->∃ob,s.heap.get? a=aa ob/\ob.dict=af
def GU{k:BT.Tx}{ws:List aP}{h:aN}{z:aP}{h':aN}(q:k≠.dget)(e:BT.kTx k ws h=aa (z,h')):∃ds d,aS ws h=aa ds/\BT.txD k ds=aa d/\z=.p d/\h'=h:=by
 have e:((aS ws h).bind λds=>(BT.txD k ds).map λd=>(aP.p d,h))=aa (z,h'):=by
  cases k with
  |dget=>exact bO rfl q|_=>exact e
 obtain⟨ds,e1,e2⟩:=Option.bind_eq_some_iff.mp e;obtain⟨d,D,B⟩:=dG e2;cases B;exact⟨ds,d,e1,D,rfl,rfl⟩
def O5{ds:List aQ}{d:aQ}(e:BT.txD .join ds=aa d):∃x ys ts,ds=[.str x,.aD ys]/\BT.strsOf ys=aa ts/\(ts.length<=4000/\x.length<=10/\∀t∈ts,t.length<=4000)/\d=.str (Str.join x ts):=by
 match ds,e with
 |[.str x,.aD ys],e =>
  obtain⟨ts,e1,e2⟩:=Option.bind_eq_some_iff.mp (show((BT.strsOf ys).bind λts=>if ts.length<=4000/\x.length<=10/\∀t∈ts,t.length<=4000 then aa (aQ.str (Str.join x ts))else af)=aa d from e);obtain⟨c,q⟩:=dH e2;exact⟨x,ys,ts,rfl,e1,c,q.symm⟩
def Nc{ds:List aQ}{d:aQ}(e:BT.txD .split ds=aa d):∃x y,ds=[.str x,.str y]/\(y.length=1/\x.length<=BT.lim)/\d=.aD ((Txt.split x y).map .str):=by
 match ds,e with
 |[.str x,.str y],e =>
  obtain⟨c,q⟩:=dH (show(if y.length=1/\x.length<=BT.lim then aa (aQ.aD ((Txt.split x y).map .str))else af)=aa d from e);exact⟨x,y,rfl,c,q.symm⟩
def Lh{w:aP}{h:aN}{x:aA}(e:bq w h=aa (.str x)):w=.p (.str x):=by
 cases w with
 |p d=>exact bU aP.p (U3 e)|r n=>obtain⟨_,_,q⟩:=dG (show(br h n).map aQ.aD=aa (.str x) from e);cases q|_=>exact c5 e
def DG{w:aP}{ws:List aP}{h:aN}{ds:List aQ}(e:aS (w::ws) h=aa ds):∃d r,ds=d::r/\bq w h=aa d/\aS ws h=aa r:=by
 cases g:bq w h with
 |none=>simp[aS,g]at e
 |some d =>
  cases q:aS ws h with
  |none=>simp[aS,g,q]at e|some r=>simp[aS,g,q]at e;exact⟨d,r,e.symm,rfl,rfl⟩
def ty_str{k:BT.Tx}(L:k≠.dget)(h:∀ds d,BT.txD k ds=aa d->∃x r,ds=.str x::r):TyX X "str" k:=by
 intro U s O H v V m x ws Y r I B q e;obtain⟨ds,d,e1,e2,_,_⟩:=GU L e;obtain⟨y,r,rfl⟩:=h _ _ e2;obtain⟨Z,W,J,D,_⟩:=DG e1;cases J;have M:=Lh D;subst M;cases q with
 |p r =>
  cases r with
  |str _ ok =>
   obtain⟨t,rfl⟩:=B;exact⟨typeIs_str s y t,λ_ e=>nomatch e⟩
inductive rTx(P:U4)(w:Vl)(K:UM)(k:BT.Tx)(vs:List V)(H:Hp)(Q:VK):Prop
 |mk(m:List aB)(h:aN)(ws:List aP)(z:aP)(h':aN)(R:RH K m H h)(q:RWs P w K m H vs ws)(e:BT.kTx k ws h=aa (z,h'))(p:Post P w K m H z h' Q):rTx P w K k vs H Q
def oTx(k:BT.Tx)(x y:aP)(h:aN):Option (aP×aN):=BT.kTx k [x,y] h
inductive Jd(X:Cx)(m:List aB)(H:Hp)(s:UR)(a:aB)(o:Option aQ)(k:Key):Prop
 |mk(vs:List (Key×aC))(dd:s.heap.DictOf (dI X.prog X.w) a vs)(n:(a==Wt)=ai)(h:(o=af/\valueAt vs k=af)\/∃x v u,o=aa x/\valueAt vs k=aa u/\RelV v u/\RD X.K m H v x):Jd X m H s a o k
def O6{m:List aB}{H:Hp}{vs:List (Key×aC)}{k:aA}:∀{es:List (aA×V)}{kvs:List (aA×aQ)},RDk K es kvs->KV (es.map λq=>((Sum.inr q.1:Key),q.2)) vs->(BT.fG k kvs=af/\valueAt vs (Sum.inr k)=af)\/∃x v u,BT.fG k kvs=aa x/\valueAt vs (Sum.inr k)=aa u/\RelV v u/\RD K m H v x:=by
 intro es
 induction es generalizing vs with
 |nil =>
  intro kvs r q;cases r;cases q;exact .inl ⟨rfl,rfl⟩
 |cons p es U =>
  intro kvs r q;cases r with
  |@cons x v dd _ kvs r t =>
   cases q with
   |@cons p z Z Y M L =>
    obtain⟨W,J⟩:=z;obtain⟨D,B⟩:=M;simp only at D B;subst D;rw[BT.fG]
    by_cases c:k=x
    ·subst c;rw[bM rfl];exact .inr ⟨dd,v,J,rfl,by simp[valueAt],B,r m H⟩
    ·rw[bN c];have O:¬((Sum.inr x:Key)=Sum.inr k):=λz=>c (Sum.inr.inj z).symm;have:=U t L;simp only[valueAt]at this⊢;rw[X7 (by simpa using O)];exact this
def kdG:BT.Kd->aA->Option aQ
 |.t kvs,x=>BT.fG x kvs|.l kvs,x=>BT.dY kvs (.inr x)|_,_=>af
noncomputable def O7:BT.Kd->Bool
 |.t _=>ah|.l _=>ah|_=>ai
def Li{zt:List (aB×aq)}{σ:L2.St}{H:Hp}{s:UR}{m:List aB}{q:BT.Kd}{v:V}{u:aC}(I:Inv X zt σ H s)(r:RW X.prog X.w X.K m H v (.k q))(O:RelV v u)(x:aA)(b:O7 q=ah):
 ∃a,u=.ref a/\Jd X m H s a (kdG q x) (.inr x):=by
 cases r with
 |@k a g J Z D =>
  cases O;obtain⟨c,B,Y,dd⟩:=Z;exact⟨a,rfl,B,dd s.heap I.kIn,c,O6 D Y⟩
 |@kl a ob ws J d D =>
  cases O;refine⟨a,rfl,?_⟩;cases ue I (.inr ⟨_,d.1⟩) D (.inr x)with
  |no B dd n M L=>exact⟨B,dd,n,.inl ⟨M,L⟩⟩|is B dd n y U W M L f e=>exact⟨B,dd,n,.inr ⟨y,U,W,M,L,f,e⟩⟩
 |_=>exact aU b
def DH{x:aP}{ws:List aP}{h:aN}{z:aP}{h':aN}(e:BT.kTx .dget (x::ws) h=aa (z,h')):∃q y,x=.k q/\h'=h/\O7 q=ah/\((ws=[.p .aF]/\z=.p .aF/\∃kvs,q=.t kvs)\/(ws=[.p (.str y)]/\z=.p ((kdG q y).getD .aF))\/∃d,ws=[.p (.str y),.p d]/\z=.p ((kdG q y).getD d)):=by
 have no:∀(o:Option (List aQ)),(o.bind λB=>(BT.txD .dget B).map λd=>(aP.p d,h))=aa (z,h')->False:=by intro o e;obtain⟨B,_,e2⟩:=Option.bind_eq_some_iff.mp e;obtain⟨d,D,_⟩:=dG e2;exact c5 (P:=False) (show(af:Option aQ)=aa d from by rw[←D];unfold BT.txD;rfl)
 cases x with
 |k q =>
  cases q with
  |t kvs =>
   have e:BT.Cv kvs ws h=aa (z,h'):=e;unfold BT.Cv at e;split at e;cases e;exact⟨_,"",rfl,rfl,rfl,.inl ⟨rfl,rfl,_,rfl⟩⟩;cases e;exact⟨_,_,rfl,rfl,rfl,.inr (.inl ⟨rfl,rfl⟩)⟩;cases e;exact⟨_,_,rfl,rfl,rfl,.inr (.inr ⟨_,rfl,rfl⟩)⟩;exact c5 e
  |l kvs =>
   have e:BT.xu kvs ws h=aa (z,h'):=e;unfold BT.xu at e;split at e;cases e;exact⟨_,_,rfl,rfl,rfl,.inr (.inl ⟨rfl,rfl⟩)⟩;cases e;exact⟨_,_,rfl,rfl,rfl,.inr (.inr ⟨_,rfl,rfl⟩)⟩;exact c5 e
  |m w=>exact(no (aS (.k (.m w)::ws) h) e).elim|q d w=>exact(no (aS (.k (.q d w)::ws) h) e).elim|s w=>exact(no (aS (.k (.s w)::ws) h) e).elim
 |p d=>exact(no (aS (.p d::ws) h) e).elim|r n=>exact(no (aS (.r n::ws) h) e).elim|o n=>exact(no (aS (.o n::ws) h) e).elim|c f J=>exact(no (aS (.c f J::ws) h) e).elim|x c=>exact(no (aS (.x c::ws) h) e).elim
def ty_dict:TyX X "dict" .dget:=by intro V s U H v Y m x ws Z r I D B e;obtain⟨z,c⟩:=r;obtain⟨q,y,rfl,_,L,_⟩:=DH e;obtain⟨a,rfl,W,dd,n,_⟩:=Li I B D y L;refine⟨dd.typeIs,λb O=>?_⟩;cases O;obtain⟨o,d,f,M,J,_⟩:=dd;exact⟨o,M,J.2.1⟩
end
def qj:∀(ns:List Int),(Vj ns.length).map (λi=>ns.getD i 0)=ns:=by intro ns;refine List.ext_getElem (by simp) λi B q=>?_;simp only[Y6,List.getElem_range];rw[VW,U1 q];rfl
def GV(ns:List Int):Wn (λi=>ns.getD i 0) ns.length=bE ns:=by unfold Wn;rw[qj];rfl
section
def RRs.two{m:List aB}{H:Hp}{vs:List V}{d e:aQ}(r:RRs K m H vs [d,e]):∃v u,vs=[v,u]/\RR K m H v d/\RR K m H u e:=by
 cases r with
 |cons r t=>obtain⟨u,rfl,q⟩:=t.one;exact⟨_,u,rfl,r,q⟩
end
section
variable{F:FT}{G:aA->Option aP}
def DI{X:Cx}{sc:Vw}{N:List aA}(O:Ok X F G sc N)(hu:gZ N=ah){ex de:UP}{a d:aR}{np p kp:Pos}(hg:d7 sc "max"=ah)(E:noStar ex=ah)(ha:PE X ex (tD X F G a))(hd:PE X de (tD X F G d)):
 PE X (.Call (.Name "max" np) [ex] [⟨aa "default",de,kp⟩] p) (tD X F G (.bi .maxd ai (.cons a (.cons d .nil)))):=by
 intro zt s σ H Q I q;refine V4 (jg (u:=.builtin "max") I (d9 O hg) (O.blt _ (by decide +kernel)) (by decide +kernel) (callWith_kw ?_ (by rw[c9 E];rfl) (by rw[c9 E];rfl) rfl rfl) (by decide) (by decide));obtain⟨m,s',h,z,h',R,S,ee,V⟩:=q;simp only[aO,aZ]at ee;obtain⟨ws,g1,e1,e2⟩:=dg ee;obtain⟨x,g2,e3,e4⟩:=dg e1;simp only[BT.k9]at e4;obtain⟨w1,g3,e5,e6⟩:=dg e4;obtain⟨y,g4,e7,e8⟩:=dg e5;have e8:aa ([y],g4)=aa (w1,g3):=e8;cases e8;have e6:aa ([x,y],g3)=aa (ws,g1):=e6;cases e6;rw[c9 E];show ay _ _ (Zt ((ai,eval ex X.env)::WU p (Vo [] X.env))) _ _ s;refine Wz (thn (ha zt s σ H (λv U=>∃J,Ext m H J U/\RH X.K J U g2/\RW X.prog X.w X.K J U v x) I ⟨m,s',h,x,g2,R,S,e3,λv U J b R1 C=>⟨J,b,R1,C⟩⟩) λu e ⟨v,U,I1,rv,J,b,R1,C⟩=>Xe ?_);refine evalAll_cons (UN (thn (hd zt e σ U (λc D=>∃m2,Ext J U m2 D/\RH X.K m2 D g1/\RW X.prog X.w X.K m2 D c y) I1 ⟨J,s',g2,y,g1,R1,S.ext b,e7,λc D m2 Z R2 A=>⟨m2,Z,R2,A⟩⟩) λu2 k zq=>?_));obtain⟨c,D,g,n,m2,Z,R2,A⟩:=zq;refine UN (Yh (av (evalAll_nil ?_)));show ay _ _ (call (.builtin "max") [u] [(U7 "default",u2)]) _ _ k;have l:RWs X.prog X.w X.K m2 D [v,c] [x,y]:=.cons (C.ext Z) (.cons A .nil);obtain⟨ds,dd,k1,k2,⟨_,rfl,rfl⟩|⟨_,q,_⟩⟩:=iO e2
 rotate_left
 cases q;have rr:=iz R2 l k1;have T:∃Y i,ds=[.aD Y,.int i]:=by
  match ds,k2 with
  |[.aD Y,.int i],_=>exact⟨Y,i,rfl⟩
 obtain⟨Y,i,rfl⟩:=T;rw[BT.vm]at k2;obtain⟨W,q1,q2⟩:=dG k2;subst q2;have V:Post X.prog X.w X.K m2 D _ _ Q:=λv5 H5 m5 x5 R5 r5=>V v5 H5 m5 ((b.trans Z).trans x5) R5 r5;obtain⟨v0,v1,ev,r,o⟩:=rr.two;cases ev;obtain⟨a0,vt,rfl,hl,ra⟩:=r.aD;rw[gM q1]at ra;have ev:=gC ra;subst ev;cases o.int;obtain⟨t2,rfl⟩:=n;cases rv;obtain⟨its,rvs,f,hz⟩:=g.list hl.sq;have hi:=intsAre_of rvs;obtain⟨L,ey⟩:=hi.allInts.items;have B:W=L.toList.map (·.1):=by rw[←hi.numsOf,←aaJ,←ey]
 have f:=f.isList;rw[ey]at f;refine BX.AJ (g.ok.hd (O.calm hu)) f (λhp v h' tk hv P=>?_) λhp h' tk P=>?_
 ·obtain⟨t,rfl⟩:=Z4 hv;obtain⟨h1,h2⟩:=argBest_gt (numAt L) (L.size-1);have:BT.vf W=aa (numAt L (YY (λi j=>decide (numAt L i>numAt L j)) (L.size-1))):=by
   cases gm:BT.vf W with
   |none =>
    have:W=[]:=by
     cases W with
     |nil=>rfl|cons _ _=>cases gm
    rw[this]at B;have:=bU Zp B;rw[U0,Ve]at this;simp at this;lia
   |some M =>
    obtain⟨e,k⟩:=BT.m7 gm;refine bU aa (ZF ?_ (k _ ?_))
    ·rw[B]at e;obtain⟨j,hj,rfl⟩:=mem_getD e;rw[U0,Ve]at hj;rw[←ZU];exact h2 j (by lia)
    rw[B,ZU];exact getD_mem (by rw[U0,Ve];lia)
  refine⟨.int _,D,g.aJ P,⟨t,rfl⟩,?_⟩;rw[this]at V;exact V.here R2 (.int _)
 ·have:W=[]:=by rw[B];exact Xn (by rw[U0,Ve];exact hp)
  rw[this]at V;exact⟨.int _,D,g.aJ P,⟨t2,rfl⟩,V.here R2 (.int _)⟩
end
end BS
end
section
namespace BX
open PySem PyProof.Rows
def NX.keep{S:aB}(N:NX w h it a ord i)(M:h.get? S=aa oS)(L:oS.cls=.type "list")(Z:a≠S)(k:∀b o,b≠S->h.get? b=aa o->h'.get? b=aa o):NX w h' it a ord i:=by
 obtain⟨o,g,j,t,first,W,D,Y,q,m⟩:=N.ex;refine⟨o,g,j,t,first,k _ _ Z W,D,Y,k _ _ (λz=>?_) q,?_⟩
 ·subst z;rw[M]at q;cases q;exact bO (show(XM "set_iterator")=.type "list" from L) (by decide)
 ·cases m with
  |A J=>exact .A J
  |B f V =>
   obtain⟨O,e,c,n,d⟩:=f;refine .B ⟨O,k _ _ (λz=>?_) e,c,n,d⟩ V;subst z;rw[M]at e;cases e;rw[L]at c;exact bO c (by decide)
  |C J D U=>exact .C J D U
section
variable{prog:U4}{w:Vl}{A:VU}{E:aC->UR->Prop}{s:UR}{R:Z8->UR->Prop}
def DJ(C:A.handled=af){B a S:aB}{ord:List aC}{Z:aq}{es:Array (Int×aC)}{ep:Nat}{t:SetTable}{h₁:au}(U:B≠a)(W:a≠S)(V:B≠S)(hn:ord.length<=aj)(H:h₁.get? a=aa Z)(E:Z.data=.set es ep t)(x:ord.length=es.size)(res:aC)
(G:∀h' c,(∀b o,b≠S->b≠B->h₁.get? b=aa o->h'.get? b=aa o)->h'.get? S=aa {cls:=.type "list",dict:=af,data:=.seq ord.toArray c,slots:=#[]}->R (.ok (.ret res)) {s with heap:=h'}):
 ∀(k i:Nat)(h:au)(c:Nat),ord.length-i=k->i<=ord.length->NX w h B a ord i->(∀b o,b≠S->b≠B->h₁.get? b=aa o->h.get? b=aa o) →
  h.get? S=aa {cls:=.type "list",dict:=af,data:=.seq (ord.take i).toArray c,slots:=#[]} →
  ak (Vb prog w) A (.builtin "list.extend.loop" ⟨[.ref S,.ref B,res],[]⟩) R {s with heap:=h}:=by
 intro k
 induction k with
 |zero =>
  intro i h c y z N q Y;have O:i=ord.length:=by lia
  refine codeAny_builtin Zd ?_;rw[VF Wf _];show ay _ A.in1 (Y8 (.ref B) >>= _) _ _ _;refine UN (J4 (s:={s with heap:=h}) (A:=A.in1) C N O (λo I K T e1 e2=>?_) λh' j=>?_)
  ·have P:=q a Z W U.symm H;replace e1:h.get? a=aa o:=e1;rw[P]at e1;cases e1;rw[E]at e2;cases e2;exact x
  ·subst O;rw[List.take_length]at Y;exact av (G h' c (λb o r g e=>j b o g (q b o r g e)) (j S _ V.symm Y))
 |succ k u =>
  intro i h c y z N q Y;have L:i<ord.length:=by lia
  have v:ord[i]?=aa ord[i]:=U1 L;refine codeAny_builtin Zd ?_;rw[VF Wf _];show ay _ A.in1 (Y8 (.ref B) >>= _) _ _ _;refine UN (FW (s:={s with heap:=h}) N U v λh' Q p=>?_);have M:∀b o,b≠B->h.get? b=aa o->h'.get? b=aa o:=p.extBut;have D:=M S _ V.symm Y;have f:∀b o,b≠S->h'.get? b=aa o->(h'.update S (WQ (·.push ord[i]))).get? b=aa o:=λb o F e=>(VC _ _ (VN F)).trans e;have J:(ord.take i).toArray.size=i:=by simp;lia
  show ay _ A.in1 (updateSeq S (·.push ord[i]) >>= _) _ _ _;refine UN ?_;have n:(ord.take i).toArray.push ord[i]=(ord.take (i+1)).toArray:=by rw[List.push_toArray,List.take_append_getElem]
  obtain⟨d,hg⟩:∃d,(h'.update S (WQ (·.push ord[i]))).get? S=aa {cls:=.type "list",dict:=af,data:=.seq (ord.take (i+1)).toArray d,slots:=#[]}:=⟨_,by rw[←n];exact Vr (WQ (·.push ord[i])) D rfl⟩;exact WR D rfl (av ⟨plainId_quiet Wf _,u (i+1) _ d (by lia) L (Q.keep D rfl W f) (λb o m l e=>f b o m (M b o l (q b o m l e))) hg⟩) (by rw[J];lia) (by show((ord.take i).toArray.push ord[i]).size<=aj+1;rw[Array.size_push,J];lia)
end
def GW:typeLookup (.type "set") "__len__"=pure (aa (.builtin "set.__len__")):=by rw[typeLookup_type,builtinLookup_eq_fast];kernel_rfl
section
variable{E:aC->UR->Prop}
def DK(B:s.TypeIs (.ref r) "set")(h:Q ai s):ay (Vb prog w) A (YB (.ref r)) Q E s:=by
 unfold YB;refine UN (wpAny_specialOf B GW ?_);generalize hid:("set.__len__":String)=id0
 wp_delta
 rw[show splitId id0=aa ("set","__len__") from by subst hid;decide +kernel];subst hid;refine UN (Xy (T:="set") (b:=ah) B (by rw[isSubtype_type];kernel_rfl) ?_);refine YC (λq=>bO q (by decide)) (λ_=>?_);refine YC (λ_=>?_) (λq=>bO (by decide +kernel) q);refine UN (Xu B ?_);exact av h
def xH{R:Z8->UR->Prop}(v:A.handled=af){a S:aB}{o:aq}{es:Array (Int×aC)}{ep:Nat}{t:SetTable}(Y:s.heap.get? a=aa o)(Z:o.ExactSet)(m:o.data=.set es ep t)(x:t.fits es.size=ah)(J:es.size<Xv)(r:Tb (w.params.followText "set-order") t)(O:a≠S)(res:aC)(L:Nat)(j:s.heap.get? S=aa {cls:=.type "list",data:=.seq #[] L})
(z:∀h' d (ord:List aC) c,(∀b o,b≠S->s.heap.get? b=aa o->h'.get? b=aa o)->ord.Perm (es.toList.map (·.2))->h'.get? S=aa {cls:=.type "list",dict:=af,data:=.seq ord.toArray c,slots:=#[]}->R (.ok (.ret res)) {s with heap:=h',drawn:=d}):
 ay (Vb prog w) A.in1 (Xf (.ref S) (.ref a) res)
  (λfin s'=>match fin with|.done f=>R (.ok f) s'|.again c'=>c'.quiet=ah/\ak (Vb prog w) A c' R s') (λe s'=>R (.error e) s') s:=by
 have y:s.TypeIs (.ref a) "set":=⟨o,Y,Z.1⟩;have H:a<s.heap.objs.size:=UW Y;have Sl:S<s.heap.objs.size:=UW j;unfold Xf;refine UN (Xu y ?_);have F:YR (.ref S) (.ref a)=ai:=by simp[YR,O.symm]
 have E:(XM "set"==XM "list")=ai:=by decide
 have C:(XM "set"==XM "tuple")=ai:=by decide
 simp only[F,E,C,YM,Xb,if_false];refine UN (Ce (s:=s) Y Z m x J r λh₁ d p ord N V M u k=>?_);have n:ord.length=es.size:=by rw[k.length_eq,U0,Ve]
 have G:=Xo J;have W:∀(h:au)(D:Nat),(∀b o,b≠S->h₁.get? b=aa o->h.get? b=aa o)->h.get? S=aa {cls:=.type "list",data:=.seq #[] D}->ak (Vb prog w) A (.builtin "list.extend.loop" ⟨[.ref S,.ref p,res],[]⟩) R {s with heap:=h,drawn:=d}:=by
  intro h D l q;refine DJ (s:={s with drawn:=d}) (h₁:=h₁) (t:=t) v (WM (Vg H M)) O (WM (Vg Sl M)) (by lia) (V a o Y) m n res (λh' c g i=>z h' d ord c (λb o J e=>g b o J (Vi (Vg (UW e) M)) (V b o e)) k i)
   ord.length 0 h D (Nat.sub_zero _) (VL _) (N.keep (V S _ j) rfl O l) (λb o J _ e=>l b o J e) (by simpa using q)
 have q:=V S _ j;refine UN (VO (DK (s:={s with heap:=h₁,drawn:=d}) ⟨o,V a o Y,Z.1⟩ ?_));refine YC (λ_=>?_) (λ_=>av ⟨plainId_quiet Wf _,W _ L (λb o _ e=>e) q⟩);refine UN (YJ ?_);refine UN ?_;show ay _ _ (updateSeq S (·.push .none) >>= λ_=>updateSeq S (·.pop)) _ _ _;refine UN (WR q rfl ?_);have B:=Vr (WQ (·.push Xd)) q rfl;refine WR (hz:=by seq_fits) B rfl ?_;have U:=Vr (WQ (·.pop)) B rfl;refine av ⟨plainId_quiet Wf _,W _ _ (λb o J e=>?_) U⟩;exact(VC _ _ (VN J)).trans ((VC _ _ (VN J)).trans e)
def vL(i:A.handled=af)(W:s.heap.get? a=aa o)(Z:o.ExactSet)(k:o.data=.set es ep t)(j:t.fits es.size=ah)(m:es.size<Xv)(c:Tb (w.params.followText "set-order") t)
(h:∀h' d ord,s.heap.objs.size<h'.objs.size->(∀b o,s.heap.get? b=aa o->h'.get? b=aa o)->ord.Perm (es.toList.map (·.2))->R ord {s with heap:=h',drawn:=d}):
 ay (Vb prog w) A (collect (.ref a)) R E s:=by
 have g:a<s.heap.objs.size:=UW W;unfold collect;refine UN (wpAny_runValue (codeAny_builtin PySem.F.entry_proto_collect ?_));rw[VF PySem.F.plain_proto_collect _];show ay _ A.in1 (newList [] >>= λl=>again (.builtin "list.__iadd__" ⟨[l,.ref a],[]⟩)) _ _ s;refine UN (VD ?_);refine av ⟨plainId_quiet Zy _,codeAny_builtin PySem.F.entry_list_iadd ?_⟩;rw[VF Zy _];have D:(s.heap.push {cls:=.type "list",data:=.seq ([]:List aC).toArray}).get? s.heap.objs.size=aa {cls:=.type "list",data:=.seq #[]}:=UX _ rfl;show ay _ A.in1 (Xf (.ref s.heap.objs.size) (.ref a) (.ref s.heap.objs.size)) _ _ _;have U:=xH (prog:=prog) (A:=A) (s:={s with heap:=s.heap.push {cls:=.type "list",data:=.seq ([]:List aC).toArray} })
  (R:=λ(q:Z8) (O:UR)=>∃ (h':au) (d:Drawn) (ord:List aC) (M:Nat),q=.ok (.ret (.ref s.heap.objs.size))/\O={ s with heap:=h',drawn:=d } ∧
   (∀ b o,s.heap.get? b=aa o->h'.get? b=aa o)/\ord.Perm (es.toList.map (·.2))/\h'.get? s.heap.objs.size=aa { cls:=.type "list",dict:=af,data:=.seq ord.toArray M,slots:=#[] })
  i (UO _ W) Z k j m c (Vi g) (.ref s.heap.objs.size) 0 D
  (λh' d ord M L J B=>⟨h',d,ord,M,rfl,rfl,λb o e=>L b o (Vi (UW e)) (UO _ e),J,B⟩)
 refine Wm U (λfin O x=>?_) λe O x=>?_
 ·cases fin with
  |done f =>
   obtain⟨h',d,ord,M,e,rfl,L,J,B⟩:=x;cases e;show ay _ A (load s.heap.objs.size >>= _) _ _ _;refine UN (wpAny_load B ?_);refine av ?_;show R ord.toArray.toList _;exact h h' d ord (UW B) L J
  |again Y =>
   refine⟨x.1,codeAny_mono x.2 λq V y=>?_⟩;obtain⟨h',d,ord,M,rfl,rfl,L,J,B⟩:=y;show ay _ A (load s.heap.objs.size >>= _) _ _ _;refine UN (wpAny_load B ?_);refine av ?_;show R ord.toArray.toList _;exact h h' d ord (UW B) L J
 ·obtain⟨_,_,_,_,n,_⟩:=x;cases n
theorem za:∀{vs:List aC},(∀v∈vs,∃k,Zb k v=ah)->∃ks,XQ vs ks/\∀k,k∈ks↔∃v∈vs,Zb k v=ah
 |[],_=>⟨[],.nil,λk=>by simp⟩
 |v::vs,h=>by
  obtain⟨k,D⟩:=h v UY;obtain⟨ks,O,L⟩:=za λu M=>h u (UV _ M);obtain⟨t,rfl⟩:=aaO D;refine⟨k::ks,.cons k t O,λj=>?_⟩;constructor
  ·intro J;rcases List.mem_cons.mp J with rfl|J
   exact⟨_,UY,D⟩
   ·obtain⟨u,q,B⟩:=(L j).mp J;exact⟨u,UV _ q,B⟩
  ·rintro ⟨u,q,B⟩
   rcases List.mem_cons.mp q with rfl|q
   rw[Value.isInt_inj _ _ _ B D];exact UY;exact UV _ ((L j).mpr ⟨u,q,B⟩)
theorem rW:∀{l ks:List Int},l.Nodup->(∀k∈l,k∈ks)->ks.length=l.length->l.Perm ks
 |[],ks,_,_,h=>by rw[List.length_eq_zero_iff.mp h]
 |x::l,ks,n,m,h=>by have q:=m x UY;obtain⟨J,D⟩:=List.nodup_cons.mp n;have:=rW (l:=l) (ks:=ks.erase x) D (λk B=>(List.mem_erase_of_ne (a:=k) (b:=x) (λz=>J (by rw[←z];exact B))).mpr (m k (UV _ B))) (by rw[List.length_erase_of_mem q,h];simp);exact(this.cons x).trans (List.perm_cons_erase q).symm
theorem xJ:∀(ns q:List Int),q.Nodup->(ns.foldl (fun σ v=>if σ.any (·==v)then σ else σ++[v]) q).Nodup
 |[],q,h=>h
 |n::ns,q,h=>by
  show(ns.foldl _ (if q.any (·==n)then q else q++[n])).Nodup
  by_cases c:q.any (·==n)=ah
  rw[bM c];exact xJ ns q h
  ·rw[bN c];refine xJ ns _ (List.nodup_append.mpr ⟨h,by simp,λa D b B=>?_⟩);rw[List.mem_singleton.mp B];intro z;subst z;exact c (List.any_eq_true.mpr ⟨a,D,by simp⟩)
def rX(ns:List Int):(bE ns).Nodup:=xJ ns [] Yv
def AM(p:us.Perm vs)(h:XQ vs ks):∃B,XQ us B/\B.Perm ks:=by
 induction p generalizing ks with
 |nil=>exact⟨ks,h,.refl _⟩
 |cons x p O =>
  cases h with
  |cons n t h =>
   obtain⟨B,a,b⟩:=O h;exact⟨n::B,.cons n t a,b.cons n⟩
 |swap x y l =>
  cases h with
  |cons n t h =>
   cases h with
   |cons L M h=>exact⟨L::n::_,.cons L M (.cons n t h),.swap _ _ _⟩
 |trans p q J D =>
  obtain⟨W,a,b⟩:=D h;obtain⟨k2,V,U⟩:=J a;exact⟨k2,V,U.trans b⟩
def xK(x:A.handled=af)(r:qU prog w (w.params.followText "set-order") s.heap a (λj=>(bE ns).any (·==j)) (bE ns).length)(G:(bE ns).length<64)
(F:∀h' d p out e,XQ out.toList (BT.sortI (bE ns))->(∀b o,s.heap.get? b=aa o->h'.get? b=aa o)->s.heap.objs.size<=p->h'.get? p=aa (seqObj "list" out e)->Q (.ref p) {s with heap:=h',drawn:=d}):
 ay (Vb prog w) A (call (.builtin "sorted") [.ref a]) Q E s:=by
 obtain⟨o,I,S,t,u,hex,z,M,C,W,y,hn,m⟩:=r;have H:=Xo W;refine BS.vK (vL (A:=A.in1) x u hex z y W m λh' d ord K Y J=>⟨by rw[J.length_eq,U0,Ve];lia,?_⟩);obtain⟨ks,V,k2⟩:=za (vs:=I.toList.map (·.2)) λv l=>by obtain⟨e,B,rfl⟩:=List.mem_map.mp l;obtain⟨⟨k,L,_⟩,_⟩:=M e B;exact⟨k,L⟩
 obtain⟨f,i,g⟩:=AM J V;have c:ks.length=(bE ns).length:=by have:=aaC V;simp at this;lia
 have Z:(bE ns).Perm ks:=rW (rX ns) (λk L=>(k2 k).mpr (by
  obtain ⟨e,B,q⟩:=(C k).mp (List.any_eq_true.mpr ⟨k,L,by simp⟩);exact ⟨e.2,List.mem_map.mpr ⟨e,B,rfl⟩,q⟩)) c
 refine PyProof.Rows.list_sort_tree (UX _ rfl) i (by rw[J.length_eq,U0,Ve];lia) λout D R P N=>⟨_,rfl,?_⟩;obtain⟨e,B⟩:=PyProof.Rows.sortedHeap_at (h:=h'.push (seqObj "list" ord.toArray 0)) (a:=h'.objs.size) (vs:=ord) (n:=0) (out:=out) (UX _ rfl);have O:D=BT.sortI (bE ns):=aaz ((P.trans g).trans (Z.symm.trans (BT.sortI_perm _).symm)) N (BT.pR _);subst O;refine F _ d _ out e R (λb ob q=>?_) (V6 K) B;have U:=Y b ob q;have lt:=UW U;rw[PyProof.Rows.sortedHeap_old (Vi lt) (by rw[V5];exact Y3 lt)];exact UO _ U
end
end BX
namespace BS
open PySem PySem.Spec PyProof.Rows L2
def Inv.drew(I:Inv X zt σ H s):Inv X zt σ H {s with drawn:=d}:=⟨I.ok,I.os,I.bare,I.base,I.loc,I.cell,I.free,I.freeC,I.pin,I.aL,I.len⟩
theorem xM:∀(ns q:List Int),(ns.foldl (fun σ v=>if σ.any (·==v)then σ else σ++[v]) q).length<=ns.length+q.length
 |[],q=>by simp
 |n::ns,q=>by
  show(ns.foldl _ (if q.any (·==n)then q else q++[n])).length<=_
  by_cases c:q.any (·==n)=ah
  ·rw[bM c];have:=xM ns q;simp only[Va];lia
  ·rw[bN c];have:=xM ns (q++[n]);simp only[Va,U9,Wa]at this⊢;lia
section
def DL(O:Ok X F G sc N)(f:gZ N=ah)(T:d7 sc "sorted"=ah)(M:d7 sc "set"=ah)(E:noStar ex=ah)(hA:PA X [ex] (tDs X F G sa)):
 PE X (.Call (.Name "sorted" np) [.Call (.Name "set" zp) [ex] [] pos] [] p) (tD X F G (.bi .sset ai sa)):=by
 intro k s j H Q I q;have q:=jV q;refine Call_ (jg (u:=.builtin "sorted") I (d9 O T) (O.blt _ (by decide)) (by decide +kernel) (Ym ?_ (c9 rfl) rfl));rw[c9 (show noStar (.Call (.Name "set" zp) [ex] [] pos)=ah from rfl)];show ay _ _ (Zt ((ai,eval (.Call (.Name "set" zp) [ex] [] pos) X.env)::WU p (Vo [] X.env))) _ _ s;refine Wz (Call_ (jg (u:=.type "set") I (d9 O M) (O.blt _ (by decide)) (by decide +kernel) (VS (thn (hA pos k s j H _ I q) λus s1 ⟨vs,H1,I1,r1,q1⟩=>?_) (c9 E) rfl)));obtain⟨m,h,ws,z,h',R,L,e,l⟩:=q1;obtain⟨i,d,e1,e2,⟨_,rfl,rfl⟩|⟨_,q,_⟩⟩:=iO e
 rotate_left
 exact aU q;have n:=iz R L e1;have hd:∃D,i=[.aD D]:=by
  match i,e2 with
  |[.aD D],_=>exact⟨D,rfl⟩
 obtain⟨D,rfl⟩:=hd;rw[BT.vj]at e2;obtain⟨ns,g1,J⟩:=Option.bind_eq_some_iff.mp e2
 by_cases c:ns.length<64
 rotate_left
 rw[bN c]at J;exact bG J;rw[bM c]at J;cases J;obtain⟨v,rfl,r⟩:=n.one;obtain⟨a,vt,rfl,ha,ra⟩:=r.aD;rw[gM g1]at ra;have ev:=gC ra;subst ev;obtain⟨u,rfl,eu⟩:=vals1 r1;cases eu;obtain⟨B,Z,t,hz⟩:=I1.list ha.sq;have S:=intsAre_of Z;have w:=Z.length;rw[U0]at w;have sz:B.toArray.size=ns.length:=by simp;lia
 refine BX.B8 (items:=B.toArray) (ns:=ns) (I1.ok.hd (O.calm f)) t.isList (by simpa using S) (by rw[sz];unfold Xv;lia) λh2 Y U P=>?_;rw[sz,GV]at U;refine Xe ?_;have dl:=xM ns [];have W:(bE ns).length<64:=by have:(bE ns).length<=ns.length+0:=dl;lia
 refine BX.xK (s:={s1 with heap:=h2,toks:=Y}) (ns:=ns) (I1.ok.hd (O.calm f)) U W λh3 d p out e A k2 y x=>?_;have g:s1.heap.objs.size<=p:=by obtain⟨o,_,_,_,K,_⟩:=U;exact Vp (V6 (UW K)) y
 have C:=kJ A;have sl:aj=16777216:=WT;have l2:(BT.sortI (bE ns)).length=(bE ns).length:=(BT.sortI_perm _).length_eq;exact⟨.ref _,_,Inv.drew (I1.laid (o:=.aD ((BT.sortI (bE ns)).map V.int)) (t':=Y) (λb u q=>k2 b u (P b u q)) g ⟨by rw[U0];lia,out.toList,e,C,x⟩),rfl,jB R (I1.aL.fresh g) (qc _) l⟩
end
end BS
end
section
namespace BS
open PySem PySem.Spec PyProof.Rows L2
section
end
noncomputable def om(sc:Vw)(x:aA):Bool:=match sc.names.lookup x with
 |some .local=>ah|some .cell=>ah|_=>ai
inductive CTs(sc:Vw)(N:List aA):List (Nat×aA)->List UP->Prop
 |nil:CTs sc N [] []
 |cons{i:Nat}{x:aA}{p:Pos}{tg:List (Nat×aA)}{es:List UP}(h1:N[i]?=aa x)(h2:om sc x=ah)(r:CTs sc N tg es):CTs sc N ((i,x)::tg) (.Name x p::es)
inductive CT(sc:Vw)(N:List aA):List (Nat×aA)->UP->Prop
 |one{i:Nat}{x:aA}{p:Pos}(h1:N[i]?=aa x)(h2:om sc x=ah):CT sc N [(i,x)] (.Name x p)
 |aE{tg:List (Nat×aA)}{es:List UP}{p:Pos}{k:Nat}(q:Nat.ble 2 tg.length=ah)(h:CTs sc N tg es):CT sc N tg (.Tuple es k p)
section
def RS.set{K:UM}(S:RS P w K m H σ s)(r:RW P w K m H v z):RS P w K m H (σ.set i (aa v)) (s.set i (aa z)):=by
 refine⟨by simp[S.len],λj y e=>?_⟩
 by_cases c:i=j
 ·subst c;have B:i<s.length:=by
   rcases Vd i s.length with q|q
   exact q;rw[U5 (by simpa using q)]at e;exact c5 e
  rw[VB B]at e;cases e;exact⟨v,by rw[VB (by rw[S.len];exact B)],r⟩
 ·rw[Vm c]at e;obtain⟨u,J,D⟩:=S.get j y e;exact⟨u,by rw[Vm c];exact J,D⟩
def nv(O:Ok X F G sc N)(h:om sc x=ah):L2.Loc X.env.scope x:=by
 rw[O.hsc];unfold om at h;unfold L2.Loc;cases e:sc.names.lookup x with
 |none=>rw[e]at h;exact aU h
 |some k=>rw[e]at h;cases k<;>first|(exact .inl rfl)|(exact .inr rfl)|exact aU h
def zb(h:lH e=ah):∀x,foldedSetIterable e env x=pure x:=by intro x;cases e<;>first|rfl|exact aU h
def GOk(X:Cx)(tg:List (Nat×aA))(g:TG):Prop:=∀(m:List aB)(H:Hp)(B:L2.St)(s:bf) (x:V) (d:aQ) (D:List aQ) (Q:L2.St->Hp->Prop),RS X.prog X.w X.K m H B s->RD X.K m H x d->bA tg.length d=aa D →
 (∀q,RS X.prog X.w X.K m H q (BT.sets tg D s)->Q q H)->g x B H Q
def SQ(K:UM)(n:Nat)(t:TGs):TG:=λv B H Q=>∃a q,v=.ref a/\(SqT K H a q\/LL K H a q)/\q.length=n/\t q B H Q
def Lj{X:Cx}{es:List UP}{k:Nat}{t:TGs}{n:Nat}{pos:Pos}(U:X.calm=ah)(h:PGs X es t)(hn:(WV es X.env).length=n)(q:(WV es X.env).findIdx? (·.1)=af):PG X (.Tuple es k pos) (SQ X.K n t):=by
 intro D s B H v u Q I r hw;obtain⟨a,M,rfl,L|L,O,hw⟩:=hw;exact JD U h hn q D s B H _ u Q I r ⟨a,M,rfl,L,O,hw⟩
 ·cases r;obtain⟨z,J,f,V,Y,e⟩:=rdL I L;rw[assign_Tuple];refine UN (Yh ?_);unfold unpack;rw[hn,q];refine UN (VO ?_);have sz:n=J.toArray.size:=by rw[US,←O];exact Y
  rw[sz];refine PySem.W.kun_itemsOf (I.ok.hd U) ⟨_,e,rfl,_,rfl⟩ λc Z=>?_;have d:Inv X D B H {s with heap:=c}:=I.aJ (t':=s.toks) λb o e=>Z b o (Vi (UW e)) e;exact h D _ B H M _ Q d (by simpa using V) hw
inductive GsO(X:Cx)(tg:List (Nat×aA))(es:List UP):Prop
 |mk(q:TGs)(h:PGs X es q)(hn:(WV es X.env).length=tg.length)(B:(WV es X.env).findIdx? (·.1)=af)
  (ok:∀(m:List aB)(H:Hp)(σ:L2.St)(s:bf) (vs:List V) (ds:List aQ) (Q:L2.St->Hp->Prop),RS X.prog X.w X.K m H σ s->RDs X.K m H vs ds->ds.length=tg.length->(∀σ',RS X.prog X.w X.K m H σ' (BT.sets tg ds s)->Q σ' H)->q vs σ H Q):GsO X tg es
def SR{X:Cx}{sc:Vw}{N:List aA}(O:Ok X F G sc N){tg:List (Nat×aA)}{es:List UP}(h:CTs sc N tg es)(M:∀q∈tg,X.fn q.2=ah\/X.env.scope.names.lookup q.2=aa .local):GsO X tg es:=by
 induction h with
 |nil =>
  refine⟨ND,Fk,rfl,rfl,λm H L s B J Q S r D q=>?_⟩;cases r with
  |nil=>exact⟨rfl,q _ S⟩|cons _ _=>cases D
 |@cons i x p tg es a Z r U =>
  obtain⟨b,Y,hn,V,ok⟩:=U λq W=>M q (UV _ W);refine⟨_,Bp (yl (i:=i) O.nd (by rw[O.hN];exact a) (nv O Z) (M (i,x) (by simp))) Y,bU (·+1) hn,?_,λm H L s B J Q S r D q=>?_⟩
  ·show((ai,ZH (.Name x p) X.env)::WV es X.env).findIdx? (·.1)=af;rw[List.findIdx?_cons];show(if ai=ah then _ else _)=_;rw[bN (by decide),V];rfl
  ·cases r with
   |nil=>cases D|@cons v d B J ra t=>exact⟨v,B,rfl,ok m H (L.set i (aa v)) (s.set i (aa (.p d))) B J Q (S.set (.p ra)) t (Nat.succ.inj D) q⟩
def sCT(O:Ok X F G sc N)(W:X.calm=ah)(h:CT sc N tg te)(J:∀q∈tg,X.fn q.2=ah\/X.env.scope.names.lookup q.2=aa .local):∃g,PG X te g/\GOk X tg g:=by
 cases h with
 |@one i x p Y L =>
  refine⟨_,yl (i:=i) O.nd (by rw[O.hN];exact Y) (nv O L) (J (i,x) (by simp)),?_⟩;intro m H D s v d Z Q S r e q;simp only[Va,Wa,aaq,BT.gX]at e;cases e;exact q _ (S.set (.p r))
 |@aE tg f p k U h =>
  obtain⟨b,V,hn,M,ok⟩:=SR O h J;refine⟨_,Lj (n:=tg.length) W V hn M,?_⟩;intro m H D s v d Z Q S r e q;have L:=aat U;unfold bA at e;rw[bN (by lia)]at e;cases r with
  |@aE a B dd h r =>
   rw[BT.vo]at e;obtain⟨c,e⟩:=dH e;subst e;exact⟨a,B,rfl,.inl (h.elim (λq=>.inl q.1) λ⟨o,its,n,q,_⟩=>.inr ⟨o,its,n,q⟩),by rw[r.length];exact c,ok m H D s B _ Q S r c q⟩
  |@aD a B dd h r =>
   rw[BT.vn]at e;obtain⟨c,e⟩:=dH e;subst e;exact⟨a,B,rfl,.inr (h.elim (λq=>.inl q.1) .inr),by rw[r.length];exact c,ok m H D s B _ Q S r c q⟩
  |_=>exact c5 e
end
end BS
end
section
namespace BC
open PySem
section
def AN{target:UP}(I:Nat->UR->Prop)
(turn:∀ n s,I n s->ay (Vb prog w) A (Y8 it) (λr B=>match r with
  |none=>R (.ok .next) B
  | some v=>ay (Vb prog w) A (YE target it v) (λ_ s₀=>ay (Vb prog w) A (ZH target env v) (λ_ M =>
   ay (Vb prog w) A (forIn ifs ah λc r=>if r=ah then do let ok ← isTrue c env (eval c env);pure (XX ok) else pure (XX r)) (λok q =>
    if ok=ah then ay (Vb prog w) A (eval elt env) (λx L =>
     ay (Vb prog w) A (call (.builtin "list.append") [acc,x]) (λ_ J=>∃ m,m < n/\I m J) (λ_ _=>False) L) (λ_ _=>False) q
    else ∃ m,m < n/\I m q) (λ_ _=>False) M) (λ_ _=>False) s₀) (λ_ _=>False) B) (λ_ _=>False) s)
(n:Nat)(h:I n s):ak (Vb prog w) A (.compLoop (.ListComp elt [⟨target,iter,ifs,0⟩] scope pos) 0 it acc env) R s:=by
 refine codeAny_loop rfl I (λn s a=>?_) n h;show ay _ A ((compTurn (.ListComp elt [⟨target,iter,ifs,0⟩] scope pos) 0 it acc env).onRaise (λx=>do noteFrame x env;theTreesLotGoes x)) _ _ s;refine wpAny_noted ?_;rw[compTurn_list];refine UN (Yh (UN (Wm (turn n s a) (λr B U=>?_) λ_ _ D=>D.elim)));cases r with
 |none=>exact av U
 |some v =>
  refine UN (Wm U (λ_ s₀ V=>?_) λ_ _ D=>D.elim);refine UN (Wm V (λ_ M Z=>UN (Wm Z (λok q O=>?_) λ_ _ D=>D.elim)) λ_ _ D=>D.elim);cases ok with
  |false=>exact av ⟨rfl,O⟩
  |true =>
   exact UN (UN (Wm O (λx L Y=>UN (Wm Y (λ_ J W=>av (av ⟨rfl,W⟩)) λ_ _ D=>D.elim)) λ_ _ D=>D.elim))
end
noncomputable def f9(cells:List (aA×aB)):List (aA×WW)->List (aA×aB)->List (aA×aB)
 |[],acc=>acc
 |(n,k)::r,acc=>if k==.free then(match cells.lookup n with|some c=>f9 cells r ((n,c)::acc)|none=>f9 cells r acc)else f9 cells r acc
def xN(cells:List (aA×aB))(names:List (aA×WW)):Prop:=∀x∈names,x.2=.free->∃c,cells.lookup x.1=aa c
theorem qk:∀(names:List (aA×WW)) (q:List (aA×aB)),xN env.cells names →
 (forIn names q λx (r:List (aA×aB))=>(if x.2==.free then do let c ←cellOf env x.1;pure (XX ((x.1,c)::r))else pure (XX r):Sem (ForInStep (List (aA×aB)))))=pure (f9 env.cells names q)
 |[],q,_=>rfl
 |(n,k)::r,q,h=>by
  have B:=λq=>qk (env:=env) r q λx D=>h x (UV _ D);rw[List.forIn_cons]
  by_cases c:k=.free
  ·subst c;obtain⟨a,e⟩:=h (n,.free) UY rfl;have e:env.cells.lookup n=aa a:=e;simp only[f9,e];show(cellOf env n >>= _) >>= _=_;unfold cellOf;rw[e];exact B _
  ·have J:(k==VP)=ai:=by simpa using c
   simp only[f9,J];exact B _
def ny{q B:Type}{m m':Sem q}{f:q->Sem B}(h:m=m'):(m >>= f)=(m' >>= f):=by rw[h]
def qm{q:Vw}{env:Env}(h:xN env.cells q.names):closureFor q env=pure (f9 env.cells q.names []):=by have:=qk (env:=env) q.names [] h;unfold closureFor;exact(ny this).trans rfl
theorem qo:∀{names:List (aA×WW)}{B:List (aA×aB)},(∀x c,B.lookup x=aa c->cells.lookup x=aa c)->∀x c,(f9 cells names B).lookup x=aa c->cells.lookup x=aa c
 |[],B,h,x,c,e=>h x c e
 |(n,k)::r,B,h,x,c,e=>by
  rw[f9]at e;split at e
  ·split at e
   ·rename_i a J;refine qo (λy b q=>?_) x c e;rw[Wg]at q;split at q
    ·rename_i D;have:y=n:=by simpa using D
     subst this;cases q;exact J
    exact h y b q
   exact qo h x c e
  exact qo h x c e
theorem oN:∀{names:List (aA×WW)}{q:List (aA×aB)},(∃c,q.lookup x=aa c)->∃c,(f9 cells names q).lookup x=aa c
 |[],q,h=>h
 |(n,k)::r,q,h=>by
  rw[f9];split
  ·split
   ·refine oN ?_;rw[Wg];split;exact⟨_,rfl⟩;exact h
   exact oN h
  exact oN h
theorem qp:∀{names:List (aA×WW)}{B:List (aA×aB)},(x,VP)∈names->(∃c,cells.lookup x=aa c)->∃c,(f9 cells names B).lookup x=aa c
 |[],B,h,_=>nomatch h
 |(n,k)::r,B,h,q=>by
  rw[f9];rcases List.mem_cons.mp h with e|e
  ·cases e;obtain⟨c,D⟩:=q;rw[bM (by rfl),D];refine oN ?_;exact⟨c,by simp⟩
  ·split
   ·split;exact qp e q;exact qp e q
   exact qp e q
end BC
end
section
namespace BS
open PySem PySem.Spec PyProof.Rows L2
variable{cond:aX}
def qt(F:FT)(G:aA->Option aP)(sc:Vw)(N:List aA)(cond:aX)(q:List UP):Prop :=
 (cond=.nil/\q=[])\/∃c D,cond=.cons c .nil/\q=[D]/\∀B,Ok B F G sc N->PT B D (tDT B F G c)
structure vM(sc:Vw)(N tg:List aA)(fv:List (Nat×aA))(scope:Vw):Prop where
 k1:scope.kind=.function
 k2:sc.kind=.function
 cell:∀y∈scope.names,y.2≠.cell
 loc:∀y∈scope.names,y.2=.local->scope.names.lookup y.1=aa .local
 free:∀y∈scope.names,y.2=.free->sc.names.lookup y.1=aa .cell
 fvs:∀q∈fv,N[q.1]?=aa q.2/\(q.2,VP)∈scope.names/\sc.names.lookup q.2=aa .cell/\(eH scope sc).names.lookup q.2=aa .cell
 nd:(tg++fv.map (·.2)).Nodup
theorem rY:∀{l:List aA},lI l=ah->l.Nodup
 |[],_=>Yv
 |x::r,h=>by simp only[lI,UQ,Xg]at h;refine List.nodup_cons.mpr ⟨λz=>?_,rY h.2⟩;have:=h.1;simp[z]at this
def O8(h:lJ sc N tg fv scope=ah):vM sc N tg fv scope:=by
 simp only[lJ,UQ]at h;obtain⟨⟨⟨⟨⟨⟨W,V⟩,M⟩,L⟩,J⟩,D⟩,U⟩:=h;rw[Wi]at M L J D;refine⟨bT W,bT V,λy B e=>?_,λy B e=>?_,λy B e=>?_,λq O=>?_,rY U⟩
 ·have:=M y B;rw[e]at this;simp at this
 ·have:=L y B;rw[e]at this;simpa using this
 ·have:=J y B;rw[e]at this;simpa using this
 ·have:=D q O;simp only[UQ]at this;obtain⟨⟨⟨a,b⟩,c⟩,d⟩:=this;exact⟨by simpa using a,by simpa using b,by simpa using c,by simpa using d⟩
theorem lM{sc:Vw}{x:aA}{k:WW}(M:k=.cell\/k=.free):∀{names:List (aA×WW)},(∀y∈names,y.2≠.cell) →
 (names.map λ(n,k)=>if(k==VP&&sc.kind==.function&&sc.names.lookup n==aa .cell)then(n,Yr)else(n,k)).lookup x=aa k->(x,VP)∈names
 |[],_,h=>by simp at h
 |(n,q)::r,hc,h=>by
  have U:=lM (sc:=sc) (x:=x) M (names:=r) λy V=>hc y (UV _ V);replace h:WY x ((if(q==VP&&sc.kind==.function&&sc.names.lookup n==aa .cell)=ah then(n,Yr)else(n,q))::(r.map λ(n,k)=>if(k==VP&&sc.kind==.function&&sc.names.lookup n==aa .cell)then(n,Yr)else(n,k)))=aa k:=h;have O:∀(B:WW),(B=q\/(B=.cell/\q=.free))->WY x ((n,B)::(r.map λ(n,k)=>if(k==VP&&sc.kind==.function&&sc.names.lookup n==aa .cell)then(n,Yr)else(n,k)))=aa k->(x,VP)∈(n,q)::r:=by
   intro B W D;rw[Wg]at D;split at D
   ·rename_i J;have J:x=n:=by simpa using J
    subst J;have e:B=k:=U3 D;have L:q=.free:=by
     rcases W with rfl|⟨_,e2⟩
     ·rcases M with z|z
      exact bO (e.trans z) (hc (x,B) UY);exact e.trans z
     exact e2
    rw[L];exact UY
   exact UV _ (U D)
  by_cases c:(q==VP&&sc.kind==.function&&sc.names.lookup n==aa .cell)=ah
  ·rw[bM c]at h;refine O .cell (.inr ⟨rfl,?_⟩) h;simp only[UQ]at c;exact bT c.1.1
  ·rw[bN c]at h;exact O q (.inl rfl) h
def blk(X:Cx)(B:List aA)(s2:UR)(H1:Hp)(q:Vw)(C:aB)(fp:List aB):Cx :=
 {X with N:=B,s₀:=s2,H₀:=H1,env:=aaM q (BC.f9 X.env.cells q.names []) C X.env,outer:=X.stack,stack:=X.stack,ex:=fp,fn:=λ_=>ai,pn:=[],xe:=λ_ _=>False}
section
variable{X:Cx}{F:FT}{G:aA->Option aP}{sc:Vw}{N:List aA}{zt:List (aB×aq)}{σ:L2.St}{H1:Hp}{s2:UR}
def nR{q:Vw}{x:aA}{c:aB}(e:(BC.f9 X.env.cells q.names []).lookup x=aa c):X.env.cells.lookup x=aa c :=
 BC.qo (λ_ _ z=>by simp at z) x c e
def vN(q:X.env.scope=sc)(x:aA):(aaM scope (BC.f9 X.env.cells scope.names []) C X.env).kindOf x=(eH scope sc).names.lookup x:=by subst q;rfl
def zc(J:Inv X zt σ H1 s2)(q:X.env.scope=sc)(D:vM sc N tg fv scope)(B:(x,VP)∈scope.names):∃c,(BC.f9 X.env.cells scope.names []).lookup x=aa c:=by refine BC.qp B (J.ok.has x (.inl ?_));have:=D.free _ B rfl;rw[←q]at this;exact this
theorem Lk(B:Inv X zt σ H1 s2)(J:X.env.scope=sc){scope:Vw}{tg:List aA}{fv:List (Nat×aA)}(M:vM sc N tg fv scope){Y:List aA}{C:aB}{fp:List aB}(V:C=s2.heap.objs.size+1)
(L:∀b∈fp,sU X zt H1 b)(U:∀b∈fp,b<s2.heap.objs.size):(blk X Y s2 H1 scope C fp).Ok where
 mod:=B.ok.mod
 kind:=M.k1
 glob:=B.ok.glob
 blt:=B.ok.blt
 above:=by show s2.heap.objs.size<=C;rw[V];exact V0 _
 inj:=λx y c a b=>B.ok.inj x y c (nR a) (nR b)
 has:=λx W=>by
  refine zc B J M ?_;have O:(eH scope sc).names.lookup x=aa .cell\/(eH scope sc).names.lookup x=aa .free:=by rw[←vN J (C:=C)];exact W
  rcases O with e|e
  exact lM (.inl rfl) M.cell e;exact lM (.inr rfl) M.cell e
 cab:=λx c z=>by cases z
 hd:=B.ok.hd
 frames:=B.ok.frames
 stk:=.inl rfl
 exf:=λb D=>⟨λz=>by have l:=U b D;have z:b=C:=z;rw[z,V]at l;exact bO l (Nat.not_lt.mpr (V0 _)),λx c e=>(L b D).2.2.2.2.1 x c (nR e)⟩
 bs:=B.bs
 bsz:=Vp B.ok.bsz B.sz
 noex:=λb o e D=>by
  have q:=(B.ok.bs b o e).1;rcases (L b D).2.2.2.1 with z|z
  exact B.ok.noex b o e z;exact bO (UW q) (Nat.not_lt.mpr z)
 exfs:=λb D z=>by
  rcases List.mem_cons.mp (B.o5 b z)with e|e
  exact(L b D).2.1 e;exact(L b D).2.2.1 e
 kY:=B.stack
 frf:=B.sP
end
noncomputable def lobj(us:List aC)(n:Nat):aq:={cls:=.type "list",data:=.seq us.toArray n}
section
variable{X:Cx}{F:FT}{G:aA->Option aP}{sc:Vw}{N:List aA}{zt:List (aB×aq)}{σ:L2.St}{H1:Hp}{s2:UR}
noncomputable def lO(n:Nat)(σ:L2.St)(fv:List (Nat×aA)):L2.St:=Vc n af++fv.map λq=>(σ[q.1]?).getD af
theorem GX(D:Inv X zt σ H1 s2)(B:X.env.scope=sc)(t:X.N=N)(a:vM sc N tg fv scope)(Y:C=s2.heap.objs.size+1)
(s:∀b∈fp,sU X zt H1 b)(U:∀b∈fp,b<s2.heap.objs.size)(J:∀b o,s2.heap.get? b=aa o->h1.get? b=aa o)(O:h1.Ns C m)(w:h1.get? s2.heap.objs.size=aa (lobj [] 0)):
 Inv (blk X (tg++fv.map (·.2)) s2 H1 scope C fp) [(s2.heap.objs.size,lobj [] 0)] (lO tg.length σ fv) H1 {s2 with heap:=h1,toks:=tk} where
 ok:=Lk D B a Y s U
 os:=rfl
 bare:=D.bare
 base:=Un.aJ J
 loc:=by
  refine⟨m,O,λi x v e1 e2 G=>?_⟩;have e1:(tg++fv.map (·.2))[i]?=aa x:=e1;unfold lO at e2
  by_cases c:i<tg.length
  ·rw[UU (by simpa using c),W9,bM c]at e2;cases e2
  ·rw[Vk (by simpa using c)]at e2;rw[Vk (by simpa using c)]at e1;simp only[Xk,Vh]at e1 e2;cases g:fv[i-tg.length]? with
   |none=>rw[g]at e1;exact c5 e1
   |some q =>
    rw[g]at e1 e2;simp only[WC,Wu]at e1 e2;subst e1;obtain⟨E,A,f,y⟩:=a.fvs q (UZ g);have Z:σ[q.1]?=aa (aa v):=by
     cases d:σ[q.1]? with
     |none=>rw[d]at e2;exact c5 e2|some o=>rw[d]at e2;simp only[aaT]at e2;rw[e2]
    obtain⟨F,r,V⟩:=D.loc;obtain⟨u,h,j⟩:=V q.1 q.2 v (by rw[t];exact E) Z (by rw[B];exact .inr (.inl f));refine⟨u,h,?_⟩;have l:X.env.kindOf q.2=aa .cell:=by show X.env.scope.names.lookup q.2=_;rw[B];exact f
    rcases j with⟨k,_⟩|⟨k,c,ec,o,L,W⟩
    rw[l]at k;cases k
    ·obtain⟨H,M⟩:=zc D B a A;have:=nR M;rw[ec]at this;cases this;refine .inr ⟨.inl ?_,c,M,o,J c o L,W⟩;show(aaM scope (BC.f9 X.env.cells scope.names []) C X.env).kindOf q.2=_;rw[vN B];exact y
 cell:=λx c e=>by obtain⟨v,o,L,W⟩:=D.cell x c (nR e);exact⟨v,o,J c o L,W⟩
 free:=D.aL.fresh (by show s2.heap.objs.size<=C;rw[Y];exact V0 _)
 freeC:=λx c e=>D.freeC x c (nR e)
 pin:=λp n=>by
  have e:p=(s2.heap.objs.size,lobj [] 0):=by have:p∈[]++[(s2.heap.objs.size,lobj [] 0)]:=n;simpa using this
  subst e;refine⟨w,D.aL.fresh (UT _),?_,?_,λv z=>by cases (show Data.seq _ _=Data.cell v from z)⟩
  ·show s2.heap.objs.size≠C;rw[Y];exact Vi (Wj _)
  ·intro z;obtain⟨_,o,L,_⟩:=D.stack.mem z;exact bO (UW L) (VR _)
 aL:=D.aL.aJ J
 len:=by show(lO tg.length σ fv).length=(tg++fv.map (·.2)).length;simp[lO]
end
noncomputable def tgF:Nat->List aA->List (Nat×aA)
 |_,[]=>[]|k,x::r=>(k,x)::tgF (k+1) r
noncomputable abbrev tgI(tg:List aA):List (Nat×aA):=tgF 0 tg
theorem uv:∀(tg:List aA)(k:Nat),(tgF k tg).length=tg.length
 |[],_=>rfl|_::r,k=>bU (·+1) (uv r (k+1))
theorem zd{q:Nat×aA}:∀{tg:List aA}{k:Nat},q∈tgF k tg->q.2∈tg
 |x::r,k,h=>by
  rcases List.mem_cons.mp h with rfl|h
  exact UY;exact UV _ (zd h)
def ze(h:nmE te=aa x):∃p,te=.Name x p:=by
 cases te with
 |Name y p=>cases h;exact⟨p,rfl⟩|_=>exact bO (show(af:Option aA)=aa _ from h) (λz=>nomatch z)
def DM(h:KH te=a::l):∃k p,te=.Tuple (a::l) k p:=by
 cases te with
 |Tuple q k p=>cases h;exact⟨k,p,rfl⟩|_=>exact bO (show([]:List UP)=_::_ from h) (λz=>nomatch z)
theorem DN{sc:Vw}{fs:List aA}:∀(tg:List aA){pre:List aA}{es:List UP},tg.map aa=es.map nmE->(∀x∈tg,om sc x=ah)->CTs sc (pre++(tg++fs)) (tgF pre.length tg) es
 |[],pre,es,e,_=>by
  cases es with
  |nil=>exact .nil|cons _ _=>cases e
 |x::r,pre,es,e,h=>by
  cases es with
  |nil=>cases e
  |cons a es =>
   obtain⟨p,rfl⟩:=ze (ZX e).symm;have q:=DN (fs:=fs) r (pre:=pre++[x]) (List.tail_eq_of_cons_eq e) λy B=>h y (UV _ B);rw[Vv,U9]at q;exact .cons (by simp) (h x UY) q
def GY(h:vB sc tg te=ah):CT sc (tg++fs) (tgI tg) te/\(tgI tg).length=tg.length/\∀q∈tgI tg,sc.names.lookup q.2=aa .local:=by
 have st:∀{x:aA},sc.names.lookup x=aa .local->om sc x=ah:=λe=>by unfold om;rw[e]
 unfold vB at h;rw[UQ,WL,UQ,Wi]at h;obtain⟨h,J⟩:=h;have lo:∀{x},x∈tg->sc.names.lookup x=aa .local:=λ{x} B=>bT (J x B);rcases h with h|⟨h1,h2⟩
 ·have e:=bT h;cases tg with
  |nil=>exact bO (bU Zp e) (by simp)
  |cons x r =>
   cases r with
   |cons _ _=>exact bO (bU Zp e) (by simp)
   |nil =>
    obtain⟨p,rfl⟩:=ze (ZX e).symm;have l:sc.names.lookup x=aa .local:=lo UY;exact⟨.one rfl (st l),rfl,λq D=>by rw[List.mem_singleton.mp D];exact l⟩
 ·have e:=bT h2;cases g:KH te with
  |nil=>rw[g]at e;cases tg with
   |nil=>exact aU h1|cons _ _=>cases e
  |cons a l =>
   rw[g]at e;obtain⟨k,p,rfl⟩:=DM g;exact⟨.aE (by rw[uv];exact h1) (DN (pre:=[]) tg e λx B=>st (lo B)),uv _ _,λq D=>lo (zd D)⟩
theorem zf:∀(tg:List aA)(k:Nat)(ds:List aQ)(q:bf),ds.length=tg.length->k+tg.length<=q.length->BT.sets (tgF k tg) ds q=q.take k++(ds.map BT.fZ++q.drop (k+tg.length))
 |[],k,ds,q,h,_=>by cases List.length_eq_zero_iff.mp h;exact(List.take_append_drop k q).symm
 |x::r,k,ds,q,h,hl=>by
  cases ds with
  |nil=>cases h
  |cons d ds =>
   rw[Va]at hl;have kl:k<q.length:=by lia
   show BT.sets (tgF (k+1) r) ds (q.set k (aa (.p d)))=_;rw[zf r (k+1) ds _ (Nat.succ.inj h) (by rw[List.length_set];lia),List.drop_set_of_lt (by lia),List.take_succ,VB kl,List.take_set,List.set_eq_of_length_le (by rw[X4];lia),Vv,show k+1+r.length=k+(x::r).length by rw[Va];lia];rfl
def xO{n:Nat}{d:aQ}{ds:List aQ}(h:bA n d=aa ds):ds.length=n:=by
 unfold bA at h
 by_cases c:n=1
 rw[bM c]at h;cases h;exact c.symm
 ·rw[bN c]at h;cases d with
  |aE q=>rw[BT.vo]at h;obtain⟨c,h⟩:=dH h;rw[←h];exact c|aD q=>rw[BT.vn]at h;obtain⟨c,h⟩:=dH h;rw[←h];exact c|_=>exact c5 h
def GZ(h:(tgI tg).length=tg.length)(J:tg≠[])(B:bA tg.length d0=aa ds)(D:sl.length=tg.length+fs.length)(q:sl.drop tg.length=fs):
 BT.sets (tgI tg) ds sl=ds.map BT.fZ++fs/\(ds.map BT.fZ++fs).length=tg.length+fs.length/\(ds.map BT.fZ++fs).drop tg.length=fs:=by
 have hn:=xO B;have g:=zf tg 0 ds sl hn (by lia);rw[aaq,q]at g;have le:(ds.map BT.fZ).length=tg.length:=by rw[U0];exact hn
 exact⟨g,by rw[U9,le],by rw[←le];exact List.drop_left⟩
theorem nA:∀{fv:List (Nat×aA)}{fs:bf},BT.frees s fv=aa fs->fs.length=fv.length/\∀(i:Nat)(q:Nat×aA),fv[i]?=aa q->fs[i]?=s[q.1]?
 |[],fs,e=>by simp[BT.frees]at e;subst e;exact⟨rfl,λi q z=>by simp at z⟩
 |q::r,fs,e=>by
  simp only[BT.frees]at e;cases g:s[q.1]? with
  |none=>rw[g]at e;exact c5 e
  |some w =>
   rw[g]at e;obtain⟨J,e1,e2⟩:=dG e;subst e2;obtain⟨D,B⟩:=nA e1;refine⟨by simp[D],λi p z=>?_⟩;cases i with
   |zero=>simp at z;subst z;simp[g]|succ i=>simpa using B i p (by simpa using z)
def AO{K:UM}(S:RS P w K m H σ s)(J:BT.frees s fv=aa fs):RS P w K m H (lO n σ fv) (Vc n af++fs):=by
 obtain⟨q,L⟩:=nA J;refine⟨by simp[lO,q],λi y e=>?_⟩
 by_cases c:i<n
 ·rw[UU (by simpa using c),W9,bM c]at e;cases e
 ·rw[Vk (by simpa using c)]at e;simp only[Xk]at e;have D:i-n<fv.length:=by
   rw[←q];rcases Vd (i-n) fs.length with z|z
   exact z;rw[U5 z]at e;exact c5 e
  have g:=U1 D;rw[L _ _ g]at e;obtain⟨v,B,r⟩:=S.get _ _ e;refine⟨v,?_,r⟩;unfold lO;rw[Vk (by simpa using c)];simp only[Xk,Vh,g,WC,B,aaT]
def G0{rest:List aQ}(e:BT.dX f n (d::r) h=aa (rest,h2)):
 ∃xs o B q,bA n d=aa xs/\f xs h=aa (o,B)/\BT.dX f n r B=aa (q,h2)/\rest=(match o with|some x=>x::q|none=>q):=by
 rw[BT.dX]at e;cases g:bA n d with
 |none=>rw[g]at e;exact c5 e
 |some xs =>
  rw[g]at e;obtain⟨o,B,e1,e2⟩:=dg e;unfold BT.Co at e2;obtain⟨q,L,J,D⟩:=dg e2;unfold BT.yC at D;cases D;exact⟨xs,o,B,q,rfl,e1,J,rfl⟩
theorem Un.behind(u:Un fs ex H H' h h1)(a:∀b,b<h.objs.size->H2 b=H' b)(lt:∀b o,H b=aa o->b<h.objs.size)(k:∀b o,b<h.objs.size->h1.get? b=aa o->h2.get? b=aa o):Un fs ex H H2 h h2 where
 keep:=λb o e n c d=>k b o (UW e) (u.keep b o e n c d)
 slot:=λb o e n c d=>by obtain⟨J,q⟩:=u.slot b o e n c d;exact⟨J,k b _ (UW e) q⟩
 free:=λb o e n d=>by rw[a b (UW e)];exact u.free b o e n d
 there:=λb o e d=>by obtain⟨B,q⟩:=u.there b o e d;exact⟨B,k b B (UW e) q⟩
 tups:=λb D e=>by rw[a b (lt b _ e)];exact u.tups b D e
 frzs:=λb o w e=>by rw[a b (lt b _ e)];exact u.frzs b o w e
 tbls:=λb L e=>by rw[a b (lt b _ e)];exact u.tbls b L e
section
theorem Ll(O:Ok X F G sc N)(hu:gZ N=ah)(q:vM sc N tg fv scope):
 Ok (blk X (tg++fv.map (·.2)) s2 H1 scope C fp) F G (eH scope sc) (tg++fv.map (·.2)) where
 hsc:=by have:=O.hsc;subst this;rfl
 hN:=rfl
 nd:=q.nd
 calm:=λ_=>O.calm hu
 hu:=O.hu
 own:=YN
 glob:=O.glob
 call:=O.call
 aH:=O.aH
 mkc:=O.mkc
 blt:=O.blt
 lam:=O.lam
 lamx:=λh=>bO (show ai=ah from h "") (by decide)
def DO{mu:Bool}{sr:bK}{n:Nat}{fs:bf}{O:bf->aN->Option (List aP×aN)}{M:bf->BT.EH}{ws:List aP}{h:aN}{z:aP×aN}{ds:List aQ}(e:BT.pU mu sr n (aa fs) O M ws h=aa z)(g:(aS ws h).bind (BT.gW sr)=aa ds):
 vJ sr ws/\∃Y,(∀xs h r,Y xs h=aa r->BT.fN O M fs xs h=aa r/\nu sr ws ds r.2)/\nu sr ws ds h/\bI (BT.dX Y n ds h) (BT.gY mu)=aa z:=by
 unfold BT.pU at e;rw[g]at e;simp only at e
 by_cases J:BT.iM ws=ah
 ·rw[bM J]at e;exact⟨.inl J,_,λxs h r q=>⟨q,qi J⟩,qi J,e⟩
 ·rw[bN J]at e;have two:(sr=.seq\/sr=.enu)/\∃q,ws=[.r q]:=by unfold BT.tN at e;split at e;exact⟨.inl rfl,_,rfl⟩;exact⟨.inr rfl,_,rfl⟩;exact c5 e
  obtain⟨sq,q,rfl⟩:=two;have V:BT.ly sr q h=aa ds:=by
   unfold BT.ly;simp only[aS,bq,WC]at g;cases W:br h q with
   |none=>rw[W]at g;exact c5 g|some xs=>rw[W]at g;exact g
  rcases sq with rfl|rfl
  ·rw[BT.Ct]at e;refine⟨.inr ⟨.inl rfl,q,rfl⟩,_,λxs h r q=>?_,λU B=>by cases B;exact V,e⟩;unfold BT.chk at q;cases D:BT.fN O M fs xs h with
   |none=>rw[D]at q;exact c5 q
   |some L =>
    rw[D]at q;simp only at q;split at q
    ·rename_i c;cases q;exact⟨rfl,λU B=>by cases B;unfold BT.ly;rw[c];rfl⟩
    exact c5 q
  ·rw[BT.Cs]at e;refine⟨.inr ⟨.inr rfl,q,rfl⟩,_,λxs h r q=>?_,λU B=>by cases B;exact V,e⟩;unfold BT.Kq at q;cases D:BT.fN O M fs xs h with
   |none=>rw[D]at q;exact c5 q
   |some L =>
    rw[D]at q;simp only at q;split at q
    ·rename_i c;cases q;refine⟨rfl,λU B=>?_⟩;cases B;rw[←c];show(br L.2 q).bind (λxs=>BT.gW .enu [.aD xs])=(br L.2 q).map (BT.kK 0);cases br L.2 q<;>rfl
    exact c5 q
inductive LI(X:Cx)(F:FT)(G:aA->Option aP)(scope:Vw)(tg:List aA)(fv:List (Nat×aA))(cond:aX)(elt:aR)(s2:UR)(H1:Hp)(C:aB)(fp:List aB)(tn:Nat->au->Prop)(m1:List aB)(ds outs:List aQ)(fs:bf)(h2:aN)(f':List aQ->aN->Option (Option aQ×aN))(Cc:aN->Prop)(n:Nat)(s:UR):Prop
 |mk(i:Nat)(D:L2.St)(H':Hp)(m':List aB)(q:aN)(out rest:List aQ)(vs:List V)(us:List aC)(L:Nat)(B:bf)(p0:i<=ds.length)(p1:n=ds.length-i)(p2:Inv (blk X (tg++fv.map (·.2)) s2 H1 scope C fp) [(s2.heap.objs.size,lobj us L)] D H' s)(Z:tn i s.heap)(Y:(∀b∈fp,H' b=af))(p5:Ext m1 H1 m' H')(p6:RH X.K m' H' q)(p7:RS X.prog X.w X.K m' H' D B)(p8:B.length=tg.length+fs.length)(p9:B.drop tg.length=fs)(W:dF vs us)(U:RDs X.K m' H' vs out)(O:BT.dX f' tg.length (ds.drop i) q=aa (rest,h2))(J:out++rest=outs)(M:Cc q):LI X F G scope tg fv cond elt s2 H1 C fp tn m1 ds outs fs h2 f' Cc n s
structure Apart(X:Cx)(zt:List (aB×aq))(H:Hp)(C:aB):Prop where
 fr:H C=af
 lo:C≠X.env.locals
 ab:X.s₀.heap.objs.size<=C
 ce:∀x c,X.env.cells.lookup x=aa c->c≠C
 pi:∀p∈X.pn++zt,p.1≠C
def rZ(O:Ok X F G sc N)(hu:gZ N=ah)
(hk:lJ sc N tg fv scope=ah)(ht:vB (eH scope sc) tg te=ah)(hset:lH iter=ah)(hI:PI X te iter (iD X F G sr sa))(hC:qt F G (eH scope sc) (tg++fv.map (·.2)) cond ifs)
(hE:∀X',Ok X' F G (eH scope sc) (tg++fv.map (·.2))->PE X' elt' (tD X' F G elt)):∀(zt:List (aB×aq)) (s:UR) (σ:L2.St) (H:Hp) (Q:VK) (use:Option (aC->Sem Unit)) (Q':aC->UR->Prop),Inv X zt σ H s->tD X F G (.comp mu sr sa tg fv cond elt) σ H Q →
 (∀(Z:UR)(H6:Hp)(C D:aB)(m:aA->Option aC),Inv X zt σ H6 Z->Z.heap.Ns C m->Apart X zt H6 C->Q (.ref D) H6->compPost (Vb X.prog X.w) X.A X.xe use Q' (.ref D) C (.ok .next) Z) →
 ay (Vb X.prog X.w) X.A (comprehension (.ListComp elt' [⟨te,iter,ifs,0⟩] scope pos) scope X.env (firstIterPos [⟨te,iter,ifs,0⟩] pos) (newList []) ai (eval iter X.env) use) Q' X.xe s:=by
 have cf:=O8 hk;obtain⟨ct,tl,tloc⟩:=GY (fs:=fv.map (·.2)) ht;have t0:tg≠[]:=by
  rintro rfl
  simp[vB]at ht
 intro zt s σ H Q use Q' I q hfin;obtain⟨m,s',h,z,h',R,S,ee,zr⟩:=q;simp only[aO]at ee;obtain⟨ws,h1,e1,e2⟩:=dg ee;cases g1:(aS ws h1).bind (BT.gW sr)with
 |none=>unfold BT.pU at e2;rw[g1]at e2;exact c5 e2
 |some W =>
  cases g2:BT.frees s' fv with
  |none=>unfold BT.pU at e2;rw[g1,g2]at e2;exact c5 e2
  |some fs =>
   rw[g2]at e2;obtain⟨ca,f',hf',c1,e2⟩:=DO e2 g1;obtain⟨L,h2,e3,e4⟩:=dg e2;unfold BT.gY at e4
   by_cases cl:L.length<=BT.lim
   case neg=>rw[bN cl]at e4;exact c5 e4
   rw[bM cl] at e4;have ez:BT.new mu L h2=(z,h'):=U3 e4;have hfree:BC.xN X.env.cells scope.names:=λx hx e=>I.ok.has x.1 (.inl (by
    have:=cf.free x hx e;show X.env.scope.names.lookup x.1=_;rw[O.hsc];exact this))
   refine wpAny_comprehension_free (use:=use) rfl (zb hset) (BC.qm hfree) cf.k1 cf.loc
    (thn (hI zt s σ H (λJ H1=>∃m1,Ext m H m1 H1/\RH X.K m1 H1 h1/\vI X.K J m1 H1 W (nu sr ws W)) I ⟨m,s',h,ws,h1,W,R,S,e1,g1,ca,λH1 m1 J x1 R1 it=>⟨m1,x1,R1,it⟩⟩) λv s1 hv=>thn hv λitv s2 h2'=>?_)
   obtain⟨it,fp,tn,J,H1,rfl,I1,T,st,hf,m1,x1,R1,ito⟩:=h2';have hlt:∀b∈fp,b<s2.heap.objs.size:=λb B=>by obtain⟨o,ho,_⟩:=T.obj 0 _ st b B;exact UW ho
   refine VD (wpAny_newFunctionEnv cf.cell (by intro y hy;simp at hy) (λh3 hns hsb=>?_) cf.k1);dsimp only at hns hsb⊢;generalize hH2:s2.heap.push {cls:=.type "list",dict:=af,data:=.seq ([]:List aC).toArray}=H2 at hns hsb⊢;have E:H2.objs.size=s2.heap.objs.size+1:=by rw[←hH2,V5]
   have old:∀b o,s2.heap.get? b=aa o->h3.get? b=aa o:=λb o e=>hsb.extBut b o (by rw[E];exact Vi (Y3 (UW e))) (UO _ (hH2 ▸ UO _ e));have hacc:h3.get? s2.heap.objs.size=aa (lobj [] 0):=hsb.extBut _ _ (by rw[E];exact Vi (Wj _)) (UO _ (hH2 ▸ UX _ rfl));have I4:=GX (tk:=s2.toks+([]:List (aA×aC)).length) I1 O.hsc O.hN cf E hf hlt old hns hacc;have O':=Ll (s2:=s2) (H1:=H1) (C:=H2.objs.size) (fp:=fp) O hu cf;obtain⟨g,hg1,hg2⟩:=sCT O' (O.calm hu) ct λq hq=>.inr (by rw[O'.hsc];exact tloc q hq);have hfl:fs.length=fv.length:=(nA g2).1;have k:∀{H':Hp}{o:aq},(∀b∈fp,H' b=af)->∀b∈fp,sU (blk X (tg++fv.map (·.2)) s2 H1 scope H2.objs.size fp) [(s2.heap.objs.size,o)] H' b:=λ{H' o} hn b B=>by
    refine⟨hn b B,?_,?_,.inl B,λx c e=>(hf b B).2.2.2.2.1 x c (nR e),λp hp=>?_⟩
    ·show b≠H2.objs.size;rw[E];exact Vi (Y3 (hlt b B))
    ·intro a;rcases List.mem_cons.mp (I1.o5 b a)with e|e
     exact(hf b B).2.1 e;exact(hf b B).2.2.1 e
    ·have hp':p=(s2.heap.objs.size,o):=by have:p∈[]++[(s2.heap.objs.size,o)]:=hp;simpa using this
     rw[hp'];show s2.heap.objs.size≠b;exact WM (hlt b B)
   have loop:∀s4:UR,s4={s2 with heap:=h3,toks:=s2.toks+([]:List (aA×aC)).length} →
    ak (Vb X.prog X.w) X.A (.compLoop (.ListComp elt' [⟨te,iter,ifs,0⟩] scope pos) 0 (.ref it) (.ref s2.heap.objs.size) (aaM scope (BC.f9 X.env.cells scope.names []) H2.objs.size X.env))
     (compPost (Vb X.prog X.w) X.A X.xe use Q' (.ref s2.heap.objs.size) H2.objs.size) s4:=by
    rintro s4 rfl
    refine BC.AN (LI X F G scope tg fv cond elt s2 H1 H2.objs.size fp tn m1 W L fs h2 f' (nu sr ws W)) ?_
     W.length ⟨0,_,H1,m1,h1,[],L,[],[],0,_,VL _,rfl,I4,T.keep 0 _ _ st (λb B o e=>old b o e),λb B=>(hf b B).1,.refl _ _,R1,AO (S.ext x1) g2,by simp,by simp,.nil,.nil,by rw[List.drop_zero];exact e3,rfl,c1⟩
    rintro n s5 ⟨i,σ5,H5,m5,hh,out,rest,vs,us,nn,sl,hi,rfl,I5,st5,fr5,x5,R5,S5,sl1,sl2,rv5,rd5,go5,ou5,cc5⟩
    by_cases c:i<W.length
    ·rw[ZM c]at go5;obtain⟨xs,o,hA,t,eT,eF,eG,eR⟩:=G0 go5;obtain⟨eF,cA⟩:=hf' _ _ _ eF;refine thn (T.item (blk X (tg++fv.map (·.2)) s2 H1 scope H2.objs.size fp) rfl rfl rfl (O.calm hu) i _ s5 σ5 H5 _ I5 (k fr5) st5 (ito.go m5 H5 hh i x5 R5 cc5 c)) λr Z hr=>?_;obtain⟨u,rfl,hr⟩:=hr;refine thn hr λ_ s7 zq=>?_;obtain⟨x,H7,I7,r7,y7,st7,fr7⟩:=zq;obtain⟨x7,k7,rd7⟩:=ito.yld m5 H5 hh i x H7 W[i] x5 R5 cc5 (U1 c) y7;have R7:=R5.ext x7 k7;have I7':=I7.pinned (k fr7) (T.obj _ _ st7);obtain⟨sq1,sq2,sq3⟩:=GZ tl t0 eT sl1 sl2;refine thn (hg1 _ s7 σ5 H7 x u (fun M H8=>H8=H7/\RS X.prog X.w X.K m5 H7 M (xs.map BT.fZ++fs)) I7' r7 (hg2 m5 H7 σ5 sl x W[i] xs _ (S5.ext x7) rd7 (by rw[tl];exact eT) fun M S8=>⟨rfl,by rw[←sq1];exact S8⟩)) λ_ s8 h8=>?_;obtain⟨M,H8,I8,rfl,S8⟩:=h8;have aJ:∀{s9:UR}{σ9:L2.St}{j:Hp},Inv (blk X (tg++fv.map (·.2)) s2 H1 scope H2.objs.size fp) ([(s2.heap.objs.size,lobj us nn)]++mW fp s7.heap) σ9 j s9->tn (i+1) s9.heap/\∀b∈fp,j b=af:=λ{s9 σ9 j} I9=>by refine⟨T.keep _ _ _ st7 λb B o e=>(I9.pin (b,o) (Vf _ (Vf _ (jt B e)))).1,λb B=>?_⟩;obtain⟨o,e,_⟩:=T.obj _ _ st7 b B;exact(I9.pin (b,o) (Vf _ (Vf _ (jt B e)))).2.1
     have elem:∀{s9:UR}{j:Hp}{m9:List aB}{h9:aN}{w:aP}{hB:aN}{d:aQ},Inv (blk X (tg++fv.map (·.2)) s2 H1 scope H2.objs.size fp) ([(s2.heap.objs.size,lobj us nn)]++mW fp s7.heap) M j s9->Ext m5 H8 m9 j->RH X.K m9 j h9 →
      aO F G elt (xs.map BT.fZ++fs) h9=aa (w,hB)->BT.qX w hB=aa (aa d,hA)->o=aa d →
      ay (Vb X.prog X.w) X.A (eval elt' (aaM scope (BC.f9 X.env.cells scope.names []) H2.objs.size X.env)) (λx s₄ =>
       ay (Vb X.prog X.w) X.A (call (.builtin "list.append") [.ref s2.heap.objs.size,x]) (λ_ s₅=>∃ m,m < W.length - i/\LI X F G scope tg fv cond elt s2 H1 H2.objs.size fp tn m1 W L fs h2 f' (nu sr ws W) m s₅) (λ_ _=>False) s₄) (λ_ _=>False) s9:=by
      intro s9 j m9 h9 w hB d I9 x9 R9 eE V eO;have ew:w=.p d/\hB=hA:=by
       unfold BT.qX at V;cases w with
       |p d'=>cases V;exact⟨rfl,rfl⟩|_=>exact c5 V
      obtain⟨rfl,rfl⟩:=ew;refine thn (hE _ O' _ s9 M j (λv Ha=>∃P,Ext m9 j P Ha/\RH X.K P Ha hB/\RD X.K P Ha v d) I9 ⟨m9,_,h9,_,hB,R9,S8.ext x9,eE,λv Ha P xa Ra ra=>by cases ra with|p ra=>exact⟨P,xa,Ra,ra⟩⟩) λu10 s10 ⟨v10,H10,I10,r10,m10,x10,R10,rd10⟩=>?_
      obtain⟨pD,nD,f,nfD,_⟩:=I10.pin (s2.heap.objs.size,lobj us nn) (by simp);have lus:=rv5.length;have lvs:=rd5.length;have lou:out.length<=L.length:=by rw[←ou5];simp
      have lle:=fL;have cl':L.length<=BT.lim:=cl;refine wpAny_list_append_plain ⟨nn,pD⟩ (λh11 U Y=>?_) (by rw[US];lia);obtain⟨nn',U⟩:=U;have U:h11.get? s2.heap.objs.size=aa (lobj (us++[u10]) nn'):=by rw[U];simp[lobj]
      have Y:VT s2.heap.objs.size s10.heap h11:=Y;obtain⟨st10,fr10⟩:=aJ I10;have I11:Inv (blk X (tg++fv.map (·.2)) s2 H1 scope H2.objs.size fp) [] M H10 {s10 with heap:=h11} :=
       Inv.turned (t':=s10.toks) (I10.oB (λp hp=>by cases hp)) (λb o B e=>(Y.2 b B).trans e) nD f (.inr (UT _)) (λx c e a=>by obtain⟨v,o,ho,_⟩:=I1.cell x c (nR e);have:=UW ho;rw[a]at this;exact bO this (VR _)) λp hp=>by cases hp
      have I12:Inv (blk X (tg++fv.map (·.2)) s2 H1 scope H2.objs.size fp) [(s2.heap.objs.size,lobj (us++[u10]) nn')] M H10 {s10 with heap:=h11}:=I11.oB λp hp=>by simp only[List.mem_singleton]at hp;subst hp;exact⟨U,nD,f,nfD,λv a=>by cases (show Data.seq _ _=Data.cell v from a)⟩
      have xt:Ext m5 H5 m10 H10:=(x7.trans x9).trans x10;refine⟨W.length-(i+1),by lia,i+1,M,H10,m10,hB,out++[d],t,vs++[v10],us++[u10],nn',_,c,rfl,I12,?_,fr10,x5.trans xt,R10,(S8.ext x9).ext x10,sq2,sq3,rv5.append (.cons r10 .nil),(rd5.ext xt).append (.cons rd10 .nil),eG,?_,cA⟩
      ·refine T.keep _ _ _ st10 λb B o' e=>(Y.2 b ?_).trans e;exact Vi (hlt b B)
      rw[←ou5,eR,eO,Vv];rfl
     unfold BT.fN at eF;obtain⟨cs,hc,eC,V⟩:=dg eF;rcases hC with⟨rfl,rfl⟩|⟨cc,cc',rfl,rfl,hCC⟩
     ·simp only[aZ]at eC;cases eC;have V:=(show bI _ BT.qX=_ from V);obtain⟨w,hB,eE,eL⟩:=dg V;refine wpAny_tests_nil ?_;rw[bM rfl];have:∃d,o=aa d:=by
       unfold BT.qX at eL;cases w with
       |p d'=>cases eL;exact⟨_,rfl⟩|_=>exact c5 eL
      obtain⟨d,rfl⟩:=this;exact elem I8 (.refl _ _) R7 eE eL rfl
     ·simp only[aZ]at eC;obtain⟨wc,hc2,eC1,eC2⟩:=dg eC;simp only[BT.k9,BT.eU,BT.jz]at eC2;cases eC2;have B:∃b,wc=.p (.bl b):=by
       cases wc with
       |p d =>
        cases d<;>first|exact⟨_,rfl⟩|exact c5 V
       |_=>exact c5 V
      obtain⟨b,rfl⟩:=B;refine wpAny_tests_one (thn (hCC _ O' _ s8 M H8 (λb' Ha=>b'=b/\∃P,Ext m5 H8 P Ha/\RH X.K P Ha hc) I8 ⟨m5,_,hh,b,hc,R7,S8,eC1,λHa P xa Ra=>⟨rfl,P,xa,Ra⟩⟩) λb' s9 zq=>?_);obtain⟨j,I9,hbb,m9,x9,R9⟩:=zq;subst hbb;cases b' with
      |false =>
       have V:=(show aa ((af:Option aQ),hc)=aa _ from V);cases V;rw[bN (by decide)];obtain⟨st9,fr9⟩:=aJ I9;have xt:Ext m5 H5 m9 j:=x7.trans x9;refine⟨W.length-(i+1),by lia,i+1,M,j,m9,hA,out,t,vs,us,nn,_,c,rfl,I9.lR,st9,fr9,x5.trans xt,R9,S8.ext x9,sq2,sq3,rv5,rd5.ext xt,eG,?_,cA⟩;rw[←ou5,eR]
      |true =>
       have V:=(show bI _ BT.qX=_ from V);rw[bM rfl];obtain⟨w,hB,eE,eL⟩:=dg V;have:∃d,o=aa d:=by
        unfold BT.qX at eL;cases w with
        |p d'=>cases eL;exact⟨_,rfl⟩|_=>exact c5 eL
       obtain⟨d,rfl⟩:=this;exact elem I9 x9 R9 eE eL rfl
    ·have ei:i=W.length:=by lia
     subst ei;rw[List.drop_length,BT.dX]at go5;cases go5;rw[Vn]at ou5;subst ou5;refine thn (T.done (blk X (tg++fv.map (·.2)) s2 H1 scope H2.objs.size fp) rfl rfl rfl (O.calm hu) _ _ s5 σ5 H5 _ I5 (k fr5) st5 (ito.stop m5 H5 _ x5 R5 cc5)) λr Z zq=>?_;obtain⟨hr,I6⟩:=zq;subst hr;obtain⟨mm,hmm,_⟩:=I6.loc;obtain⟨pD,nD,f,nfD,_⟩:=I6.pin (s2.heap.objs.size,lobj us nn) (by simp);have f:s2.heap.objs.size≠H2.objs.size:=f;have hos:Z.os=s2.os:=I6.os;have lus:=rv5.length;have lvs:=rd5.length;have lle:=fL;have cl':out.length<=BT.lim:=cl;have aL:HOk X.prog X.w (upd H5 s2.heap.objs.size (.aD vs)) Z.heap:=λb u e=>by
      by_cases eb:b=s2.heap.objs.size
      ·subst eb;rw[dM]at e;cases e;exact⟨by lia,us,nn,rv5,pD⟩
      ·rw[dD eb]at e;refine(I6.aL b u e).stay (λc v hc q=>q) (λc q=>?_) λc l q=>?_;rw[dD (λa=>by rw[a,nD]at q;exact c5 q)];exact q;rw[dD (λa=>by rw[a,nD]at q;exact c5 q)];exact q
     have u7:Un (frs X.stack) fp H1 (upd H5 s2.heap.objs.size (.aD vs)) s2.heap Z.heap:=Un.behind (h1:=Z.heap) I6.base (λb B=>dD (Vi B)) (λb o e=>I1.aL.lt e) λb o B e=>e;have I7:=I1.call (g':=Z.gens) (t':=Z.toks) (d':=Z.drawn) (ch:=fp) u7 aL I6.bare λb B=>⟨(hf b B).2.2.2.1,(hf b B).2.1,(hf b B).2.2.2.2.1,(hf b B).2.2.2.2.2⟩;have fr6:H5 H2.objs.size=af:=I6.free;have ltC:s2.heap.objs.size<H2.objs.size:=by rw[E];exact Wj _
     have ap:Apart X zt (upd H5 s2.heap.objs.size (.aD vs)) H2.objs.size:=by
      refine⟨by rw[dD (VN f)];exact fr6,?_,?_,λx c e a=>?_,λp hp a=>?_⟩;exact WM (Y5 I1.lt ltC);exact Vp I1.sz (V6 ltC)
      ·obtain⟨v,o,ho,_⟩:=I1.cell x c e;have l:=UW ho;rw[a]at l;exact bO (Y5 l ltC) (VR _)
      ·have l:=UW (I1.pin p hp).1;rw[a]at l;exact bO (Y5 l ltC) (VR _)
     refine hfin Z _ _ _ mm ?_ hmm ap (tW (mu:=mu) R5 nD rd5 (by rw[ez];exact λv' H' m' xx RR rr=>zr v' H' m' ((x1.trans x5).trans xx) RR rr));obtain⟨hp6,g6,d6,t6,os6⟩:=Z;have hos:os6=s2.os:=hos;subst hos;exact I7
   exact codeAny_compStart_list (loop _ rfl) (T.self _ 0 _ _ _ (T.keep 0 _ _ st (λb B o e=>old b o e)) (loop _ rfl))
def G1(O:Ok X F G sc N)(Y:gZ N=ah)
(c:lJ sc N tg fv scope=ah)(Z:vB (eH scope sc) tg te=ah)(J:lH iter=ah)(f:PI X te iter (iD X F G sr sa))(h:qt F G (eH scope sc) (tg++fv.map (·.2)) cond ifs)
(g:∀M,Ok M F G (eH scope sc) (tg++fv.map (·.2))->PE M elt' (tD M F G elt)):PE X (.ListComp elt' [⟨te,iter,ifs,0⟩] scope pos) (tD X F G (.comp mu sr sa tg fv cond elt)):=by
 intro W s V H Q I q;rw[eval_ListComp];refine rZ O Y c Z J f h g W s V H Q af _ I q λU k C D m j hn L a=>?_;refine⟨m,hn,λi B=>?_⟩;have B:VT C U.heap i:=B;exact⟨.ref D,k,Inv.turned (t':=U.toks) j (λb o d e=>(B.2 b d).trans e) L.fr L.lo (.inr L.ab) L.ce L.pi,rfl,a⟩
def G3(O:Ok X F G sc N)(l:gZ N=ah)
(r:lJ sc N tg fv scope=ah)(n:vB (eH scope sc) tg te=ah)(L:lH iter=ah)(u:PI X te iter (iD X F G sr sa))(x:qt F G (eH scope sc) (tg++fv.map (·.2)) cond ifs)
(w:∀Y,Ok Y F G (eH scope sc) (tg++fv.map (·.2))->PE Y elt' (tD Y F G elt))(k:N[i]?=aa y)(f:sc.names.lookup y=aa .local)
(U:XG (.ListComp elt' [⟨te,iter,ifs,0⟩] scope pos) (aa (.Name y py)) spos.line X.env=pure ah):
 PS X (.Assign [.Name y py] (.ListComp elt' [⟨te,iter,ifs,0⟩] scope pos) spos) (zW (tD X F G (.comp mu sr sa tg fv cond elt)) (yk i)):=by
 intro Z s h H D I q;rw[exec_Assign_Name_used _ _ _ _ U];refine UN (Yh (UN ?_));show ay _ X.A (do let _ ←comprehension (.ListComp elt' [⟨te,iter,ifs,0⟩] scope pos) scope X.env _ (newList []) ai (eval iter X.env) (aa (ZH (.Name y py) X.env))) _ _ s;refine UN (thn (rZ O l r n L u x w Z s h H _ (aa (ZH (.Name y py) X.env)) (λ_ d=>SP X Z D .next d) I q λR Q C g m P hn J V=>?_) λ_ d V=>av (av V));show ay _ X.A (ZH (.Name y py) X.env (.ref g)) _ _ _;refine wpAny_assign_Name (rH P O.nd (by rw[O.hN];exact k) (.inl (by rw[O.hsc];exact f)) (v:=.ref g) rfl (λc K p=>?_) (.inr (by rw[O.hsc];exact f)));obtain⟨a,j,W⟩:=p;have M:C≠a:=by
  rcases W with rfl|W
  exact J.lo;exact λz=>J.ce y a W z.symm
 refine⟨m,hn.sameBut j M,λE B=>?_⟩;have B:VT C c.heap E:=B;exact⟨_,Q,Inv.turned (t':=c.toks) K (λb o t e=>(B.2 b t).trans e) J.fr J.lo (.inr J.ab) J.ce J.pi,V⟩
end
section
variable{E:aC->UR->Prop}
end
section
end
end BS
end
section
namespace L2
open PySem PySem.Spec PyProof.Rows
noncomputable def G4(lo:Int)(n:Nat):It:=⟨λi _=>i<n,λi H x q=>q=H/\x=.int (lo-i),λi _=>n<=i⟩
theorem vO{P:U4}{w:Vl}{K:UM}{tg:Ys}(q:aB)(lo:Int)(n:Nat):Turn P w K tg (G4 lo n) [q] q (λi h=>aad h q (lo+(i:Nat)*(-1)) ((n:Int)-(i:Nat)) (-1)) where
 mem:=by simp
 obj:=λi h st b B=>by
  have e:b=q:=by simpa using B
  subst e;exact⟨_,st,λv z=>by have l:Data.fields _=Data.cell v:=z;cases l⟩
 keep:=λi h L st k=>k q (by simp) _ st
 item:=by intro X U hw V O i g s f H E I J st M;subst U hw V;obtain⟨d,c,r,a,Z,Y⟩:=J q (by simp);have W:=Walks.range (prog:=X.prog) (w:=X.w) (I.ok.hd O) q lo (-1) n;refine W.item i s _ _ M st λv L j p D m=>?_;obtain⟨t,rfl⟩:=p;have x:Inv X g f H {s with heap:=L,toks:=j}:=I.turned (λb o B e=>m b o (by simpa using B) e) d c a Z Y;refine⟨_,rfl,uS (s:={s with heap:=L,toks:=j}) (n:="range_iterator") D rfl rfl (by decide) ⟨.int (lo-i),H,x,⟨t,?_⟩,⟨rfl,rfl⟩,D,λb B=>(J b B).1⟩⟩;rw[show lo+(i:Int)*-1=lo-(i:Int) by lia]
 done:=by intro X U hw V O i g s f H E I J st M;subst U hw V;obtain⟨d,c,r,a,Z,Y⟩:=J q (by simp);exact wpAny_pyNext_range_end (I.ok.hd O) st (by have:n<=i:=M;lia) λL u=>⟨rfl,I.turned (t':=s.toks) (λb o B e=>u b o B e) d c a Z Y⟩
 self:=λ_ _ _ _ _ st h=>wpAny_pyIter_rangeiter st h
section
variable{X:Cx}{tg:Ys}
def AQ{zt:List (aB×aq)}{σ:St}{H:Hp}{s:UR}{R:It->Hp->Prop}{E:aC->UR->Prop}{lo hi:Int}{t u v:Tok}{tk:Nat}(I:Inv X zt σ H s)(h1:-(2^62)<=lo)(h2:lo<2^62)(L:-(2^62)<=hi)(J:hi<2^62)
(q:R (G4 lo (lo-hi).toNat) H):ay (Vb X.prog X.w) X.A (pyIter (.ref s.heap.objs.size)) (PIE X zt σ tg R) E {s with heap:=s.heap.push {cls:=.type "range",data:=.fields #[.int lo t,.int hi u,.int (-1) v]},toks:=tk}:=by
 refine wpAny_pyIter_range (IsRange.new ..) (PySem.W.small_down h1 h2 L J) ?_;have B:Inv X zt σ H { s with heap:=s.heap.push { cls:=.type "range",data:=.fields #[.int lo t,.int hi u,.int (-1) v] },toks:=tk }:=I.aJ λb o e=>UO _ e;refine ⟨(s.heap.push { cls:=.type "range",data:=.fields #[.int lo t,.int hi u,.int (-1) v] }).objs.size,[(s.heap.push { cls:=.type "range",data:=.fields #[.int lo t,.int hi u,.int (-1) v] }).objs.size],_,_,H,rfl,
  B.aJ (t':=tk) λb o e=>UO _ e,vO _ lo (lo - hi).toNat,?_,λb D=>?_,q⟩
 ·have e1:lo+((0:Nat):Int)*(-1)=lo:=by simp
  have e2:(((lo-hi).toNat:Nat):Int)-((0:Nat):Int)=YQ lo hi (-1):=by rw[PySem.W.rangeSize_downNat];simp
  show aad _ _ (lo+((0:Nat):Int)*(-1)) ((((lo-hi).toNat:Nat):Int)-((0:Nat):Int)) (-1);rw[e1,e2];exact UX _ rfl
 ·have e:b=(s.heap.push {cls:=.type "range",data:=.fields #[.int lo t,.int hi u,.int (-1) v]}).objs.size:=by simpa using D
  subst e;exact B.Bt (UT _) (B.aL.fresh (UT _))
end
end L2
namespace BS
open PySem PySem.Spec PyProof.Rows L2
section
variable{F:FT}{G:aA->Option aP}
def G5{C:aN->Prop}{K:UM}{J:List aB}{M:Hp}(lo:Int)(n:Nat):vI K (G4 lo n) J M (BT.down lo n) C:=by
 have D:(BT.down lo n).length=n:=by simp[BT.down]
 refine⟨λm H L i x _ _ q=>by rw[D]at q;exact q,λm H L i v O d x RR _ B y=>?_,λm H _ x _ _=>by rw[D];exact UT n⟩;obtain⟨rfl,rfl⟩:=y;have q:i<n:=by have:=getD_some B;rw[D]at this;exact this
 have:d=.int (lo-i):=by unfold BT.down at B;rw[Vh,WZ q]at B;exact(U3 B).symm
 subst this;exact⟨.refl _ _,λ_ _ e=>e,.int _⟩
def DP{X:Cx}{sc:Vw}{N:List aA}(O:Ok X F G sc N){tg x y z:UP}{sa:aX}{p pos:Pos}(C:d7 sc "range"=ah)(A:noStar x=ah)(Z:noStar y=ah)(Y:noStar z=ah)(K:PA X [x,y,z] (tDs X F G sa)):PI X tg (.Call (.Name "range" p) [x,y,z] [] pos) (iD X F G .rng3 sa):=by
 intro g s f H R I q;obtain⟨m,n,h,ws,P,ds,RR,S,e,e2,E,k⟩:=q;obtain⟨a,rfl⟩:=uq (E.p (by rintro (z|z)<;>cases z));rw[xG,Wc]at e2;have w:∃i j c:Int,a=[.int i,.int j,.int c]:=by
  match a,e2 with
  |[.int i,.int j,.int c],_=>exact⟨i,j,c,rfl⟩
 obtain⟨i,j,c,rfl⟩:=w;rw[BT.rQ]at e2;obtain⟨⟨rfl,c1,c2,c3,c4⟩,Q⟩:=dH e2;subst Q;refine Call_ (jg (u:=.type "range") I (d9 O C) (O.blt _ (by decide)) (by decide +kernel) (VS (thn (K pos g s f H (λL J=>L=[.int i,.int j,.int (-1)]/\R (G4 i (i-j).toNat) J) I ⟨m,n,h,_,P,RR,S,e,λL J o l T V=>?_⟩) λus s1 ⟨L,J,I1,V,W⟩=>?_) (c9 A) (dO (by simp[dw,Z,Y]))))
 ·cases V with
  |cons r t =>
   cases t with
   |cons U d =>
    cases d with
    |cons M b =>
     cases b;cases r with
     |p r =>
      cases U with
      |p U =>
       cases M with
       |p M =>
        cases r;cases U;cases M;exact⟨rfl,k J o _ l T (G5 i (i-j).toNat)⟩
 ·obtain⟨rfl,W⟩:=W;obtain⟨u,D,B,rfl,eu,eu2,eu3⟩:∃u D B,us=[u,D,B]/\RelV (.int i) u/\RelV (.int j) D/\RelV (.int (-1)) B:=by
   cases V with
   |cons q t=>obtain⟨D,B,rfl,v,k2⟩:=vals2 t;exact⟨_,_,_,rfl,q,v,k2⟩
  obtain⟨t,rfl⟩:=eu;obtain⟨d,rfl⟩:=eu2;obtain⟨b,rfl⟩:=eu3;exact call_range_3 (by decide) (AQ I1 (by lia) (by lia) (by lia) (by lia) W) (.inl (ZJ (by lia)))
end
end BS
end
section
namespace BS
open PySem PySem.Spec PyProof.Rows L2
section
variable{E:aC->UR->Prop}
end
section
variable{prog:U4}{w:Vl}{A:VU}{s:UR}{R:Z8->UR->Prop}{xs ys:Array aC}{z TI TO i1 i2 l1 l2 S:aB}
end
section
variable{prog:U4}{w:Vl}{A:VU}{E:aC->UR->Prop}{s:UR}{R:Z8->UR->Prop}{xs ys:Array aC}{z TI TO i1 i2 l1 l2 S:aB}
end
section
variable{E:aC->UR->Prop}
end
section
end
inductive ZK
 |l(a:aB)|t(a:aB)|s(x:aA)(k:Tok)
noncomputable def ZK.ty:ZK->String
 |.l _=>"list_iterator"|.t _=>"tuple_iterator"|.s x _=>strIterType x
noncomputable def ZK.val:ZK->aC
 |.l a=>.ref a|.t a=>.ref a|.s x k=>.str x k
def ZK.at(q:ZK)(B:aB)(i:Nat)(h:au):Prop:=match q with
 |.l a=>h.IsListIter B a i|.t a=>h.IsTupleIter B a i|.s x k=>h.IsStrIter B (strIterType x) x k i
def ZK.item(q:ZK)(i:Nat)(h:au)(u:aC):Prop:=match q with
 |.l a=>∃B:List aC,h.IsList a B.toArray/\B[i]?=aa u|.t a=>∃B:List aC,h.IsTuple a B.toArray/\B[i]?=aa u|.s x _=>∃c t,x.cps[i]?=aa c/\u=.str ⟨#[c]⟩ t
def ZK.done(q:ZK)(i:Nat)(h:au):Prop:=match q with
 |.l a=>∃B:List aC,h.IsList a B.toArray/\B.length<=i|.t a=>∃B:List aC,h.IsTuple a B.toArray/\B.length<=i|.s x _=>x.cps.size<=i
section
variable{prog:U4}{w:Vl}{A:VU}{E:aC->UR->Prop}{s:UR}
end
def ZK.ob(q:ZK):aq:={cls:=.type q.ty,data:=.fields #[q.val,.int 0 0]}
def ZK.here(q:ZK)(h:au):Prop:=match q with
 |.l a=>∃B:List aC,h.IsList a B.toArray|.t a=>∃B:List aC,h.IsTuple a B.toArray|.s _ _=>True
section
variable{prog:U4}{w:Vl}{A:VU}{E:aC->UR->Prop}{s:UR}
end
section
variable{prog:U4}{w:Vl}{A:VU}{E:aC->UR->Prop}{s:UR}
end
def ZK.has(q:ZK)(K:UM)(H:Hp)(i:Nat):Prop:=match q with
 |.l a=>∃B x,SqL K H a B/\B[i]?=aa x|.t a=>∃B x,SqT K H a B/\B[i]?=aa x|.s x _=>∃c,x.cps[i]?=aa c
def ZK.is(q:ZK)(K:UM)(H:Hp)(i:Nat)(v:V):Prop:=match q with
 |.l a=>∀B,SqL K H a B->B[i]?=aa v|.t a=>∀B,SqT K H a B->B[i]?=aa v|.s x _=>∃c,x.cps[i]?=aa c/\v=.str ⟨#[c]⟩
def ZK.over(q:ZK)(K:UM)(H:Hp)(i:Nat):Prop:=match q with
 |.l a=>∃B,SqL K H a B/\B.length<=i|.t a=>∃B,SqT K H a B/\B.length<=i|.s x _=>x.cps.size<=i
section
variable{X:Cx}{zt:List (aB×aq)}{σ:L2.St}{H:Hp}{s:UR}
end
section
variable{F:FT}{G:aA->Option aP}
end
section
variable{prog:U4}{w:Vl}{A:VU}{E:aC->UR->Prop}{s:UR}
end
section
variable{F:FT}{G:aA->Option aP}
end
section
variable{X:Cx}{F:FT}{G:aA->Option aP}
end
section
variable{X:Cx}{F:FT}{G:aA->Option aP}
end
section
variable{m:List aB}
end
section
variable{F:FT}{G:aA->Option aP}
end
section
variable{P:U4}{w:Vl}{K:UM}{m m':List aB}{H H':Hp}
def RKs.del{vs:List (Key×V)}{kvs:List (bx×aQ)}(r:RKs K m H vs kvs)(k:Key):RKs K m H (vs.filter λB=>decide (B.1≠k)) (BT.lg kvs k):=by
 unfold BT.lg
 induction r with
 |nil=>exact .nil
 |@cons j J L vs kvs D r t q =>
  rw[Wh,Wh]
  by_cases c:j=k
  rw[bN (by simpa using c),bN (by simpa using c)];exact q;rw[bM (by simpa using c),bM (by simpa using c)];exact .cons D r q
def RKs.upd{us:List (Key×V)}{ns:List (bx×aQ)}(q:RKs K m H us ns):∀{vs:List (Key×V)}{kvs:List (bx×aQ)},RKs K m H vs kvs->RKs K m H (us.foldl (λc p=>putK c p.1 p.2) vs) (ns.foldl (λc p=>BT.fu c p.1 p.2) kvs):=by
 induction q with
 |nil=>intro vs kvs r;exact r|cons J r t D=>intro vs kvs B;exact D (B.put _ J r)
def KV.SS{κ:Type}[DecidableEq κ]{kvs:List (κ×V)}{vs:List (κ×aC)}(r:KV kvs vs)(k:κ):KV (kvs.filter λD=>decide (D.1≠k)) (without vs k):=by
 unfold without;unfold KV at r⊢
 induction r with
 |nil=>exact .nil
 |@cons a b M L h t B =>
  obtain⟨q,J⟩:=h;rw[Wh,Wh]
  by_cases c:a.1=k
  rw[bN (by simpa using c),bN (by rw[←q];simpa using c)];exact B;rw[bM (by simpa using c),bM (by rw[←q];simpa using c)];exact .cons ⟨q,J⟩ B
def KV.merge{κ:Type}[DecidableEq κ]{us:List (κ×V)}{ws:List (κ×aC)}(q:KV us ws):∀{kvs:List (κ×V)}{vs:List (κ×aC)},KV kvs vs->KV (us.foldl (λc p=>putK c p.1 p.2) kvs) (merged vs ws):=by
 unfold KV at q
 induction q with
 |nil=>intro kvs vs r;exact r
 |@cons a b D B h t J =>
  intro kvs vs r;obtain⟨M,L⟩:=h;show KV (D.foldl _ (putK kvs a.1 a.2)) (merged (stored vs b.1 b.2) B);exact J (by rw[←M];exact r.put a.1 L)
theorem r9{κ:Type}[DecidableEq κ]:∀(us kvs:List (κ×V)),(us.foldl (λc p=>putK c p.1 p.2) kvs).length<=kvs.length+us.length
 |[],_=>UT _
 |p::us,kvs=>by have B:=r9 us (putK kvs p.1 p.2);have q:=nM kvs p.1 p.2;rw[WJ,Va];lia
end
section
variable{F:FT}{G:aA->Option aP}
def Lm{X:Cx}{a:aR}{e:UP}(h:PE X e (tD X F G a)):PE X e (tD X F G (.frz a)):=PE.weak h fun Z H Q q=>by
 obtain⟨m,s,h,z,c,R,S,B,D⟩:=q;simp only[aO]at B;obtain⟨x,V,e1,e2⟩:=dg B;exact⟨m,s,h,x,V,R,S,e1,λv Y b J W L=>by obtain⟨U,O,M⟩:=Ax e2 R J W L;exact D v Y m U O M⟩
def G6{X:Cx}{a b:aR}(σ:L2.St)(H:Hp)(Q:VK)(q:tD X F G (.p2 .aE a b) σ H Q):JQ (tDs X F G (.cons a (.cons b .nil))) σ H Q:=by
 obtain⟨m,s,h,z,e,R,S,M,U⟩:=q;simp only[aO]at M;obtain⟨x,L,e1,e2⟩:=dg M;rw[show BT.k2 (aO F G b s) (BT.oP2 .aE) x L=bI (aO F G b s L) (BT.oP2 .aE x) from rfl]at e2;obtain⟨y,j,f,D⟩:=dg e2;cases x with
 |p d =>
  cases y with
  |k q =>
   cases q with
   |m J =>
    rw[BT.Gc]at D;cases D;refine⟨m,s,h,[.p d,.k (.m J)],e,R,S,by simp only[aZ,e1,f,BT.eU,BT.k9,BT.jz],λi l c V O Z=>?_⟩;cases Z with
    |cons r t =>
     cases t with
     |cons Y t =>
      cases t;cases r with
      |p r =>
       cases Y with
       |km g W=>exact⟨by show 2<=_;decide,λp B=>U _ _ c (V.trans (gB B)) (O.new B) (.kq (.mk ⟨.inl dM,O.iN B⟩ (r.ext (gB B)) (Rd.ext (gB B) g.1 g.2) (W.ext (gB B))))⟩
   |_=>exact c5 D
  |_=>exact c5 D
 |_=>exact c5 D
def RPs.atI{K:UM}{m:List aB}{H:Hp}{vs:List V}{ps:List bJ}{i:Int}{p:bJ}(r:RPs K m H vs ps)(e:BT.atP ps i=aa p):∃v,L2.atI vs i=aa v/\RP K m H v p.1 p.2:=by unfold BT.atP at e;unfold L2.atI;obtain⟨j,J,D⟩:=Option.bind_eq_some_iff.mp e;obtain⟨v,B,q⟩:=r.get D;refine⟨v,?_,q⟩;rw[r.length];show((BT.place ps.length i).bind λj=>vs[j]?)=_;rw[J];exact B
def O9{X:Cx}:IxR X (rOp X.prog X.w X.K (BT.oP2 .y)):=by
 intro q slice L s J H v u C E Q I O U h Y;obtain⟨m,h,x,y,z,A,R,j,B,e,M⟩:=h;cases j with
 |@ks a f F D V =>
  cases B with
  |p B =>
   cases B with
   |int i =>
    rw[BT.Kr]at e;obtain⟨p,e1,e2⟩:=dG e;cases e2;obtain⟨Z,o,n⟩:=V.atI e1;exact yv q slice L s J H _ _ _ _ Q I O U ⟨a,f,i,_,rfl,rfl,.inl D.1,o,M _ _ m (.refl _ _) R (.kq n)⟩ Y
   |_=>exact c5 e
  |_=>exact c5 e
 |@kq _ d W V =>
  cases B with
  |p B =>
   cases B with
   |int i =>
    cases V with
    |@mk t b Z _ ws _ D r g l =>
     have e:(if i=0 then aa (aP.p d,h)else if i=1 then aa (aP.k (.m W),h)else af)=aa (z,A):=e;split at e
     ·rename_i c;cases e;subst c;exact wX q slice L s J H _ _ _ _ Q I O U ⟨t,_,0,Z,rfl,rfl,.inl D.1,rfl,M _ _ m (.refl _ _) R (.p r)⟩ Y
     ·split at e
      ·rename_i c;cases e;subst c;exact wX q slice L s J H _ _ _ _ Q I O U ⟨t,_,1,.ref b,rfl,rfl,.inl D.1,rfl,M _ _ m (.refl _ _) R (.km g l)⟩ Y
      exact c5 e
   |_=>exact c5 e
  |_=>exact c5 e
 |_=>exact c5 e
def Je{X:Cx}:OpR X (VM .In) (rOp X.prog X.w X.K (BT.oP2 .mem)):=by
 intro g s c H v u Z P Q I D l h;obtain⟨m,h,x,y,z,E,R,B,j,e,J⟩:=h;cases B with
 |@p _ d B =>
  cases j with
  |@r a n hn =>
   cases l;have L:∀(d:aQ)(k:bx)(v:V),RelV v Z->RD X.K m H v d->BT.jx d=aa k->((BT.dat h n).bind λq=>aa (aP.p (.bl (BT.dY q k).isSome),h))=aa (z,E)->ay (Vb X.prog X.w) X.A (VM .In Z (.ref a)) (EP X g c Q) X.xe s:=by
    intro d k v D B W e;obtain⟨q,e1,e2⟩:=Option.bind_eq_some_iff.mp e;cases e2;obtain⟨ws,M,b⟩:=R.pX n a q hn e1;have W:=qa B W;subst W;cases ue I (.inl M) b k with
    |no Y dd n U O =>
     refine XF (knd:=dI X.prog X.w) (pF D) n dd.mapOf ?_;rw[O];exact⟨.bl _,H,I.tok _,rfl,by rw[U]at J;exact J _ _ m (.refl _ _) R (.p (.bl _))⟩
    |is Y dd n x G N U O T S =>
     refine XF (knd:=dI X.prog X.w) (pF D) n dd.mapOf ?_;rw[O];exact⟨.bl _,H,I.tok _,rfl,by rw[U]at J;exact J _ _ m (.refl _ _) R (.p (.bl _))⟩
   cases d with
   |aF =>
    rw[BT.Ks]at e;obtain⟨q,e1,e2⟩:=Option.bind_eq_some_iff.mp e;cases e2;obtain⟨ws,M,b⟩:=R.pX n a q hn e1;cases B;cases D;obtain⟨F,C,Y,o,dd⟩:=yw I.aL M;obtain⟨f,t,fn⟩:=map_none dd;refine XF (knd:=optKind X.prog X.w) (k:=af) rfl C t ?_;rw[fn];exact⟨.bl _,H,I.tok _,rfl,J _ _ m (.refl _ _) R (.p (.bl _))⟩
   |int i=>exact L _ _ v D B rfl (by rw[BT.Ku]at e;exact e)|str x=>exact L _ _ v D B rfl (by rw[BT.Kv]at e;exact e)|_=>exact bO e (by simp[BT.oP2,BT.yG,BT.jx])
  |_=>exact c5 e
 |_=>exact c5 e
inductive rM2(P:U4)(w:Vl)(K:UM)(k:BT.M2)(v:V)(vs:List V)(H:Hp)(Q:VK):Prop
 |mk(m:List aB)(h:aN)(n:Nat)(y z:aP)(h':aN)(q:V)(ev:vs=[q])(R:RH K m H h)(D:RW P w K m H v (.r n))(B:RW P w K m H q y)(e:BT.oM2 k n y h=aa (z,h'))(p:Post P w K m H z h' Q):rM2 P w K k v vs H Q
def Ln{X:Cx}:MtR X "dict.pop" (rM2 X.prog X.w X.K .pop):=by
 intro T s S H v vs v' us Q I D V q;obtain⟨m,h,n,y,z,g,v1,rfl,R,l,U,e,i⟩:=q;cases l with
 |@r a _ hn =>
  obtain⟨u,rfl,c⟩:=V.one;cases U with
  |@p _ d U =>
   rw[BT.Gd]at e;obtain⟨W,e1,e⟩:=Option.bind_eq_some_iff.mp e;obtain⟨k,e2,e⟩:=Option.bind_eq_some_iff.mp e;obtain⟨x,O,P⟩:=dG e;cases P;obtain⟨ws,M,f⟩:=R.pX n a W hn e1;have N:=qa U e2;subst N;cases D;obtain⟨b,G,B,J,dd⟩:=yw I.aL M;have o:B.length<=aj:=by rw[←J.length];exact b
   have D:=J.val k;rcases f.get k with⟨Z,_⟩|⟨v2,d2,Z,g2,g3⟩
   rw[Z]at O;exact c5 O
   ·rw[Z]at O;cases O;rw[g2]at D;cases ev:valueAt B k with
    |none=>rw[ev]at D;exact D.elim
    |some j =>
     rw[ev]at D;have C:(keyPart u).isSome=ah:=by
      cases k with
      |_=>obtain⟨t,rfl⟩:=c;rfl
     refine call_meetsIn ZR dd.typeIs PySem.F.entry_dict_pop (PySem.F.args_dict_pop_2 _ _) (meets_dict_pop_there (knd:=dI X.prog X.w) (d:=a) (pF c) [] (.inl rfl) C) ⟨B,j,dd,o,ev,λg L A=>⟨v2,upd H a (.dK (ws.filter λY=>decide (Y.1≠k))),?_,D,?_⟩⟩
     ·have E:∃q,g.get? a=aa q:=let ⟨q,_,_,hq,_⟩:=L;⟨q,hq⟩;exact sZ I (by rw[M];exact True.intro) A E (w5 (Vp (Xl _ _) b) G (KV.SS J k) L)
     ·have x:Ext m H m (upd H a (.dK (ws.filter λY=>decide (Y.1≠k)))):=jl (UZ hn) ⟨_,M,rfl⟩;exact i _ _ m x (R.setC hn ⟨_,M,rfl⟩ ⟨_,dM,(f.del k).ext x⟩) (.p (g3.ext x))
  |_=>exact c5 e
def Lo{X:Cx}:MtR X "dict.update" (rM2 X.prog X.w X.K .upd):=by
 intro S s P H v vs v' us Q I o W q;obtain⟨m,h,n,y,z,i,v1,rfl,R,A,l,e,j⟩:=q;cases A with
 |@r a _ hn =>
  obtain⟨u,rfl,t⟩:=W.one;cases l with
  |@km b D ns g J =>
   rw[BT.Ge]at e;obtain⟨Y,e1,e⟩:=Option.bind_eq_some_iff.mp e;obtain⟨c,e⟩:=dH e;cases e;obtain⟨ws,O,f⟩:=R.pX n a Y hn e1;cases o;cases t;obtain⟨T,N,U,L,dd⟩:=yw I.aL O;obtain⟨k,Z,V,B,d⟩:=BV I.aL g.1;have C:a≠b:=λz=>g.2 (by rw[←z];exact UZ hn);have l1:=f.length;have l2:=J.length;have l3:=L.length;have l4:=B.length;have:=fL;refine call_meetsIn Zn dd.typeIs PySem.F.entry_dict_update (PySem.F.args_dict_update_2 _ _) (meets_dict_update (dI X.prog X.w) a b C Z) ⟨U,V,dd,d,by lia,λi M _ E=>⟨.aF,upd H a (.dK (D.foldl (λc p=>putK c p.1 p.2) ws)),?_,rfl,?_⟩⟩
   ·have G:∃q,i.get? a=aa q:=let ⟨q,_,_,hq,_⟩:=M;⟨q,hq⟩;have lf:=r9 D ws;have:=sZ (t':=s.toks) I (by rw[O];exact True.intro) E G (w5 (by lia) N (KV.merge B L) M);exact this
   ·have x:Ext m H m (upd H a (.dK (D.foldl (λc p=>putK c p.1 p.2) ws))):=jl (UZ hn) ⟨_,O,rfl⟩;exact j _ _ m x (R.setC hn ⟨_,O,rfl⟩ ⟨_,dM,(J.upd f).ext x⟩) (.p .aF)
  |_=>exact c5 e
def DQ{h:aN}{n:Nat}{ps:List bJ}(e:BT.pat h n=aa ps):h[n]?=aa (.s ps)\/h[n]?=aa (.l [])/\ps=[]:=by
 unfold BT.pat at e;cases g:h[n]? with
 |none=>rw[g]at e;exact c5 e
 |some c =>
  rw[g]at e;cases c with
  |s B=>cases e;exact .inl rfl
  |l q=>cases q with
   |nil=>cases e;exact .inr ⟨rfl,rfl⟩|cons _ _=>exact c5 e
  |_=>exact c5 e
def Lp{X:Cx}:MtR X "list.append" (rM2 X.prog X.w X.K .app):=by
 intro U s O H v j k l Q I W L q;obtain⟨m,h,n,y,z,o,J,rfl,R,Y,D,e,M⟩:=q;cases Y with
 |@r a _ hn =>
  refine rO U s O H _ _ _ _ Q I W L ?_;have:=fL;cases D with
  |@p _ d D =>
   rw[BT.Kw]at e;obtain⟨V,e1,e⟩:=Option.bind_eq_some_iff.mp e;obtain⟨c,e⟩:=dH e;cases e;obtain⟨ws,B,r⟩:=R.cell n a V hn e1;have:=r.length;exact⟨a,ws,J,rfl,rfl,B,by lia,M _ _ m (g9 (UZ hn) B) (R.set hn B (r.append (.cons D .nil))) (.p .aF)⟩
  |@kq _ d i D =>
   rw[BT.Kx]at e;obtain⟨f,e1,e⟩:=Option.bind_eq_some_iff.mp e;obtain⟨c,e⟩:=dH e;cases e;obtain⟨ws,B,r⟩:∃ws,H a=aa (.aD ws)/\RPs X.K m H ws f:=by
    rcases DQ e1 with g|⟨g,rfl⟩
    exact R.cl n a _ hn g
    ·obtain⟨ws,b,Z⟩:=R.cl n a _ hn g;cases Z;exact⟨_,b,.nil⟩
   have:=r.length;have x:Ext m H m (upd H a (.aD (ws++[J]))):=g9 (UZ hn) B;exact⟨a,ws,J,rfl,rfl,B,by lia,M _ _ m x (R.setC hn ⟨_,B,rfl⟩ ⟨_,dM,(r.append (.cons D .nil)).ext x⟩) (.p .aF)⟩
  |_=>exact c5 e
def DR{h:aN}{n:Nat}{ps:List bJ}(e:BT.sat h n=aa ps):h[n]?=aa (.s ps):=by
 unfold BT.sat at e;cases g:h[n]? with
 |none=>rw[g]at e;exact c5 e
 |some c=>rw[g]at e;cases c<;>first|exact c5 e|(cases e;rfl)
def Pa{X:Cx}{q:BT.M2}{o a:aR}{Y e:UP}{apos cpos:Pos}(f:dS Y=ah)(d:(apos.endLine==cpos.line)=ah)(W:noStar e=ah)(b:PE X Y (tD X F G o))(i:PA X [e] (tDs X F G (.cons a .nil))):PE X (.Call (.Attribute Y (CU q) apos) [e] [] cpos) (tD X F G (.m2 q o a)):=by
 have M:∀{T:String}(L:L2.St)(H:Hp)(Q:VK),tD X F G (.m2 q o a) L H Q->(∀(J:List aB)(B:aN)(D:Hp)(v:V) (n:Nat),RH X.K J D B->RW X.prog X.w X.K J D v (.r n)->BT.pV q n B=ah->tyV X.K T v D)->tBM X.K T (rM2 X.prog X.w X.K q) (tD X F G o) (tDs X F G (.cons a .nil)) L H Q:=by
  intro T L H Q z ty;obtain⟨m,s,h,z,h',R,S,A,E⟩:=z;simp only[aO]at A;obtain⟨x,B,e1,e2⟩:=dg A;cases x with
  |r n =>
   rw[BT.OE]at e2;have c:BT.pV q n B=ah:=Decidable.byContradiction λz=>by rw[bN z]at e2;exact c5 e2
   rw[bM c]at e2;obtain⟨y,u,e3,e4⟩:=dg e2;refine⟨m,s,h,.r n,B,R,S,e1,λv D J k C p=>?_⟩;refine⟨ty J B D v n C p c,J,s,B,[y],u,C,S.ext k,by simp only[aZ,e3,BT.eU,BT.k9,BT.jz],λvs H2 m2 j R2 r2=>?_⟩;cases r2 with
   |cons r t =>
    cases t;exact⟨m2,u,n,y,z,h',_,rfl,R2,p.ext j,r,e4,λP H5 m5 N R5 r5=>E P H5 m5 ((k.trans j).trans N) R5 r5⟩
  |_=>exact c5 e2
 have O:((WU cpos (Vo [e] X.env)).all (λx=>!x.1)&&(Za cpos (XI [] X.env)).all (λx=>x.1.isSome)&&decide ([e].length+([]:List X6).length+(if([]:List X6).isEmpty then 0 else 1)<30))=ah:=by rw[kh (es:=[e]) (by simp[dw,W])];rfl
 have l:∀(J:List aB)(B:aN)(D:Hp)(v:V) (n:Nat),RH X.K J D B->RW X.prog X.w X.K J D v (.r n)->(BT.dat B n).isSome=ah->tyV X.K "dict" v D:=λJ B D v n R r c=>by
  obtain⟨Z,g⟩:=Option.isSome_iff_exists.mp c;cases r with
  |r hn =>
   obtain⟨ws,U,_⟩:=R.pX _ _ Z hn g;exact .inr (.inr (.inl ⟨rfl,.inl ⟨_,U⟩⟩))
 cases q with
 |app =>
  refine PE.weak (uX W2 Zm Zl Lp b i (jG f) O d (c9 W) rfl) fun L H Q z=>M L H Q z λJ B D v n R r c=>?_;cases r with
  |@r a _ hn =>
   rcases Bool.or_eq_true_iff.mp c with c|c
   ·obtain⟨I,g⟩:=Option.isSome_iff_exists.mp c;obtain⟨ws,U,_⟩:=R.cell n a I hn g;exact .inl ⟨rfl,ws,.inl (.inl U)⟩
   ·obtain⟨ps,g⟩:=Option.isSome_iff_exists.mp c;obtain⟨ws,U,_⟩:=R.cl n a _ hn (DR g);exact .inl ⟨rfl,ws,.inl (.inl U)⟩
 |pop=>exact PE.weak (uX Zz ZR PySem.F.type_dict_pop Ln b i (jG f) O d (c9 W) rfl) fun L H Q z=>M L H Q z l
 |upd=>exact PE.weak (uX Zz Zn PySem.F.type_dict_update Lo b i (jG f) O d (c9 W) rfl) fun L H Q z=>M L H Q z l
end
section
variable{F:FT}{G:aA->Option aP}
def AR{X:Cx}{v:V}{ds:List aQ}(r:∀m H,RW X.prog X.w X.K m H v (.p (.aE ds))):∃a vs,v=.ref a/\KT X.K a vs:=by
 have z:=r [] (λ_=>af);cases z with
 |p z =>
  cases z with
  |@aE a vs _ h _ =>
   rcases h with⟨h,_⟩|h
   ·rcases h with h|⟨o,h⟩<;>exact c5 h
   exact⟨a,vs,rfl,h⟩
def AS{X:Cx}{sc:Vw}{N:List aA}(O:Ok X F G sc N){x:aA}{as:aX}{es:List UP}{T apos cpos:Pos}(h2:d7 sc x=ah)(h3:fK x=ah)(hl:(apos.endLine==cpos.line)=ah)(U:es.length<20)(c:CEs sc N as es)(ha:PA X es (tDs X F G as)):
 PE X (.Call (.Attribute (.Name x T) "index" apos) es [] cpos) (tD X F G (.me .tindex (.aG x) as)):=by
 have B:=iJ c;intro l s k H Q I q;obtain⟨m,C,h,z,h',R,S,i,t⟩:=q;simp only[aO]at i;obtain⟨w,g,e1,e2⟩:=dg i;obtain⟨_,e2⟩:=yR e2;obtain⟨ws,f,Z,D⟩:=dg e2;obtain⟨w',e5,e6⟩:=dG e1;cases e6;obtain⟨u,v0,hm,E,M⟩:=O.glob _ _ e5;have hT:∃J L,bB ws=aa J/\w=.p (.aE L)/\J≠[]:=by
  cases w with
  |p d =>
   rw[BT.pI]at D;cases V:bB ws with
   |none=>rw[V]at D;exact c5 D
   |some J =>
    rw[V]at D;obtain⟨b,j,e8⟩:=dG D;cases d with
    |aE L=>refine⟨J,L,rfl,rfl,λz=>?_⟩;subst z;exact c5 j|_=>cases J<;>exact c5 j
  |_=>cases ws<;>(first|exact c5 D|simp[aW]at D)
 obtain⟨J,L,V,rfl,W⟩:=hT;obtain⟨a,vt,rfl,o,its,n,⟨k1,k2,k3,k4,k5⟩,k6⟩:=AR M;cases es with
 |nil =>
  cases as with
  |cons a r=>exact(qd c).elim|nil=>simp only[aZ]at Z;cases Z;simp[bB]at V;exact bO V W
 |cons e es =>
  simp only[dw,UQ] at B;have Y:decide ((e::es).length+([]:List X6).length+(if ([]:List X6).isEmpty then 0 else 1) < 30)=ah:=bR (by
   simp only[Va,Wa,List.isEmpty_nil,if_true] at U ⊢;lia)
  refine (uX PySem.F.plainAttrs_tuple PySem.F.slot_tuple_index PySem.F.type_tuple_index (AD O.hu) (yj (d9 O h2) hm E (ig h3).1) ha rfl (by
   rw[kh (es:=e::es) (by simp only[dw,UQ];exact B),Y];rfl) hl (c9 B.1) (dO B.2)) l s k H Q I ?_
  refine⟨.inr (.inl ⟨rfl,o,k1,k2,k6⟩),m,C,h,ws,f,R,S,Z,λvs H2 m2 y R2 P=>?_⟩;exact⟨m2,f,.p (.aE L),ws,z,h',R2,M m2 H2,P,D,λA H5 m5 v R5 K=>t A H5 m5 (y.trans v) R5 K⟩
def Lq{X:Cx}{me:BT.Me}(B:me=.append\/me=.pop\/me=.extend){o:aR}:∀(m:List aB)(h h2:aN)(H:Hp)(v:V) (x:aP) ws r,RH X.K m H h->RW X.prog X.w X.K m H v x->BT.tM x h=ah->aW me x ws h2=aa r->(∃σ s,RS X.prog X.w X.K m H σ s/\∃D,aO F G o s D=aa (x,h))->tyV X.K "list" v H:=by intro m h h2 H v x ws r R q ok e _;obtain⟨n,rfl⟩:=SO B e;exact ty_list R q ok
def SV{X:Cx}{o:aR}:∀(m:List aB)(h h2:aN)(H:Hp)(v:V) (x:aP) ws r,RH X.K m H h->RW X.prog X.w X.K m H v x->BT.tM x h=ah->aW .sindex x ws h2=aa r->(∃σ s,RS X.prog X.w X.K m H σ s/\∃B,aO F G o s B=aa (x,h))->tyV X.K "str" v H:=by
 intro m h h2 H v x ws r R q _ e _;cases x with
 |p d =>
  rw[BT.pJ]at e;cases g:bB ws with
  |none=>rw[g]at e;exact c5 e
  |some J =>
   rw[g]at e;obtain⟨b,D,L⟩:=dG e;cases d with
   |str y=>cases q with|p r=>cases r;exact rfl
   |_=>cases J<;>exact c5 D
 |_=>cases ws<;>(first|exact c5 e|simp[aW]at e)
def SW{X:Cx}{e:aR}(σ:L2.St)(H:Hp)(Q:Bool->Hp->Prop)(q:tDT X F G e σ H Q):tB (tD X F G e) σ H Q:=by obtain⟨m,s,J,b,L,R,S,M,B⟩:=q;refine⟨m,s,J,_,L,R,S,M,λv U D x O r=>?_⟩;exact⟨b,nj r,B U D x O⟩
def XE(F:FT)(G:aA->Option aP)(X:Cx)(e':aR)(e:UP):Prop:=PE X e (tD X F G e')/\(tOK e'=ah->PT X e (tDT X F G e')/\∀B q p,e=.BoolOp B q p->PW X e (tDT X F G e'))
def XO(F:FT)(G:aA->Option aP)(X:Cx)(q:aX)(o:Option UP):Prop:=∃t,PO X o t ∧
 ∀D H (Q:Option Int->Hp->Prop),(∃m s h l J M,RH X.K m H h/\RS X.prog X.w X.K m H D s/\aZ F G q s h=aa (J,M)/\(bB J).bind BT.tF=aa l/\∀B L,Ext m H L B->RH X.K L B M->Q l B)->t D H Q
def fH{X:Cx}{e':aR}{e:UP}(p:PE X e (tD X F G e'))(L:∀D vs q,e≠.BoolOp D vs q)(J:∀B,isTrue e X.env B=(do let v ←B;Z3 e.pos;Yi [v] (truthy v)):=by intro _;rfl):XE F G X e' e :=
 ⟨p,λ_=>⟨PT.weak (Jy p J) SW,λD vs q z=>bO z (L D vs q)⟩⟩
def Lr{X:Cx}:XO F G X .nil af:=⟨_,FE,fun D H Q q=>by obtain⟨m,s,h,l,J,L,R,S,e1,e2,B⟩:=q;simp only[aZ]at e1;cases e1;simp[bB,BT.tF]at e2;subst e2;exact B H m (.refl _ _) R⟩
def Ls{X:Cx}{a:aR}{e:UP}(O:PE X e (tD X F G a)):XO F G X (.cons a .nil) (aa e):=by
 refine⟨_,FF O,fun Z H Q q=>?_⟩;obtain⟨m,s,h,l,b,U,R,S,e1,e2,D⟩:=q;simp only[aZ]at e1;obtain⟨x,c,V,B⟩:=dg e1;simp only[BT.k9,BT.eU,BT.jz]at B;cases B;refine⟨m,s,h,x,U,R,S,V,λv Y M J W L=>?_⟩;cases L with
 |p r =>
  cases r<;>simp[bB,BT.tF]at e2;subst e2;exact⟨_,rfl,D Y M J W⟩
 |_=>simp[bB]at e2
def qu{X:Cx}{a:aR}{e:UP}(V:PE X e (tD X F G a))(U:noStar e=ah):PA X [e] (tDs X F G (.cons a .nil)) :=
 PA.weak (ju V sV (c9 U)) fun B H Q q=>by obtain⟨m,s,h,J,W,R,S,Y,D⟩:=cons_of B H Q q;exact⟨m,s,h,J,W,R,S,Y,λv b O L Z M=>kR (D v b O L Z M)⟩
def uw{X:Cx}{a b:aR}{e f:UP}(J:PE X e (tD X F G a))(D:PE X f (tD X F G b))(B:noStar e=ah)(q:noStar f=ah):PA X [e,f] (tDs X F G (.cons a (.cons b .nil))) :=
 PA.weak (ju J (qu D q) (c9 B)) cons_of
def Pb(sc:Vw)(q:UP)(o:aR):Prop:=∃x p,o=.aG x/\q=.Name x p/\d7 sc x=ah/\fK x=ah
def SX(sc:Vw):Tq->Prop
 |.e o q=>xB o=ai\/Pb sc q o|_=>True
def G7{sc:Vw}{N:List aA}{t:Tq}(h:CQ sc N t):SX sc t:=by
 induction h with
 |aG q hn=>exact .inr ⟨_,_,rfl,rfl,q,hn⟩
 |_=>first|exact .inl rfl|exact True.intro
def Lu{sc:Vw}{N:List aA}{o:aR}{q:UP}(h:CE' sc N o q):xB o=ai\/Pb sc q o:=G7 h
def sMe{X:Cx}{sc:Vw}{N:List aA}(O:Ok X F G sc N){m:BT.Me}{o:aR}{as:aX}{L:UP}{name:aA}{apos cpos:Pos}{es:List UP}(h1:CO m o=ah)(h2:name=CM m)(U:dS L=ah)(J:(apos.endLine==cpos.line)=ah)(D:es.length<20)(V:CE' sc N o L)(q:CEs sc N as es)(M:PE X L (tD X F G o))(B:PA X es (tDs X F G as)):
 PE X (.Call (.Attribute L name apos) es [] cpos) (tD X F G (.me m o as)):=by
 subst h2;cases m with
 |append=>exact uh (sc:=sc) (N:=N) W2 Zm Zl AB U J D M q B (Lq (.inl rfl))|pop=>exact uh (sc:=sc) (N:=N) W2 PySem.F.slot_list_pop PySem.F.type_list_pop KU U J D M q B (Lq (.inr (.inl rfl)))|extend=>exact uh (sc:=sc) (N:=N) W2 PySem.F.slot_list_extend PySem.F.type_list_extend AC U J D M q B (Lq (.inr (.inr rfl)))|sindex=>exact uh (sc:=sc) (N:=N) PySem.F.plainAttrs_str PySem.F.slot_str_index PySem.F.type_str_index AE U J D M q B SV
 |tindex =>
  rcases Lu V with z|⟨x,p,rfl,rfl,hg,hn⟩
  exact Bool.noConfusion (z.symm.trans h1);exact AS O hg hn J D q B
 |_=>simp[CO]at h1
def Pc{X:Cx}{a b:aR}{x:UP}{r:List UP}{p:Pos}(B:PE X (.BoolOp .And (x::r) p) (tD X F G (.and a b)))(w:tOK (.and a b)=ah->PW X (.BoolOp .And (x::r) p) (tDT X F G (.and a b))):XE F G X (.and a b) (.BoolOp .And (x::r) p) :=
 ⟨B,λq=>⟨(w q).pt,λ_ _ _ e=>by cases e;exact w q⟩⟩
def sOr{X:Cx}{a b:aR}{x:UP}{r:List UP}{p:Pos}(B:PE X (.BoolOp .Or (x::r) p) (tD X F G (.or a b)))(w:tOK (.or a b)=ah->PW X (.BoolOp .Or (x::r) p) (tDT X F G (.or a b))):XE F G X (.or a b) (.BoolOp .Or (x::r) p) :=
 ⟨B,λq=>⟨(w q).pt,λ_ _ _ e=>by cases e;exact w q⟩⟩
def oO{a b:aR}(h:tOK (.and a b)=ah):tOK a=ah/\tOK b=ah:=by have h:(tOK a&&tOK b)=ah:=h;simpa only[UQ]using h
def ux{a b:aR}(h:tOK (.or a b)=ah):tOK a=ah/\tOK b=ah:=by have h:(tOK a&&tOK b)=ah:=h;simpa only[UQ]using h
def MX(F:FT)(G:aA->Option aP)(sc:Vw)(N:List aA):Tq->Prop
 |.e M e=>∀(X:Cx),Ok X F G sc N->XE F G X M e|.es O es=>∀(X:Cx),Ok X F G sc N->PA X es (tDs X F G O)|.o B o=>∀(X:Cx),Ok X F G sc N->XO F G X B o|.c cond q=>qt F G sc N cond q|.i J L iter=>∀(X:Cx),Ok X F G sc N->∀(D:UP),vA J D=ah->PI X D iter (iD X F G J L)
def sQ{sc:Vw}{N:List aA}{t:Tq}(h:CQ sc N t):MX F G sc N t:=by
 refine @CQ.rec (λsc N t _=>MX F G sc N t)
  (λl Z V X O=>fH (uf O l Z V) (λ_ _ _ z=>nomatch z))
  (λh X O=>fH (GD h) (λ_ _ _ z=>nomatch z))
  (λZ V X O=>fH (GE O Z V) (λ_ _ _ z=>nomatch z))
  (λh _ _ B J X O=>fH (PE.weak (NL (opB h) (B _ O).1 (J _ O).1) (lK λs h=>by simp only[aO])) (λ_ _ _ z=>nomatch z))
  (λ_ B X O=>fH (PE.weak (IL Bu (B _ O).1) K2) (λ_ _ _ z=>nomatch z))
  (λ_ B X O=>⟨PE.weak (JB (B _ O).1) GI,λL=>⟨PT.weak (JA ((B _ O).2 L).1) GH,λ_ _ _ e=>nomatch e⟩⟩)
  (λ_ _ B J X O=>Pc (PE.weak (Bm (B _ O).1 (Bl (J _ O).1)) yU) λL=>PW.weak (Bk ((B _ O).2 (oO L).1).1 (Fg ((J _ O).2 (oO L).2).1)) yV)
  (λ_ _ B J X O=>Pc (PE.weak (Bm (B _ O).1 (J _ O).1) yU) λL=>PW.weak (Bk ((B _ O).2 (oO L).1).1 (((J _ O).2 (oO L).2).2 _ _ _ rfl)) yV)
  (λ_ _ B J X O=>sOr (PE.weak (IK (B _ O).1 (Bl (J _ O).1)) Dn) λL=>PW.weak (IG ((B _ O).2 (ux L).1).1 (Jz ((J _ O).2 (ux L).2).1)) Do)
  (λ_ _ B J X O=>sOr (PE.weak (IK (B _ O).1 (J _ O).1) Dn) λL=>PW.weak (IG ((B _ O).2 (ux L).1).1 (((J _ O).2 (ux L).2).2 _ _ _ rfl)) Do)
  (λh _ _ b B J X O=>⟨PE.weak (yo (opC O h) (B _ O).1 (J _ O).1 b) (lK λs h=>by simp only[aO]),λ_=>⟨PT.weak (yp (opC O h) (B _ O).1 (J _ O).1 b) (qe (lK λs h=>by simp only[aO])),λ_ _ _ e=>nomatch e⟩⟩)
  (λh w _ _ _ b B J a X O=>⟨PE.weak (Bx (opC O h) (opC O w) (B _ O).1 (J _ O).1 (a _ O).1 b) vG,λ_=>⟨PT.weak (By (opC O h) (opC O w) (B _ O).1 (J _ O).1 (a _ O).1 b) (qe vG),λ_ _ _ e=>nomatch e⟩⟩)
  (λh _ _ _ a B J X O=>⟨PE.weak (Bo ((a _ O).2 h).1 (B _ O).1 (J _ O).1) K1,λL=>nomatch L⟩)
  (λ_ B X O=>⟨PE.weak (BE (B _ O)) K5,λL=>nomatch L⟩)
  (λ_ B X O=>⟨PE.weak (JR (B _ O)) K6,λL=>nomatch L⟩)
  (λ_ _ D B g X O=>fH (PE.weak (IP KS (B _ O).1 (g _ O).1 (vF D)) (lK λs h=>by simp only[aO])) (λ_ _ _ z=>nomatch z))
  (λ_ _ _ B A x X O=>fH (by
   obtain ⟨tl,p,o⟩:=A _ O;obtain ⟨S,n,m⟩:=x _ O;exact PE.weak (BQ osl (B _ O).1 p n) (K3 o m)) (λ_ _ _ z=>nomatch z))
  (λU hn Y B X O=>fH (Dp O U hn Y (B _ O)) (λ_ _ _ z=>nomatch z))
  (λW U c D _ B X O=>fH (DL O W U c D (qu (B _ O).1 D)) (λ_ _ _ z=>nomatch z))
  (λW d U D _ B X O=>fH (K4 O W d U (by simp[dw,D]) (qu (B _ O).1 D)) (λ_ _ _ z=>nomatch z))
  (λd U c D _ B X O=>fH (Dq O d U c D (B _ O).1) (λ_ _ _ z=>nomatch z))
  (λl Z V k u I Y f B X O=>fH (sMe O l Z V k u I Y (f _ O).1 (B _ O)) (λ_ _ _ z=>nomatch z))
  (λW r L E D _ _ _ g a C X O=>⟨G1 O W r L D (g _ O _ E) a λP v=>(C _ v).1,λL=>nomatch L⟩)
  (λd K _ B X O=>fH (GK (sc:=sc) (N:=N) d K (B _ O).1) (λ_ _ _ z=>nomatch z))
  (λV k u _ Y f B X O=>fH (Ds O V k u (f _ O).1 Y (B _ O)) (λ_ _ _ z=>nomatch z))
  (λr _ B X O=>fH (GL r (B _ O).1) (λ_ _ _ z=>nomatch z))
  (λW d U j M _ _ B J X O=>fH (GM O W d U (by simp[dw,j,M]) (uw (B _ O).1 (J _ O).1 j M)) (λ_ _ _ z=>nomatch z))
  (λU hn Y B X O=>fH (Dt O U hn Y (B _ O)) (λ_ _ _ z=>nomatch z))
  (λl Z V Y B X O=>fH (Dz O l Z V Y (B _ O)) (λ_ _ _ z=>nomatch z))
  (λX O=>fH GT (λ_ _ _ z=>nomatch z))
  (λW U D _ _ B id X O=>fH (DI O W U D (B _ O).1 (id _ O).1) (λ_ _ _ z=>nomatch z))
  (λ_ B X O=>⟨Lm (B _ O).1,λL=>nomatch L⟩)
  (λD M _ _ B J X O=>⟨PE.weak (BE (uw (B _ O).1 (J _ O).1 D M)) G6,λL=>nomatch L⟩)
  (λ_ _ D B g X O=>fH (PE.weak (IP O9 (B _ O).1 (g _ O).1 (vF D)) (lK λs h=>by simp only[aO])) (λ_ _ _ z=>nomatch z))
  (λ_ _ b B J X O=>⟨PE.weak (yo Je (B _ O).1 (J _ O).1 b) (lK λs h=>by simp only[aO]),λ_=>⟨PT.weak (yp Je (B _ O).1 (J _ O).1 b) (qe (lK λs h=>by simp only[aO])),λ_ _ _ e=>nomatch e⟩⟩)
  (λZ V k D _ _ f B X O=>by subst Z;exact fH (Pa V k D (f _ O).1 (qu (B _ O).1 D)) (λ_ _ _ z=>nomatch z))
  (λX O=>PA.weak sV fun R H Q q=>kR q)
  (λD _ _ B y X O=>PA.weak (ju (B _ O).1 (y _ O) (c9 D)) cons_of)
  (λX O=>Lr)
  (λ_ B X O=>Ls (B _ O).1)
  (.inl ⟨rfl,rfl⟩)
  (λL _ B=>.inr ⟨_,_,rfl,rfl,λP v=>((B _ v).2 L).1⟩)
  (λU D _ B X O _ _=>DE O U D (qu (B _ O).1 D))
  (λU D M _ _ B J X O _ _=>DF O U D M (uw (B _ O).1 (J _ O).1 D M))
  (λU D M i _ _ _ B J a X O _ _=>DP O U D M i (PA.weak (ju (B _ O).1 (uw (J _ O).1 (a _ O).1 M i) (c9 D)) cons_of))
  (λU D _ B X O _ _=>GS O U D (B _ O).1)
  (λ_ B X O _ _=>GR (B _ O).1)
  sc N t h
def sE{sc:Vw}{N:List aA}{e':aR}{e:UP}(h:CE' sc N e' e){X:Cx}(O:Ok X F G sc N):PE X e (tD X F G e'):=(sQ h X O).1
def sT{sc:Vw}{N:List aA}{e':aR}{e:UP}(h:CE' sc N e' e){X:Cx}(O:Ok X F G sc N)(B:tOK e'=ah):PT X e (tDT X F G e')/\∀q vs p,e=.BoolOp q vs p->PW X e (tDT X F G e'):=(sQ h X O).2 B
def sCC{sc:Vw}{N:List aA}{cond:aX}{q:List UP}(h:CC sc N cond q):qt F G sc N cond q:=sQ h
def sCI{sc:Vw}{N:List aA}{sr:bK}{sa:aX}{iter:UP}(h:CI sc N sr sa iter){X:Cx}(O:Ok X F G sc N){tg:UP}(hz:vA sr tg=ah):PI X tg iter (iD X F G sr sa):=sQ h X O tg hz
end
def mk3(H:Hp)(P c f:aB)(t B q:HO):Hp:=upd (upd (upd H P t) c B) f q
def eW{H:Hp}{P c f a:aB}{t L J u:HO}{ps:Array aC}(D:H P=aa (.tbl ps))(B:H c=af)(q:H f=af)(e:H a=aa u)(n:CZ u=ai):mk3 H P c f t L J a=aa u:=by unfold mk3;rw[dD (dJ e q),dD (dJ e B),dD (λz=>by subst z;rw[D]at e;cases e;exact BT.w9 n)];exact e
def xP{pos:Pos}{a b:Int}{B v:aC}(l:List aC)(h:TriplesOk l)(e:XJ pos (l++[WD a,WD b,B])=aa v):XJ pos l=aa v\/v=B:=by
 fun_induction TriplesOk l with
 |case1 =>
  simp only[W7,WD,XJ]at e;split at e;cases e;exact .inr rfl;exact bG e
 |case2 O t M u x rest D =>
  simp only[List.cons_append,XJ]at e⊢;split at e;rename_i q;rw[bM q];exact .inl e;rename_i q;rw[bN q];exact D h e
 |case3 l L J=>exact h.elim
structure Made(X:Cx)(zt:List (aB×aq))(σ:L2.St)(m:List aB)(H:Hp)(h:aN)(q:aA)(pa:WH)(be:UP)(sc:Vw)(cl:List (aA×aB))(f:aB)(H3:Hp)(s3:UR):Prop where
 inv:Inv X zt σ H3 s3
 ext:Ext m H m H3
 rh:RH X.K m H3 h
 ex:∃pm ctv c' oc os t,Tr m H3 f (X3 "<lambda>" q pa be sc cl pm c' ctv)/\Tr m H3 c' oc/\oc.data=.fields os/\os[1]?=aa (.str q t)
def G8{X:Cx}{zt:List (aB×aq)}{σ:L2.St}{H:Hp}{s:UR}{m:List aB}{h:aN}(I:Inv X zt σ H s)(R:RH X.K m H h){x:aA}(lx:LX X x){c P:aB}(tc:VJ X.K x=aa (c,P)){ps:Array aC}(B:H P=aa (.tbl ps))
(ht:TriplesOk ps.toList)(F:∀pos v,XJ pos ps.toList=aa v->∃c' U os t,v=.ref c'/\H c'=aa (.frz U (.own 0))/\U.data=.fields os/\os[1]?=aa (.str (Ar x) t))
(C:∀y∈BT.gP,∀Q,VJ X.K y=aa (Q,P)->y=x)
{pos:Pos}(hn:XJ pos ps.toList=af){c' f:aB}{h':au}{tk:Nat}{fo:aq}(E:fo.isFreed=ai){U:aq}{os:Array aC}{t:Tok}(hx:Zq P s.heap h')(L:s.heap.objs.size<=c')(V:c'<h'.objs.size)(ho:h'.get? c'=aa U)(p:U.data=.fields os)(hq:os[1]?=aa (.str (Ar x) t))
(hT:h'.get? P=aa (WO (ps++#[WD pos.line,WD pos.col,.ref c']))):
 Inv X zt σ (mk3 H P c' h'.objs.size (.tbl (ps++#[WD pos.line,WD pos.col,.ref c'])) (.frz U (.own 0)) (.frz fo (.own 0))) {s with heap:=h'.push fo,toks:=tk}/\Ext m H m (mk3 H P c' h'.objs.size (.tbl (ps++#[WD pos.line,WD pos.col,.ref c'])) (.frz U (.own 0)) (.frz fo (.own 0))) ∧
 RH X.K m (mk3 H P c' h'.objs.size (.tbl (ps++#[WD pos.line,WD pos.col,.ref c'])) (.frz U (.own 0)) (.frz fo (.own 0))) h:=by
 have hPs:s.heap.get? P=aa (WO ps):=I.aL _ _ B;have g:P<s.heap.objs.size:=UW hPs;have cP:c'≠P:=λz=>by rw[z]at L;exact bO g (Nat.not_lt.mpr L)
 have fP:h'.objs.size≠P:=λz=>by rw[←z]at g;exact bO (Vg g L) (Nat.not_lt.mpr (V6 V))
 have fc:h'.objs.size≠c':=WM V;have fr:∀a,s.heap.objs.size<=a->H a=af:=λa ha=>I.aL.fresh ha;have J:=fr c' L;have D:=fr h'.objs.size (V6 (XD L V));have at1:∀t Z Y,mk3 H P c' h'.objs.size t Z Y h'.objs.size=aa Y:=λ_ _ _=>dM;have G:∀t Z Y,mk3 H P c' h'.objs.size t Z Y c'=aa Z:=λ_ _ _=>by unfold mk3;rw[dD (VN fc),dM]
 have W:∀t Z Y,mk3 H P c' h'.objs.size t Z Y P=aa t:=λ_ _ _=>by unfold mk3;rw[dD (VN fP),dD (VN cP),dM]
 have O:∀t Z Y b,b≠P->b≠c'->b≠h'.objs.size->mk3 H P c' h'.objs.size t Z Y b=H b:=λ_ _ _ b n1 n2 n3=>by unfold mk3;rw[dD n3,dD n2,dD n1]
 have nP:∀b,H b=af->b≠P:=λb e z=>by rw[z,B]at e;cases e
 have lt:∀b o,s.heap.get? b=aa o->b≠c'/\b≠h'.objs.size:=λb o e=>by have l:=UW e;exact⟨λz=>by rw[z]at l;exact bO l (Nat.not_lt.mpr L),λz=>by rw[z]at l;exact bO (Vg l L) (Nat.not_lt.mpr (V6 V))⟩
 have N:∀b o,b≠P->s.heap.get? b=aa o->(h'.push fo).get? b=aa o:=λb o n e=>UO _ (hx b o n e);refine⟨I.un ⟨λb o e n _ _=>N b o (nP b n) e,λb o e n _ _=>⟨o.slots,N b o (nP b n) e⟩,λb o e n _=>?_,λb o e _=>?_,λb xs e=>eW B J D e rfl,λb o u e=>eW B J D e rfl,λb qs e=>?_⟩ λb u e=>?_,?_,?_⟩;rw[O _ _ _ b (nP b n) (lt b o e).1 (lt b o e).2];exact n
 ·by_cases z:b=P
  exact⟨_,by rw[z];exact UO _ hT⟩;exact⟨o,N b o z e⟩
 ·by_cases z:b=P
  subst z;rw[B]at e;cases e;exact⟨_,W _ _ _⟩;exact⟨#[],by rw[O _ _ _ b z (dJ e J) (dJ e D),e];simp⟩
 ·by_cases A:b=h'.objs.size
  subst A;rw[at1]at e;cases e;exact⟨UX _ E,_,UX _ E⟩
  by_cases w:b=c'
  subst w;rw[G]at e;cases e;exact⟨UO _ ho,_,UO _ ho⟩
  by_cases k:b=P
  subst k;rw[W]at e;cases e;exact UO _ hT;rw[O _ _ _ b k w A]at e;refine(I.aL b u e).stay (λd o p q=>N d o ?_ q) (λd q=>eW B J D q rfl) λd xs q=>eW B J D q rfl;rcases p with rfl|p
  exact k
  ·rintro rfl;rw[B]at p;cases p
 ·refine⟨⟨[],by simp,by simp⟩,λa o e n t=>eW B J D e t,λa e=>?_,λa ob S e=>eW B J D e rfl⟩
  by_cases A:a=h'.objs.size
  rw[A];exact D
  by_cases w:a=c'
  rw[w];exact J
  by_cases k:a=P
  subst k;rw[W]at e;cases e;rw[O _ _ _ a k w A]at e;exact e
 ·have sq:mE H (mk3 H P c' h'.objs.size (.tbl (ps++#[WD pos.line,WD pos.col,.ref c'])) (.frz U (.own 0)) (.frz fo (.own 0))) :=
   ⟨λa S r=>r.elim (λz=>.inl (eW B J D z rfl)) λ⟨o,z⟩=>.inr ⟨o,eW B J D z rfl⟩,λa S r=>r.elim (λz=>.inl (eW B J D z rfl)) λ⟨o,z⟩=>.inr ⟨o,eW B J D z rfl⟩,λa S r=>r.elim (λz=>.inl (eW B J D z rfl)) λ⟨o,z⟩=>.inr ⟨o,eW B J D z rfl⟩⟩
  refine R.tr sq (λa ha=>?_) λy hy Q P2 e2=>?_
  ·obtain⟨o,e,z⟩:=R.mu ha;rw[e];exact eW B J D e (by cases o<;>first|rfl|exact aU z)
  ·by_cases z:P2=P
   ·subst z;obtain rfl:=C y hy Q e2;refine⟨_,W _ _ _,?_,λM v e=>?_⟩
    ·have:=TriplesOk_snoc pos.line pos.col (.ref c') ps.toList ht;simpa using this
    ·have e':XJ M (ps.toList++[WD pos.line,WD pos.col,.ref c'])=aa v:=by simpa using e
     rcases xP _ ht e' with q|q
     ·obtain⟨c3,j,i,T,q1,q2,q3⟩:=F M v q;exact⟨c3,j,i,T,q1,eW B J D q2 rfl,q3⟩
     ·subst q;exact⟨c',U,os,t,rfl,G _ _ _,p,hq⟩
   ·obtain⟨qs,e3,e4,e5⟩:=R.tb y hy Q P2 e2;refine⟨qs,by rw[O _ _ _ P2 z (dJ e3 J) (dJ e3 D)];exact e3,e4,λM v e=>?_⟩;obtain⟨c3,j,i,T,q1,q2,q3⟩:=e5 M v e;exact⟨c3,j,i,T,q1,eW B J D q2 rfl,q3⟩
def DS{X:Cx}{zt:List (aB×aq)}{σ:L2.St}{H:Hp}{s:UR}{m:List aB}{h:aN}(I:Inv X zt σ H s)(R:RH X.K m H h){x:aA}(g:LX X x){d:WH}{be:UP}{scope:Vw}{lp:Pos}{ps:List aA}(hp:LPa d ps)
(V:∀y∈scope.names,y.2=.free->X.env.scope.names.lookup y.1=aa .cell){Q:aC->UR->Prop}{E:aC->UR->Prop}
(hQ:∀f H3 s3,Made X zt σ m H h (Ar x) d be scope (BC.f9 X.env.cells scope.names []) f H3 s3->Q (.ref f) s3):ay (Vb X.prog X.w) X.A (eval (.Lambda d be scope lp) X.env) Q E s:=by
 obtain⟨c,P,tc,B,l,a⟩:=g.ex;obtain⟨ts,hP,z,M⟩:=R.tb x g.mem c P tc;have L:s.heap.get? P=aa (WO ts):=I.aL _ _ hP;have p:=I.ok.mod.glob.keeps I.bk;obtain⟨bm,ob,b1,b2,b3,b4,b5,T⟩:=g.bm;have J:=I.bk _ _ b3;have F:U6≠P:=λq=>by obtain⟨o,es,ep,e,Y,_⟩:=p;rw[q,L]at e;cases e;cases Y
 have G:bm≠P:=λq=>by rw[q,L]at J;cases J;cases b4
 have N:bm≠U6:=λq=>by obtain⟨o,es,ep,e,Y,_⟩:=p;rw[q,e]at J;cases J;rw[Y]at T;cases T
 have k:closureFor scope X.env=pure (BC.f9 X.env.cells scope.names []):=BC.qm λy hy e=>I.ok.has y.1 (.inl (V y hy e));have hB:s.heap.BuiltinsAt X.mg P:=⟨bm,ob,b1,b2,N,G,J,b4,b5,T⟩;refine PySem.W.kla_eval (by cases hp<;>rfl) ?_;rw[g.ql];cases n:XJ lp ts.toList with
 |none =>
  refine PySem.W.kla_makeFunction (mg:=X.mg) k I.ok.glob p B (l.keeps I.bk) L z n F hB λZ D S tk hx U O j v=>?_;obtain⟨c2,r,vs,t,e2,C,Y,hv⟩:=j;cases e2;obtain⟨z1,z2,z3⟩:=G8 (tk:=tk) (fo:=X3 "<lambda>" (Ar x) d be scope (BC.f9 X.env.cells scope.names []) ((X.mg "__name__").getD .none) Z D) I R g tc hP z M a (f:=S.objs.size) n rfl hx U O C Y hv v;have nf:S.objs.size≠Z:=WM O;have e1:=I.aL.fresh (V6 (XD U O));have e2:=I.aL.fresh U;exact hQ _ _ _ ⟨z1,z2,z3,_,D,Z,r,vs,t,⟨dM,R.iN e1⟩,⟨by unfold mk3;rw[dD (VN nf),dM],R.iN e2⟩,Y,hv⟩
 |some cv =>
  obtain⟨Z,r,os,t,rfl,q2,q3,q4⟩:=M _ _ n;refine PySem.W.kla_makeFunctionHit (mg:=X.mg) k I.ok.glob p B (l.keeps I.bk) L z n hB λD S tk hk i=>?_;have e1:=I.aL.fresh i;refine hQ _ _ _ ⟨I.laid (o:=.frz (X3 "<lambda>" (Ar x) d be scope (BC.f9 X.env.cells scope.names []) ((X.mg "__name__").getD .none) Z D) (.own 0)) (t':=tk) (λb u e=>UO _ (hk b u e)) i ⟨UX _ rfl,_,UX _ rfl⟩,gB e1,R.new e1,_,D,Z,r,os,t,⟨dM,R.iN e1⟩,⟨C1 e1 _ _ q2,R.nin q2 rfl⟩,q3,q4⟩
end BS
end
section
namespace BS
open PySem PySem.Spec PyProof.Rows L2
variable{be:UP}{lp:Pos}
open Classical in
noncomputable def iW(cl:List (aA×aB))(h:au)(H:Hp):Hp:=λb=>if ∃x,cl.lookup x=aa b then aa (.frz ((h.get? b).getD default) (.own 0))else H b
section
variable{cl:List (aA×aB)}{h:au}{H:Hp}{b:aB}
def oQ{x:aA}{o:aq}(e:cl.lookup x=aa b)(g:h.get? b=aa o):iW cl h H b=aa (.frz o (.own 0)):=by unfold iW;rw[bM ⟨x,e⟩,g];rfl
def iQ(e:¬ ∃x,cl.lookup x=aa b):iW cl h H b=H b:=bN e
def G9(N:∀x c,cl.lookup x=aa c->H c=af):Le H (iW cl h H):=λa u e=>by rw[iQ (λ⟨x,q⟩=>by rw[N x a q]at e;exact c5 e)];exact e
end
theorem oR{cells:List (aA×aB)}{y:aA}{d:aB}:∀{names:List (aA×WW)}{B:List (aA×aB)},(BC.f9 cells names B).lookup y=aa d->B.lookup y=aa d\/(y,VP)∈names
 |[],B,e=>.inl e
 |(n,k)::r,B,e=>by
  rw[BC.f9]at e;split at e
  ·rename_i D;have D:k=.free:=bT D;split at e
   ·rename_i a L;rcases oR e with q|q
    ·rw[Wg]at q;split at q
     ·rename_i J;have:y=n:=by simpa using J
      subst this;subst D;exact .inr UY
     exact .inl q
    exact .inr (UV _ q)
   ·rcases oR e with q|q
    exact .inl q;exact .inr (UV _ q)
  ·rcases oR e with q|q
   exact .inl q;exact .inr (UV _ q)
def Lv{cells:List (aA×aB)}{y:aA}{d:aB}{names:List (aA×WW)}(e:(BC.f9 cells names []).lookup y=aa d):(y,VP)∈names:=by
 rcases oR e with q|q
 simp at q;exact q
def RWs.le{P:U4}{w:Vl}{K:UM}{m:List aB}{H H':Hp}(q:Le H H'){vs:List V}{ws:List aP}(r:RWs P w K m H vs ws):RWs P w K m H' vs ws:=by
 induction r with
 |nil=>exact .nil|cons r t B=>exact .cons (r.le q) B
section
variable{F:FT}{G:aA->Option aP}
def Ly{P:U4}{w:Vl}{K:UM}{m:List aB}{H:Hp}{v:V}{x:aP}{q:bF}(r:RW P w K m H v x)(e:BT.vd x=aa q):RA K m H v q.w:=by
 cases r with
 |p r=>cases e;exact .p r|o h=>cases e;exact .o h|_=>exact c5 e
theorem vP{X:Cx}{zt:List (aB×aq)}{σ:L2.St}{H:Hp}{s:UR}{m:List aB}{g:aN}{cl:List (aA×aB)}{sc:Vw}{N:List aA}{V:bf}(I:Inv X zt σ H s)(R:RH X.K m H g)(L:X.env.scope=sc)(Y:X.N=N)(S:RS X.prog X.w X.K m H σ V)
(D:∀x c,cl.lookup x=aa c->X.env.cells.lookup x=aa c):∀(fv:List (Nat×aA)) (O:List bF),Aq sc N fv=ah->(∀q∈fv,∃c,cl.lookup q.2=aa c)->BT.caps V fv=aa O->∃B,jX m (iW cl s.heap H) cl (fv.map (·.2)) B/\RCs X.K m H B O
 |[],O,_,_,e=>by cases e;exact⟨[],.nil,.nil⟩
 |q::r,O,hv,hc,e=>by
  simp only[Aq,ZY,UQ]at hv;rw[BT.An]at e;split at e
  ·rename_i w i;obtain⟨t,e1,e2⟩:=Option.bind_eq_some_iff.mp e;obtain⟨U,j,rfl⟩:=dG e2;obtain⟨B,n,l⟩:=vP I R L Y S D r U hv.2 (λq f=>hc q (UV _ f)) j;obtain⟨v,Z,a⟩:=S.get _ _ i;obtain⟨c,J⟩:=hc q UY;have M:=D _ _ J;obtain⟨p,hn,h⟩:=I.loc;have W:X.env.scope.names.lookup q.2=aa .cell:=by rw[L];exact bT hv.1.2
   obtain⟨u,b,d⟩:=h q.1 q.2 v (by rw[Y];exact bT hv.1.1) Z (.inr (.inl W));rcases d with⟨k,_⟩|⟨k,c',ec,o,ho,hd⟩
   ·have:X.env.scope.names.lookup q.2=aa .local:=k;rw[W]at this;cases this
   ·rw[M]at ec;cases ec;exact⟨v::B,.cons J ⟨oQ J ho,R.iN (I.freeC _ _ M)⟩ hd b n,.cons (Ly a e1) l⟩
  exact c5 e
def AU{m:aA}{M:aN->Option (List aP×aN)}{L:Nat}{B:Option (List bF)}{x:aP}{h:aN}{r:aP×aN}(e:BT.xr F m M L B x h=aa r):
 ∃n c fs ws g J,x=.o n/\bw h n=aa (c,fs)/\(BT.eN m fs).isNone=ah/\M h=aa (ws,g)/\B=aa J/\F (.m c m) (.o n::(ws++[.c (.l L) J])) g=aa r/\(BT.noC [r.1]=ah\/∃ps,r.1=.k (.s ps)):=by
 cases x with
 |o n =>
  rw[BT.Cu]at e;cases g:bw h n with
  |none=>rw[g]at e;exact c5 e
  |some q =>
   obtain⟨c,fs⟩:=q;rw[g]at e;simp only at e;split at e
   ·rename_i V;obtain⟨ws,U,e1,e2⟩:=dg e;cases B with
    |none=>exact c5 e2
    |some J =>
     rw[BT.Ao]at e2;obtain⟨z,W,O,D⟩:=dg e2;refine⟨n,c,fs,ws,U,J,rfl,g,V,e1,rfl,?_⟩;cases z with
     |c _ _=>exact c5 D|x _=>exact c5 D
     |k q=>cases q with
      |s ps=>cases D;exact⟨O,.inr ⟨ps,rfl⟩⟩|_=>exact c5 D
     |_=>cases D;exact⟨O,.inl rfl⟩
   exact c5 e
 |_=>exact c5 e
def Hf(X:Cx)(F:FT)(G:aA->Option aP)(as:aX)(args:List UP)(L:UP):Prop :=
 ∀(D:Pos)(M:List (aB×aq)) (s:UR) (B:L2.St) (H:Hp) (m:List aB) (V:bf) (h:aN) (ws:List aP) (g:aN) (Q:List aC->UR->Prop),Inv X M B H s->RH X.K m H h->RS X.prog X.w X.K m H B V->aZ F G as V h=aa (ws,g) →
  (∀O U q W J,Inv X M B q W->dF O U->Ext m H J q->RH X.K J q g->RWs X.prog X.w X.K J q O ws->ay (Vb X.prog X.w) X.A (eval L X.env) (λu Y=>Q (U++[u]) Y) X.xe W) →
  ay (Vb X.prog X.w) X.A (Zt (WU D (Vo args X.env))) Q X.xe s
def Pd{X:Cx}{J:WH}{B:Vw}:Hf X F G .nil [.Lambda J be B lp] (.Lambda J be B lp):=by intro D M s L H m O h ws g Q I R S e k;simp only[aZ]at e;cases e;show ay _ _ (Zt ((ai,eval (.Lambda J be B lp) X.env)::WU D (Vo [] X.env))) _ _ s;exact Wz (thn (k [] [] H s m I .nil (.refl _ _) R .nil) λu U q=>Xe q)
def Pe{X:Cx}{a:aR}{e:UP}{M:WH}{B:Vw}(i:noStar e=ah)(j:PE X e (tD X F G a)):Hf X F G (.cons a .nil) [e,.Lambda M be B lp] (.Lambda M be B lp):=by intro L b s Z H m f h ws g Q I R S Y k;simp only[aZ]at Y;obtain⟨z,o,e1,e2⟩:=dg Y;simp only[BT.k9,BT.eU,BT.jz]at e2;cases e2;rw[c9 i];show ay _ _ (Zt ((ai,eval e X.env)::WU L (Vo [.Lambda M be B lp] X.env))) _ _ s;refine Wz (thn (j b s Z H (λv J=>∃D,Ext m H D J/\RH X.K D J g/\RW X.prog X.w X.K D J v z) I ⟨m,f,h,z,g,R,S,e1,λv J D O V U=>⟨D,O,V,U⟩⟩) λu W c=>?_);obtain⟨v,J,l,U,D,O,V,d⟩:=c;show ay _ _ (Zt ((ai,eval (.Lambda M be B lp) X.env)::WU L (Vo [] X.env))) _ _ W;exact Wz (thn (k [v] [u] J W D l (.cons U .nil) O V (.cons d .nil)) λu n q=>Xe q)
inductive DT(X:Cx)(zt:List (aB×aq))(σ:L2.St)(m0:List aB)(H:Hp)(n:Nat)(ws:List aP)(g:aN)(L:Nat)(cs:List bF)(a f:aB)(us:List aC)(vs:List V)(m2:List aB)(H3:Hp)(s3:UR)(cl:List (aA×aB)):Prop
 |mk(U:Inv X zt σ H3 s3)(q:∀y d,cl.lookup y=aa d->H3 d=af)(D:∀y d,cl.lookup y=aa d->∃o u,s3.heap.get? d=aa o/\o.data=.cell u)(B:∀y d,cl.lookup y=aa d->d∉frs X.stack)(le:Le H3 (iW cl s3.heap H3))(W:RH X.K m2 (iW cl s3.heap H3) g)
  (O:RWs X.prog X.w X.K m2 (iW cl s3.heap H3) (.ref a::(vs++[.ref f])) (.o n::(ws++[.c (.l L) cs]))) (J:o9 X.prog X.w X.K X.mg X.base X.A X.stack s3 (iW cl s3.heap H3)) (M:dF (V.ref a::(vs++[.ref f])) (VQ a::(us++[.ref f]))) (x:Ext m0 H m2 H3) (rh:RH X.K m2 H3 g):DT X zt σ m0 H n ws g L cs a f us vs m2 H3 s3 cl
def AV{X:Cx}{sc:Vw}{N:List aA}(O:Ok X F G sc N)(hf:∀x,X.fn x=ah){o bt:aR}{m:aA}{as:aX}{L:Nat}{fv:List (Nat×aA)}{oe e0:UP}{rest:List UP}{apos cpos:Pos}{pa:WH}{scope:Vw}{ns ps:List aA}
(hl:BT.qZ L=aa ⟨ns,ns,.ret bt⟩)(hp:LPa pa ps)(hn:ns=ps++fv.map (·.2))(hk:pW ps (fv.map (·.2)) scope=ah)(hv:Aq sc N fv=ah)(ht:N.contains (bH (BT.yM L))=ah)(hc:CE' scope ns bt be)(h3:dS oe=ah)(h6:(apos.endLine==cpos.line)=ah)
(hO:PE X oe (tD X F G o))(hst:dw (e0::rest)=ah)(hlen:(e0::rest).length<20)(hS:Hf X F G as (e0::rest) (.Lambda pa be scope lp))
{zt:List (aB×aq)}{s:UR}{σ:L2.St}{H:Hp}{Q:aC->UR->Prop}{c:aA}{C ga:aB}{n:Nat}{fs:List (aA×aP)}{ws:List aP}{g h h1:aN}{cs:List bF}{T:List aB}{s':bf}(I:Inv X zt σ H s)(R:RH X.K T H h)(S:RS X.prog X.w X.K T H σ s')(hC:nQ X.K c C)(hM:z9 X.K C m ga)
(e1:aO F G o s' h=aa (.o n,h1))(e3:bw h1 n=aa (c,fs))(e4:(BT.eN m fs).isNone=ah)(e5:aZ F G as s' h1=aa (ws,g))(e6:BT.caps s' fv=aa cs)
(kk:∀(a f:aB)(us:List aC)(vs:List V)(m2:List aB) (H3:Hp) (s3:UR) (cl:List (aA×aB)),DT X zt σ T H n ws g L cs a f us vs m2 H3 s3 cl->ay (Vb X.prog X.w) X.A (call (.ref ga) (VQ a::(us++[VQ f]))) Q X.xe s3):
 ay (Vb X.prog X.w) X.A (eval (.Call (.Attribute oe m apos) (e0::rest) [] cpos) X.env) Q X.xe s:=by
 have lx:=O.lamx hf _ ht;have lf:=O1 hk;subst hn;refine X0 (thn (hO zt s σ H (λv E=>∃k,Ext T H k E/\RH X.K k E h1/\RW X.prog X.w X.K k E v (.o n)) I ⟨T,s',h,_,h1,R,S,e1,λv E k P R1 r1=>⟨k,P,R1,r1⟩⟩) λu s1 ⟨v,E,I1,rv,k,P,R1,w1⟩=>?_) (nk h3 hst hlen h6);cases w1 with
 |@o a _ ha =>
 obtain rfl:u=.ref a:=rv;obtain⟨C',dx,vs0,q1,q2,q3⟩:=R1.rS _ _ _ _ ha e3;cases q2.cn.inj hC.cn;refine lC I1 q1 hC.cls hM (q3.none e4) ?_;have J:=hst;simp only[dw,UQ]at J;refine W1 (first:=[.ref a]) (h₀:=X.base) I.ok.mod.kin hM.kp (hS cpos zt s1 σ E k s' h1 ws g _ I1 R1 (S.ext P) e5 λvs us H2 s2 m2 I2 rvs x2 R2 w2=>?_) (c9 J.1) (dO J.2);have W:∀y∈scope.names,y.2=.free->X.env.scope.names.lookup y.1=aa .cell:=λy hy e=>by have hm:=lf.all y hy e;obtain⟨p,hp1,hp2⟩:=List.mem_map.mp hm;have:=List.all_eq_true.mp hv p hp1;simp only[UQ]at this;rw[O.hsc,←hp2];exact bT this.2
 refine DS I2 R2 lx hp W λf H3 s3 M=>?_;have D:=M.inv;have B:∀y d,(BC.f9 X.env.cells scope.names []).lookup y=aa d->X.env.cells.lookup y=aa d:=λy d e=>BC.qo (λ_ _ z=>by simp at z) y d e;have hfr:∀y d,(BC.f9 X.env.cells scope.names []).lookup y=aa d->y∈fv.map (·.2):=λy d e=>lf.all (y,.free) (Lv e) rfl;have Z:∀p∈fv,∃d,(BC.f9 X.env.cells scope.names []).lookup p.2=aa d:=λp hp'=>by have hm:=(lf.fre p.2 (aaE hp')).2;exact BC.qp hm (D.ok.has p.2 (.inl (W _ hm rfl)))
 generalize BC.f9 X.env.cells scope.names []=cl at M B hfr Z;have j:∀y d,cl.lookup y=aa d->X.s₀.heap.objs.size<=d:=λy d e=>D.ok.cab y d (hf y) (B y d e);have U:∀y d,cl.lookup y=aa d->H3 d=af:=λy d e=>D.freeC y d (B y d e);have Y:∀y d,cl.lookup y=aa d->∃o u,s3.heap.get? d=aa o/\o.data=.cell u:=λy d e=>by obtain⟨u,ob,r,g2⟩:=D.cell y d (B y d e);exact⟨ob,u,r,g2⟩
 have i:∀y d,cl.lookup y=aa d->d∉frs X.stack:=λy d e hb=>by
  rcases List.mem_cons.mp (D.o5 d hb)with q|q
  exact D.cne y d (B y d e) q
  ·obtain⟨_,ob,r,_⟩:=D.ok.kY.mem q;exact bO (UW r) (Nat.not_lt.mpr (j y d e))
 obtain⟨cvs,cp,rc⟩:=vP D M.rh O.hsc O.hN ((S.ext P).ext (x2.trans M.ext)) B fv cs hv Z e6;have le:Le H3 (iW cl s3.heap H3):=G9 U;obtain⟨pm,ctv,c',oc,os,t,t1,t2,t3,t4⟩:=M.ex;have la:jU m2 (iW cl s3.heap H3) f L cvs:=⟨bt,ps,fv.map (·.2),pa,be,scope,cl,pm,ctv,c',oc,os,t,_,hl,hp,hk,hc,λy y' d e e'=>D.ok.inj _ _ _ (B _ _ e) (B _ _ e'),hfr,⟨le _ _ t1.1,t1.2⟩,⟨le _ _ t2.1,t2.2⟩,t3,t4,cp⟩;have R4:RH X.K m2 (iW cl s3.heap H3) g:=M.rh.le le;have w4:RWs X.prog X.w X.K m2 (iW cl s3.heap H3) (.ref a::(vs++[.ref f])) (.o n::(ws++[.c (.l L) cs])):=.cons (.o (x2.ix ha)) (RWs.app ((w2.ext M.ext).le le) (.cons (.c la (rc.tr le.sq)) .nil));have out:∀b ob,X.base.get? b=aa ob->¬ ∃y,cl.lookup y=aa b:=λb ob e ⟨y,q⟩=>bO (UW (D.ok.bs b ob e).1) (Nat.not_lt.mpr (j y b q));have e04:o9 X.prog X.w X.K X.mg X.base X.A X.stack s3 (iW cl s3.heap H3):=by
  refine⟨D.ok.frames,D.ok.mod,λb ob e=>⟨(D.bs b ob e).1,by rw[iQ (out b ob e)];exact(D.bs b ob e).2⟩,Vp D.ok.bsz D.sz,D.stack,λb hb=>?_,λb u e=>?_,D.bare⟩;rw[iQ (λ⟨y,q⟩=>i y b q hb)];exact D.sP b hb
  ·by_cases cc:∃y,cl.lookup y=aa b
   ·obtain⟨y,q⟩:=cc;obtain⟨ob,uu,r,g2⟩:=Y y b q;rw[oQ q r]at e;cases e;exact⟨r,_,r⟩
   ·rw[iQ cc]at e;exact(D.aL b u e).stay (λ_ _ _ z=>z) (λd z=>le _ _ z) λd xs z=>le _ _ z
 have rv4:dF (V.ref a::(vs++[.ref f])) (VQ a::(us++[.ref f])):=.cons rfl (rvs.append (.cons rfl .nil));exact⟨D.kIn,kk a f us vs m2 H3 s3 cl ⟨D,U,Y,i,le,R4,w4,e04,rv4,P.trans (x2.trans M.ext),M.rh⟩⟩
section
variable{X:Cx}{cl:List (aA×aB)}{H3 H5:Hp}{s3 s5:UR}{m2 m5:List aB}
def DU(B:∀y d,cl.lookup y=aa d->H3 d=af)(b:aB)(D:HO)(e:H3 b=aa D):¬ ∃y,cl.lookup y=aa b:=λ⟨y,q⟩=>by rw[B y b q]at e;exact c5 e
def Lz(D:∀y d,cl.lookup y=aa d->H3 d=af)(W:∀y d,cl.lookup y=aa d->∃o u,s3.heap.get? d=aa o/\o.data=.cell u)(M:∀y d,cl.lookup y=aa d->d∉frs X.stack)(le:Le H3 (iW cl s3.heap H3)){P:U4}{w:Vl}
(un:Un (frs X.stack) [] (iW cl s3.heap H3) H5 s3.heap s5.heap)(L:HOk P w H5 s5.heap):Un (frs X.stack) [] H3 (hid cl H5) s3.heap s5.heap:=by
 have V:=DU D;refine⟨λb ob e J U B=>?_,λb ob e J U B=>?_,λb ob e J B=>?_,λb ob e B=>un.there b ob e B,λb Y e=>?_,λb ob Z e=>?_,λb a e=>?_⟩
 ·by_cases O:∃y,cl.lookup y=aa b
  ·obtain⟨y,q⟩:=O;exact(L _ _ (un.frzs _ _ _ (oQ q e))).1
  exact un.keep b ob e (by rw[iQ O];exact J) U B
 exact un.slot b ob e (by rw[iQ (λ⟨y,q⟩=>M y b q U)];exact J) U B
 ·by_cases O:∃y,cl.lookup y=aa b
  obtain⟨y,q⟩:=O;exact xF q;exact iP (un.free b ob e (by rw[iQ O];exact J) B)
 rw[fV (V _ _ e)];exact un.tups b Y (le _ _ e);rw[fV (V _ _ e)];exact un.frzs b ob Z (le _ _ e);rw[fV (V _ _ e)];exact un.tbls b a (le _ _ e)
def Hg{L:au}(B:∀y d,cl.lookup y=aa d->H3 d=af)(le:Le H3 (iW cl L H3))(J:Ext m2 (iW cl L H3) m5 H5):Ext m2 H3 m5 (hid cl H5):=by
 have M:=DU B;obtain⟨ex,Y,Z⟩:=J.pre;have D:∀b,iW cl L H3 b=af->H3 b=af:=λb e=>by
  cases c:H3 b with
  |none=>rfl|some f=>rw[le _ _ c]at e;cases e
 refine⟨⟨ex,Y,λb a=>D b (Z b a)⟩,λb ob e W V=>?_,λb e=>?_,λb ob U e=>by rw[fV (M _ _ e)];exact J.frz b ob U (le _ _ e)⟩;rw[fV (M _ _ e)];exact J.keep b ob (le _ _ e) W V
 ·by_cases O:∃y,cl.lookup y=aa b
  obtain⟨y,q⟩:=O;exact B y b q;rw[fV O]at e;exact D b (J.live b e)
end
def vQ{X:Cx}{sc:Vw}{N:List aA}(O:Ok X F G sc N)(hf:∀x,X.fn x=ah){o bt:aR}{m:aA}{as:aX}{L:Nat}{fv:List (Nat×aA)}{oe e0:UP}{rest:List UP}{apos cpos:Pos}{pa:WH}{B:Vw}{ns ps:List aA}
(hl:BT.qZ L=aa ⟨ns,ns,.ret bt⟩)(hp:LPa pa ps)(hn:ns=ps++fv.map (·.2))(hk:pW ps (fv.map (·.2)) B=ah)(hv:Aq sc N fv=ah)(ht:N.contains (bH (BT.yM L))=ah)(hc:CE' B ns bt be)(h3:dS oe=ah)(h6:(apos.endLine==cpos.line)=ah)
(hO:PE X oe (tD X F G o))(hst:dw (e0::rest)=ah)(t:(e0::rest).length<20)(hS:Hf X F G as (e0::rest) (.Lambda pa be B lp)):
 PE X (.Call (.Attribute oe m apos) (e0::rest) [] cpos) (tD X F G (.methL o m as L fv)):=by
 intro zt s σ H Q I q;obtain⟨m0,s',h,z,h',R,S,ee,zr⟩:=q;simp only[aO]at ee;obtain⟨x,h1,e1,e2⟩:=dg ee;obtain⟨n,c,fs,ws,g,cs,rfl,e3,e4,e5,e6,e7,e8⟩:=AU e2;obtain⟨C,ga,fd,ps',k,hC,hM,hB,hR,ok⟩:=O.aH _ _ _ _ _ e7;refine AV O hf hl hp hn hk hv ht hc h3 h6 hO hst t hS I R S hC hM e1 e3 e4 e5 e6 λa f T vs m2 H3 j cl P=>?_;obtain⟨I3,D,U,v,le,R4,w4,e04,l,xx,rh⟩:=P;have i:spF X.prog X.w X.K (F (.m c m)) (V.ref a::(vs++[.ref f])) (iW cl j.heap H3) (λZ W=>∃J,Ext m2 (iW cl j.heap H3) J W/\RH X.K J W h'/\RW X.prog X.w X.K J W Z z) E0:=⟨m2,_,g,z,h',R4,w4,e7,λZ W J x5 R5 r5=>⟨J,x5,R5,r5⟩⟩;have hl4:(VQ a::(T++[.ref f])).length=ps'.length:=by rw[←l.length];exact ok.len _ _ _ _ i
 have E:=hB j (VQ a::(T++[.ref f])) I3.kIn (by rw[Vn];exact hl4);rw[Vn]at E;have p:=ok.run X.A X.stack j (iW cl j.heap H3) ⟨VQ a::(T++[VQ f]),[]⟩ (VQ a::(T++[VQ f])) _ _ E0 hR e04 E l i;refine X9 (codeAny_mono p λr s' hq=>?_);cases r with
 |error e=>exact VE hq
 |ok fl =>
  cases fl with
  |ret u =>
   obtain⟨Z,W,os5,Y,un,M,rv5,J,x5,R5,r5⟩:=hq;have C5:f6 cl W:=λy d e=>by obtain⟨ob,uu,g1,g2⟩:=U y d e;exact⟨ob,uu,un.frzs _ _ _ (oQ e g1),g2⟩
   have un6:=Lz D U v le un M;have I6:=I3.Nq os5 un6 (y9 C5 M λ_ _ e=>e) Y (λb zz=>bO zz (by simp));have x6:=Hg D le x5;have r6:RW X.prog X.w X.K J (hid cl W) Z z:=by
    rcases e8 with e8|⟨ps,rfl⟩
    ·have:=RWs.tr C5.sq (.cons r5 .nil) e8;cases this with
     |cons r _=>exact r
    exact r5.trS C5.sq
   exact⟨Z,hid cl W,I6,rv5,zr Z _ J (xx.trans x6) (C5.rh R5) r6⟩
  |_=>exact VE hq
end
end BS
end
section
namespace BS
open PySem PySem.Spec PyProof.Rows L2
variable{K:UM}{fl:BT.Fl}{st:VI}{xe':aC->UR->Prop}
noncomputable def kj:UP->Bool
 |.ListComp _ _ _ _=>ai|.SetComp _ _ _ _=>ai|.DictComp _ _ _ _ _=>ai|_=>ah
noncomputable def swB(sc q:Vw)(x:aA)(B pos:Pos):Bool :=
 (if sc.kind.isAnnotationScope then ScopeKind.function else sc.kind)==.function&&sc.names.lookup x==aa .local&&B.line==pos.line&&!(q.names.any λ(n,k)=>n==x&&(k==.local||k==.cell))
mutual
inductive CS(sc:Vw)(N:List aA):BT.S->VI->Prop
 |setL{i:Nat}{x m:aA}{o:aR}{as:aX}{L:Nat}{fv:List (Nat×aA)}{call:UP}{q p:Pos}(h1:N[i]?=aa x)(h2:om sc x=ah)(B:CL sc N o m as L fv call):CS sc N (.set i (.methL o m as L fv)) (.Assign [.Name x q] call p)
 |retL{m:aA}{o:aR}{as:aX}{L:Nat}{fv:List (Nat×aA)}{call:UP}{p:Pos}(q:CL sc N o m as L fv call):CS sc N (.ret (.methL o m as L fv)) (.Return (aa call) p)
 |setc{i:Nat}{x:aA}{mu:Bool}{sr:bK}{sa:aX}{tg:List aA}{fv:List (Nat×aA)}{cond:aX}{elt:aR}{te iter B:UP}{D:List UP}{q:Vw}{pos J p:Pos}(M:gZ N=ah)(h1:N[i]?=aa x)(W:(sc.names.lookup x==aa .cell||swB sc q x J pos)=ah)
  (V:lJ sc N tg fv q=ah) (Y:vB (eH q sc) tg te=ah) (hz:vA sr te=ah) (L:lH iter=ah) (hi:CI sc N sr sa iter) (O:CC (eH q sc) (tg++fv.map (·.2)) cond D) (U:CE' (eH q sc) (tg++fv.map (·.2)) elt B) :
  CS sc N (.set i (.comp mu sr sa tg fv cond elt)) (.Assign [.Name x J] (.ListComp B [⟨te,iter,D,0⟩] q pos) p)
 |set{i:Nat}{x:aA}{e:aR}{v:UP}{q p:Pos}(h1:N[i]?=aa x)(h2:om sc x=ah)(D:kj v=ah)(B:CE' sc N e v):CS sc N (.set i e) (.Assign [.Name x q] v p)
 |unp{tg:List (Nat×aA)}{e:aR}{es:List UP}{k:Nat}{q:UP}{args:List UP}{kw:List X6}{B D p:Pos}(M:gZ N=ah)(L:CT sc N tg (.Tuple es k B))(J:CE' sc N e (.Call q args kw D)):CS sc N (.unp tg e) (.Assign [.Tuple es k B] (.Call q args kw D) p)
 |put{i:Nat}{x:aA}{k e:aR}{q v:UP}{B sp p:Pos}(h1:N[i]?=aa x)(h2:nO sc x=ah)(J:fK x=ah)(M:kj v=ah)(O:kN q=ah)(L:CE' sc N k q)(D:CE' sc N e v):CS sc N (.put i k e) (.Assign [.Subscript (.Name x B) q sp] v p)
 |putd{i:Nat}{x:aA}{k e:aR}{q v:UP}{B sp p:Pos}(h1:N[i]?=aa x)(h2:nO sc x=ah)(J:fK x=ah)(M:kj v=ah)(O:kN q=ah)(L:CE' sc N k q)(D:CE' sc N e v):CS sc N (.putd i k e) (.Assign [.Subscript (.Name x B) q sp] v p)
 |aug{i:Nat}{x:aA}{o:bD}{q:Yn}{e:aR}{v:UP}{B p:Pos}(h1:N[i]?=aa x)(h2:om sc x=ah)(D:Du o q=ah)(J:CE' sc N e v):CS sc N (.aug i o e) (.AugAssign (.Name x B) q v p)
 |setf{o e:aR}{f:aA}{q v:UP}{B p:Pos}(h1:attrName f=ah)(h2:kj v=ah)(J:CE' sc N o q)(D:CE' sc N e v):CS sc N (.setf o f e) (.Assign [.Attribute q f B] v p)
 |augf{o e:aR}{f:aA}{b:bD}{B:Yn}{q v:UP}{D p:Pos}(h1:attrName f=ah)(L:Du b B=ah)(M:CE' sc N o q)(J:CE' sc N e v):CS sc N (.augf o f b e) (.AugAssign (.Attribute q f D) B v p)
 |ex{e:aR}{v:UP}{p:Pos}(h:kj v=ah)(q:CE' sc N e v):CS sc N (.ex e) (.Expr v p)
 |ret{e:aR}{v:UP}{p:Pos}(q:CE' sc N e v):CS sc N (.ret e) (.Return (aa v) p)
 |v{c:aR}{a b:BT.S}{t:UP}{xs ys:List VI}{p:Pos}(h:tOK c=ah)(D:CE' sc N c t)(q:CSs sc N a xs)(B:CSs sc N b ys):CS sc N (.v c a b) (.If t xs ys p)
 |j{c:aR}{b:BT.S}{t:UP}{xs:List VI}{p:Pos}(h:tOK c=ah)(B:CE' sc N c t)(q:CSs sc N b xs):CS sc N (.j c b) (.While t xs [] p)
 |for{tg:List (Nat×aA)}{sr:bK}{sa:aX}{b:BT.S}{te iter:UP}{xs:List VI}{p:Pos}(D:gZ N=ah)(q:CT sc N tg te)(hi:CI sc N sr sa iter)(hz:vA sr te=ah)(B:lH iter=ah)(J:CSs sc N b xs):CS sc N (.for tg sr sa b) (.For te iter xs [] p)
 |bad{st:VI}:CS sc N .bad st
 |rai{st:VI}{c:aA}{e:aR}:CS sc N (.rai c e) st
 |rai2{st:VI}{c:aA}{a e:aR}:CS sc N (.rai2 c a e) st
 |tryr{e:aR}{v:UP}{p q:Pos}{D:Zh}{B:List Zh}(J:CE' sc N e v):CS sc N (.ret e) (.Try [.Return (aa v) p] (D::B) [] [] q)
inductive CSs(sc:Vw)(N:List aA):BT.S->List VI->Prop
 |nil:CSs sc N .nil []
 |blk{b:BT.S}{l:List VI}(h:CSs sc N b l):CSs sc N (.blk b) l
 |one{s:BT.S}{st:VI}(h:CS sc N s st):CSs sc N s [st]
 |cons{a b:BT.S}{st q:VI}{r:List VI}(h:CS sc N a st)(B:CSs sc N b (q::r)):CSs sc N (.seq a b) (st::q::r)
end
def mG(X:Cx)(m:List aB)(H:Hp)(fl:BT.Fl)(D:Ends):Prop:=match fl with
 |.nx M L=>∀B q J,Ext m H J q->RH X.K J q L->RS X.prog X.w X.K J q B M->D.nx B q|.rt z L=>∀v q J,Ext m H J q->RH X.K J q L->RW X.prog X.w X.K J q v z->D.rt v q|.bk M L=>∀B q J,Ext m H J q->RH X.K J q L->RS X.prog X.w X.K J q B M->D.bk B q|.ct M L=>∀B q J,Ext m H J q->RH X.K J q L->RS X.prog X.w X.K J q B M->D.ct B q
def mG.ext{X:Cx}{m m':List aB}{H H':Hp}{D:Ends}(x:Ext m H m' H')(p:mG X m H fl D):mG X m' H' fl D:=by cases fl<;>exact λa b c y=>p a b c (x.trans y)
inductive tDS(X:Cx)(F:FT)(G:aA->Option aP)(S:BT.S)(D:Ends)(σ:L2.St)(H:Hp):Prop
 |mk(m:List aB)(s:bf)(h:aN)(fl:BT.Fl)(R:RH X.K m H h)(r:RS X.prog X.w X.K m H σ s)(e:aT F G S s h=aa fl)(p:mG X m H fl D):tDS X F G S D σ H
def PS.weak{X:Cx}{t t':TS}(h:PS X st t)(q:∀D σ H,t' D σ H->t D σ H):PS X st t':=λB s σ H D I hw=>h B s σ H D I (q _ _ _ hw)
def PSs.weak{X:Cx}{st:List VI}{t t':TS}(h:PSs X st t)(q:∀D σ H,t' D σ H->t D σ H):PSs X st t':=λB s σ H D I hw=>h B s σ H D I (q _ _ _ hw)
section
variable{F:FT}{G:aA->Option aP}
def DV{X:Cx}{a b:BT.S}(D:Ends)(σ:L2.St)(H:Hp)(q:tDS X F G (.seq a b) D σ H):Ny (tDS X F G a) (tDS X F G b) D σ H:=by
 obtain⟨m,s,h,W,R,S,e,B⟩:=q;simp only[aT]at e;cases g:aT F G a s h with
 |none=>rw[g]at e;exact c5 e
 |some J =>
  rw[g]at e;refine⟨m,s,h,J,R,S,g,?_⟩;cases J with
  |nx O V=>exact fun L c U M Z Y=>⟨U,O,V,W,Z,Y,e,B.ext M⟩
  |_=>cases e;exact B
def DW{X:Cx}{b:BT.S}(D:Ends)(σ:L2.St)(H:Hp)(q:tDS X F G (.blk b) D σ H):tDS X F G b D σ H:=by
 obtain⟨m,s,h,a,R,S,e,B⟩:=q;simp only[aT]at e;cases g:aT F G b s h with
 |none=>rw[g]at e;exact c5 e
 |some J =>
  rw[g]at e;refine⟨m,s,h,J,R,S,g,?_⟩;cases J with
  |rt w Z =>
   rw[BT.Gg]at e;obtain⟨p,e1,e2⟩:=dG e;cases e2;intro v W Y M V U;obtain⟨m2,L,R2,O⟩:=kQ e1 R M V U;exact B v W m2 L R2 O
  |_=>cases e;exact B
def jW{X:Cx}{L:BT.S}{a:aR}{k:bf->aP->aN->Option BT.Fl}(Y:∀s h,aT F G L s h=bI (aO F G a s h) (k s)){D:Ends}{σ:L2.St}{H:Hp}(q:tDS X F G L D σ H){M:V->Hp->Prop}
(h1:∀m s h x fl v H1,RH X.K m H1 h->RS X.prog X.w X.K m H1 σ s->RW X.prog X.w X.K m H1 v x->k s x h=aa fl->mG X m H1 fl D->M v H1):tD X F G a σ H M:=by
 obtain⟨m,s,h,fl,R,S,J,O⟩:=q;rw[Y]at J;obtain⟨x,g,e1,e2⟩:=dg J;exact⟨m,s,h,x,g,R,S,e1,λv H1 W B Z U=>h1 W s g x fl v H1 Z (S.ext B) U e2 (O.ext B)⟩
def zg{x:Option (aP×aN)}{k:Bool->aN->Option BT.Fl}(h:BT.tst x k=aa fl):∃b g,x=aa (.p (.bl b),g)/\k b g=aa fl:=by
 unfold BT.tst at h;obtain⟨w,g,e1,e2⟩:=dg h;unfold BT.OF at e2;cases w with
 |p d =>
  cases d<;>simp only at e2<;>try contradiction
  exact⟨_,g,e1,e2⟩
 |_=>exact c5 e2
def mH{e:UP}{t:Option UP}{l:Nat}{env:Env}(h:kj e=ah):XG e t l env=pure ai:=by cases e<;>first|rfl|exact aU h
def zh{e t:UP}{l:Nat}{env:Env}(h:kj e=ah):swapsWithSole [t] e l env=pure ai:=mH h
def qv{o i:UP}{pos:Pos}{env:Env}(h:kN i=ah):∀ v,ZH (.Subscript o i pos) env v=(do
 let ov ←Yi [v] (eval o env)
 let iv ←Yi [v,ov] (eval i env)
 Z3 pos
 Yi [v,ov,iv] (setItem ov iv v)
 release [v,ov,iv] []):=by
 intro v;cases i<;>first|rfl|exact aU h
def LC{X:Cx}{c:aR}{b:BT.S}(D:Ends)(σ:L2.St)(H:Hp)(q:tDS X F G (.j c b) D σ H):Br (tDT X F G c) (tDS X F G b) D σ H:=by
 obtain⟨u,s,h,k,R,S,e,J⟩:=q;simp only[aT]at e;refine⟨λn σ H=>∃m s h,RH X.K m H h/\RS X.prog X.w X.K m H σ s/\BT.gA (aO F G c) (aT F G b) n s h=aa k/\mG X m H k D,⟨BT.turns,u,s,h,R,S,e,J⟩,?_⟩
 rintro n σ1 H1 ⟨m,s,h,R,S,e,J⟩
 cases n with
 |zero=>exact c5 e
 |succ n =>
  rw[BT.gA]at e;obtain⟨t,g,e1,e2⟩:=zg e;refine⟨m,s,h,t,g,R,S,e1,λx m2 M R2=>?_⟩;cases t with
  |false =>
   rw[BT.ng]at e2;cases e2;rw[bN (by decide)];exact J σ1 x m2 M R2 (S.ext M)
  |true =>
   rw[BT.tQ]at e2;rw[bM rfl];refine⟨fun V l=>∃W f i,RH X.K W l i/\RS X.prog X.w X.K W l V f/\BT.gA (aO F G c) (aT F G b) n f i=aa k/\mG X W l k D,fun V l ⟨W,f,i,a1,a2,a3,a4⟩=>⟨n,Wj n,W,f,i,a1,a2,a3,a4⟩,?_⟩;cases o:aT F G b s g with
   |none=>rw[o]at e2;exact c5 e2
   |some p =>
    rw[o]at e2;refine⟨m2,s,g,p,R2,S.ext M,o,?_⟩;cases p with
    |nx d Y=>exact fun B a O L U Z=>⟨O,d,Y,U,Z,e2,(J.ext M).ext L⟩
    |ct d Y=>exact fun B a O L U Z=>⟨O,d,Y,U,Z,e2,(J.ext M).ext L⟩
    |bk d Y=>cases e2;exact fun B a O L U Z=>J B a O (M.trans L) U Z
    |rt z Y=>cases e2;exact λv a O L U r=>J v a O (M.trans L) U r
def LD{X:Cx}{i:Nat}{o:bD}{e:aR}(D:Ends)(σ:L2.St)(H:Hp)(q:tDS X F G (.aug i o e) D σ H):NG i (tD X F G e) (K7 o) D σ H:=by
 obtain⟨m,s,h,l,R,S,V,W⟩:=q;simp only[aT]at V;obtain⟨y,g,e1,e2⟩:=dg V;unfold BT.ON at e2;have j:∃d O z,s[i]?=aa (aa (.p d))/\y=.p O/\BT.pH o d O=aa z/\l=.nx (s.set i (aa (.p z))) g:=by
  cases B:s[i]? with
  |none=>rw[B]at e2;cases y<;>exact c5 e2
  |some Z =>
   cases Z with
   |none=>rw[B]at e2;cases y<;>exact c5 e2
   |some Y =>
    rw[B]at e2;cases Y<;>cases y<;>simp only at e2<;>try contradiction
    obtain⟨z,J,n⟩:=dG e2;exact⟨_,_,z,rfl,rfl,J,n.symm⟩
 obtain⟨d,O,z,B,rfl,J,rfl⟩:=j;obtain⟨a,b,k,rfl,rfl,rfl⟩:=yY J;obtain⟨v,f,L⟩:=S.get i _ B;have ev:v=.int a:=by cases L with|p L=>cases L;rfl
 subst ev;refine⟨_,f,m,s,h,_,g,R,S,e1,λu t c U r M=>?_⟩;cases M with
 |p M =>
  cases M;exact⟨a,b,k,rfl,rfl,J,W _ t c U r ((S.ext U).set (.p (.int k)))⟩
def AW{s:bf}{f:aA}{v x:aP}{h:aN}(e:BT.tR s f v x h=aa fl):∃n c fs,x=.o n/\bw h n=aa (c,fs)/\BT.attrOk v=ah/\fs.length<1000/\fl=.nx s (h.set n (.o c (BT.eV f v fs))):=by
 cases x with
 |o n =>
  rw[BT.CB]at e;cases g:bw h n with
  |none=>rw[g]at e;exact c5 e
  |some q =>
   obtain⟨c,fs⟩:=q;rw[g]at e;simp only at e;obtain⟨B,e⟩:=dH e;cases e;simp only[UQ,bP]at B;exact⟨n,c,fs,rfl,g,B.1,B.2,rfl⟩
 |_=>exact c5 e
def vR{X:Cx}{D:Ends}{m:List aB}{H:Hp}{σ:L2.St}{s:bf}{h:aN}{n:Nat}{c f:aA}{fs:List (aA×aP)}{y:aP}{v:V}{a C dx:aB}{vs:List (aA×V)}(R:RH X.K m H h)(S:RS X.prog X.w X.K m H σ s)(hn:m[n]?=aa a)(h1:H a=aa (.ins C dx vs))(h2:nQ X.K c C)(B:RFs X.K m H vs fs)(ra:RA X.K m H v y)
(q:mG X m H (.nx s (h.set n (.o c (BT.eV f y fs)))) D):D.nx σ (upd H a (.ins C dx (L2.eV f v vs))):=by
 have x:Ext m H m (upd H a (.ins C dx (L2.eV f v vs))):=jl (UZ hn) ⟨_,h1,rfl⟩;exact q σ _ m x (R.setC hn ⟨_,h1,rfl⟩ ⟨C,dx,_,dM,h2,(RFs.put ra B).ext x⟩) (S.ext x)
def Hh{X:Cx}{o e:aR}{f:aA}(Y:attrName f=ah)(D:Ends)(σ:L2.St)(H:Hp)(q:tDS X F G (.setf o f e) D σ H):NT X.K (tD X F G o) (tD X F G e) f D σ H:=by
 refine jW (k:=λs=>BT.CD (aO F G o s) s f) (λs h=>by simp only[aT]) q λm s h y i v l R S r e1 O=>?_;rw[BT.CF]at e1;obtain⟨x,g,e2,b⟩:=dg e1;obtain⟨n,c,fs,rfl,Z,ok,W,rfl⟩:=AW b;refine⟨m,s,h,.o n,g,R,S,e2,λu j m2 B R2 V=>?_⟩;cases V with
 |@o a _ hn =>
  obtain⟨C,d,U,M,J,L⟩:=R2.rS _ _ _ _ hn Z;exact⟨a,C,d,U,rfl,M,J.cls,J.no f Y,by rw[L.length];exact W,vR R2 (S.ext B) hn M J L ((r.ext B).ra ok) (O.ext B)⟩
def DX{U:BT.EH}{s:bf}{f:aA}{B:bD}{x:aP}{h:aN}(e:BT.yI U s f B x h=aa fl):∃n c fs d y g fs' z,x=.o n/\bw h n=aa (c,fs)/\BT.eN f fs=aa (.p d)/\U h=aa (.p y,g)/\bw g n=aa (c,fs')/\BT.pH B d y=aa z/\fs'.length<1000/\fl=.nx s (g.set n (.o c (BT.eV f (.p z) fs'))):=by
 cases x with
 |o n =>
  rw[BT.Gj]at e;cases M:bw h n with
  |none=>rw[M]at e;exact c5 e
  |some q =>
   obtain⟨c,fs⟩:=q;rw[M]at e;simp only at e;cases L:BT.eN f fs with
   |none=>rw[L]at e;exact c5 e
   |some V =>
    rw[L]at e;cases V with
    |p d =>
     simp only at e;obtain⟨y,g,e1,e2⟩:=dg e;cases y with
     |p y =>
      rw[BT.CG]at e2;cases J:bw g n with
      |none=>rw[J]at e2;exact c5 e2
      |some q =>
       obtain⟨W,fs'⟩:=q;rw[J]at e2;simp only at e2;cases D:BT.pH B d y with
       |none=>rw[D]at e2;exact c5 e2
       |some z =>
        rw[D]at e2;simp only at e2;obtain⟨O,e2⟩:=dH e2;cases e2;obtain⟨rfl,O⟩:=O;exact⟨n,W,fs,d,y,g,fs',z,rfl,M,L,e1,J,D,O,rfl⟩
     |_=>exact c5 e2
    |_=>exact c5 e
 |_=>exact c5 e
def Hi{X:Cx}{o e:aR}{f:aA}{b:bD}(A:attrName f=ah)(D:Ends)(σ:L2.St)(H:Hp)(q:tDS X F G (.augf o f b e) D σ H):yq X.K (tD X F G o) (tD X F G e) (K7 b) f D σ H:=by
 refine jW (k:=λs=>BT.yI (aO F G e s) s f b) (λs h=>by simp only[aT]) q λm s h y fl v H1 R S r e1 Y=>?_;obtain⟨n,c,fs,d,y,g,P,z,rfl,N,I,e2,E,W,x,rfl⟩:=DX e1;obtain⟨i,j,k,rfl,rfl,rfl⟩:=yY W;cases r with
 |@o a _ hn =>
  obtain⟨C,T,Z,w,M,t⟩:=R.rS _ _ _ _ hn N;obtain⟨u,l,ra⟩:=t.get I;have Q:u=.int i:=by cases ra with|p ra=>cases ra;rfl
  subst Q;refine⟨a,C,T,Z,_,rfl,w,M.cls,M.no f A,l,m,s,h,_,g,R,S,e2,λu2 H2 m2 B R2 L=>?_⟩;cases L with
  |p L =>
   cases L;obtain⟨C',O,J,V,p2,U⟩:=R2.rS _ _ _ _ (B.ix hn) E;cases p2.cn.inj M.cn;exact⟨i,j,k,rfl,rfl,W,O,J,V,by rw[U.length];exact x,vR R2 (S.ext B) (B.ix hn) V p2 U (.p (.int k)) (Y.ext B)⟩
def LG{X:Cx}{i:Nat}{k e:aR}(D:Ends)(σ:L2.St)(H:Hp)(q:tDS X F G (.put i k e) D σ H):zW (tD X F G e) (JE (tD X F G (.v i)) (tD X F G k) IQ) D σ H:=by
 refine jW (k:=λs=>BT.KG (aO F G k s) s i) (λs h=>by simp only[aT]) q λm s h y E v K R S r e1 x=>?_;unfold BT.KG at e1;cases y with
 |p d =>
  cases g:s[i]? with
  |none=>rw[g]at e1;exact c5 e1
  |some o =>
   cases o with
   |none=>rw[g]at e1;exact c5 e1
   |some z =>
    cases z with
    |r n =>
     rw[g]at e1;simp only at e1;obtain⟨q,t,e2,B⟩:=dg e1;refine⟨m,s,h,.r n,h,R,S,by simp only[aO,g],λo I m2 L R2 A=>⟨m2,s,h,q,t,R2,S.ext L,e2,λC w V J u M=>?_⟩⟩;unfold BT.IV at B;cases q with
     |p dk =>
      cases Z:br t n with
      |none=>rw[Z]at B;cases dk<;>exact c5 B
      |some b =>
       rw[Z]at B;cases dk with
       |int j =>
        simp only at B;cases Y:BT.place b.length j with
        |none=>rw[Y]at B;exact c5 B
        |some U =>
         rw[Y]at B;cases B;have O:=A.ext J;cases O with
         |@r a _ hn =>
          cases M with
          |p M =>
           cases M;obtain⟨f,W,l⟩:=u.cell n a b hn Z;refine⟨a,f,j,U,rfl,rfl,W,by rw[l.length];exact Y,?_⟩;have c:Ext V w V (upd w a (.aD (f.set U v))):=g9 (UZ hn) W;cases r with
           |p r=>exact x σ _ V ((L.trans J).trans c) (u.set hn W (RDs.set ((r.ext L).ext J) U l)) (((S.ext L).ext J).ext c)
       |_=>exact c5 B
     |_=>exact c5 B
    |_=>rw[g]at e1;exact c5 e1
 |_=>exact c5 e1
def Hj{X:Cx}{i:Nat}{k e:aR}(D:Ends)(σ:L2.St)(H:Hp)(q:tDS X F G (.putd i k e) D σ H):zW (tD X F G e) (JE (tD X F G (.v i)) (tD X F G k) Jc) D σ H:=by
 refine jW (k:=λs=>BT.yH (aO F G k s) s i) (λs h=>by simp only[aT]) q λm s h y K v P R S r e1 u=>?_;cases y with
 |p d =>
  rw[BT.Gi]at e1;cases g:s[i]? with
  |none=>rw[g]at e1;exact c5 e1
  |some o =>
   cases o with
   |none=>rw[g]at e1;exact c5 e1
   |some w =>
    cases w with
    |r n =>
     rw[g]at e1;simp only at e1;obtain⟨q,z,e2,Z⟩:=dg e1;refine⟨m,s,h,.r n,h,R,S,by simp only[aO,g],λo N m2 J R2 x=>⟨m2,s,h,q,z,R2,S.ext J,e2,λE t U B l L=>?_⟩⟩;cases q with
     |p dk =>
      rw[BT.CA]at Z;obtain⟨V,C,A⟩:=Option.bind_eq_some_iff.mp Z;obtain⟨ky,j,Y⟩:=Option.bind_eq_some_iff.mp A;split at Y
      case isFalse=>exact c5 Y
      rename_i c;cases Y;have O:=x.ext B;cases O with
      |@r a _ hn =>
       cases L with
       |p L =>
        obtain⟨b,W,f⟩:=l.pX n a V hn C;have:=fL;have I:=f.length;refine⟨a,b,ky,rfl,qa L j,W,by lia,?_⟩;have M:Ext U t U (upd t a (.dK (putK b ky v))):=jl (UZ hn) ⟨_,W,rfl⟩;cases r with
        |p r=>exact u σ _ U ((J.trans B).trans M) (l.setC hn ⟨_,W,rfl⟩ ⟨_,dM,(f.put ky (KR L j) ((r.ext J).ext B)).ext M⟩) (((S.ext J).ext B).ext M)
     |_=>exact c5 Z
    |_=>rw[g]at e1;exact c5 e1
 |_=>exact c5 e1
end
noncomputable def cxT(X:Cx)(zt:List (aB×aq))(xe':aC->UR->Prop):Cx:={X with pn:=X.pn++zt,xe:=xe'}
def Pf{X:Cx}{zt:List (aB×aq)}{σ:L2.St}{H:Hp}{s:UR}(I:Inv X zt σ H s):Inv (cxT X zt xe') [] σ H s :=
 ⟨⟨I.ok.mod,I.ok.kind,I.ok.glob,I.ok.blt,I.ok.above,I.ok.inj,I.ok.has,I.ok.cab,I.ok.hd,I.ok.frames,I.ok.stk,I.ok.exf,I.ok.bs,I.ok.bsz,I.ok.noex,I.ok.exfs,I.ok.kY,I.ok.frf⟩,
  I.os,I.bare,I.base,I.loc,I.cell,I.free,I.freeC,λp q=>I.pin p (by simpa [cxT] using q),I.aL,I.len⟩
def Ph{X:Cx}{zt q:List (aB×aq)}{σ:L2.St}{H:Hp}{s:UR}(ok:X.Ok)(I:Inv (cxT X zt xe') q σ H s):Inv X zt σ H s :=
 ⟨ok,I.os,I.bare,I.base,I.loc,I.cell,I.free,I.freeC,λp B=>I.pin p (VG _ B),I.aL,I.len⟩
def SY{X:Cx}{F:FT}{G:aA->Option aP}{sc:Vw}{N:List aA}{zt:List (aB×aq)}(O:Ok X F G sc N)(own:aab (Vb X.prog X.w) X.A X.env xe'):Ok (cxT X zt xe') F G sc N :=
 ⟨O.hsc,O.hN,O.nd,O.calm,O.hu,own,O.glob,O.call,O.aH,O.mkc,O.blt,O.lam,λB x q=>let L:=O.lamx B x q;⟨L.mem,L.ex,L.ql,L.bm⟩⟩
def Hl{X:Cx}{F:FT}{G:aA->Option aP}{sc:Vw}{N:List aA}(O:Ok X F G sc N){e:aR}{v:UP}{p q:Pos}{Z:Zh}{W:List Zh}(f:∀Y:Cx,Ok Y F G sc N->PE Y v (tD Y F G e)):
 PS X (.Try [.Return (aa v) p] (Z::W) [] [] q) (tDS X F G (.ret e)):=by
 intro zt s V H D I q;obtain⟨m,c,h,a,R,S,e1,U⟩:=q;refine wpAny_Try_except ?_;have j:=SY (zt:=zt) O (PassesOwn.looking (K:=λe L=>ay (Vb X.prog X.w) X.A (setFlight e af) (λ_ B=>ay (Vb X.prog X.w) X.A (handleBy e X.env (Z::W)) (SP X zt D) X.xe B) X.xe L) (E₁:=X.xe));have i:PS _ (.Return (aa v) p) (tDS (cxT X zt _) F G (.ret e)):=PS.weak (wH (f _ j)) λD V H q =>
  jW (k:=λs=>BT.qY) (λs h=>by simp only[aT]) q λm s h y a v l R S r e1 U=>by simp only[BT.qY]at e1;cases e1;exact U v l m (.refl _ _) R r
 refine thn (sR i [] s V H {nx:=λ_ _=>False,rt:=D.rt} (Pf I) ⟨m,c,h,a,R,S,e1,?_⟩) λg o q=>?_
 ·simp only[aT]at e1;obtain⟨y,t,e2,b⟩:=dg e1;simp only[BT.qY]at b;cases b;exact U
 ·cases g with
  |ret u =>
   obtain⟨v,M,n,J,d,z⟩:=q;exact⟨v,M,n,Ph I.ok J,d,z⟩
  |_=>obtain⟨_,_,_,z⟩:=q;exact z.elim
section
variable{F:FT}{G:aA->Option aP}
def Ho{sr:bK}{b:bf->aN->Option BT.Fl}{tg:List (Nat×aA)}{s:bf}{ws:List aP}{ds:List aQ}{h:aN}(e:(if BT.iM ws=ah then BT.dW b tg ds s h else BT.CH b tg sr s ws ds h)=aa fl)(g:(aS ws h).bind (BT.gW sr)=aa ds):
 vJ sr ws/\∃O,(∀s h r,O s h=aa r->b s h=aa r/\(∀s' h',r=.nx s' h'->nu sr ws ds h')/\∀s' h',r=.ct s' h'->nu sr ws ds h')/\nu sr ws ds h/\BT.dW O tg ds s h=aa fl:=by
 by_cases B:BT.iM ws=ah
 ·rw[bM B]at e;exact⟨.inl B,_,λs h r q=>⟨q,λ_ _ _=>qi B,λ_ _ _=>qi B⟩,qi B,e⟩
 ·rw[bN B]at e;have two:∃q,(sr=.seq\/sr=.enu)/\ws=[.r q]/\BT.dW (BT.Gk sr q ds b) tg ds s h=aa fl:=by unfold BT.CH at e;split at e;exact⟨_,.inl rfl,rfl,e⟩;exact⟨_,.inr rfl,rfl,e⟩;exact c5 e
  obtain⟨q,sq,rfl,V⟩:=two;have U:BT.ly sr q h=aa ds:=by
   unfold BT.ly;simp only[aS,bq,WC]at g;cases M:br h q with
   |none=>rw[M]at g;exact c5 g|some W=>rw[M]at g;exact g
  refine⟨.inr ⟨sq,q,rfl⟩,_,λs h r z=>?_,λJ D=>by cases D;exact U,V⟩;unfold BT.Gk at z;cases L:b s h with
  |none=>rw[L]at z;exact c5 z
  |some f =>
   rw[L]at z;cases f with
   |nx s' h' =>
    simp only at z;split at z
    ·rename_i c;cases z;exact⟨rfl,λ_ _ y J D=>by cases y;cases D;exact c,(λ_ _ y=>nomatch y)⟩
    exact c5 z
   |ct s' h' =>
    simp only at z;split at z
    ·rename_i c;cases z;exact⟨rfl,(λ_ _ y=>nomatch y),λ_ _ y J D=>by cases y;cases D;exact c⟩
    exact c5 z
   |_=>cases z;exact⟨rfl,(λ_ _ y=>nomatch y),(λ_ _ y=>nomatch y)⟩
def LH{X:Cx}{tg:List (Nat×aA)}{sr:bK}{sa:aX}{b:BT.S}{g:TG}(hg:GOk X tg g)(D:Ends)(σ:L2.St)(H:Hp)(q:tDS X F G (.for tg sr sa b) D σ H):NK (iD X F G sr sa) g (tDS X F G b) D σ H:=by
 obtain⟨m,s,h,r,R,S,e,I⟩:=q;simp only[aT]at e;obtain⟨ws,j,e1,e2⟩:=dg e;unfold BT.kFor at e2;cases d:(aS ws j).bind (BT.gW sr)with
 |none=>rw[d]at e2;exact c5 e2
 |some B =>
  rw[d] at e2;simp only at e2;obtain ⟨N,u,hb,c1,e2⟩:=Ho e2 d;refine ⟨m,s,h,ws,j,B,R,S,e1,d,N,λH1 p J o R1 f=>?_⟩;refine ⟨λi n σ H=>i<=B.length/\n=B.length - i/\∃ m s h,Ext p H1 m H/\RH X.K m H h/\RS X.prog X.w X.K m H σ s/\nu sr ws B h/\BT.dW u tg (B.drop i) s h=aa r/\mG X m H r D,
   ⟨B.length,VL _,rfl,p,s,j,.refl _ _,R1,S.ext o,c1,by rw[List.drop_zero];exact e2,I.ext o⟩,?_⟩
  rintro i n σ2 H2 ⟨hi,rfl,m2,s2,h2,x2,R2,S2,c2,e3,post2⟩
  by_cases c:i<B.length
  ·refine .inr ⟨f.go m2 H2 h2 i x2 R2 c2 c,_,fun E H' z=>⟨B.length-(i+1),by lia,c,rfl,z⟩,λx A y=>?_⟩;obtain⟨M,T,Q⟩:=f.yld m2 H2 h2 i x A B[i] x2 R2 c2 (U1 c) y;rw[ZM c,BT.dW]at e3;cases l:bA tg.length B[i]with
   |none=>rw[l]at e3;exact c5 e3
   |some dd =>
    rw[l]at e3;simp only at e3;have R3:=R2.ext M T;refine hg m2 A σ2 s2 x B[i] dd _ (S2.ext M) Q l fun C S4=>?_;cases k:u (BT.sets tg dd s2) h2 with
    |none=>rw[k]at e3;exact c5 e3
    |some t =>
     rw[k]at e3;obtain⟨g4,cn,cc⟩:=hb _ _ _ k;refine⟨m2,_,h2,t,R3,S4,g4,?_⟩;cases t with
     |nx a W=>exact fun O Z U L V Y=>⟨U,a,W,(x2.trans M).trans L,V,Y,cn _ _ rfl,e3,(post2.ext M).ext L⟩
     |ct a W=>exact fun O Z U L V Y=>⟨U,a,W,(x2.trans M).trans L,V,Y,cc _ _ rfl,e3,(post2.ext M).ext L⟩
     |bk a W=>cases e3;exact fun O Z U L V Y=>post2 O Z U (M.trans L) V Y
     |rt z W=>cases e3;exact λv Z U L V P=>post2 v Z U (M.trans L) V P
  ·have ei:i=B.length:=by lia
   subst ei;refine .inl ⟨f.stop m2 H2 h2 x2 R2 c2,?_⟩;rw[List.drop_length,BT.dW]at e3;cases e3;exact post2 σ2 H2 m2 (.refl _ _) R2 S2
def Pi{X:Cx}{sc:Vw}{N:List aA}(O:Ok X F G sc N){x:aA}{B pos p:Pos}{q:UP}{D:List Comprehension}{scope:Vw}(h:swB sc scope x B pos=ah):XG (.ListComp q D scope pos) (aa (.Name x B)) p.line X.env=pure ah:=by have e:XG (.ListComp q D scope pos) (aa (.Name x B)) p.line X.env=pure (swB X.env.scope scope x B pos):=rfl;rw[e,O.hsc,h]
def Hq{sc:Vw}{x:aA}(c:(sc.names.lookup x==aa .cell)=ah):om sc x=ah:=by unfold om;rw[bT c]
def DY{sc q:Vw}{x:aA}{B pos:Pos}(h:swB sc q x B pos=ah):sc.names.lookup x=aa .local:=by unfold swB at h;simp only[UQ]at h;exact bT h.1.1.2
def Pj{X:Cx}{sc:Vw}{N:List aA}(O:Ok X F G sc N){x:aA}{B pos p:Pos}{q:UP}{D:List Comprehension}{scope:Vw}(c:(sc.names.lookup x==aa .cell)=ah):XG (.ListComp q D scope pos) (aa (.Name x B)) p.line X.env=pure ai:=by
 have e:XG (.ListComp q D scope pos) (aa (.Name x B)) p.line X.env=pure (swB X.env.scope scope x B pos):=rfl;have z:swB sc scope x B pos=ai:=by
  cases h:swB sc scope x B pos with
  |false=>rfl
  |true =>
   have:=DY h;rw[bT c]at this;cases this
 rw[e,O.hsc,z]
def sCL{X:Cx}{sc:Vw}{N:List aA}(O:Ok X F G sc N)(a:∀x,X.fn x=ah){o:aR}{m:aA}{as:aX}{L:Nat}{fv:List (Nat×aA)}{call:UP}(h:CL sc N o m as L fv call):PE X call (tD X F G (.methL o m as L fv))/\kj call=ah:=by
 cases h with
 |zero M D hn U q B V Y W J=>exact⟨vQ O a M D hn U q B V Y W (sE J O) rfl (by simp) Pd,rfl⟩|one M D hn U q B V Y W J Z b=>exact⟨vQ O a M D hn U q B V Y W (sE J O) (by simp only[dw,Z];rfl) (by simp) (Pe Z (sE b O)),rfl⟩
def DZ{X:Cx}:PSs X [] (tDS X F G .nil):=PSs.weak Fi λD B H q=>by obtain⟨m,s,h,L,R,S,e,J⟩:=q;simp only[aT]at e;cases e;exact J B H m (.refl _ _) R S
def sS{X:Cx}{sc:Vw}{N:List aA}(O:Ok X F G sc N)(b:∀x,X.fn x=ah){s:BT.S}(hh:CS sc N s st):PS X st (tDS X F G s) :=
 CS.rec (motive_1:=λs st _=>PS X st (tDS X F G s)) (motive_2:=λs sts _=>PSs X sts (tDS X F G s))
  (@λi x m o as L fv call np p M a w=>PS.weak (wJ (i:=i) O.nd (by rw[O.hN];exact M) (nv O a) (sCL O b w).1 (mH (sCL O b w).2) (.inl (b x))) λD U H q =>
   jW (k:=λs=>BT.xy s i) (λs h=>by simp only[aT]) q λm s h y Z v V R S r e1 J=>by simp only[BT.xy] at e1;cases e1;exact J _ V m (.refl _ _) R (S.set r))
  (λw=>PS.weak (wH (sCL O b w).1) λD U H q =>
   jW (k:=λs=>BT.qY) (λs h=>by simp only[aT]) q λm s h y Z v V R S r e1 J=>by simp only[BT.qY] at e1;cases e1;exact J v V m (.refl _ _) R r)
  (@λi x mu sr sa E fv cond T te iter elt' ifs f pos np p j M W z l hz hs hi A B=>by
   have K:∀(D:Ends)(U:L2.St)(H:Hp),tDS X F G (.set i (.comp mu sr sa E fv cond T)) D U H->zW (tD X F G (.comp mu sr sa E fv cond T)) (yk i) D U H:=λD U H q =>
    jW (k:=λs=>BT.xy s i) (λs h=>rfl) q λm s h y Z v V R S r e1 J=>by simp only[BT.xy]at e1;cases e1;exact J _ V m (.refl _ _) R (S.set r)
   by_cases c:(sc.names.lookup x==aa .cell)=ah
   exact PS.weak (wJ (i:=i) O.nd (by rw[O.hN];exact M) (nv O (Hq c)) (sE (CQ.comp j z l hz hs hi A B) O) (Pj O c) (.inl (b x))) K
   ·have C:swB sc f x np pos=ah:=by rw[WL]at W;exact W.resolve_left c
    exact PS.weak (G3 O j z l hs (sCI hi O hz) (sCC A) (λX' O'=>sE B O') M (DY C) (Pi O C)) K)
  (@λi x e v np p M a W B=>PS.weak (wJ (i:=i) O.nd (by rw[O.hN];exact M) (nv O a) (sE B O) (mH W) (.inl (b x))) λD U H q =>
   jW (k:=λs=>BT.xy s i) (λs h=>by simp only[aT]) q λm s h y Z v V R S r e1 J=>by simp only[BT.xy] at e1;cases e1;exact J _ V m (.refl _ _) R (S.set r))
  (@λE e es k fe args kw tp cp p j l B=>by
   obtain⟨g,u,n⟩:=sCT O (O.calm j) l λq _=>.inl (b q.2);exact PS.weak (wI (sE B O) u rfl rfl) λD U H q=>jW (k:=λs=>BT.KC s E) (λs h=>by simp only[aT]) q λm s h y Z v V R S r e1 J=>by
    cases r with
    |p r =>
     simp only[BT.KC]at e1;rename_i d;cases g1:BT.unpack E.length d with
     |none=>rw[g1]at e1;exact c5 e1
     |some ds =>
      rw[g1]at e1;cases e1;refine n m V U s _ d ds _ S r ?_ fun σ' S'=>J _ V m (.refl _ _) R S';cases l with
      |aE w _ =>
       unfold bA;rw[bN (by have:=aat w;lia)];exact g1
    | _=>exact c5 e1)
  (λM a W C h5 z B=>PS.weak (wI (sE B O) (Bq (uf O M a W) (sE z O) set_list (qv h5)) (zh C) rfl) LG)
  (λM a W C h5 z B=>PS.weak (wI (sE B O) (Bq (uf O M a W) (sE z O) set_dict (qv h5)) (zh C) rfl) Hj)
  (λM a W B=>PS.weak (JF O.nd (by rw[O.hN];exact M) (nv O a) (sE B O) (yX W) (.inl (b _))) LD)
  (λM a ho B=>PS.weak (JP (sE ho O) (sE B O) (mH a)) (Hh M))
  (λM W ho B=>PS.weak (Aa (sE ho O) (sE B O) (yX W)) (Hi M))
  (λh B=>PS.weak (Fj (sE B O) (mH h)) λD U H q =>
   jW (k:=λs=>BT.kEx s) (λs h=>by simp only[aT]) q λm s h y Z v V R S r e1 J=>by simp only[BT.kEx] at e1;cases e1;exact J U V m (.refl _ _) R S)
  (λB=>PS.weak (wH (sE B O)) λD U H q =>
   jW (k:=λs=>BT.qY) (λs h=>by simp only[aT]) q λm s h y Z v V R S r e1 J=>by simp only[BT.qY] at e1;cases e1;exact J v V m (.refl _ _) R r)
  (λh A ha hb ia Q=>PS.weak (NB (sT A O h).1 ia Q) λD U H q=>by
   obtain⟨m,s,h,Z,R,S,e,J⟩:=q;simp only[aT]at e;obtain⟨t,g,e1,e2⟩:=zg e;refine⟨m,s,h,t,g,R,S,e1,λV m1 x1 R1=>?_⟩;simp only[BT.kIf]at e2;cases t with
   |true=>exact⟨m1,s,g,Z,R1,S.ext x1,e2,J.ext x1⟩
   | false=>exact ⟨m1,s,g,Z,R1,S.ext x1,e2,J.ext x1⟩)
  (λh A hb Q=>PS.weak (Bs O.own (sT A O h).1 Q) LC)
  (λj l hi hz hs hb Q=>by obtain⟨g,u,n⟩:=sCT O (O.calm j) l (λq _=>.inl (b q.2));exact PS.weak (JH O.own (O.calm j) (sCI hi O hz) u Q (zb hs)) (LH n))
  (λzt s U H D I q=>by obtain⟨m,s,h,Z,R,S,e,J⟩:=q;simp only[aT]at e;exact c5 e)
  (λzt s U H D I q=>by obtain⟨m,s,h,Z,R,S,e,J⟩:=q;simp only[aT]at e;exact c5 e)
  (λzt s U H D I q=>by obtain⟨m,s,h,Z,R,S,e,J⟩:=q;simp only[aT]at e;exact c5 e)
  (λB=>Hl O λY O2=>sE B O2)
  DZ
  (λ_ P=>PSs.weak P DW)
  (λ_ P=>sR P)
  (λ_ _ P ir=>PSs.weak (uR P ir) DV)
  hh
def sSs{X:Cx}{sc:Vw}{N:List aA}(O:Ok X F G sc N)(q:∀x,X.fn x=ah){s:BT.S}{sts:List VI}(J:CSs sc N s sts):PSs X sts (tDS X F G s):=by refine CSs.rec (motive_1:=λ_ _ _=>True) (motive_2:=λs sts _=>PSs X sts (tDS X F G s)) ?_ ?_ ?_ ?_ ?_ ?_ ?_ ?_ ?_ ?_ ?_ ?_ ?_ ?_ ?_ ?_ ?_ ?_ ?_ DZ (λ_ D=>PSs.weak D DW) (λh _=>sR (sS O q h)) (λh _ _ B=>PSs.weak (uR (sS O q h) B) DV) J<;>(intros;trivial)
end
def vS{P:U4}{w:Vl}{m:List aB}{H:Hp}{N:List aA}{vs:List V}{ws:List aP}(r:RWs P w K m H vs ws):RS P w K m H (L2.start N vs) (BT.ji N.length ws):=by
 have B:=r.length;refine⟨by simp[L2.start,BT.ji,B],λi y e=>?_⟩;simp only[BT.ji]at e
 by_cases c:i<ws.length
 ·rw[UU (by simpa using c),Vh]at e;obtain⟨z,e1,e2⟩:=dG e;cases e2;have:∀{vs:List V}{ws:List aP}{i:Nat},RWs P w K m H vs ws->ws[i]?=aa y->∃v,vs[i]?=aa v/\RW P w K m H v y:=by
   intro vs ws i r
   induction r generalizing i with
   |nil=>intro e;simp at e
   |cons r t q =>
    intro e;cases i with
    |zero=>simp at e;subst e;exact⟨_,rfl,r⟩|succ i=>simpa using q (by simpa using e)
  obtain⟨v,J,D⟩:=this r e1;refine⟨v,?_,D⟩;unfold L2.start;rw[UU (by simp;lia),Vh,J];rfl
 ·rw[Vk (by simpa using c),W9]at e;split at e<;>cases e
def LJ{P:U4}{w:Vl}{mg:aA->Option aC}{base:au}{k L:Nat}{F:FT}{G:aA->Option aP}{bt:aR}{ns:List aA}{g:List aP->aN->Option (aP×aN)}(hT:BT.qZ L=aa ⟨ns,ns,.ret bt⟩)
(hg:∀ws h r,g ws h=aa r->ws.length=ns.length/\BT.nh (aT F G (.ret bt) (BT.ji ns.length ws) h) (BT.fin h)=aa r)
(hO:∀(q:aA)(sc:Vw)(cl:List (aA×aB)) (f c':aB) (A:VU) (outer:List Env) (s:UR) (H:Hp),ns.Nodup->fM k (A.deeper (Xx q sc s.heap.objs.size f (.ref c') cl))->Ok (Dy P w K mg base ns q sc cl f c' A outer s H) F G sc ns):vE P w K mg base (k+1) L g:=by
 intro A outer s H f us X D m ws cs h z h' Q E hr i rv R rw nc la rc e zr;obtain⟨bt',Y,fs,pa,be,sc,cl,pm,ctv,c',oc,os,t,q,l0,l1,l2,l3,l4,l5,l6,l7,l8,l9,M⟩:=la;rw[hT]at l0;cases l0;have Z:=O1 l2;obtain⟨p,e1⟩:=hg _ _ _ e;have C:=M.cells l5;have MK:=rv.length;have ML:=rw.length;have Iq:=M.len;have MM:D.length=cs.length:=by
  clear e e1 p M Iq
  induction rc with
  |nil=>rfl|cons _ _ ih=>simp[ih]
 have hu:us.length=Y.length:=by simp only[U9,U0]at p;lia
 refine PySem.W.kla_callFunE hr.depth (i.aL _ _ l6.1).1 rfl Z.co Z.ge rfl ⟨c',oc,os,t,rfl,(i.aL _ _ l7.1).1,l8,l9⟩ ?_;rw[GN l1 hu];refine av (wpAny_newFunctionEnv Z.cell (λy hy=>Z.loc y.1 (Ye hy).1) (λh1 hns hsb=>?_) Z.kd);have S:∀b o,s.heap.get? b=aa o->h1.get? b=aa o:=λb o e=>hsb.extBut b o (Vi (UW e)) (UO _ e);refine⟨i.mod.nolimit.keeps λb o e=>S b o (i.bs b o e).1,?_⟩;show ak _ _ (.expr be (Xx q sc s.heap.objs.size f (.ref c') cl)) _ _;refine PySem.W.kla_codeExpr ?_;have I:=GO (q:=q) (f:=f) (c':=c') (tk:=s.toks+(Y.zip us).length) l1 Z l4 l5 M hr.hd i rv hu hns S;have hr1:fM k (A.deeper (Xx q sc s.heap.objs.size f (.ref c') cl)):=hr.deeper _;have O:=hO q sc cl f c' A outer s H Z.nd hr1;simp only[aT]at e1;cases g1:aO F G bt (BT.ji (Y++fs).length (ws++cs.map bF.w)) h with
 |none=>rw[g1]at e1;exact c5 e1
 |some yg =>
  obtain⟨y,gh⟩:=yg;rw[g1]at e1;have e2:BT.fin h y gh=aa (z,h'):=e1;have hs:RS P w K m (hid cl H) (X.map aa++D.map aa) (BT.ji (Y++fs).length (ws++cs.map bF.w)):=by
   have r0:=vS (N:=Y++fs) ((rw.tr C.sq nc).app (RCs.ws (P:=P) (w:=w) (rc.tr C.sq)));have e3:L2.start (Y++fs) (X++D)=X.map aa++D.map aa:=by unfold L2.start;simp only[U9];rw[show Y.length+fs.length-(X.length+D.length)=0 by lia];simp
   rw[e3]at r0;exact r0
  refine Wm (sE l3 O [] _ _ _ (λv J=>∃j,Ext m (hid cl H) j J/\RH K j J gh/\RW P w K j J v y) I ⟨m,_,h,y,gh,C.rh R,hs,g1,λv J j x' R' r'=>⟨j,x',R',r'⟩⟩) (λu s' ⟨v,J,I',rv',j,x',R',r'⟩=>?_) (λe s' U=>VE U);have N':∀x c,cl.lookup x=aa c->J c=af:=λx c e=>I'.freeC x c e;have le:Le J (ret cl H J):=La N';obtain⟨m2,x2,R2,r2⟩:=kQ e2 (C.rh R) x' R' r';have B:Un (frs outer) [] (hid cl H) J s.heap s'.heap:=I'.base;have nc':∀b,H b=af->¬ ∃y,cl.lookup y=aa b:=λb n ⟨y,V⟩=>by obtain⟨o,uu,a,_⟩:=C y b V;rw[n]at a;exact c5 a
  refine⟨v,ret cl H J,I'.os,I'.bare,⟨λb o e n T U=>B.keep b o e (iP n) T U,λb o e n T U=>B.slot b o e (iP n) T U,λb o e n U=>?_,λb o e U=>B.there b o e U,λb xs e=>?_,λb o uu e=>?_,λb qs e=>?_⟩,λb uu e=>?_,rv',zr v _ m2 (C.Lb N' x2 R2) (R2.le le) (r2.le le)⟩;rw[iB (nc' b n)];exact B.free b o e (iP n) U;rw[iB (C.out e rfl)];exact B.tups b xs (C.hid e rfl)
  ·by_cases l:∃y,cl.lookup y=aa b
   obtain⟨y,V⟩:=l;rw[qf V];exact e;rw[iB l];exact B.frzs b o uu (by rw[fV l];exact e)
  rw[iB (C.out e rfl)];exact B.tbls b qs (C.hid e rfl)
  ·by_cases l:∃y,cl.lookup y=aa b
   ·obtain⟨y,V⟩:=l;rw[qf V]at e;obtain⟨o,u2,a,k2⟩:=C y b V;rw[a]at e;cases e;have k3:=B.keep b o (i.aL _ _ a).1 (xF V) (λT=>by rw[i.frf b T]at a;exact c5 a) (by simp);exact⟨k3,_,k3⟩
   ·rw[iB l]at e;exact(I'.aL b uu e).stay (λ_ _ _ q=>q) (λd q=>le _ _ q) λd xs q=>le _ _ q
def nU(K:UM)(q:aA)(fd:Wq)(fn:bC):Prop:=∀y,fn.ns.contains (bH y)=ah->q=y/\y∈BT.gP ∧
 (∃c P,VJ K y=aa (c,P)/\fd.code=.ref c/\XR K c P=ah/\∀z∈BT.gP,∀D,VJ K z=aa (D,P)->z=y) ∧
 ∃B ob,Vu K U6 "__builtins__"=aa (aa (.ref B))/\B≠WI/\K.lookup B=aa ob/\ob.cls=.type "module"/\ob.dict=aa WI/\ob.data=.plain
inductive Pk(K:UM)(mg:aA->Option aC)(x:aA)(fn:bC):Prop
 |mk(f:aB)(fd:Wq)(st:VI)(h1:mg x=aa (.ref f))(h2:Fun K x x st f fd)(q:gy fn.ns fn.ps (dB st))(B:Binds K fd fn.ps [])(J:CSs (dB st) fn.ns fn.body (dU st))(D:nU K x fd fn):Pk K mg x fn
structure Def(K:UM)(mg:aA->Option aC)(x:aA)(fn:bC):Prop where
 ex:Pk K mg x fn
inductive Jf(K:UM)(mg:aA->Option aC)(c m:aA)(fn:bC):Prop
 |mk(C f:aB)(fd:Wq)(x qual:aA)(st:VI)(h1:nQ K c C)(h2:mg c=aa (.ref C))(L:z9 K C m f)(M:(m="__init__"->Mk K C f))(q:Fun K x qual st f fd)(B:gy fn.ns fn.ps (dB st))(O:Binds K fd fn.ps [])(D:CSs (dB st) fn.ns fn.body (dU st))(J:nU K qual fd fn):Jf K mg c m fn
structure D0(K:UM)(mg:aA->Option aC)(c m:aA)(fn:bC):Prop where
 ex:Jf K mg c m fn
structure Txt(P:U4)(w:Vl)(K:UM)(mg:aA->Option aC)(T:BT.FK->Option bC)(G:aA->Option aP):Prop where
 defs:∀x fn,T (.f x)=aa fn->Def K mg x fn
 meths:∀c m fn,T (.m c m)=aa fn->D0 K mg c m fn
 lams:∀L fn,T (.l L)=aa fn->BT.qZ L=aa fn/\∃ns bt,fn=⟨ns,ns,.ret bt⟩/\∀y,ns.contains (bH y)=ai
 glob:∀x z,G x=aa z->∃u v,mg x=aa u/\RelV v u/\∀m H,RW P w K m H v z
 blt:∀x∈OY,mg x=af
def zj{T:BT.FK->Option bC}{G:aA->Option aP}{k:Nat}{x:BT.FK}{ws:List aP}{h:aN}{r:aP×aN}(e:aY T G k x ws h=aa r):∃fn,T x=aa fn:=by
 cases k with
 |zero=>exact c5 e
 |succ k =>
  rw[aY]at e;cases q:T x with
  |none=>rw[q]at e;exact c5 e|some fn=>exact⟨fn,rfl⟩
def Hr{P:U4}{w:Vl}{mg:aA->Option aC}{base:au}{x qual:aA}{f:aB}{fd:Wq}{N ps:List aA}{k:Nat}{sp:Sp}(F:Fun K x qual st f fd)(S:gy N ps (dB st))(len:∀vs H Q E,sp vs H Q E->vs.length=ps.length)
(B:∀ (cdv:aC) (A:VU) (outer:List Env) (s:UR) (H:Hp) (vs:List V) (Q:VK) (E:XK),fd.code=cdv->fM k (A.deeper (Z6 qual (dB st) s.heap.objs.size f cdv))->Mod K mg base->sp vs H Q E →
  ∃ t,PSs (wU CX0 P w K mg base N qual (dB st) f cdv A outer s H E).nox (dU st) t/\t { nx:=λ_ H'=>Q .aF H',rt:=Q } (L2.start N vs) H):jv P w K mg base CX0 (k+1) f fd ps sp:=by
 obtain⟨g,e,kV,O,Y,c,cdv,ct,osl,rfl,Z,M⟩:=F.ex;refine⟨len,λA outer s H D W vs Q E L U b r a=>?_⟩;have d:jv P w K mg base CX0 (k+1) f (Wb x qual (gx st) (dU st) (dB st) .none kV O Y c cdv ct) ps sp:=NV Z M S len λA outer s H vs Q E L J=>by obtain⟨t,h,q⟩:=B cdv A outer s H vs Q E rfl L U.mod J;exact⟨t,h.nox,q⟩
 exact d.run A outer s H D W vs Q E L U b r a
def Jg{P:U4}{w:Vl}{mg:aA->Option aC}{base:au}{T:BT.FK->Option bC}{G:aA->Option aP}(X:Txt P w K mg T G){k:Nat}
(i:∀(x:BT.FK)(fn:bC),T x=aa fn->∀(f:aB)(fd:Wq)(nm qual:aA)(st:VI),Fun K nm qual st f fd->gy fn.ns fn.ps (dB st)->CSs (dB st) fn.ns fn.body (dU st)->nU K qual fd fn->jv P w K mg base CX0 (2*k) f fd fn.ps (spF P w K (aY T G k x)))
(u:∀L,(∃fn,T (.l L)=aa fn)->vE P w K mg base (2*k) L (aY T G k (.l L)))
{Y:Cx}{sc:Vw}{N:List aA}(e1:Y.prog=P)(e2:Y.w=w)(E:Y.K=K)(z:Y.mg=mg)(y:Y.base=base)(j:Y.env.scope=sc)(v:Y.N=N)(s:Y.N.Nodup)(F:Y.calm=ah)(U:fM (2*k+1) Y.A)(own:aab (Vb Y.prog Y.w) Y.A Y.env Y.xe)
(t:(∀x,Y.fn x=ah)->∀x,N.contains (bH x)=ah->LX Y x):Ok Y (aY T G k) G sc N:=by
 subst e1 e2 E z y;refine⟨j,v,s,λ_=>F,?_,own,X.glob,λg ws h r e=>?_,λc g ws h r e=>?_,λc ws h r e=>?_,X.blt,λL ws h r e=>⟨2*k,U.mono (V0 _),u L (zj e)⟩,t⟩
 ·have:=U.un;lia
 ·obtain⟨q,B⟩:=zj e;obtain⟨M,D,J,H,O,a,Z,W,V⟩:=(X.defs g q B).ex;exact⟨M,D,q.ps,2*k,H,O.kp,Z,U.mono (V0 _),i _ q B M D g g J O a W V⟩
 ·obtain⟨q,B⟩:=zj e;obtain⟨C,M,D,b,d,J,m,p,o,n,O,a,Z,W,V⟩:=(X.meths c g q B).ex;exact⟨C,M,D,q.ps,2*k,m,o,Z,U.mono (V0 _),i _ q B M D b d J O a W V⟩
 ·obtain⟨q,B⟩:=zj e;obtain⟨C,M,D,b,d,J,m,p,o,n,O,a,Z,W,V⟩:=(X.meths c _ q B).ex;exact⟨C,M,D,q.ps,2*k,m,p,n rfl,Z,U,i _ q B M D b d J O a W V⟩
def Hs{P:U4}{w:Vl}{mg:aA->Option aC}{base:au}{T:BT.FK->Option bC}{G:aA->Option aP}(X:Txt P w K mg T G):
 ∀(k:Nat),(∀(x:BT.FK)(fn:bC),T x=aa fn->∀(f:aB)(fd:Wq)(nm qual:aA)(st:VI),Fun K nm qual st f fd->gy fn.ns fn.ps (dB st)->CSs (dB st) fn.ns fn.body (dU st)->nU K qual fd fn->jv P w K mg base CX0 (2*k) f fd fn.ps (spF P w K (aY T G k x))) ∧
  ∀L,(∃fn,T (.l L)=aa fn)->vE P w K mg base (2*k) L (aY T G k (.l L)):=by
 intro k
 induction k with
 |zero =>
  refine⟨λx fn J f fd nm qual st h2 t h5 h6=>?_,λL hL=>?_⟩
  ·have no:∀D H Q E,¬spF P w K (aY T G 0 x) D H Q E:=λD H Q E h=>by obtain⟨m,ws,h,z,u,_,_,e,_⟩:=h;exact c5 e
   exact⟨λD H Q E h=>bO h (no D H Q E),λA B s H args us D Q E _ _ _ _ h=>bO h (no D H Q E)⟩
  ·intro A B s H f us D cvs m ws cs h z u Q E U e0 rv R rw nc la rc e M;exact c5 e
 |succ k j =>
  obtain⟨ih,il⟩:=j;refine⟨λx fn J f fd nm qual st h2 t h5 h6=>?_,λL hL=>?_⟩
  ·show jv P w K mg base CX0 (2*k+1+1) f fd fn.ps (spF P w K (aY T G (k+1) x));refine Hr h2 t (λD H Q E h=>?_) λI A B s H D Q E o U V h=>?_
   ·obtain⟨m,ws,h,z,u,R,r,e,M⟩:=h;rw[aY,J]at e;simp only at e;split at e;rename_i c;rw[r.length];exact c;exact c5 e
   ·obtain⟨m,ws,h,z,u,R,r,e,M⟩:=h;rw[aY,J]at e;simp only at e;split at e
    ·have O:Ok (wU CX0 P w K mg base fn.ns qual (dB st) f I A B s H E).nox (aY T G k) G (dB st) fn.ns:=by refine Jg X ih il rfl rfl rfl rfl rfl rfl rfl t.nd rfl U YN λ_ y n=>?_;obtain⟨t1,t2,⟨c,Pt,t3,t4,t5,t6⟩,bm,ob,t7,t8,t9,i,d,b⟩:=h6 y n;exact⟨t2,⟨c,Pt,t3,o.symm.trans t4,aaa V.kin t5,t6⟩,by show qual++".<locals>."=_;rw[t1],bm,ob,WE V.kin V.glob t7,t8,V.kin _ _ t9,i,d,b⟩
     refine⟨_,sSs O (λ_=>rfl) h5,?_⟩;cases C:aT (aY T G k) G fn.body (BT.ji fn.ns.length ws) h with
     |none=>rw[C]at e;exact c5 e
     |some fl =>
      rw[C]at e;refine⟨m,_,h,fl,R,vS r,C,?_⟩;cases fl with
      |rt y g =>
       intro v S m' a N r';obtain⟨m2,Z,Y,W⟩:=kQ e R a N r';exact M v S m2 Z Y W
      |nx s' g =>
       intro σ' S m' a N _;obtain⟨m2,Z,Y,W⟩:=kQ (v:=.aF) e R a N (.p .aF);exact M .aF S m2 Z Y W
      |_=>exact c5 e
    exact c5 e
  ·obtain⟨fn,J⟩:=hL;obtain⟨hl,ns,bt,rfl,nt⟩:=X.lams L fn J;show vE P w K mg base (2*k+1+1) L (aY T G (k+1) (.l L));refine LJ (F:=aY T G k) (G:=G) hl (λws h r e=>?_) λq sc cl f c' A B s H nd U=>Jg X ih il rfl rfl rfl rfl rfl rfl rfl nd rfl U YN λ_ y n=>bO n (by rw[nt y];decide);rw[aY,J]at e;simp only at e;split at e;rename_i c;exact⟨c,e⟩;exact c5 e
def LK{P:U4}{w:Vl}{mg:aA->Option aC}{base:au}{T:BT.FK->Option bC}{G:aA->Option aP}(X:Txt P w K mg T G)(k:Nat)(x:BT.FK)(fn:bC)(q:T x=aa fn)(f:aB)(fd:Wq)(nm qual:aA)(st:VI)(h2:Fun K nm qual st f fd)(J:gy fn.ns fn.ps (dB st))(D:CSs (dB st) fn.ns fn.body (dU st))(B:nU K qual fd fn):
 jv P w K mg base CX0 (2*k) f fd fn.ps (spF P w K (aY T G k x)):=(Hs X k).1 x fn q f fd nm qual st h2 J D B
end BS
end
section
namespace BT
open PySem
def fR:Fn:=⟨["part"],["part"], (.seq (.v (.z .eq (.y (.aG "INNER_COUNTS") (.y (.v 0) (.j (.int 0)))) (.j (.int 0))) (.ret (.aE .nil)) .nil) (.ret (.n (.v 0) (cZ (.j (.int 1))) .nil)))⟩
def mJ:Fn:=⟨[],[], (.ret (.aE (cU (.j (.int 0)) (.bin .mul (.aE (cZ (.j (.int 0)))) (.bi .len ai (cZ (.aG "LETTERS")))) (.bin .mul (.aE (cZ (.j (.int 0)))) (.aG "CELL_COUNT")) (.aE .nil) (.j (.int 0)) (.aE .nil))))⟩
def i7:Fn:=⟨["term"],["term","parts","waiting","part"], (.seq (.set 1 (.aD ah .nil)) (.seq (.set 2 (.aD ah (cZ (.v 0)))) (.seq (.j (.z .gt (.bi .len ai (cZ (.v 2))) (.j (.int 0))) (.seq (.set 3 (.me .pop (.v 2) .nil)) (.seq (.ex (.me .append (.v 1) (cZ (.v 3)))) (.ex (.me .extend (.v 2) (cZ (.call "inner_sums" (cZ (.v 3))))))))) (.ret (.v 1)))))⟩
def kT:Fn:=⟨["word","one","other"],["word","one","other"], (.seq (.v (.z .eq (.v 0) (.j (.str "less"))) (.ret (.ite (.z .lt (.v 1) (.v 2)) (.j (.int 1)) (.j (.int 0)))) .nil) (.seq (.v (.z .eq (.v 0) (.j (.str "add"))) (.ret (.bin .mod (.bin .add (.v 1) (.v 2)) (.aG "WORTH_COUNT"))) .nil) (.seq (.v (.z .eq (.v 0) (.j (.str "sub"))) (.ret (.bin .mod (.bin .sub (.v 1) (.v 2)) (.aG "WORTH_COUNT"))) .nil) (.ret (.bin .mod (.bin .mul (.v 1) (.v 2)) (.aG "WORTH_COUNT"))))))⟩
def iR:Fn:=⟨["thing"],["thing"], (.ret (.z .mem (.v 0) (.aG "LETTERS")))⟩
def i8:Fn:=⟨["state","thing"],["state","thing"], (.seq (.v (.call "is_name" (cZ (.v 1))) (.ret (.y (.y (.v 0) (.aG "NAMES")) (.me .tindex (.aG "LETTERS") (cZ (.v 1))))) .nil) (.seq (.ex (.call "check_thing" (cZ (.v 1)))) (.ret (.y (.y (.v 0) (.aG "CELLS")) (.v 1)))))⟩
def fz:Fn:=⟨["part","worths","state"],["part","worths","state","word","last"], (.seq (.set 3 (.y (.v 0) (.j (.int 0)))) (.seq (.v (.z .eq (.v 3) (.j (.str "num"))) (.ret (.y (.v 0) (.j (.int 1)))) .nil) (.seq (.v (.z .eq (.v 3) (.j (.str "name"))) (.ret (.call "worth_in" (cY (.v 2) (.y (.v 0) (.j (.int 1)))))) .nil) (.seq (.set 4 (.me .pop (.v 1) .nil)) (.seq (.v (.z .eq (.v 3) (.j (.str "cell"))) (.ret (.y (.y (.v 2) (.aG "CELLS")) (.bin .mod (.v 4) (.aG "CELL_COUNT")))) .nil) (.ret (.call "of_two" (cX (.v 3) (.me .pop (.v 1) .nil) (.v 4)))))))))⟩
def i9:Fn:=⟨["term","state"],["term","state","worths","part"], (.seq (.set 2 (.aD ah .nil)) (.seq (.for [(3,"part")] .rev (cZ (.call "laid_out" (cZ (.v 0)))) (.ex (.me .append (.v 2) (cZ (.call "worth_of" (cX (.v 3) (.v 2) (.v 1))))))) (.ret (.y (.v 2) (.j (.int 0))))))⟩
def jH:Fn:=⟨["term","state"],["term","state"], (.ret (.bin .mod (.call "reckoned" (cY (.v 0) (.v 1))) (.aG "CELL_COUNT")))⟩
def iS:Fn:=⟨["program","state"],["program","state","word"], (.seq (.v (.z .ge (.y (.v 1) (.aG "ROW")) (.bi .len ai (cZ (.v 0)))) (.ret (.j (.bl ah))) .nil) (.seq (.set 2 (.y (.y (.v 0) (.y (.v 1) (.aG "ROW"))) (.j (.int 0)))) (.seq (.v (.z .eq (.v 2) (.j (.str "back"))) (.ret (.z .eq (.bi .len ai (cZ (.y (.v 1) (.aG "CALLS")))) (.j (.int 0)))) .nil) (.seq (.v (.z .eq (.v 2) (.j (.str "call"))) (.ret (.z .ge (.bi .len ai (cZ (.y (.v 1) (.aG "CALLS")))) (.aG "MOST_CALLS"))) .nil) (.ret (.z .eq (.v 2) (.j (.str "stop"))))))))⟩
def fW:Fn:=⟨["row","state"],["row","state","word"], (.seq (.set 2 (.y (.v 0) (.j (.int 0)))) (.seq (.v (.or (.z .eq (.v 2) (.j (.str "jump"))) (.z .eq (.v 2) (.j (.str "call")))) (.ret (.y (.v 0) (.j (.int 1)))) .nil) (.seq (.v (.z .eq (.v 2) (.j (.str "back"))) (.ret (.y (.y (.v 1) (.aG "CALLS")) (.neg (.j (.int 1))))) .nil) (.seq (.v (.and (.z .eq (.v 2) (.j (.str "unless"))) (.z .eq (.call "reckoned" (cY (.y (.v 0) (.j (.int 1))) (.v 1))) (.j (.int 0)))) (.ret (.y (.v 0) (.j (.int 2)))) .nil) (.ret (.bin .add (.y (.v 1) (.aG "ROW")) (.j (.int 1))))))))⟩
def gQ:Fn:=⟨["worths","number","worth"],["worths","number","worth"], (.ret (.bin .add (.bin .add (.n (.v 0) .nil (cZ (.v 1))) (.aE (cZ (.v 2)))) (.n (.v 0) (cZ (.bin .add (.v 1) (.j (.int 1)))) .nil)))⟩
def iC:Fn:=⟨["state","name","worth"],["state","name","worth"], (.ret (.call "with_worth" (cX (.y (.v 0) (.aG "NAMES")) (.me .tindex (.aG "LETTERS") (cZ (.v 1))) (.v 2))))⟩
def iT:Fn:=⟨["asked","number"],["asked","number"], (.ret (.ite (.z .lt (.v 1) (.bi .len ai (cZ (.v 0)))) (.y (.v 0) (.v 1)) (.j (.int 0))))⟩
def jI:Fn:=⟨["program","asked","state"],["program","asked","state","row","word","behind"], (.seq (.set 3 (.y (.v 0) (.y (.v 2) (.aG "ROW")))) (.seq (.set 4 (.y (.v 3) (.j (.int 0)))) (.seq (.set 5 (.bi .list ah (cZ (.v 2)))) (.seq (.put 5 (.aG "ROW") (.call "place_behind" (cY (.v 3) (.v 2)))) (.seq (.v (.z .eq (.v 4) (.j (.str "set"))) (.put 5 (.aG "NAMES") (.call "with_name" (cX (.v 2) (.y (.v 3) (.j (.int 1))) (.call "reckoned" (cY (.y (.v 3) (.j (.int 2))) (.v 2)))))) (.v (.z .eq (.v 4) (.j (.str "put"))) (.put 5 (.aG "CELLS") (.call "with_worth" (cX (.y (.v 2) (.aG "CELLS")) (.call "cell_by" (cY (.y (.v 3) (.j (.int 1))) (.v 2))) (.call "reckoned" (cY (.y (.v 3) (.j (.int 2))) (.v 2)))))) (.v (.z .eq (.v 4) (.j (.str "ask"))) (.seq (.put 5 (.aG "NAMES") (.call "with_name" (cX (.v 2) (.y (.v 3) (.j (.int 1))) (.call "brought" (cY (.v 1) (.y (.v 2) (.aG "ASKED"))))))) (.put 5 (.aG "ASKED") (.bin .add (.y (.v 2) (.aG "ASKED")) (.j (.int 1))))) (.v (.z .eq (.v 4) (.j (.str "say"))) (.put 5 (.aG "SAID") (.bin .add (.y (.v 2) (.aG "SAID")) (.aE (cZ (.call "reckoned" (cY (.y (.v 3) (.j (.int 1))) (.v 2))))))) (.v (.z .eq (.v 4) (.j (.str "call"))) (.put 5 (.aG "CALLS") (.bin .add (.y (.v 2) (.aG "CALLS")) (.aE (cZ (.bin .add (.y (.v 2) (.aG "ROW")) (.j (.int 1))))))) (.v (.z .eq (.v 4) (.j (.str "back"))) (.put 5 (.aG "CALLS") (.n (.y (.v 2) (.aG "CALLS")) .nil (cZ (.neg (.j (.int 1)))))) .nil)))))) (.ret (.bi .tuple ai (cZ (.v 5)))))))))⟩
def zk:U7 s=U7 t↔s=t:=by
 constructor
 ·intro h;rw[aah,aah]at h;have J:(s.toList.map ZT)=(t.toList.map ZT):=by have:=bU (λx:aA=>x.cps.toList) h;simpa using this
  have inj:∀(a b:List Char),a.map ZT=b.map ZT->a=b:=by
   intro a
   induction a with
   |nil=>intro b h;cases b with
    |nil=>rfl|cons _ _=>simp at h
   |cons x L B=>intro b h;cases b with
    |nil=>simp at h
    |cons y q =>
     simp only[U8,Wv]at h;have:x=y:=Char.toNat_inj.mp h.1;rw[this,B q h.2]
  have D:=inj _ _ J;exact String.toList_inj.mp D
 intro h;rw[h]
@[simp]theorem QV(s t:String):(U7 s==U7 t)=(s==t):=by
 by_cases h:s=t
 subst h;simp
 ·have q:¬U7 s=U7 t:=λe=>h (zk.mp e);rw[beq_eq_false_iff_ne.mpr q,beq_eq_false_iff_ne.mpr h]
@[simp]theorem SZ(s t:String):(U7 s=U7 t)=(s=t):=propext zk
@[simp]theorem UF(h:List α)(a:α)(r:List α):(h++a::r)[h.length]?=aa a:=by simp
@[simp]theorem Pn(h:List α)(a b:α)(r:List α):(h++a::b::r)[h.length+1]?=aa b:=by rw[Vk (by lia)];simp
@[simp]theorem UG(h:List α)(a x:α)(r:List α):(h++a::r).set h.length x=h++x::r:=by simp
@[simp]theorem UH(h:List α)(a b x:α)(r:List α):(h++a::b::r).set (h.length+1) x=h++a::x::r:=by rw[List.set_append_right _ _ (by lia)];simp
def c7(h:HH)(w:W):fin h w h=aa (w,h):=by simp[fin]
def lz(h g:HH)(d:D):fin h (.p d) (h++g)=aa (.p d,h):=by
 unfold fin;cases g with
 |_=>simp
@[simp]theorem S6(h:HH)(a:Cl)(r:HH):lat (h++a::r) h.length=oh a:=by simp[lat]
@[simp]theorem UI(h:HH)(a b:Cl)(r:HH):lat (h++a::b::r) (h.length+1)=oh b:=by unfold lat;rw[Pn];rfl
@[simp]theorem UJ(h:HH)(a:Cl)(r:HH):oat (h++a::r) h.length=pG a:=by simp[oat]
@[simp]theorem UK(h:HH)(a b:Cl)(r:HH):oat (h++a::b::r) (h.length+1)=pG b:=by unfold oat;rw[Pn];rfl
def Hu(e:lat h n=aa ys)(c:Cl):lat (h.set n c) n=oh c:=by
 unfold lat at e⊢;cases g:h[n]? with
 |none=>rw[g]at e;exact gu e|some q=>rw[List.getElem?_set_self',g];rfl
def Po(h:HH)(xs:List D)(g:HH):fin h (.r h.length) (h++.l xs::g)=aa (.p (.aD xs),h):=by unfold fin;simp
def zm(h h':HH)(w:W)(e:h'.length=h.length):fin h w h'=aa (w,h'):=by simp[fin,e]
structure Prg(T:FK->Option Fn)(G:aA->Option W):Prop where
 inner_sums:T "inner_sums"=aa fR
 begun:T "begun"=aa mJ
 laid_out:T "laid_out"=aa i7
 of_two:T "of_two"=aa kT
 worth_of:T "worth_of"=aa fz
 is_name:T "is_name"=aa iR
 worth_in:T "worth_in"=aa i8
 reckoned:T "reckoned"=aa i9
 cell_by:T "cell_by"=aa jH
 is_over:T "is_over"=aa iS
 place_behind:T "place_behind"=aa fW
 with_worth:T "with_worth"=aa gQ
 with_name:T "with_name"=aa iC
 brought:T "brought"=aa iT
 stepped:T "stepped"=aa jI
 LETTERS:G "LETTERS"=aa (.p (.aE [.str "a",.str "b",.str "c",.str "d",.str "e",.str "f"]))
 CELL_COUNT:G "CELL_COUNT"=aa (.p (.int 4))
 WORTH_COUNT:G "WORTH_COUNT"=aa (.p (.int 10007))
 INNER:G "INNER_COUNTS"=aa (.k (.t [("num",.int 0),("name",.int 0),("cell",.int 1),("add",.int 2),("sub",.int 2),("mul",.int 2),("less",.int 2)]))
 ROW:G "ROW"=aa (.p (.int 0))
 NAMES:G "NAMES"=aa (.p (.int 1))
 CELLS:G "CELLS"=aa (.p (.int 2))
 CALLS:G "CALLS"=aa (.p (.int 3))
 ASKED:G "ASKED"=aa (.p (.int 4))
 SAID:G "SAID"=aa (.p (.int 5))
 MOST_CALLS:G "MOST_CALLS"=aa (.p (.int 6))
inductive Op
 |add|sub|mul|less
noncomputable def Op.w:Op->String
 |.add=>"add" |.sub=>"sub" |.mul=>"mul" |.less=>"less"
inductive Nm
 |a|b|c|d|e|f
noncomputable def Nm.w:Nm->String
 |.a=>"a" |.b=>"b" |.c=>"c" |.d=>"d" |.e=>"e" |.f=>"f"
noncomputable def Nm.ix:Nm->Nat
 |.a=>0|.b=>1|.c=>2|.d=>3|.e=>4|.f=>5
def Nm.D3(x:Nm):x.ix<6:=by cases x<;>decide
inductive Sm
 |num(n:Int)
 |nam(i:Nm)
 |cell(s:Sm)
 |two(o:Op)(s t:Sm)
def Sm.enc:Sm->D
 |.num n=>.aE [.str "num",.int n]|.nam i=>.aE [.str "name",.str i.w]|.cell s=>.aE [.str "cell",s.enc]|.two o s t=>.aE [.str o.w,s.enc,t.enc]
noncomputable def Sm.size:Sm->Nat
 |.num _=>1|.nam _=>1|.cell s=>s.size+1|.two _ s t=>s.size+t.size+1
noncomputable def Sm.lay:Sm->List Sm
 |.num n=>[.num n]|.nam i=>[.nam i]|.cell s=>.cell s::s.lay|.two o s t=>.two o s t::(t.lay++s.lay)
noncomputable def Sm.subs:Sm->List Sm
 |.num _=>[]|.nam _=>[]|.cell s=>[s]|.two _ s t=>[s,t]
def Wth(n:Int):Prop:=0<=n/\n<=10006
noncomputable def Sm.ok:Sm->Prop
 |.num n=>Wth n|.nam _=>True|.cell s=>s.ok|.two _ s t=>s.ok/\t.ok
def Sm.size_pos(s:Sm):1<=s.size:=by cases s<;>simp[Sm.size]
structure St where
 row:Nat
 names:List Int
 cells:List Int
 calls:List Nat
 aI:Nat
 said:List Int
noncomputable def c6(xs:List Int):List D:=xs.map D.int
noncomputable def dh(xs:List Nat):List D:=xs.map λ(n:Nat)=>D.int (n:Int)
def St.enc(s:St):D:=.aE [.int s.row,.aE (c6 s.names),.aE (c6 s.cells),.aE (dh s.calls),.int s.aI,.aE (c6 s.said)]
structure St.ok(s:St):Prop where
 nlen:s.names.length=6
 clen:s.cells.length=4
 nw:∀x∈s.names,Wth x
 cw:∀x∈s.cells,Wth x
noncomputable def two(o:Op)(x y:Int):Int:=match o with
 |.add=>(x+y)%10007|.sub=>(x-y)%10007|.mul=>(x*y)%10007
 |.less=>if x<y then 1 else 0
def Sm.val(st:St):Sm->Int
 |.num n=>n|.nam i=>st.names.getD i.ix 0|.cell s=>st.cells.getD (s.val st%4).toNat 0|.two o s t=>BT.two o (s.val st) (t.val st)
def xQ{xs:List Int}(h:∀x∈xs,Wth x)(i:Nat):Wth (xs.getD i 0):=by
 rw[VW];cases e:xs[i]? with
 |none=>exact⟨by decide,by decide⟩|some x=>exact h x (UZ e)
def Pp(o:Op):Wth (BT.two o x y):=by cases o<;>simp only[BT.two,Wth];lia;lia;lia;split<;>decide
theorem Sm.nV{st:St}(q:st.ok):∀{s:Sm},s.ok->Wth (s.val st)
 |.num _,h=>h|.nam i,_=>xQ q.nw _|.cell _,_=>xQ q.cw _|.two _ _ _,_=>Pp _
section
def AX(P:Prg T G)(k:Nat)(s:Sm)(h:HH):runN T G (k+1) "inner_sums" [.p s.enc] h=aa (.p (.aE (s.subs.map Sm.enc)),h):=by
 rw[run_eq P.inner_sums rfl];cases s with
 |two o s t =>
  have g:=P.INNER;have q:fG (U7 o.w) [("num",.int 0),("name",.int 0),("cell",.int 1),("add",.int 2),("sub",.int 2),("mul",.int 2),("less",.int 2)]=aa (.int 2):=by cases o<;>simp[Op.w]
  generalize ([("num",.int 0),("name",.int 0),("cell",.int 1),("add",.int 2),("sub",.int 2),("mul",.int 2),("less",.int 2)]:List (aA×D))=I at *;simp[fR,g,q,Sm.enc,Sm.subs,c7]
 |_=>simp[fR,P.INNER,Sm.enc,Sm.subs,c7]
def xR(P:Prg T G)(k:Nat)(o:Op)(q:Wth x)(h:HH):
 runN T G (k+1) "of_two" [.p (.str o.w),.p (.int x),.p (.int y)] h=aa (.p (.int (two o x y)),h):=by
 rw[run_eq P.of_two rfl];have b:big x=ah:=by unfold big;exact bR (by have D:=q.1;have B:=q.2;lia)
 cases o<;>simp[kT,P.WORTH_COUNT,c7,Op.w,two,b]
 by_cases c:x<y<;>simp[c,c7]
noncomputable def rf:List D:=[.str "a",.str "b",.str "c",.str "d",.str "e",.str "f"]
def Hv(x:Nm):gI .mem (.str x.w) (.aE rf)=aa ah:=by cases x<;>simp[rf,Nm.w]
def D4(x:Nm):meD .tindex (.aE rf) [.str x.w]=aa (.int (x.ix:Int)):=by rw[Ci];cases x<;>simp[rf,Nm.w,Nm.ix,j5]
def vU{i:Nat}(h:i<xs.length):dP (.aE (c6 xs)) (.int (i:Int))=aa (.int (xs.getD i 0)):=by show atP _ _=_;unfold atP place c6;rw[bM (Int.natCast_nonneg _),bM (by rw[U0];lia)];show(xs.map D.int)[((i:Int)).toNat]?=_;rw[V1,Vh,VW,U1 h];rfl
theorem sf(st:St):dP st.enc (.int 1)=aa (.aE (c6 st.names)):=rfl
theorem AY(st:St):dP st.enc (.int 2)=aa (.aE (c6 st.cells)):=rfl
def nW(P:Prg T G)(k:Nat)(x:Nm)(h:HH):runN T G (k+1) "is_name" [.p (.str x.w)] h=aa (.p (.bl ah),h):=by rw[run_eq P.is_name rfl];have g:G "LETTERS"=aa (.p (.aE rf)):=P.LETTERS;have m:=Hv x;generalize rf=L at *;simp[-iL,iR,g,m,c7]
def uy(P:Prg T G)(k:Nat)(st:St)(M:st.ok)(x:Nm)(h:HH):runN T G (k+2) "worth_in" [.p st.enc,.p (.str x.w)] h=aa (.p (.int (st.names.getD x.ix 0)),h):=by rw[run_eq P.worth_in rfl];have r:=nW P k x;have q:=x.D3;have J:=vU (xs:=st.names) (i:=x.ix) (by rw[M.nlen];exact q);have D:=D4 x;have B:=sf st;have g:G "LETTERS"=aa (.p (.aE rf)):=P.LETTERS;generalize rf=L at *;generalize st.enc=se at *;generalize c6 st.names=sn at *;simp[-jh,i8,r,P.NAMES,g,J,D,B,c7]
def gD(P:Prg T G)(k:Nat)(st:St)(q:st.ok)(n:Nat)(h:HH):
 (∀i,runN T G (k+3) "worth_of" [.p (Sm.num i).enc,.r n,.p st.enc] h=aa (.p (.int i),h)) ∧
 (∀i,runN T G (k+3) "worth_of" [.p (Sm.nam i).enc,.r n,.p st.enc] h=aa (.p (.int (st.names.getD i.ix 0)),h)):=by
 refine⟨λi=>?_,λi=>?_⟩<;>rw[run_eq P.worth_of rfl];simp[fz,Sm.enc,c7]
 ·have r:=uy P k st q i;simp[fz,Sm.enc,c7,r]
def ko(P:Prg T G)(k:Nat)(st:St)(J:st.ok)(n:Nat)(h:HH)(s:Sm)(ws:List D)(v:Int)(e:lat h n=aa (ws++[.int v]))(L:0<=v):
 runN T G (k+1) "worth_of" [.p (Sm.cell s).enc,.r n,.p st.enc] h=aa (.p (.int (st.cells.getD (v%4).toNat 0)),h.set n (.l ws)):=by
 rw[run_eq P.worth_of rfl];have c:(((v%4).toNat:Nat):Int)=v%4:=by lia
 have q:=vU (xs:=st.cells) (i:=(v%4).toNat) (by rw[J.clen];lia);rw[c]at q;have B:=AY st;generalize st.enc=se at *;generalize c6 st.cells=sn at *;generalize st.cells.getD (v%4).toNat 0=z at *;simp[fz,Sm.enc,P.CELLS,P.CELL_COUNT,e,q,B,zm]
def Op.other(o:Op):¬o.w="num"/\¬o.w="name"/\¬o.w="cell":=by cases o<;>decide
def lA(P:Prg T G)(k:Nat)(st:St)(n:Nat)(h:HH)(o:Op)(s t:Sm)(ws:List D)(x y:Int)(L:Wth x)(e:lat h n=aa (ws++[.int x,.int y])):
 runN T G (k+2) "worth_of" [.p (Sm.two o s t).enc,.r n,.p st.enc] h=aa (.p (.int (two o x y)),h.set n (.l ws)):=by
 rw[run_eq P.worth_of rfl];have U:lat (h.set n (.l (ws++[.int x]))) n=aa (ws++[.int x]):=Hu e _;have e1:(ws++[D.int x,D.int y]).getLast?=aa (.int y):=by simp
 have e2:(ws++[D.int x,D.int y]).dropLast=ws++[.int x]:=by simp
 have r:=λM=>xR P k o (x:=x) (y:=y) L M;obtain⟨J,B,q⟩:=o.other;have O:(Sm.two o s t).enc=.aE [.str o.w,s.enc,t.enc]:=rfl;rw[O];generalize o.w=ow at *;generalize s.enc=se at *;generalize t.enc=te at *;simp[fz,e,e1,e2,U,J,B,q,r,zm,aai]
def loC:E:=.z .gt (.bi .len ai (cZ (.v 2))) (.j (.int 0))
def loB:S:=.seq (.set 3 (.me .pop (.v 2) .nil)) (.seq (.ex (.me .append (.v 1) (cZ (.v 3)))) (.ex (.me .extend (.v 2) (cZ (.call "inner_sums" (cZ (.v 3)))))))
def sizes(l:List Sm):Nat:=(l.map Sm.size).sum
def xS(s:Sm)(l:List Sm):sizes (s.subs.reverse++l)+1=sizes (s::l):=by cases s<;>simp[sizes,Sm.subs,Sm.size]<;>lia
def D5(s:Sm)(l:List Sm):(s::l).flatMap Sm.lay=s::(s.subs.reverse++l).flatMap Sm.lay:=by cases s<;>simp[Sm.lay,Sm.subs,List.flatMap_cons]
def Hw(s:Sm):s.subs.length<=2:=by cases s<;>simp[Sm.subs]
def sj(l:List Sm):l.length<=sizes l:=by
 induction l with
 |nil=>simp[sizes]
 |cons s l q =>
  have B:=s.size_pos;simp only[sizes,U8,ZW,Va]at q⊢;lia
def Hx(P:Prg T G)(k:Nat)(h:HH)(J:W):∀(m:Nat)(B:List Sm)(ps:List D)(x:Option W),sizes B<=m->ps.length+sizes B<=50000 →
 ∃L,gA (ev (runN T G (k+1)) G loC) (evS (runN T G (k+1)) G loB) (m+1) [aa J,aa (.r h.length),aa (.r (h.length+1)),x] (h++[.l ps,.l (B.reverse.map Sm.enc)]) =
  aa (.nx [aa J,aa (.r h.length),aa (.r (h.length+1)),L] (h++[.l (ps++(B.flatMap Sm.lay).map Sm.enc),.l []])):=by
 intro m
 induction m with
 |zero =>
  intro B ps x V _;have:B=[]:=by have:=sj B;exact Xn (by lia)
  subst this;exact⟨x,by simp[gA,loC,rd]⟩
 |succ m U =>
  intro B ps x V b;cases B with
  |nil=>exact⟨x,by simp[gA,loC,rd]⟩
  |cons s l =>
   have e:=xS s l;obtain⟨L,q⟩:=U (s.subs.reverse++l) (ps++[s.enc]) (aa (.p s.enc)) (by lia) (by simp only[U9,Vy];lia);refine⟨L,?_⟩;have r:=AX P k s;have O:l.length+s.subs.length<=100000:=by
    have f:=Hw s;have d:=sj l;have c:sizes (s::l)=s.size+sizes l:=by simp[sizes]
    lia
   have a:(0:Int)<(l.length:Int)+1:=by lia
   have M:ps.length<100000:=by lia
   have Y:ev (runN T G (k+1)) G loC [aa J,aa (.r h.length),aa (.r (h.length+1)),x] (h++[.l ps,.l ((s::l).reverse.map Sm.enc)])=aa (.p (.bl ah),h++[.l ps,.l ((s::l).reverse.map Sm.enc)]):=by simp[loC,rd,a]
   have Z:evS (runN T G (k+1)) G loB [aa J,aa (.r h.length),aa (.r (h.length+1)),x] (h++[.l ps,.l ((s::l).reverse.map Sm.enc)]) =
    aa (.nx [aa J,aa (.r h.length),aa (.r (h.length+1)),aa (.p s.enc)] (h++[.l (ps++[s.enc]),.l ((s.subs.reverse++l).reverse.map Sm.enc)])):=by
    simp[loB,r,O,M]
   rw[gA,Y,j6,tQ,Z,fO,q,D5,U8,Vv,Vx]
theorem qw:i7=⟨["term"],["term","parts","waiting","part"],.seq (.set 1 (.aD ah .nil))
 (.seq (.set 2 (.aD ah (.cons (.v 0) .nil))) (.seq (.j loC loB) (.ret (.v 1))))⟩:=rfl
def mK(P:Prg T G)(k:Nat)(s:Sm)(D:s.size<=40000)(h:HH):runN T G (k+2) "laid_out" [.p s.enc] h=aa (.p (.aD (s.lay.map Sm.enc)),h):=by rw[run_eq P.laid_out rfl];obtain⟨B,q⟩:=Hx P k h (.p s.enc) 99999 [s] [] af (by simp only[sizes,U8,Wk,ZW,List.sum_nil];lia) (by simp only[sizes,U8,Wk,ZW,List.sum_nil,Wa];lia);simp only[List.flatMap_cons,List.flatMap_nil,Vn,W7,Wx,U8,Wk]at q;rw[qw];simp[turns,q,Po]
def rkB:S:=.ex (.me .append (.v 2) (cZ (.call "worth_of" (cX (.v 3) (.v 2) (.v 1)))))
def Hy(P:Prg T G)(k:Nat)(h:HH)(q:W)(st:St)(M:st.ok):∀(s:Sm),s.ok->∀(ws:List D)(rest:List D)(x:Option W),ws.length+s.size<=50000 →
 ∃Z,dW (evS (runN T G (k+3)) G rkB) [(3,"part")] ((s.lay.map Sm.enc).reverse++rest) [aa q,aa (.p st.enc),aa (.r h.length),x] (h++[.l ws]) =
  dW (evS (runN T G (k+3)) G rkB) [(3,"part")] rest [aa q,aa (.p st.enc),aa (.r h.length),Z] (h++[.l (ws++[.int (s.val st)])]):=by
 intro s
 induction s with
 |num n =>
  intro _ ws rest x B;refine⟨aa (.p (Sm.num n).enc),?_⟩;have r:=(gD P k st M h.length (h++[.l ws])).1 n;have l:ws.length<100000:=by simp only[Sm.size]at B;lia
  have J:evS (runN T G (k+3)) G rkB [aa q,aa (.p st.enc),aa (.r h.length),aa (.p (Sm.num n).enc)] (h++[.l ws]) =
   aa (.nx [aa q,aa (.p st.enc),aa (.r h.length),aa (.p (Sm.num n).enc)] (h++[.l (ws++[.int n])])):=by
   simp[rkB,r,l]
  simp only[Sm.lay,U8,Wk,Wx,Vx,Sm.val];simp[J]
 |nam i =>
  intro _ ws rest x B;refine⟨aa (.p (Sm.nam i).enc),?_⟩;have r:=(gD P k st M h.length (h++[.l ws])).2 i;have l:ws.length<100000:=by simp only[Sm.size]at B;lia
  have J:evS (runN T G (k+3)) G rkB [aa q,aa (.p st.enc),aa (.r h.length),aa (.p (Sm.nam i).enc)] (h++[.l ws]) =
   aa (.nx [aa q,aa (.p st.enc),aa (.r h.length),aa (.p (Sm.nam i).enc)] (h++[.l (ws++[.int (st.names.getD i.ix 0)])])):=by
   simp[rkB,r,l]
  simp only[Sm.lay,U8,Wk,Wx,Vx,Sm.val];simp[J]
 |cell s a =>
  intro L ws rest x B;obtain⟨Y,e1⟩:=a L ws ((Sm.cell s).enc::rest) x (by simp only[Sm.size]at B;lia);refine⟨aa (.p (Sm.cell s).enc),?_⟩;have r:=ko P (k+2) st M h.length (h++[.l (ws++[.int (s.val st)])]) s ws (s.val st) (by simp) (Sm.nV (s:=s) M L).1;have l:ws.length<100000:=by simp only[Sm.size]at B;lia
  have J:evS (runN T G (k+3)) G rkB [aa q,aa (.p st.enc),aa (.r h.length),aa (.p (Sm.cell s).enc)] (h++[.l (ws++[.int (s.val st)])]) =
   aa (.nx [aa q,aa (.p st.enc),aa (.r h.length),aa (.p (Sm.cell s).enc)] (h++[.l (ws++[.int ((Sm.cell s).val st)])])):=by
   simp[rkB,r,l,Sm.val]
  simp only[Sm.lay,U8,XS,Vv,Vx];rw[e1];simp[J]
 |two o s t U O =>
  intro L ws rest x B;have V:=B;simp only[Sm.size]at V;obtain⟨Y,e1⟩:=U L.1 ws ((t.lay.map Sm.enc).reverse++((Sm.two o s t).enc::rest)) x (by lia);obtain⟨b,e2⟩:=O L.2 (ws++[.int (s.val st)]) ((Sm.two o s t).enc::rest) Y (by simp only[U9,Vy];have:=s.size_pos;lia);refine⟨aa (.p (Sm.two o s t).enc),?_⟩;have r:=lA P (k+1) st h.length (h++[.l (ws++[.int (s.val st),.int (t.val st)])]) o s t ws (s.val st) (t.val st) (Sm.nV M L.1) (by simp);have l:ws.length<100000:=by lia
  have J:evS (runN T G (k+3)) G rkB [aa q,aa (.p st.enc),aa (.r h.length),aa (.p (Sm.two o s t).enc)] (h++[.l (ws++[.int (s.val st),.int (t.val st)])]) =
   aa (.nx [aa q,aa (.p st.enc),aa (.r h.length),aa (.p (Sm.two o s t).enc)] (h++[.l (ws++[.int ((Sm.two o s t).val st)])])):=by
   simp[rkB,r,l,Sm.val]
  simp only[Sm.lay,U8,W8,XS,Yx,Vv,Vx];rw[e1,e2];simp only[Vv,Vx];simp[J]
theorem qx:i9=⟨["term","state"],["term","state","worths","part"],.seq (.set 2 (.aD ah .nil))
 (.seq (.for [(3,"part")] .rev (.cons (.call "laid_out" (.cons (.v 0) .nil)) .nil) rkB) (.ret (.y (.v 2) (.j (.int 0)))))⟩:=rfl
def eX(P:Prg T G)(k:Nat)(s:Sm)(B:s.size<=40000)(J:s.ok)(st:St)(D:st.ok)(h:HH):
 runN T G (k+4) "reckoned" [.p s.enc,.p st.enc] h=aa (.p (.int (s.val st)),h):=by
 rw[run_eq P.reckoned rfl];obtain⟨L,q⟩:=Hy P k h (.p s.enc) st D s J [] [] af (by simp only[Wa];lia);rw[qx];simp only[Vn,W7]at q;have r:=mK P (k+1) s B;simp[r,iM,q,lz,rd]
end
section
variable{T:FK->Option Fn}{F:FK->List W->HH->Option (W×HH)}{G:aA->Option W}{i:Nat}{e e' c:E}{a b:S}{s s':Sl}{h g:HH}{w:W}{d d' z:D}
def Pq(h1:evS F G a s h=aa (.nx s' g)):evS F G (.seq a b) s h=evS F G b s' g:=by simp[h1]
def kr(h1:aO F G e s h=aa (w,g)):evS F G (.seq (.set i e) b) s h=evS F G b (s.set i (aa w)) g:=by simp[h1]
def LM(h1:aO F G c s h=aa (.p (.bl ah),h))(h2:aO F G e s h=aa (w,g)):evS F G (.seq (.v c (.ret e) .nil) b) s h=aa (.rt w g):=by simp[h1,h2]
def LN(h2:aO F G e s h=aa (w,g)):evS F G (.ret e) s h=aa (.rt w g):=by simp[h2]
end
section
def gR(xs:List α)(i:Nat):atP xs (i:Int)=xs[i]?:=by
 unfold atP place
 by_cases h:i<xs.length
 ·have q:((i:Int)<(xs.length:Int)):=by lia
  simp[q,h]
 ·have q:¬((i:Int)<(xs.length:Int)):=by lia
  simp[q];lia
def ku(P:Prg T G)(k:Nat)(xs:List D)(i:Nat)(hi:i<xs.length)(Y:xs.length<=1000)(d:D)(h:HH):
 runN T G (k+1) "with_worth" [.p (.aE xs),.p (.int i),.p d] h=aa (.p (.aE (xs.set i d)),h):=by
 rw[run_eq P.with_worth rfl];have W:¬((i:Int)<0):=by lia
 have V:(i:Int)<=(xs.length:Int):=by lia
 have U:¬((i:Int)+1<0):=by lia
 have O:(i:Int)+1<=(xs.length:Int):=by lia
 have M:((i:Int)+1).toNat=i+1:=by lia
 have b:xs.length-(i+1)+(i+1)<=100000:=by lia
 have L:i+1+(xs.length-(i+1))<=100000:=by lia
 have J:min i xs.length=i:=by lia
 have B:i+1<=100000:=by lia
 have e:xs.take i++d::xs.drop (i+1)=xs.set i d:=by rw[List.set_eq_take_append_cons_drop,bM hi]
 have a:(xs.take i).length=i:=by simp;lia
 have Z:(xs.drop (i+1)).length=xs.length-(i+1):=by simp
 have q:((xs.drop (i+1)).take (xs.length-(i+1)))=xs.drop (i+1):=by apply List.take_of_length_le;simp
 simp[gQ,W,V,U,O,M,L,J,B,q,e,c7]
@[simp]theorem Ux(st:St):dP st.enc (.int 0)=aa (.int st.row):=rfl
@[simp]theorem Uy(st:St):dP st.enc (.int 1)=aa (.aE (c6 st.names)):=rfl
@[simp]theorem Uz(st:St):dP st.enc (.int 2)=aa (.aE (c6 st.cells)):=rfl
@[simp]theorem UA(st:St):dP st.enc (.int 3)=aa (.aE (dh st.calls)):=rfl
@[simp]theorem UB(st:St):dP st.enc (.int 4)=aa (.int st.aI):=rfl
@[simp]theorem UC(st:St):dP st.enc (.int 5)=aa (.aE (c6 st.said)):=rfl
inductive Rw
 |set(x:Nm)(s:Sm)|put(s t:Sm)|ask(x:Nm)|say(s:Sm)|jump(p:Nat)|unless(s:Sm)(p:Nat)|call(p:Nat)|back|stop
def Rw.enc:Rw->D
 |.set x s=>.aE [.str "set",.str x.w,s.enc]|.put s t=>.aE [.str "put",s.enc,t.enc]|.ask x=>.aE [.str "ask",.str x.w]|.say s=>.aE [.str "say",s.enc]|.jump p=>.aE [.str "jump",.int p]|.unless s p=>.aE [.str "unless",s.enc,.int p]|.call p=>.aE [.str "call",.int p]|.back=>.aE [.str "back"]|.stop=>.aE [.str "stop"]
def iX(s:Sm):Prop:=s.ok/\s.size<=15
noncomputable def Rw.ok(n:Nat):Rw->Prop
 |.set _ s=>iX s|.put s t=>iX s/\iX t|.ask _=>True|.say s=>iX s|.jump p=>p<=n|.unless s p=>iX s/\p<=n|.call p=>p<=n|.back=>True|.stop=>True
noncomputable abbrev Pg:=List Rw
def eS(p:Pg):D:=.aE (p.map Rw.enc)
def Pg.ok(p:Pg):Prop:=∀r∈p,r.ok p.length
def Rw.next(aI:List Int)(st:St):Rw->St
 |.set x s=>{st with row:=st.row+1,names:=st.names.set x.ix (s.val st)}|.put s t=>{st with row:=st.row+1,cells:=st.cells.set (s.val st%4).toNat (t.val st)}|.ask x=>{st with row:=st.row+1,names:=st.names.set x.ix (aI.getD st.aI 0),aI:=st.aI+1}|.say s=>{st with row:=st.row+1,said:=st.said++[s.val st]}|.jump p=>{st with row:=p}|.unless s p=>{st with row:=if s.val st=0 then p else st.row+1}|.call p=>{st with row:=p,calls:=st.calls++[st.row+1]}|.back=>{st with row:=st.calls.getLast?.getD 0,calls:=st.calls.dropLast}|.stop=>st
noncomputable def Rw.over(st:St):Rw->Bool
 |.back=>st.calls.length==0|.call _=>decide (6<=st.calls.length)|.stop=>ah|_=>ai
def over(p:Pg)(st:St):Bool:=match p[st.row]? with
 |some r=>r.over st|none=>ah
def step(p:Pg)(aI:List Int)(st:St):St:=match p[st.row]? with
 |some r=>r.next aI st
 |none=>st
noncomputable def St.zero:St:=⟨0,[0,0,0,0,0,0],[0,0,0,0],[],0,[]⟩
def oU:St.zero.ok:=⟨rfl,rfl,by simp[St.zero,Wth],by simp[St.zero,Wth]⟩
def sts(p:Pg)(aI:List Int):Nat->St->List St
 |0,st=>[st]
 |n+1,st=>if over p st then [st]else st::sts p aI n (step p aI st)
def sy(P:Prg T G)(k:Nat)(h:HH):runN T G (k+1) "begun" [] h=aa (.p St.zero.enc,h):=by rw[run_eq P.begun rfl];simp[mJ,P.LETTERS,P.CELL_COUNT,c7,St.zero,St.enc,c6,dh,rep,Vc,List.flatten]
def vV(P:Prg T G)(k:Nat)(aI:List Int)(n:Nat)(h:HH):runN T G (k+1) "brought" [.p (.aD (c6 aI)),.p (.int n)] h=aa (.p (.int (aI.getD n 0)),h):=by
 rw[run_eq P.brought rfl]
 by_cases c:n<aI.length
 ·have q:(n:Int)<(aI.length:Int):=by lia
  simp[iT,c6,c,q,c7]
 ·have q:¬(n:Int)<(aI.length:Int):=by lia
  have e:aI[n]?=af:=U5 (by lia);simp[iT,c6,q,c7,e]
def lB(P:Prg T G)(k:Nat)(st:St)(J:st.ok)(x:Nm)(d:Int)(h:HH):
 runN T G (k+2) "with_name" [.p st.enc,.p (.str x.w),.p (.int d)] h=aa (.p (.aE (c6 (st.names.set x.ix d))),h):=by
 rw[run_eq P.with_name rfl];have r:=λi=>ku P k (c6 st.names) i;have l:(c6 st.names).length=6:=by simp[c6,J.nlen]
 have e:(c6 st.names).set x.ix (.int d)=c6 (st.names.set x.ix d):=by simp[c6,List.map_set]
 have q:=r x.ix (by rw[l];exact x.D3) (by lia) (.int d);rw[e]at q;have g:G "LETTERS"=aa (.p (.aE rf)):=P.LETTERS;have D:=D4 x;have B:=sf st;generalize rf=L at *;generalize st.enc=se at *;generalize M:(x.ix:Int)=z at *;simp[iC,P.NAMES,g,D,B,c7,q]
def nX(P:Prg T G)(k:Nat)(s:Sm)(B:iX s)(st:St)(D:st.ok)(h:HH):runN T G (k+5) "cell_by" [.p s.enc,.p st.enc] h=aa (.p (.int (s.val st%4)),h):=by rw[run_eq P.cell_by rfl];have q:=eX P k s (by have:=B.2;lia) B.1 st D;simp[jH,q,P.CELL_COUNT,c7]
noncomputable def Rw.word:Rw->String
 |.set _ _=>"set" |.put _ _=>"put" |.ask _=>"ask" |.say _=>"say" |.jump _=>"jump" |.unless _ _=>"unless" |.call _=>"call" |.back=>"back" |.stop=>"stop"
def Rw.uz(r:Rw):dP r.enc (.int 0)=aa (.str r.word):=by cases r<;>rfl
def plT:S:=(.seq (.v (.or (.z .eq (.v 2) (.j (.str "jump"))) (.z .eq (.v 2) (.j (.str "call")))) (.ret (.y (.v 0) (.j (.int 1)))) .nil) (.seq (.v (.z .eq (.v 2) (.j (.str "back"))) (.ret (.y (.y (.v 1) (.aG "CALLS")) (.neg (.j (.int 1))))) .nil) (.seq (.v (.and (.z .eq (.v 2) (.j (.str "unless"))) (.z .eq (.call "reckoned" (cY (.y (.v 0) (.j (.int 1))) (.v 1))) (.j (.int 0)))) (.ret (.y (.v 0) (.j (.int 2)))) .nil) (.ret (.bin .add (.y (.v 1) (.aG "ROW")) (.j (.int 1)))))))
theorem vW:fW=⟨["row","state"],["row","state","word"],
 (.seq (.set 2 (.y (.v 0) (.j (.int 0)))) plT)⟩:=rfl
def Hz(P:Prg T G)(F:FK->List W->HH->Option (W×HH))(q:W)(st:St)(h:HH)(v:String)(L:¬v="jump")(J:¬v="call")(D:¬v="back")(B:¬v="unless"):evS F G plT [aa q,aa (.p st.enc),aa (.p (.str v))] h=aa (.rt (.p (.int ((st.row:Int)+1))) h):=by have M:dP st.enc (.int 0)=aa (.int (st.row:Int)):=rfl;generalize st.enc=se at *;simp[plT,L,J,D,B,P.ROW,M]
def Jh(F:FK->List W->HH->Option (W×HH))(d:D)(B:W)(h:HH)(v:String)(q:Int)(J:v="jump"\/v="call")(i1:dP d (.int 1)=aa (.int q)):evS F G plT [aa (.p d),aa B,aa (.p (.str v))] h=aa (.rt (.p (.int q)) h):=by rcases J with rfl|rfl<;>simp[plT,i1]
def AZ(P:Prg T G)(k:Nat)(n:Nat)(r:Rw)(J:r.ok n)(st:St)(Y:st.ok)(aI:List Int)(L:r.over st=ai)(h:HH):
 runN T G (k+5) "place_behind" [.p r.enc,.p st.enc] h=aa (.p (.int (r.next aI st).row),h):=by
 have M:=r.uz;have B:runN T G (k+5) "place_behind" [.p r.enc,.p st.enc] h=nh (evS (runN T G (k+4)) G plT [aa (.p r.enc),aa (.p st.enc),aa (.p (.str r.word))] h) (fin h):=by rw[run_eq P.place_behind rfl,vW];generalize r.enc=re at *;simp[M]
 have D:∀q:Int,nh (aa (.rt (.p (.int q)) h)) (fin h)=aa (.p (.int q),h):=λq=>by simp[c7]
 rw[B];cases r with
 |«unless» s p =>
  have q:=eX P k s (by have:=J.1.2;lia) J.1.1 st Y;have V:dP (Rw.unless s p).enc (.int 1)=aa s.enc:=rfl;have U:dP (Rw.unless s p).enc (.int 2)=aa (.int (p:Int)):=rfl;have W:dP st.enc (.int 0)=aa (.int (st.row:Int)):=rfl;generalize (Rw.unless s p).enc=re at *;generalize st.enc=se at *;generalize s.enc=sn at *
  by_cases c:s.val st=0<;>simp[plT,Rw.word,Rw.next,q,c,W,V,U,c7,P.ROW]
 |back =>
  have c:st.calls≠[]:=by intro e;simp[Rw.over,e]at L
  have:∃l x,st.calls=l++[x]:=⟨st.calls.dropLast,st.calls.getLast c,(List.dropLast_concat_getLast c).symm⟩;obtain⟨l,x,e⟩:=this;have O:dP st.enc (.int 3)=aa (.aE (dh st.calls)):=rfl;have ix:dP (.aE (dh st.calls)) (.int (-1))=aa (.int (x:Int)):=by
   have e2:-((l.length:Int)+1)<=-1:=by lia
   have Z:(-1+((l.length:Int)+1)).toNat=l.length:=by lia
   simp[dh,e,e2,Z]
  have nx:((Rw.back).next aI st).row=x:=by simp[Rw.next,e]
  rw[nx];generalize st.enc=se at *;generalize dh st.calls=nl at *;simp[-jh,plT,Rw.word,P.CALLS,O,ix,c7]
 |stop=>simp[Rw.over]at L|jump p=>rw[Rw.word,Jh _ _ _ _ _ (p:Int) (.inl rfl) rfl,D];rfl|call p=>rw[Rw.word,Jh _ _ _ _ _ (p:Int) (.inr rfl) rfl,D];rfl|_=>rw[Rw.word,Hz P _ _ _ _ _ (by decide) (by decide) (by decide) (by decide),D];rfl
def ovT:S:=(.seq (.v (.z .eq (.v 2) (.j (.str "back"))) (.ret (.z .eq (.bi .len ai (cZ (.y (.v 1) (.aG "CALLS")))) (.j (.int 0)))) .nil) (.seq (.v (.z .eq (.v 2) (.j (.str "call"))) (.ret (.z .ge (.bi .len ai (cZ (.y (.v 1) (.aG "CALLS")))) (.aG "MOST_CALLS"))) .nil) (.ret (.z .eq (.v 2) (.j (.str "stop"))))))
theorem rj:iS=⟨["program","state"],["program","state","word"],
 (.seq (.v (.z .ge (.y (.v 1) (.aG "ROW")) (.bi .len ai (.cons (.v 0) .nil))) (.ret (.j (.bl ah))) .nil)
 (.seq (.set 2 (.y (.y (.v 0) (.y (.v 1) (.aG "ROW"))) (.j (.int 0))))
 ovT))⟩:=rfl
def HA(F:FK->List W->HH->Option (W×HH))(B q:W)(h:HH)(v:String)(J:¬v="back")(D:¬v="call"):evS F G ovT [aa B,aa q,aa (.p (.str v))] h=aa (.rt (.p (.bl (decide (v="stop")))) h):=by
 by_cases c:v="stop"
 ·subst c;simp[ovT]
 ·skip
  simp[ovT,J,D,c]
def vX(P:Prg T G)(k:Nat)(p:Pg)(st:St)(h:HH):runN T G (k+1) "is_over" [.p (eS p),.p st.enc] h=aa (.p (.bl (over p st)),h):=by
 have M:biD .len [eS p]=aa (.int p.length):=by simp[eS]
 by_cases c:st.row<p.length
 ·have J:¬(p.length:Int)<=(st.row:Int):=by lia
  have W:(st.row:Int)<(p.length:Int):=by lia
  have e:p[st.row]?=aa p[st.row]:=U1 c;have row:dP (eS p) (.int st.row)=aa (p[st.row]).enc:=by simp[eS,W,e]
  have V:over p st=(p[st.row]).over st:=by rw[over,e]
  rw[V];generalize p[st.row]=r at row⊢;have L:=r.uz;have B:runN T G (k+1) "is_over" [.p (eS p),.p st.enc] h=nh (evS (runN T G k) G ovT [aa (.p (eS p)),aa (.p st.enc),aa (.p (.str r.word))] h) (fin h):=by rw[run_eq P.is_over rfl,rj];generalize r.enc=re at row L;simp[M,row,L,P.ROW,J]
  rw[B];have O:biD .len [.aE (dh st.calls)]=aa (.int (st.calls.length:Int)):=by simp[dh]
  have U:dP st.enc (.int 3)=aa (.aE (dh st.calls)):=rfl;cases r with
  |back =>
   have D:(((st.calls.length:Nat):Int)==0)=(st.calls.length==0):=by
    cases st.calls with
    |nil=>rfl|cons a l=>rw[beq_eq_false_iff_ne.mpr (by simp only[Va];lia)];rfl
   simp[-rP,ovT,Rw.word,P.CALLS,U,O,D,c7,Rw.over]
  |call q =>
   have D:decide ((6:Int)<=(st.calls.length:Int))=decide (6<=st.calls.length):=decide_eq_decide.mpr (by lia);simp[-rP,ovT,Rw.word,P.CALLS,P.MOST_CALLS,U,O,D,c7,Rw.over]
  |_ =>
   rw[Rw.word,HA _ _ _ _ _ (by decide) (by decide)];simp[c7,Rw.over]
 ·have J:(p.length:Int)<=(st.row:Int):=by lia
  have e:p[st.row]?=af:=U5 (by lia);rw[run_eq P.is_over rfl];simp[iS,M,P.ROW,J,c7,over,e]
def ints_set(xs:List Int)(i:Nat)(v:Int):(c6 xs).set i (.int v)=c6 (xs.set i v):=by simp[c6,List.map_set]
def kB(xs:List Int):(c6 xs).length=xs.length:=by simp[c6]
def ints_snoc(xs:List Int)(v:Int):c6 xs++[.int v]=c6 (xs++[v]):=by simp[c6]
def A2(xs:List Nat)(v:Nat):dh xs++[.int (v:Int)]=dh (xs++[v]):=by simp[dh]
def D6(xs:List Nat):cut (dh xs) af (aa (-1))=dh xs.dropLast:=by
 have e:(-1+(xs.length:Int)).toNat=xs.length-1:=by lia
 simp[cut,clip,dh,e,List.dropLast_eq_take]
structure St.small(st:St):Prop where
 sl:st.said.length<=5000
 cl:st.calls.length<=5000
def encL(st:St):List D:=[.int st.row,.aE (c6 st.names),.aE (c6 st.cells),.aE (dh st.calls),.int st.aI,.aE (c6 st.said)]
theorem D7(st:St):biD .list [st.enc]=aa (.aD (encL st)):=rfl
def LP:S:=(.put 5 (.aG "CALLS") (.n (.y (.v 2) (.aG "CALLS")) .nil (cZ (.neg (.j (.int 1))))))
def LQ:S:=(.v (.z .eq (.v 4) (.j (.str "back"))) LP .nil)
def LR:S:=(.put 5 (.aG "CALLS") (.bin .add (.y (.v 2) (.aG "CALLS")) (.aE (cZ (.bin .add (.y (.v 2) (.aG "ROW")) (.j (.int 1)))))))
def HB:S:=(.v (.z .eq (.v 4) (.j (.str "call"))) LR LQ)
def LS:S:=(.put 5 (.aG "SAID") (.bin .add (.y (.v 2) (.aG "SAID")) (.aE (cZ (.call "reckoned" (cY (.y (.v 3) (.j (.int 1))) (.v 2)))))))
def D8:S:=(.v (.z .eq (.v 4) (.j (.str "say"))) LS HB)
def LU:S:=(.seq (.put 5 (.aG "NAMES") (.call "with_name" (cX (.v 2) (.y (.v 3) (.j (.int 1))) (.call "brought" (cY (.v 1) (.y (.v 2) (.aG "ASKED"))))))) (.put 5 (.aG "ASKED") (.bin .add (.y (.v 2) (.aG "ASKED")) (.j (.int 1)))))
def A3:S:=(.v (.z .eq (.v 4) (.j (.str "ask"))) LU D8)
def LV:S:=(.put 5 (.aG "CELLS") (.call "with_worth" (cX (.y (.v 2) (.aG "CELLS")) (.call "cell_by" (cY (.y (.v 3) (.j (.int 1))) (.v 2))) (.call "reckoned" (cY (.y (.v 3) (.j (.int 2))) (.v 2))))))
def xT:S:=(.v (.z .eq (.v 4) (.j (.str "put"))) LV A3)
def LW:S:=(.put 5 (.aG "NAMES") (.call "with_name" (cX (.v 2) (.y (.v 3) (.j (.int 1))) (.call "reckoned" (cY (.y (.v 3) (.j (.int 2))) (.v 2))))))
def lP:S:=(.v (.z .eq (.v 4) (.j (.str "set"))) LW xT)
def LY:S:=(.seq lP (.ret (.bi .tuple ai (cZ (.v 5)))))
theorem rA:jI=⟨["program","asked","state"],["program","asked","state","row","word","behind"],
 (.seq (.set 3 (.y (.v 0) (.y (.v 2) (.aG "ROW"))))
 (.seq (.set 4 (.y (.v 3) (.j (.int 0))))
 (.seq (.set 5 (.bi .list ah (.cons (.v 2) .nil)))
 (.seq (.put 5 (.aG "ROW") (.call "place_behind" (.cons (.v 3) (.cons (.v 2) .nil))))
 LY))))⟩:=rfl
theorem LZ(F:FK->List W->HH->Option (W×HH))(A B:S)(s:Sl)(h:HH):evS F G (.seq A B) s h=nN (evS F G A s h) (evS F G B):=rfl
def pick(F:FK->List W->HH->Option (W×HH))(L J D q:W)(v w:String)(rest:Sl)(h:HH)(A B:S):evS F G (.v (.z .eq (.v 4) (.j (.str w))) A B) (aa L::aa J::aa D::aa q::aa (.p (.str v))::rest) h=if v=w then evS F G A (aa L::aa J::aa D::aa q::aa (.p (.str v))::rest) h else evS F G B (aa L::aa J::aa D::aa q::aa (.p (.str v))::rest) h:=by
 have e:eqv (.str v) (.str w)=decide (v=w):=by
  by_cases c:v=w
  rw[bR c,c];simp
  ·rw[bQ c];have:¬U7 v=U7 w:=λz=>c (by simpa using z);simp[this,c]
 by_cases c:v=w
 ·rw[bR c]at e;rw[bM c];simp[-eqv,e]
 ·rw[bQ c]at e;rw[bN c];simp[-eqv,e]
def to0(F:FK->List W->HH->Option (W×HH))(J D B q:W)(rest:Sl)(h:HH):evS F G lP (aa J::aa D::aa B::aa q::aa (.p (.str "set"))::rest) h=evS F G LW (aa J::aa D::aa B::aa q::aa (.p (.str "set"))::rest) h:=by rw[lP,pick,bM rfl]
def to1(F:FK->List W->HH->Option (W×HH))(J D B q:W)(rest:Sl)(h:HH):evS F G lP (aa J::aa D::aa B::aa q::aa (.p (.str "put"))::rest) h=evS F G LV (aa J::aa D::aa B::aa q::aa (.p (.str "put"))::rest) h:=by rw[lP,pick,bN (by decide),xT,pick,bM rfl]
def to2(F:FK->List W->HH->Option (W×HH))(J D B q:W)(rest:Sl)(h:HH):evS F G lP (aa J::aa D::aa B::aa q::aa (.p (.str "ask"))::rest) h=evS F G LU (aa J::aa D::aa B::aa q::aa (.p (.str "ask"))::rest) h:=by rw[lP,pick,bN (by decide),xT,pick,bN (by decide),A3,pick,bM rfl]
def to3(F:FK->List W->HH->Option (W×HH))(J D B q:W)(rest:Sl)(h:HH):evS F G lP (aa J::aa D::aa B::aa q::aa (.p (.str "say"))::rest) h=evS F G LS (aa J::aa D::aa B::aa q::aa (.p (.str "say"))::rest) h:=by rw[lP,pick,bN (by decide),xT,pick,bN (by decide),A3,pick,bN (by decide),D8,pick,bM rfl]
def to4(F:FK->List W->HH->Option (W×HH))(J D B q:W)(rest:Sl)(h:HH):evS F G lP (aa J::aa D::aa B::aa q::aa (.p (.str "call"))::rest) h=evS F G LR (aa J::aa D::aa B::aa q::aa (.p (.str "call"))::rest) h:=by rw[lP,pick,bN (by decide),xT,pick,bN (by decide),A3,pick,bN (by decide),D8,pick,bN (by decide),HB,pick,bM rfl]
def to5(F:FK->List W->HH->Option (W×HH))(J D B q:W)(rest:Sl)(h:HH):evS F G lP (aa J::aa D::aa B::aa q::aa (.p (.str "back"))::rest) h=evS F G LP (aa J::aa D::aa B::aa q::aa (.p (.str "back"))::rest) h:=by rw[lP,pick,bN (by decide),xT,pick,bN (by decide),A3,pick,bN (by decide),D8,pick,bN (by decide),HB,pick,bN (by decide),LQ,pick,bM rfl]
def toN(F:FK->List W->HH->Option (W×HH))(J D B q:W)(rest:Sl)(h:HH)(v:String)(L:v∉["set","put","ask","say","call","back"]):evS F G lP (aa J::aa D::aa B::aa q::aa (.p (.str v))::rest) h=aa (.nx (aa J::aa D::aa B::aa q::aa (.p (.str v))::rest) h):=by simp only[Xr,WX,or_false,not_or]at L;obtain⟨Z,Y,V,U,O,M⟩:=L;rw[lP,pick,bN Z,xT,pick,bN Y,A3,pick,bN V,D8,pick,bN U,HB,pick,bN O,LQ,pick,bN M];rfl
def vY(P:Prg T G)(k:Nat)(p:Pg)(Z:Pg.ok p)(aI:List Int)(st:St)(D:st.ok)(W:st.small)(L:over p st=ai)(h:HH):
 runN T G (k+6) "stepped" [.p (eS p),.p (.aD (c6 aI)),.p st.enc] h=aa (.p (step p aI st).enc,h):=by
 have c:st.row<p.length:=by
  rcases Vd st.row p.length with q|q
  exact q;rw[over,U5 q]at L;exact w9 L
 have e:p[st.row]?=aa p[st.row]:=U1 c;have g:(st.row:Int)<(p.length:Int):=by lia
 have B:=Z _ (X5 c);have J:(p[st.row]).over st=ai:=by rw[over,e]at L;exact L
 have O:=AZ P k p.length p[st.row] B st D aI J;rw[step,e];have j:=W.sl;have i:=W.cl
 revert O B J
 generalize p[st.row]=r at *;intro B J O;have row:dP (eS p) (.int st.row)=aa r.enc:=by simp[eS,g,e]
 have M:runN T G (k+6) "stepped" [.p (eS p),.p (.aD (c6 aI)),.p st.enc] h =
  nh (evS (runN T G (k+5)) G LY [aa (.p (eS p)),aa (.p (.aD (c6 aI))),aa (.p st.enc),aa (.p r.enc),aa (.p (.str r.word)),aa (.r h.length)] (h++[.l [.int (r.next aI st).row,.aE (c6 st.names),.aE (c6 st.cells),.aE (dh st.calls),.int st.aI,.aE (c6 st.said)]])) (fin h):=by
  rw[run_eq P.stepped rfl,rA];simp[row,r.uz,P.ROW,D7,encL,O]
 rw[M,LY,LZ];cases r with
 |set x s =>
  have q:=eX P (k+1) s (by have:=B.2;lia) B.1 st D;have w:=lB P (k+3) st D x (s.val st);simp only[Rw.enc,Rw.next,Rw.word,to0];simp[LW,P.ROW,P.NAMES,q,w,rd,lz,Rw.next];simp[St.enc]
 |put s t =>
  have q:=nX P k s B.1 st D;have Y:=eX P (k+1) t (by have:=B.2.2;lia) B.2.1 st D;have v:=Sm.nV (s:=s) D B.1.1;have a:(s.val st%4).toNat<(c6 st.cells).length:=by rw[kB,D.clen];lia
  have w:=ku P (k+4) (c6 st.cells) (s.val st%4).toNat a (by rw[kB,D.clen];lia) (.int (t.val st));have f:(((s.val st%4).toNat:Nat):Int)=s.val st%4:=by lia
  rw[f,ints_set]at w;simp only[Rw.enc,Rw.next,Rw.word,to1];simp[LV,P.ROW,P.CELLS,q,Y,w,rd,lz,Rw.next];simp[St.enc]
 |ask x =>
  have b:=vV P (k+4) aI st.aI;have w:=lB P (k+3) st D x (aI.getD st.aI 0);simp only[Rw.enc,Rw.next,Rw.word,to2];simp only[VW]at b w⊢;simp[LU,P.ROW,P.NAMES,P.ASKED,b,w,rd,lz,Rw.next];simp[St.enc]
 |say s =>
  have q:=eX P (k+1) s (by have:=B.2;lia) B.1 st D;simp only[Rw.enc,Rw.next,Rw.word,to3];have U:(c6 st.said).length+1<=100000:=by rw[kB];lia
  simp[LS,P.ROW,P.SAID,q,rd,lz,Rw.next,U,ints_snoc];simp[St.enc]
 |call q =>
  simp only[Rw.enc,Rw.next,Rw.word,to4];have U:(dh st.calls).length+1<=100000:=by simp[dh];lia
  have V:dh st.calls++[.int ((st.row:Int)+1)]=dh (st.calls++[st.row+1]):=by rw[←A2];simp
  simp[LR,P.ROW,P.CALLS,rd,lz,Rw.next,U,V];simp[St.enc]
 |back =>
  simp only[Rw.enc,Rw.next,Rw.word,to5];have V:=D6 st.calls;have d:qW (.aE (dh st.calls)) af (aa (-1))=aa (.aE (dh st.calls.dropLast)):=by rw[xj,V]
  simp[-xj,LP,P.ROW,P.CALLS,rd,lz,Rw.next,d];simp[St.enc]
 |stop=>simp[Rw.over]at J
 |_ =>
  simp only[Rw.enc,Rw.next,Rw.word];rw[toN _ _ _ _ _ _ _ _ (by decide)];simp[P.ROW,rd,lz,Rw.next];simp[St.enc]
end
def Ask(aI:List Int):Prop:=∀x∈aI,Wth x
def D9{xs:List Int}{i:Nat}{v:Int}(h:∀x∈xs,Wth x)(D:Wth v):∀x∈xs.set i v,Wth x:=λx B=>by
 rcases List.mem_or_eq_of_mem_set B with q|q
 exact h x q;rw[q];exact D
structure At(n:Nat)(st:St):Prop where
 ok:st.ok
 said:st.said.length<=n
 calls:st.calls.length<=6
def At.small{st:St}(a:At n st)(h:n<=5000):st.small:=⟨by have:=a.said;lia,by have:=a.calls;lia⟩
def HC:At 0 St.zero:=⟨oU,UT _,by decide⟩
def zo{n:Nat}{p:Pg}{aI:List Int}{st:St}(L:Pg.ok p)(M:Ask aI)(a:At n st)(J:over p st=ai):At (n+1) (step p aI st):=by
 have c:st.row<p.length:=by
  rcases Vd st.row p.length with q|q
  exact q;rw[over,U5 q]at J;cases J
 have e:p[st.row]?=aa p[st.row]:=U1 c;have D:=L _ (X5 c);have B:(p[st.row]).over st=ai:=by rw[over,e]at J;exact J
 rw[step,e];dsimp only
 revert D B
 generalize p[st.row]=r;intro D B;obtain⟨ok,O,cl⟩:=a;cases r with
 |set x s=>exact⟨⟨by simp[Rw.next,ok.nlen],ok.clen,D9 ok.nw (Sm.nV ok D.1),ok.cw⟩,by simp[Rw.next];lia,cl⟩|put s t=>exact⟨⟨ok.nlen,by simp[Rw.next,ok.clen],ok.nw,D9 ok.cw (Sm.nV ok D.2.1)⟩,by simp[Rw.next];lia,cl⟩|ask x=>exact⟨⟨by simp[Rw.next,ok.nlen],ok.clen,D9 ok.nw (xQ M _),ok.cw⟩,by simp[Rw.next];lia,cl⟩|say s=>exact⟨⟨ok.nlen,ok.clen,ok.nw,ok.cw⟩,by simp[Rw.next];lia,cl⟩
 |call q =>
  simp[Rw.over]at B;exact⟨⟨ok.nlen,ok.clen,ok.nw,ok.cw⟩,by simp[Rw.next];lia,by simp[Rw.next];lia⟩
 |back=>exact⟨⟨ok.nlen,ok.clen,ok.nw,ok.cw⟩,by simp[Rw.next];lia,by simp[Rw.next];lia⟩|stop=>simp[Rw.over]at B|_=>exact⟨⟨ok.nlen,ok.clen,ok.nw,ok.cw⟩,by simp[Rw.next];lia,cl⟩
section
end
def iw:Fn:=⟨["_law_script","_law_k"],["_law_script","_law_k"], (.seq (.v (.z .eq (.v 0) (.aD ai .nil)) (.ret (.bin .mul (.j (.int 7)) (.v 1))) .nil) (.ret (.bin .add (.y (.v 0) (.bin .mod (.v 1) (.bi .len ai (cZ (.v 0))))) (.bin .mul (.j (.int 6553)) (.bin .fdiv (.v 1) (.bi .len ai (cZ (.v 0))))))))⟩
def iE:Fn:=⟨["_law_script","_law_k","_law_many"],["_law_script","_law_k","_law_many","_law_cell_here"], (.seq (.set 3 (.bin .mod (.bin .add (.bin .mul (.bin .mod (.call "_law_cell" (cY (.v 0) (.v 1))) (.j (.int 2147483563))) (.j (.int 69069))) (.bin .mul (.j (.int 104723)) (.bin .add (.v 1) (.j (.int 1))))) (.j (.int 2147483563)))) (.seq (.set 3 (.bin .mod (.bin .add (.bin .mul (.v 3) (.v 3)) (.bin .fdiv (.v 3) (.j (.int 3)))) (.j (.int 2147483399)))) (.ret (.bin .mod (.bin .fdiv (.bin .mod (.bin .add (.bin .mul (.v 3) (.v 3)) (.bin .fdiv (.v 3) (.j (.int 7)))) (.j (.int 2147483647))) (.j (.int 11))) (.v 2)))))⟩
def smL:S:=(.seq (.v (.z .eq (.call "_law_drawn" (cX (.v 0) (.bin .add (.v 1) (.j (.int 1))) (.j (.int 2)))) (.j (.int 0))) (.ret (.aE (cY (.j (.str "num")) (.y (.aD ai (cU (.j (.int 0)) (.j (.int 1)) (.j (.int 2)) (.j (.int 3)) (.j (.int 10)) (.j (.int 10006)))) (.call "_law_drawn" (cX (.v 0) (.bin .add (.v 1) (.j (.int 2))) (.j (.int 6)))))))) .nil) (.ret (.aE (cY (.j (.str "name")) (.y (.j (.str "abcf")) (.call "_law_drawn" (cX (.v 0) (.bin .add (.v 1) (.j (.int 2))) (.j (.int 4)))))))))
def smR:S:=(.seq (.set 4 (.call "_law_sum" (cX (.v 0) (.bin .add (.bin .mul (.v 1) (.j (.int 2))) (.j (.int 5))) (.bin .sub (.v 2) (.j (.int 1)))))) (.seq (.v (.z .lt (.v 3) (.j (.int 6))) (.ret (.aE (cY (.j (.str "cell")) (.v 4)))) .nil) (.ret (.aE (cX (.y (.aD ai (cW (.j (.str "add")) (.j (.str "sub")) (.j (.str "mul")) (.j (.str "less")))) (.bin .sub (.v 3) (.j (.int 6)))) (.v 4) (.call "_law_sum" (cX (.v 0) (.bin .add (.bin .mul (.v 1) (.j (.int 2))) (.j (.int 19))) (.bin .sub (.v 2) (.j (.int 1))))))))))
def gf:Fn:=⟨["_law_script","_law_at","_law_deep"],["_law_script","_law_at","_law_deep","_law_way","_law_one"], (.seq (.set 3 (.call "_law_drawn" (cX (.v 0) (.v 1) (.j (.int 10))))) (.seq (.v (.or (.z .eq (.v 2) (.j (.int 0))) (.z .lt (.v 3) (.j (.int 4)))) smL .nil) smR))⟩
def jJ:Fn:=⟨["_law_script","_law_at","_law_size"],["_law_script","_law_at","_law_size","_law_way","_law_place","_law_name","_law_one"], (.seq (.set 3 (.call "_law_drawn" (cX (.v 0) (.v 1) (.j (.int 16))))) (.seq (.set 4 (.call "_law_drawn" (cX (.v 0) (.bin .add (.v 1) (.j (.int 1))) (.bin .add (.v 2) (.j (.int 1)))))) (.seq (.set 5 (.y (.j (.str "abc")) (.call "_law_drawn" (cX (.v 0) (.bin .add (.v 1) (.j (.int 2))) (.j (.int 3)))))) (.seq (.set 6 (.call "_law_sum" (cX (.v 0) (.bin .add (.v 1) (.j (.int 3))) (.j (.int 2))))) (.seq (.v (.z .lt (.v 3) (.j (.int 5))) (.ret (.aE (cX (.j (.str "set")) (.v 5) (.v 6)))) .nil) (.seq (.v (.z .lt (.v 3) (.j (.int 7))) (.ret (.aE (cX (.j (.str "put")) (.call "_law_sum" (cX (.v 0) (.bin .add (.v 1) (.j (.int 9))) (.j (.int 1)))) (.v 6)))) .nil) (.seq (.v (.z .lt (.v 3) (.j (.int 9))) (.ret (.y (.aD ai (cY (.aE (cY (.j (.str "ask")) (.v 5))) (.aE (cY (.j (.str "say")) (.v 6))))) (.bin .sub (.v 3) (.j (.int 7))))) .nil) (.seq (.v (.z .lt (.v 3) (.j (.int 12))) (.ret (.y (.aD ai (cX (.aE (cY (.j (.str "jump")) (.v 4))) (.aE (cX (.j (.str "unless")) (.v 6) (.v 4))) (.aE (cX (.j (.str "unless")) (.aE (cY (.j (.str "name")) (.v 5))) (.v 4))))) (.bin .sub (.v 3) (.j (.int 9))))) .nil) (.ret (.y (.aD ai (cW (.aE (cY (.j (.str "call")) (.v 4))) (.aE (cY (.j (.str "call")) (.v 4))) (.aE (cZ (.j (.str "back")))) (.y (.aD ai (cY (.aE (cZ (.j (.str "stop")))) (.aE (cZ (.j (.str "back")))))) (.bin .mod (.v 4) (.j (.int 2)))))) (.bin .sub (.v 3) (.j (.int 12)))))))))))))⟩
def fB:Fn:=⟨["_law_script","_law_at"],["_law_script","_law_at","_law_size","_law_put","_law_sign","_law_rows"], (.seq (.set 2 (.bin .add (.j (.int 1)) (.call "_law_drawn" (cX (.v 0) (.v 1) (.j (.int 9)))))) (.seq (.v (.z .eq (.call "_law_drawn" (cX (.v 0) (.bin .add (.v 1) (.j (.int 1))) (.j (.int 4)))) (.j (.int 0))) (.seq (.set 3 (.aE (cX (.j (.str "put")) (.aE (cY (.j (.str "name")) (.j (.str "a")))) (.aE (cY (.j (.str "num")) (.call "_law_drawn" (cX (.v 0) (.bin .add (.v 1) (.j (.int 2))) (.j (.int 9))))))))) (.seq (.set 4 (.y (.aD ai (cY (.j (.str "add")) (.j (.str "sub")))) (.call "_law_drawn" (cX (.v 0) (.bin .add (.v 1) (.j (.int 3))) (.j (.int 2)))))) (.seq (.set 5 (.aE (cV (.aE (cY (.j (.str "ask")) (.j (.str "a")))) (.aE (cY (.j (.str "call")) (.j (.int 4)))) (.aE (cY (.j (.str "say")) (.aE (cY (.j (.str "name")) (.j (.str "a")))))) (.aE (cY (.j (.str "jump")) (.j (.int 0)))) (.v 3)))) (.ret (.bin .add (.v 5) (.aE (cW (.aE (cY (.j (.str "call")) (.j (.int 7)))) (.aE (cZ (.j (.str "back")))) (.aE (cX (.j (.str "set")) (.j (.str "b")) (.aE (cX (.v 4) (.aE (cY (.j (.str "name")) (.j (.str "b")))) (.aE (cY (.j (.str "name")) (.j (.str "a")))))))) (.aE (cZ (.j (.str "back"))))))))))) .nil) (.ret (.bi .tuple ai (cZ (.comp ai .rng1 (cZ (.v 2)) ["_law_k"] [(0,"_law_script"),(1,"_law_at"),(2,"_law_size")] .nil (.call "_law_row" (cX (.v 1) (.bin .add (.bin .add (.v 2) (.j (.int 10))) (.bin .mul (.j (.int 40)) (.v 0))) (.v 3)))))))))⟩
def iF:Fn:=⟨["_law_script","_law_at"],["_law_script","_law_at"], (.ret (.comp ai .rng1 (cZ (.call "_law_drawn" (cX (.v 0) (.v 1) (.j (.int 4))))) ["_law_k"] [(0,"_law_script"),(1,"_law_at")] .nil (.y (.aD ai (cW (.j (.int 0)) (.j (.int 1)) (.j (.int 5)) (.j (.int 10006)))) (.call "_law_drawn" (cX (.v 1) (.bin .add (.bin .add (.v 2) (.j (.int 1))) (.v 0)) (.j (.int 4)))))))⟩
structure Lw(T:FK->Option Fn):Prop where
 cell:T "_law_cell"=aa iw
 drawn:T "_law_drawn"=aa iE
 sum:T "_law_sum"=aa gf
 row:T "_law_row"=aa jJ
 aI:T "_law_asked"=aa iF
noncomputable def zu(ns:List Int)(k:Int):Int:=if ns=[]then 7*k else ns.getD (k%ns.length).toNat 0+6553*(k/ns.length)
def drw(ns:List Int)(k many:Int):Int :=
 let a:=(zu ns k%2147483563*69069+104723*(k+1))%2147483563
 let b:=(a*a+a/3)%2147483399
 (b*b+b/7)%2147483647/11%many
def gi(ns:List Int)(k:Int)(h:0<many):0<=drw ns k many:=Int.emod_nonneg _ (by lia)
def gj(ns:List Int)(k:Int)(h:0<many):drw ns k many<many:=Int.emod_lt_of_pos _ h
def sA(q:0<=i)(h1:i<18446744073709551616):big i=ah:=by unfold big;exact bR (by lia)
section
def HD(ns:List Int):eqv (.aD (c6 ns)) (.aD [])=decide (ns=[]):=by cases ns<;>simp[c6]
def Ea(L:Lw T)(m:Nat)(ns:List Int)(U:ns.length<=1000)(k:Int)(h:HH):runN T G (m+1) "_law_cell" [.p (.aD (c6 ns)),.p (.int k)] h=aa (.p (.int (zu ns k)),h):=by
 rw[run_eq L.cell rfl]
 by_cases c:ns=[]
 ·subst c;simp[iw,c6,zu,big,c7]
 ·have J:0<ns.length:=List.length_pos_iff.mpr c;have q:eqv (.aD (c6 ns)) (.aD [])=ai:=by rw[HD];exact bQ c
  have B:(0:Int)<(ns.length:Int):=by lia
  have p2:(ns.length:Int)<1073741824:=by lia
  have M:=Int.emod_nonneg k (b:=(ns.length:Int)) (by lia);have m2:=Int.emod_lt_of_pos k B;have O:(k%(ns.length:Int)).toNat<ns.length:=by lia
  have D:ns.length<1073741824:=by lia
  simp[iw,-eqv,q,kB,B,p2,J,D,M,m2,big,c7,zu,c];simp[c6,O,c7,J,D,M,m2,big,B,p2]
def gn(L:Lw T)(m:Nat)(ns:List Int)(B:ns.length<=1000)(k many:Int)(q:0<many)(h:HH):
 runN T G (m+2) "_law_drawn" [.p (.aD (c6 ns)),.p (.int k),.p (.int many)] h=aa (.p (.int (drw ns k many)),h):=by
 rw[run_eq L.drawn rfl];have r:=Ea (G:=G) L m ns B k;have O:big 69069=ah:=by decide
 have M:big 104723=ah:=by decide
 have J:∀x:Int,big (x%2147483563)=ah:=λx=>sA (by lia) (by lia);have D:∀x:Int,big (x%2147483399)=ah:=λx=>sA (by lia) (by lia);simp[iE,r,O,M,J,D,c7,q,drw]
def uA:U7 "abcf"=⟨#[97,98,99,102]⟩:=by decide +kernel
def Eb:U7 "abc"=⟨#[97,98,99]⟩:=by decide +kernel
def o_a:U7 "a"=⟨#[97]⟩:=by decide +kernel
def o_b:U7 "b"=⟨#[98]⟩:=by decide +kernel
def o_c:U7 "c"=⟨#[99]⟩:=by decide +kernel
def o_f:U7 "f"=⟨#[102]⟩:=by decide +kernel
def zw(i:Int)(q:0<=i)(h1:i<4):∃x:Nm,dP (.str "abcf") (.int i)=aa (.str x.w):=by
 have:i=0\/i=1\/i=2\/i=3:=by lia
 rcases this with rfl|rfl|rfl|rfl
 exact⟨.a,by rw[Nm.w,uA,o_a];rfl⟩;exact⟨.b,by rw[Nm.w,uA,o_b];rfl⟩;exact⟨.c,by rw[Nm.w,uA,o_c];rfl⟩;exact⟨.f,by rw[Nm.w,uA,o_f];rfl⟩
def Ec(i:Int)(q:0<=i)(h1:i<3):∃x:Nm,dP (.str "abc") (.int i)=aa (.str x.w):=by
 have:i=0\/i=1\/i=2:=by lia
 rcases this with rfl|rfl|rfl
 exact⟨.a,by rw[Nm.w,Eb,o_a];rfl⟩;exact⟨.b,by rw[Nm.w,Eb,o_b];rfl⟩;exact⟨.c,by rw[Nm.w,Eb,o_c];rfl⟩
def zx(i:Int)(q:0<=i)(h1:i<6):∃n:Int,Wth n/\dP (.aD [.int 0,.int 1,.int 2,.int 3,.int 10,.int 10006]) (.int i)=aa (.int n):=by
 have:i=0\/i=1\/i=2\/i=3\/i=4\/i=5:=by lia
 rcases this with rfl|rfl|rfl|rfl|rfl|rfl
 exact⟨0,⟨by decide,by decide⟩,rfl⟩;exact⟨1,⟨by decide,by decide⟩,rfl⟩;exact⟨2,⟨by decide,by decide⟩,rfl⟩;exact⟨3,⟨by decide,by decide⟩,rfl⟩;exact⟨10,⟨by decide,by decide⟩,rfl⟩;exact⟨10006,⟨by decide,by decide⟩,rfl⟩
def L0(i:Int)(q:0<=i)(h1:i<4):∃o:Op,dP (.aD [.str "add",.str "sub",.str "mul",.str "less"]) (.int i)=aa (.str o.w):=by
 have:i=0\/i=1\/i=2\/i=3:=by lia
 rcases this with rfl|rfl|rfl|rfl
 exact⟨.add,rfl⟩;exact⟨.sub,rfl⟩;exact⟨.mul,rfl⟩;exact⟨.less,rfl⟩
def Ed(L:Lw T)(ns:List Int)(J:ns.length<=1000)(p n:Int)(k:Nat)(rest:Sl)(h:HH)(c:drw ns (p+1) 2=0)(M:dP (.aD [.int 0,.int 1,.int 2,.int 3,.int 10,.int 10006]) (.int (drw ns (p+2) 6))=aa (.int n)):
 evS (runN T G (k+2)) G smL (aa (.p (.aD (c6 ns)))::aa (.p (.int p))::rest) h=aa (.rt (.p (Sm.num n).enc) h):=by
 have O:=λq B (D:0<B)=>gn (G:=G) L k ns J q B D;simp[-fm,-jy,smL,O,c,M,Sm.enc]
def Ef(L:Lw T)(ns:List Int)(J:ns.length<=1000)(p:Int)(x:Nm)(k:Nat)(rest:Sl)(h:HH)(c:¬drw ns (p+1) 2=0)(ex:dP (.str "abcf") (.int (drw ns (p+2) 4))=aa (.str x.w)):
 evS (runN T G (k+2)) G smL (aa (.p (.aD (c6 ns)))::aa (.p (.int p))::rest) h=aa (.rt (.p (Sm.nam x).enc) h):=by
 have M:=λq B (D:0<B)=>gn (G:=G) L k ns J q B D;simp[-fm,-jy,smL,M,c,ex,Sm.enc]
def oV(L:Lw T)(ns:List Int)(J:ns.length<=1000):∀(B:Nat)(p:Int),∃s:Sm,s.ok/\s.size+1<=2^(B+1)/\∀(m:Nat)(h:HH),
 runN T G (m+B+3) "_law_sum" [.p (.aD (c6 ns)),.p (.int p),.p (.int B)] h=aa (.p s.enc,h):=by
 intro B
 induction B with
 |zero =>
  intro p;have M:=λm q many (V:0<many)=>gn (G:=G) L m ns J q many V;obtain⟨x,ex⟩:=zw (drw ns (p+2) 4) (gi _ _ (by decide)) (gj _ _ (by decide));obtain⟨n,hn,W⟩:=zx (drw ns (p+2) 6) (gi _ _ (by decide)) (gj _ _ (by decide));have D:∀(s:Sm)(m:Nat)(h:HH),(∀rest,evS (runN T G (m+2)) G smL (aa (.p (.aD (c6 ns)))::aa (.p (.int p))::rest) h=aa (.rt (.p s.enc) h))->runN T G (m+0+3) "_law_sum" [.p (.aD (c6 ns)),.p (.int p),.p (.int ((0:Nat):Int))] h=aa (.p s.enc,h):=λs m h q=>by rw[run_eq L.sum rfl];simp[gf,M,q,c7]
  by_cases c:drw ns (p+1) 2=0
  exact⟨.num n,hn,by simp[Sm.size],λm h=>D _ m h λrest=>Ed L ns J p n m rest h c W⟩;exact⟨.nam x,trivial,by simp[Sm.size],λm h=>D _ m h λrest=>Ef L ns J p x m rest h c ex⟩
 |succ B d =>
  intro p;have M:=λm q many (V:0<many)=>gn (G:=G) L m ns J q many V;obtain⟨x,ex⟩:=zw (drw ns (p+2) 4) (gi _ _ (by decide)) (gj _ _ (by decide));obtain⟨n,hn,W⟩:=zx (drw ns (p+2) 6) (gi _ _ (by decide)) (gj _ _ (by decide));obtain⟨s,b,w,U⟩:=d (p*2+5);obtain⟨t,j,v,O⟩:=d (p*2+19);have e:∀m,m+(B+1)+2=m+B+3:=λm=>by lia
  have a:=λm h=>(e m).symm ▸ U m h;have tr:=λm h=>(e m).symm ▸ O m h;have Y:¬((B:Int)+1=0):=by lia
  have f:((B:Int)+1-1)=B:=by lia
  have i:big 2=ah:=by decide
  have u:=gi ns p (many:=10) (by decide);have r:=gj ns p (many:=10) (by decide);have y:2^(B+1+1)=2^(B+1)+2^(B+1):=by lia
  by_cases Z:drw ns p 10<4
  ·have D:∀(s:Sm)(m:Nat)(h:HH),(∀rest,evS (runN T G (m+B+1+2)) G smL (aa (.p (.aD (c6 ns)))::aa (.p (.int p))::rest) h=aa (.rt (.p s.enc) h))->runN T G (m+(B+1)+3) "_law_sum" [.p (.aD (c6 ns)),.p (.int p),.p (.int ((B+1:Nat):Int))] h=aa (.p s.enc,h):=λs m h q=>by rw[run_eq L.sum rfl];have l:=M (m+(B+1));have q:∀rest,evS (runN T G (m+(B+1)+2)) G smL (aa (.p (.aD (c6 ns)))::aa (.p (.int p))::rest) h=aa (.rt (.p s.enc) h):=q;simp[gf,l,Z,Y,q,c7]
   by_cases c:drw ns (p+1) 2=0
   exact⟨.num n,hn,by simp only[Sm.size];lia,λm h=>D _ m h λrest=>Ed L ns J p n (m+B+1) rest h c W⟩;exact⟨.nam x,trivial,by simp only[Sm.size];lia,λm h=>D _ m h λrest=>Ef L ns J p x (m+B+1) rest h c ex⟩
  ·by_cases g:drw ns p 10<6
   ·refine⟨.cell s,b,by simp only[Sm.size];lia,λm h=>?_⟩;rw[run_eq L.sum rfl];simp[-fm,-jy,gf,smR,M,Z,g,Y,f,i,a,c7,Sm.enc]
   ·obtain⟨o,k⟩:=L0 (drw ns p 10-6) (by lia) (by lia);refine⟨.two o s t,⟨b,j⟩,by simp only[Sm.size];lia,λm h=>?_⟩;rw[run_eq L.sum rfl];simp[-fm,-jy,gf,smR,M,Z,g,Y,f,i,a,tr,k,c7,Sm.enc]
end
def Ji:S:=(.ret (.y (.aD ai (cW (.aE (cY (.j (.str "call")) (.v 4))) (.aE (cY (.j (.str "call")) (.v 4))) (.aE (cZ (.j (.str "back")))) (.y (.aD ai (cY (.aE (cZ (.j (.str "stop")))) (.aE (cZ (.j (.str "back")))))) (.bin .mod (.v 4) (.j (.int 2)))))) (.bin .sub (.v 3) (.j (.int 12)))))
def rA3:S:=(.ret (.y (.aD ai (cX (.aE (cY (.j (.str "jump")) (.v 4))) (.aE (cX (.j (.str "unless")) (.v 6) (.v 4))) (.aE (cX (.j (.str "unless")) (.aE (cY (.j (.str "name")) (.v 5))) (.v 4))))) (.bin .sub (.v 3) (.j (.int 9)))))
def Eg:S:=(.seq (.v (.z .lt (.v 3) (.j (.int 12))) rA3 .nil) Ji)
def rA2:S:=(.ret (.y (.aD ai (cY (.aE (cY (.j (.str "ask")) (.v 5))) (.aE (cY (.j (.str "say")) (.v 6))))) (.bin .sub (.v 3) (.j (.int 7)))))
def zy:S:=(.seq (.v (.z .lt (.v 3) (.j (.int 9))) rA2 .nil) Eg)
def rA1:S:=(.ret (.aE (cX (.j (.str "put")) (.call "_law_sum" (cX (.v 0) (.bin .add (.v 1) (.j (.int 9))) (.j (.int 1)))) (.v 6))))
def vZ:S:=(.seq (.v (.z .lt (.v 3) (.j (.int 7))) rA1 .nil) zy)
def rA0:S:=(.ret (.aE (cX (.j (.str "set")) (.v 5) (.v 6))))
def xU:S:=(.seq (.v (.z .lt (.v 3) (.j (.int 5))) rA0 .nil) vZ)
theorem rB:jJ=⟨["_law_script","_law_at","_law_size"],["_law_script","_law_at","_law_size","_law_way","_law_place","_law_name","_law_one"],
 (.seq (.set 3 (.call "_law_drawn" (.cons (.v 0) (.cons (.v 1) (.cons (.j (.int 16)) .nil)))))
 (.seq (.set 4 (.call "_law_drawn" (.cons (.v 0) (.cons (.bin .add (.v 1) (.j (.int 1))) (.cons (.bin .add (.v 2) (.j (.int 1))) .nil)))))
 (.seq (.set 5 (.y (.j (.str "abc")) (.call "_law_drawn" (.cons (.v 0) (.cons (.bin .add (.v 1) (.j (.int 2))) (.cons (.j (.int 3)) .nil))))))
 (.seq (.set 6 (.call "_law_sum" (.cons (.v 0) (.cons (.bin .add (.v 1) (.j (.int 3))) (.cons (.j (.int 2)) .nil)))))
 xU))))⟩:=rfl
section
def HE(L:Lw T)(ns:List Int)(Y:ns.length<=1000)(p:Int)(size:Nat):∃r:Rw,r.ok size/\∀(m:Nat)(h:HH),
 runN T G (m+6) "_law_row" [.p (.aD (c6 ns)),.p (.int p),.p (.int size)] h=aa (.p r.enc,h):=by
 have a:=λm q many (i:0<many)=>gn (G:=G) L m ns Y q many i;obtain⟨x,ex⟩:=Ec (drw ns (p+2) 3) (gi _ _ (by decide)) (gj _ _ (by decide));obtain⟨s,g,n,f⟩:=oV (G:=G) L ns Y 2 (p+3);obtain⟨t,e,l,tr⟩:=oV (G:=G) L ns Y 1 (p+9);have k:=gi ns p (many:=16) (by decide);have j:=gj ns p (many:=16) (by decide);have sz:(0:Int)<(size:Int)+1:=by lia
 have v:=gi ns (p+1) sz;have o:=gj ns (p+1) sz;obtain⟨B,hpl⟩:∃B:Nat,drw ns (p+1) ((size:Int)+1)=(B:Int):=⟨(drw ns (p+1) ((size:Int)+1)).toNat,by lia⟩;have J:B<=size:=by lia
 have M:iX s:=⟨g,by lia⟩;have tok:iX t:=⟨e,by lia⟩;have U:=λm h=>f (m+0) h;have O:=λm h=>tr (m+1) h;simp at U O;have b:=λm h=>a m (p+1) ((size:Int)+1) sz h;rw[hpl]at b;have D:∀(m:Nat)(h:HH),runN T G (m+6) "_law_row" [.p (.aD (c6 ns)),.p (.int p),.p (.int size)] h =
  nh (evS (runN T G (m+5)) G xU [aa (.p (.aD (c6 ns))),aa (.p (.int p)),aa (.p (.int size)),aa (.p (.int (drw ns p 16))),aa (.p (.int (B:Int))),aa (.p (.str x.w)),aa (.p s.enc)] h) (fin h):=λm h=>by
  rw[run_eq L.row rfl,rB];simp[-jy,b,a,ex,U]
 by_cases V:drw ns p 16<5
 ·refine⟨.set x s,M,λm h=>?_⟩;rw[D];simp[-fm,-jy,xU,rA0,V,c7,Rw.enc]
 ·by_cases W:drw ns p 16<7
  ·refine⟨.put t s,⟨tok,M⟩,λm h=>?_⟩;rw[D];simp[-fm,-jy,xU,vZ,rA1,O,V,W,c7,Rw.enc]
  ·by_cases Z:drw ns p 16<9
   ·obtain⟨r,ro,ix⟩:∃r:Rw,r.ok size/\dP (.aD [.aE [.str "ask",.str x.w],.aE [.str "say",s.enc]]) (.int (drw ns p 16-7))=aa r.enc:=by
     have c:drw ns p 16=7\/drw ns p 16=8:=by lia
     rcases c with c|c<;>rw[c]
     exact⟨.ask x,trivial,rfl⟩;exact⟨.say s,M,rfl⟩
    refine⟨r,ro,λm h=>?_⟩;rw[D];simp[-fm,xU,vZ,zy,rA2,V,W,Z,ix,c7]
   ·by_cases d:drw ns p 16<12
    ·obtain⟨r,ro,ix⟩:∃r:Rw,r.ok size/\dP (.aD [.aE [.str "jump",.int B],.aE [.str "unless",s.enc,.int B],.aE [.str "unless",.aE [.str "name",.str x.w],.int B]]) (.int (drw ns p 16-9))=aa r.enc:=by
      have c:drw ns p 16=9\/drw ns p 16=10\/drw ns p 16=11:=by lia
      rcases c with c|c|c<;>rw[c]
      exact⟨.jump B,J,rfl⟩;exact⟨.unless s B,⟨M,J⟩,rfl⟩;exact⟨.unless (.nam x) B,⟨⟨trivial,by simp[Sm.size]⟩,J⟩,rfl⟩
     refine⟨r,ro,λm h=>?_⟩;rw[D];simp[-fm,xU,vZ,zy,Eg,rA3,V,W,Z,d,ix,c7]
    ·obtain⟨u,uo,iu⟩:∃u:Rw,u.ok size/\dP (.aD [.aE [.str "stop"],.aE [.str "back"]]) (.int ((B:Int)%2))=aa u.enc:=by
      have z:(B:Int)%2=0\/(B:Int)%2=1:=by lia
      rcases z with z|z<;>rw[z]
      exact⟨.stop,trivial,rfl⟩;exact⟨.back,trivial,rfl⟩
     obtain⟨r,ro,ix⟩:∃r:Rw,r.ok size/\dP (.aD [.aE [.str "call",.int B],.aE [.str "call",.int B],.aE [.str "back"],u.enc]) (.int (drw ns p 16-12))=aa r.enc:=by
      have c:drw ns p 16=12\/drw ns p 16=13\/drw ns p 16=14\/drw ns p 16=15:=by lia
      rcases c with c|c|c|c<;>rw[c]
      exact⟨.call B,J,rfl⟩;exact⟨.call B,J,rfl⟩;exact⟨.back,trivial,rfl⟩;exact⟨u,uo,rfl⟩
     refine⟨r,ro,λm h=>?_⟩;rw[D];simp[-fm,xU,vZ,zy,Eg,Ji,V,W,Z,d,iu,ix,c7]
def comp_map(f:List D->HH->Option (Option D×HH))(g:D->D):∀(ds:List D)(h:HH),(∀d∈ds,∀h,f [d] h=aa (aa (g d),h))->dX f 1 ds h=aa (ds.map g,h):=by
 intro ds
 induction ds with
 |nil=>intro h _;rfl
 |cons d r B =>
  intro h q;have e1:=q d UY h;have e2:=B h λx J=>q x (UV _ J);rw[dX,gX];simp[e1,e2]
def v7(h:d∈upto 0 n):∃k:Nat,k<n/\d=.int k:=by simp[upto]at h;obtain⟨k,q,e⟩:=h;exact⟨k,q,e.symm⟩
def v8(n:Nat)(g:D->D):(upto 0 n).map g=(Vj n).map λ(k:Nat)=>g (.int k):=by simp[upto,Function.comp_def]
def HF:E:=.y (.aD ai (cW (.j (.int 0)) (.j (.int 1)) (.j (.int 5)) (.j (.int 10006)))) (.call "_law_drawn" (cX (.v 1) (.bin .add (.bin .add (.v 2) (.j (.int 1))) (.v 0)) (.j (.int 4))))
theorem oq:iF=⟨["_law_script","_law_at"],["_law_script","_law_at"],.ret (.comp ai .rng1 (.cons (.call "_law_drawn" (.cons (.v 0) (.cons (.v 1) (.cons (.j (.int 4)) .nil)))) .nil) ["_law_k"] [(0,"_law_script"),(1,"_law_at")] .nil HF)⟩:=rfl
def A4(L:Lw T)(ns:List Int)(Z:ns.length<=1000)(p:Int):∃aI:List Int,Ask aI/\aI.length<=3/\∀(m:Nat)(h:HH),
 runN T G (m+3) "_law_asked" [.p (.aD (c6 ns)),.p (.int p)] h=aa (.p (.aD (c6 aI)),h):=by
 have V:=λm q many (Y:0<many)=>gn (G:=G) L m ns Z q many Y;have M:∀i:Int,0<=i->i<4->∃n:Int,Wth n/\dP (.aD [.int 0,.int 1,.int 5,.int 10006]) (.int i)=aa (.int n):=by
  intro i t s;have:i=0\/i=1\/i=2\/i=3:=by lia
  rcases this with rfl|rfl|rfl|rfl
  exact⟨0,⟨by decide,by decide⟩,rfl⟩;exact⟨1,⟨by decide,by decide⟩,rfl⟩;exact⟨5,⟨by decide,by decide⟩,rfl⟩;exact⟨10006,⟨by decide,by decide⟩,rfl⟩
 have c:∀k:Nat,∃n:Int,Wth n/\dP (.aD [.int 0,.int 1,.int 5,.int 10006]) (.int (drw ns (p+1+k) 4))=aa (.int n):=λk =>
  M _ (gi _ _ (by decide)) (gj _ _ (by decide))
 obtain⟨g,U⟩:=Zj c;have o:=gi ns p (many:=4) (by decide);have l:=gj ns p (many:=4) (by decide);refine⟨(Vj (drw ns p 4).toNat).map g,?_,by simp;lia,λm h=>?_⟩
 ·intro x O;simp at O;obtain⟨k,_,rfl⟩:=O;exact(U k).1
 ·rw[run_eq L.aI rfl,oq];have f:drw ns p 4<=100000:=by lia
  have j:-100000<=drw ns p 4:=by lia
  have a:∀(k:Nat)(h:HH),ev (runN T G (m+2)) G HF [aa (.p (.int k)),aa (.p (.aD (c6 ns))),aa (.p (.int p))] h=aa (.p (.int (g k)),h):=λk h=>by have e:=(U k).2;simp[-fm,HF,V,e]
  have J:=comp_map (fN (λ_ h=>aa ([],h)) (ev (runN T G (m+2)) G HF) [aa (.p (.aD (c6 ns))),aa (.p (.int p))]) (λd=>match d with | .int k=>.int (g k.toNat)|_=>.aF) (upto 0 (drw ns p 4).toNat) h (by
   intro d b h;obtain ⟨k,r,rfl⟩:=v7 b;simp[fZ,a])
  have W:(drw ns p 4).toNat<=100000:=by lia
  rw[v8]at J;have B:(Vj (drw ns p 4).toNat).map (λ(k:Nat)=>match D.int (k:Int)with|.int k=>D.int (g k.toNat)|_=>.aF)=c6 ((Vj (drw ns p 4).toNat).map g):=by simp[c6,Function.comp_def]
  rw[B]at J;simp[V,j,f,J,kB,W,c7,iM]
def Eh:E:=.call "_law_row" (cX (.v 1) (.bin .add (.bin .add (.v 2) (.j (.int 10))) (.bin .mul (.j (.int 40)) (.v 0))) (.v 3))
structure Drawn(p:Pg):Prop where
 ok:Pg.ok p
 lo:1<=p.length
 hi:p.length<=9
def kC(n:Int)(o:Op):Pg:=[.ask .a,.call 4,.say (.nam .a),.jump 0,.put (.nam .a) (.num n),.call 7,.back,.set .b (.two o (.nam .b) (.nam .a)),.back]
def uB(n:Int)(o:Op)(h:Wth n):Drawn (kC n o):=by refine⟨?_,by simp[kC],by simp[kC]⟩;intro r q;simp only[kC,Xr,WX,or_false]at q;rcases q with rfl|rfl|rfl|rfl|rfl|rfl|rfl|rfl|rfl<;>simp[Rw.ok,kC,iX,Sm.ok,Sm.size,h]
def qy(L:Lw T)
(ns:List Int)(M:ns.length<=1000)(p:Int)
(D:∀ (m:Nat) (h:HH) (n:Int) (o:Op),drw ns (p+1) 4=0->n=drw ns (p+2) 9->dP (.aD [.str "add",.str "sub"]) (.int (drw ns (p+3) 2))=aa (.str o.w) →
  (∀m q many,0<many->∀h,runN T G (m+2) "_law_drawn" [.p (.aD (c6 ns)),.p (.int q),.p (.int many)] h=aa (.p (.int (drw ns q many)),h)) →
  runN T G (m+7) "_law_program" [.p (.aD (c6 ns)),.p (.int p)] h=aa (.p (eS (kC n o)),h))
(B:∀ (m:Nat) (h:HH) (pg:Pg),drw ns (p+1) 4≠0->pg.length=(1+drw ns p 9).toNat →
  (∀m q many,0<many->∀h,runN T G (m+2) "_law_drawn" [.p (.aD (c6 ns)),.p (.int q),.p (.int many)] h=aa (.p (.int (drw ns q many)),h)) →
  (∀h,dX (fN (λ_ h=>aa ([],h)) (ev (runN T G (m+6)) G Eh) [aa (.p (.aD (c6 ns))),aa (.p (.int p)),aa (.p (.int (1+drw ns p 9)))]) 1 (upto 0 (1+drw ns p 9).toNat) h=aa (pg.map Rw.enc,h)) →
  runN T G (m+7) "_law_program" [.p (.aD (c6 ns)),.p (.int p)] h=aa (.p (eS pg),h)):
 ∃pg:Pg,Drawn pg/\∀(m:Nat)(h:HH),runN T G (m+7) "_law_program" [.p (.aD (c6 ns)),.p (.int p)] h=aa (.p (eS pg),h):=by
 have U:=λm q many (W:0<many)=>gn (G:=G) L m ns M q many W
 by_cases c:drw ns (p+1) 4=0
 ·have i:=gi ns (p+3) (many:=2) (by decide);have f:=gj ns (p+3) (many:=2) (by decide);have s:=gi ns (p+2) (many:=9) (by decide);have e1:=gj ns (p+2) (many:=9) (by decide);have z:drw ns (p+3) 2=0\/drw ns (p+3) 2=1:=by lia
  have:∃o:Op,dP (.aD [.str "add",.str "sub"]) (.int (drw ns (p+3) 2))=aa (.str o.w):=by
   rcases z with z|z<;>rw[z]
   exact⟨.add,rfl⟩;exact⟨.sub,rfl⟩
  obtain⟨o,a⟩:=this;exact⟨kC (drw ns (p+2) 9) o,uB _ _ ⟨by lia,by lia⟩,λm h=>D m h _ o c rfl a U⟩
 ·have i:=gi ns p (many:=9) (by decide);have f:=gj ns p (many:=9) (by decide);obtain⟨sz,hsz⟩:∃sz:Nat,1+drw ns p 9=(sz:Int):=⟨(1+drw ns p 9).toNat,by lia⟩;have j:∀k:Nat,∃r:Rw,r.ok sz/\∀(m:Nat)(h:HH),runN T G (m+6) "_law_row" [.p (.aD (c6 ns)),.p (.int (p+10+40*(k:Int))),.p (.int sz)] h=aa (.p r.enc,h) :=
   λk=>HE L ns M _ sz
  obtain⟨g,O⟩:=Zj j;refine⟨(Vj sz).map g,⟨?_,by simp;lia,by simp;lia⟩,λm h=>B m h _ c (by simp;lia) U λh=>?_⟩
  ·intro r J;simp at J;obtain⟨k,_,rfl⟩:=J;simpa using (O k).1
  ·rw[hsz];have b:big 40=ah:=by decide
   have Y:∀(k:Nat)(h:HH),ev (runN T G (m+6)) G Eh [aa (.p (.int k)),aa (.p (.aD (c6 ns))),aa (.p (.int p)),aa (.p (.int sz))] h=aa (.p (g k).enc,h):=λk h=>by have e:=(O k).2;simp[Eh,e,b]
   have V:=comp_map (fN (λ_ h=>aa ([],h)) (ev (runN T G (m+6)) G Eh) [aa (.p (.aD (c6 ns))),aa (.p (.int p)),aa (.p (.int sz))]) (λd=>match d with | .int k=>(g k.toNat).enc|_=>.aF) (upto 0 sz) h (by
    intro d Z h;obtain ⟨k,l,rfl⟩:=v7 Z;simp[fZ,Y])
   rw[v8]at V;simp only[V1,Xj];rw[V];rfl
end
section
def prA:S:=(.seq (.set 3 (.aE (cX (.j (.str "put")) (.aE (cY (.j (.str "name")) (.j (.str "a")))) (.aE (cY (.j (.str "num")) (.call "_law_drawn" (cX (.v 0) (.bin .add (.v 1) (.j (.int 2))) (.j (.int 9))))))))) (.seq (.set 4 (.y (.aD ai (cY (.j (.str "add")) (.j (.str "sub")))) (.call "_law_drawn" (cX (.v 0) (.bin .add (.v 1) (.j (.int 3))) (.j (.int 2)))))) (.seq (.set 5 (.aE (cV (.aE (cY (.j (.str "ask")) (.j (.str "a")))) (.aE (cY (.j (.str "call")) (.j (.int 4)))) (.aE (cY (.j (.str "say")) (.aE (cY (.j (.str "name")) (.j (.str "a")))))) (.aE (cY (.j (.str "jump")) (.j (.int 0)))) (.v 3)))) (.ret (.bin .add (.v 5) (.aE (cW (.aE (cY (.j (.str "call")) (.j (.int 7)))) (.aE (cZ (.j (.str "back")))) (.aE (cX (.j (.str "set")) (.j (.str "b")) (.aE (cX (.v 4) (.aE (cY (.j (.str "name")) (.j (.str "b")))) (.aE (cY (.j (.str "name")) (.j (.str "a")))))))) (.aE (cZ (.j (.str "back")))))))))))
def prB:S:=(.ret (.bi .tuple ai (cZ (.comp ai .rng1 (cZ (.v 2)) ["_law_k"] [(0,"_law_script"),(1,"_law_at"),(2,"_law_size")] .nil Eh))))
theorem ja:fB=⟨["_law_script","_law_at"],["_law_script","_law_at","_law_size","_law_put","_law_sign","_law_rows"],
 (.seq (.set 2 (.bin .add (.j (.int 1)) (.call "_law_drawn" (.cons (.v 0) (.cons (.v 1) (.cons (.j (.int 9)) .nil))))))
 (.seq (.v (.z .eq (.call "_law_drawn" (.cons (.v 0) (.cons (.bin .add (.v 1) (.j (.int 1))) (.cons (.j (.int 4)) .nil)))) (.j (.int 0))) prA .nil)
 prB))⟩:=rfl
def v9(L:Lw T)(M:T "_law_program"=aa fB)(ns:List Int)(O:ns.length<=1000)(p:Int):
 ∃pg:Pg,Drawn pg/\∀(m:Nat)(h:HH),runN T G (m+7) "_law_program" [.p (.aD (c6 ns)),.p (.int p)] h=aa (.p (eS pg),h):=by
 refine qy L ns O p (λm h n o c V U D=>?_) (λm h pg c b D W=>?_)
 ·rw[run_eq M rfl];have d:=λq many B h=>D (m+4) q many B h;rw[ja];simp[-fm,prA,d,c,U,c7,eS,kC,Rw.enc,Sm.enc,←V,Nm.w]
 ·rw[run_eq M rfl];have d:=λq many B h=>D (m+4) q many B h;have f:=gi ns p (many:=9) (by decide);have e:=gj ns p (many:=9) (by decide);have a:-100000<=1+drw ns p 9:=by lia
  have Z:1+drw ns p 9<=100000:=by lia
  have Y:pg.length<=100000:=by lia
  have J:=W h;rw[ja];simp[-fN,prB,d,c,a,Z,Y,J,c7,eS,iM]
mutual
theorem mL:∀d:D,eqv d d=ah
 |.aF=>rfl
 |.bl b=>by simp
 |.int i=>by simp
 |.str x=>by simp
 |.aE q=>by simp[kU q]
 |.aD q=>by simp[kU q]
theorem kU:∀ds:List D,qV ds ds=ah
 |[]=>rfl
 |d::r=>by simp[mL d,kU r]
end
def mO(n:Nat)(xs:List Int):(c6 xs).all (dok n)=ah:=by simp[c6,Wi]
def qz(n:Nat)(xs:List Nat):(dh xs).all (dok n)=ah:=by simp[dh,Wi]
def ne_self(h:dok 100 x=ah):gI .ne x x=aa ai:=by rw[kL,bM (lF h),mL];rfl
@[simp]theorem L1(ds:List D):qV ds ds=ah:=kU ds
@[simp]theorem Nd(d:D):eqv d d=ah:=mL d
@[simp]theorem Nf(x:D)(xs:List Int):eB x (.aE (c6 xs))=ah:=lF (mO 99 xs)
@[simp]theorem Ng(x:D)(xs:List Nat):eB x (.aE (dh xs))=ah:=lF (qz 99 xs)
@[simp]theorem Pu(x:D)(xs ys:List Int):eB x (.aE [.aE (c6 xs),.aE (c6 ys)])=ah:=lF (by simp[mO])
def L3(xs ys:List Int):gI .ne (.aE [.aE (c6 xs),.aE (c6 ys)]) (.aE [.aE (c6 xs),.aE (c6 ys)])=aa ai:=ne_self (by simp[mO])
end
section
variable{T:FK->Option Fn}{G:aA->Option W}
end
section
variable{T:FK->Option Fn}{G:aA->Option W}
@[simp]theorem S9(st:St):qW st.enc (aa 1) (aa 3)=aa (.aE [.aE (c6 st.names),.aE (c6 st.cells)]):=rfl
end
def itr(p:Pg)(aI:List Int):Nat->St
 |0=>St.zero|n+1=>step p aI (itr p aI n)
structure Run(p:Pg)(aI:List Int)(most e:Nat):Prop where
 le:e<=most
 on:∀i,i<e->over p (itr p aI i)=ai
 last:e=most\/over p (itr p aI e)=ah
theorem Ei(p:Pg)(aI:List Int):∀(r j:Nat),∃e,e<=r/\sts p aI r (itr p aI j)=(Vj (e+1)).map (λi=>itr p aI (j+i))/\(∀i,i<e->over p (itr p aI (j+i))=ai)/\(e=r\/over p (itr p aI (j+e))=ah)
 |0,j=>⟨0,UT _,rfl,λi q=>bO q (Yo _),.inl rfl⟩
 |r+1,j=>by
  rw[sts]
  by_cases c:over p (itr p aI j)=ah
  ·rw[bM c];exact⟨0,VL _,rfl,λi q=>bO q (Yo _),.inr c⟩
  ·rw[bN c];obtain⟨e,M,J,D,B⟩:=Ei p aI r (j+1);have L:over p (itr p aI j)=ai:=by simpa using c
   refine⟨e+1,by lia,?_,λi q=>?_,?_⟩
   ·show itr p aI j::sts p aI r (itr p aI (j+1))=_;rw[J,Wy (n:=e+1),U8,Xj];congr 1;apply V9;intro i _;show itr p aI (j+1+i)=itr p aI (j+(i+1));congr 1;lia
   ·cases i with
    |zero=>exact L
    |succ i =>
     have:=D i (by lia);rw[show j+(i+1)=j+1+i by lia];exact this
   ·rcases B with B|B
    exact .inl (by lia);exact .inr (by rw[show j+(e+1)=j+1+e by lia];exact B)
def HG(p:Pg)(aI:List Int)(q:Nat):∃e,Run p aI q e/\sts p aI q St.zero=(Vj (e+1)).map (itr p aI):=by obtain⟨e,M,L,J,D⟩:=Ei p aI q 0;refine⟨e,⟨M,λi B=>by have:=J i B;simpa using this,by simpa using D⟩,?_⟩;have:sts p aI q St.zero=sts p aI q (itr p aI 0):=rfl;rw[this,L];apply V9;intro i _;simp
theorem iU(q:Pg.ok p)(B:Ask aI)(R:Run p aI most e):∀i,i<=e->At i (itr p aI i)
 |0,_=>HC|i+1,h=>zo q B (iU q B R i (by lia)) (R.on i (by lia))
structure Tp where
 p:Pg
 aI:List Int
 aM:Nat
 most:Nat
 aJ:List St
 far:Nat
 aK:St
 now:Nat
def Tp.fs(t:Tp)(r:Nat):List (aA×W):=[("program",.p (eS t.p)),("asked",.p (.aD (c6 t.aI))),("gap",.p (.int t.aM)),("most",.p (.int t.most)),("kept",.r r),("farthest",.p (.int t.far)),("front",.p t.aK.enc),("now",.p (.int t.now))]
section
variable(t:Tp)(r:Nat)
@[simp]theorem L4:eN "program" (t.fs r)=aa (.p (eS t.p)):=by simp[Tp.fs]
@[simp]theorem Pv:eN "asked" (t.fs r)=aa (.p (.aD (c6 t.aI))):=by simp[Tp.fs]
@[simp]theorem Tc:eN "gap" (t.fs r)=aa (.p (.int t.aM)):=by simp[Tp.fs]
@[simp]theorem QW:eN "most" (t.fs r)=aa (.p (.int t.most)):=by simp[Tp.fs]
@[simp]theorem HJ:eN "kept" (t.fs r)=aa (.r r):=by simp[Tp.fs]
@[simp]theorem Td:eN "farthest" (t.fs r)=aa (.p (.int t.far)):=by simp[Tp.fs]
@[simp]theorem Pw:eN "front" (t.fs r)=aa (.p t.aK.enc):=by simp[Tp.fs]
@[simp]theorem Te:eN "now" (t.fs r)=aa (.p (.int t.now)):=by simp[Tp.fs]
@[simp]theorem Tf:(t.fs r).length=8:=rfl
def HK(v:Nat):eV "gap" (.p (.int v)) (t.fs r)=({t with aM:=v}:Tp).fs r:=by simp[Tp.fs]
def Ej(q:Nat):eV "kept" (.r q) (t.fs r)=t.fs q:=by simp[Tp.fs]
def HL(v:Nat):eV "farthest" (.p (.int v)) (t.fs r)=({t with far:=v}:Tp).fs r:=by simp[Tp.fs]
def A5(v:St):eV "front" (.p v.enc) (t.fs r)=({t with aK:=v}:Tp).fs r:=by simp[Tp.fs]
def gE(h:(["program","asked","gap","most","kept","farthest","front","now"]:List String).contains m=ai):eN m (t.fs r)=af:=by simp only[List.contains_cons,List.contains_nil,YM,Bool.or_eq_false_iff,bV,ne_eq]at h;obtain⟨U,O,M,L,J,D,B,q⟩:=h;simp[Tp.fs,U,O,M,L,J,D,B,q]
end
structure TAt(h:HH)(n r:Nat)(t:Tp):Prop where
 ob:oat h n=aa (U7 "Tape",t.fs r)
 li:lat h r=aa (t.aJ.map St.enc)
def qA(e:oat h n=aa q):n<h.length:=by
 unfold oat at e;rcases Vd n h.length with z|z
 exact z;rw[U5 z]at e;exact gu e
def xV(e:lat h n=aa q):n<h.length:=by
 unfold lat at e;rcases Vd n h.length with z|z
 exact z;rw[U5 z]at e;exact gu e
def Jj(e:oat h n=aa q)(e':lat h r=aa xs):n≠r:=by
 rintro rfl
 unfold oat at e;unfold lat at e';cases g:h[n]? with
 |none=>rw[g]at e;exact gu e|some c=>rw[g]at e e';cases c<;>simp at e e'
def mP{h:HH}{n:Nat}(hn:n<h.length)(c:Cl):oat (h.set n c) n=pG c:=by unfold oat;rw[VB hn];rfl
def xW(hn:i≠n)(c:Cl):oat (h.set n c) i=oat h i:=by unfold oat;rw[Vm (VN hn)]
def Ek{h:HH}{n:Nat}(hn:n<h.length)(c:Cl):lat (h.set n c) n=oh c:=by unfold lat;rw[VB hn];rfl
def qB(hn:i≠n)(c:Cl):lat (h.set n c) i=lat h i:=by unfold lat;rw[Vm (VN hn)]
def L5(e:h'[i]?=h[i]?):lat h' i=lat h i:=by unfold lat;rw[e]
def El(e:h'[i]?=h[i]?):oat h' i=oat h i:=by unfold oat;rw[e]
def HM(hi:i<h.length):lat (h++g) i=lat h i:=L5 (UU hi)
def zA(hi:i<h.length):oat (h++g) i=oat h i:=El (UU hi)
structure Go(n:Nat)(h:HH)(r:Nat)(t:Tp)(h':HH)(r':Nat)(t':Tp):Prop where
 a:TAt h n r t
 b:TAt h' n r' t'
 len:(h'.length=h.length/\r'=r)\/(h.length<=r')
 le:h.length<=h'.length
 fr:∀i,i≠n->i≠r->i<h.length->h'[i]?=h[i]?
def Go.refl(a:TAt h n r t):Go n h r t h r t:=⟨a,a,.inl ⟨rfl,rfl⟩,UT _,λ_ _ _ _=>rfl⟩
def Go.trans(x:Go n h r t h1 r1 t1)(y:Go n h1 r1 t1 h2 r2 t2):Go n h r t h2 r2 t2:=by
 refine⟨x.a,y.b,?_,Vp x.le y.le,λi h1 h2 L=>?_⟩
 ·rcases x.len with⟨B,D⟩|B
  ·rcases y.len with⟨q,J⟩|q
   exact .inl ⟨q.trans B,J.trans D⟩;exact .inr (by lia)
  ·rcases y.len with⟨q,J⟩|q
   exact .inr (by lia);exact .inr (by have:=x.le;lia)
 ·have:i≠r1:=by
   rcases x.len with⟨B,D⟩|B
   rw[D];exact h2;lia
  rw[y.fr i h1 this (by have:=x.le;lia)];exact x.fr i h1 h2 L
def fC(x:Go n h r t h' r' t')(w:W):fin h w h'=aa (w,h'):=by
 unfold fin
 by_cases c:h'.length=h.length
 rw[bM c]
 ·rw[bN c];rw[bN];intro z;rcases x.len with⟨B,J⟩|B
  exact c B
  ·have hn:=qA x.a.ob;have e:h'[n]?=h[n]?:=by have q:=W3 (l:=h') hn;rw[z]at q;exact q.symm
   have e2:oat h' n=oat h n:=El e;rw[x.a.ob,x.b.ob]at e2;have D:=bU (λq:Option (aA×List (aA×W))=>q.bind λy=>eN "kept" y.2) e2;simp only[Wc,HJ,Wu,W.r.injEq]at D;have:=xV x.a.li;lia
def jb:Fn:=⟨["thing"],["thing"], (.ret (.and (.bi .isInt ai (cZ (.v 0))) (.not (.bi .isBool ai (cZ (.v 0))))))⟩
def iG:Fn:=⟨["self","program","asked","every","most"],["self","program","asked","every","most"], (.seq (.setf (.v 0) "program" (.v 1)) (.seq (.setf (.v 0) "asked" (.bi .list ai (cZ (.v 2)))) (.seq (.setf (.v 0) "gap" (.bi .max2 ai (cY (.v 3) (.j (.int 1))))) (.seq (.setf (.v 0) "most" (.bi .max2 ai (cY (.v 4) (.j (.int 0))))) (.seq (.setf (.v 0) "kept" (.aD ah (cZ (.call "begun" .nil)))) (.seq (.setf (.v 0) "farthest" (.j (.int 0))) (.seq (.setf (.v 0) "front" (.call "begun" .nil)) (.setf (.v 0) "now" (.j (.int 0))))))))))⟩
def jK:Fn:=⟨["self","moment"],["self","moment","state","step"], (.seq (.ex (.aH (.v 0) "check" (cZ (.v 1)))) (.seq (.set 2 (.y (.i (.v 0) "kept") (.bin .fdiv (.v 1) (.i (.v 0) "gap")))) (.seq (.for [(3,"step")] .rng1 (cZ (.bin .mod (.v 1) (.i (.v 0) "gap"))) (.set 2 (.aH (.v 0) "behind" (cZ (.v 2))))) (.ret (.v 2)))))⟩
def jc:Fn:=⟨["self"],["self"], (.seq (.ex (.aH (.v 0) "reach" (cZ (.i (.v 0) "most")))) (.ret (.i (.v 0) "farthest")))⟩
def gF:Fn:=⟨["self","state"],["self","state"], (.ret (.call "stepped" (cX (.i (.v 0) "program") (.i (.v 0) "asked") (.v 1))))⟩
def ff:Fn:=⟨["self","moment","state"],["self","moment","state"], (.ret (.or (.z .ge (.v 1) (.i (.v 0) "most")) (.call "is_over" (cY (.i (.v 0) "program") (.v 2)))))⟩
def gG:Fn:=⟨["self","state"],["self","state"], (.seq (.ex (.me .append (.i (.v 0) "kept") (cZ (.v 1)))) (.v (.z .gt (.bi .len ai (cZ (.i (.v 0) "kept"))) (.aG "MOST_MARKS")) (.seq (.setf (.v 0) "kept" (.stp ah 2 (.i (.v 0) "kept"))) (.augf (.v 0) "gap" .mul (.j (.int 2)))) .nil))⟩
def gS:Fn:=⟨["self","moment"],["self","moment"], (.j (.and (.z .lt (.i (.v 0) "farthest") (.v 1)) (.not (.aH (.v 0) "is_last" (cY (.i (.v 0) "farthest") (.i (.v 0) "front"))))) (.seq (.setf (.v 0) "front" (.aH (.v 0) "behind" (cZ (.i (.v 0) "front")))) (.seq (.augf (.v 0) "farthest" .add (.j (.int 1))) (.v (.z .eq (.bin .mod (.i (.v 0) "farthest") (.i (.v 0) "gap")) (.j (.int 0))) (.ex (.aH (.v 0) "keep" (cZ (.i (.v 0) "front")))) .nil))))⟩
def iy:Fn:=⟨["self","moment"],["self","moment"], (.seq (.v (.or (.not (.call "is_whole" (cZ (.v 1)))) (.or (.z .lt (.v 1) (.j (.int 0))) (.z .gt (.v 1) (.i (.v 0) "most")))) (.ret (.j (.bl ai))) .nil) (.seq (.ex (.aH (.v 0) "reach" (cZ (.v 1)))) (.ret (.z .le (.v 1) (.i (.v 0) "farthest")))))⟩
def fS:Fn:=⟨["self","moment"],["self","moment"], (.v (.not (.aH (.v 0) "has" (cZ (.v 1)))) .bad .nil)⟩
structure TpP(T:FK->Option Fn)(G:aA->Option W):Prop where
 prg:Prg T G
 is_whole:T "is_whole"=aa jb
 init:T (.m "Tape" "__init__")=aa iG
 behind:T (.m "Tape" "behind")=aa gF
 is_last:T (.m "Tape" "is_last")=aa ff
 keep:T (.m "Tape" "keep")=aa gG
 reach:T (.m "Tape" "reach")=aa gS
 has:T (.m "Tape" "has")=aa iy
 check:T (.m "Tape" "check")=aa fS
 at_:T (.m "Tape" "at")=aa jK
 MOST_MARKS:G "MOST_MARKS"=aa (.p (.int 8))
section
def jL(P:TpP T G)(k:Nat)(i:Int)(h:HH):runN T G (k+1) "is_whole" [.p (.int i)] h=aa (.p (.bl ah),h):=by rw[run_eq P.is_whole rfl];simp[jb,c7]
def iV(P:TpP T G)(k:Nat)(a:TAt h n r t)(B:Pg.ok t.p){st:St}(D:j<=5000)(q:At j st)(J:over t.p st=ai):runN T G (k+7) (.m "Tape" "behind") [.o n,.p st.enc] h=aa (.p (step t.p t.aI st).enc,h):=by rw[run_eq P.behind rfl];have s:=vY P.prg k t.p B t.aI st q.ok (q.small D) J;simp[gF,a.ob,s,c7]
def we(P:TpP T G)(k:Nat)(a:TAt h n r t)(q:Nat)(st:St):runN T G (k+2) (.m "Tape" "is_last") [.o n,.p (.int q),.p st.enc] h=aa (.p (.bl (decide (t.most<=q)||over t.p st)),h):=by
 rw[run_eq P.is_last rfl];have o:=vX P.prg k t.p st
 by_cases c:t.most<=q
 ·have B:(t.most:Int)<=(q:Int):=by lia
  simp[ff,a.ob,c,B,c7]
 ·have B:¬(t.most:Int)<=(q:Int):=by lia
  simp[ff,a.ob,o,c,B,c7]
def Em:Yb (Vt af af (aa 2) 9).1 (Vt af af (aa 2) 9).2.1 (Vt af af (aa 2) 9).2.2=[0,2,4,6,8]:=by decide +kernel
def L6(M W L V J U B O q:D):pT 2 [M,W,L,V,J,U,B,O,q]=[M,L,J,B,q]:=by show(Yb (Vt af af (aa 2) 9).1 (Vt af af (aa 2) 9).2.1 (Vt af af (aa 2) 9).2.2).filterMap _=_;rw[Em];rfl
noncomputable def Tp.keep(t:Tp)(st:St):Tp:=if t.aJ.length<8 then {t with aJ:=t.aJ++[st]}else {t with aJ:=(Vj 5).filterMap λi=>(t.aJ++[st])[2*i]?,aM:=2*t.aM}
def En(P:TpP T G)(k:Nat)(a:TAt h n r t)(I:t.aM<=100000)(H:t.aJ.length<=8)(st:St):
 ∃h' v,runN T G (k+1) (.m "Tape" "keep") [.o n,.p st.enc] h=aa (.p .aF,h')/\Go n h r t h' v (t.keep st):=by
 have z:=Jj a.ob a.li;have hn:=qA a.ob;have A:=xV a.li;have e1:lat (h.set r (Cl.l (t.aJ.map St.enc++[st.enc]))) r=aa (t.aJ.map St.enc++[st.enc]):=Ek A _;have e2:oat (h.set r (Cl.l (t.aJ.map St.enc++[st.enc]))) n=aa (U7 "Tape",t.fs r):=(xW z _).trans a.ob;have b:t.aJ.length<100000:=by lia
 by_cases c:t.aJ.length<8
 ·have Z:¬(8:Int)<(t.aJ.length:Int)+1:=by lia
  have B:Go n h r t (h.set r (Cl.l (t.aJ.map St.enc++[st.enc]))) r (t.keep st):=by refine⟨a,⟨?_,?_⟩,.inl ⟨by simp,rfl⟩,by simp,λi e Y d=>Vm (VN Y)⟩;rw[Tp.keep,bM c];exact e2;rw[Tp.keep,bM c,e1];simp
  refine⟨_,r,?_,B⟩;rw[run_eq P.keep rfl];have f:=fC B (.p .aF);simp[gG,a.ob,a.li,e1,e2,P.MOST_MARKS,rd,Z,b,f]
 ·have E:t.aJ.length=8:=by lia
  obtain⟨W,V,U,O,M,L,J,D,ek⟩:∃W V U O M L J D,t.aJ=[W,V,U,O,M,L,J,D]:=by
   match t.aJ,E with
   |[W,V,U,O,M,L,J,D],_=>exact⟨W,V,U,O,M,L,J,D,rfl⟩
  have ev:pT 2 (t.aJ.map St.enc++[st.enc])=((t.keep st).aJ).map St.enc:=by rw[Tp.keep,bN c,ek];exact L6 _ _ _ _ _ _ _ _ _
  have Z:(8:Int)<(t.aJ.length:Int)+1:=by lia
  have C:∀g:HH,oat ((h.set r (Cl.l (t.aJ.map St.enc++[st.enc])))++g) n=aa (U7 "Tape",t.fs r):=λg=>(zA (by simpa using hn)).trans e2;have s:(h.set r (Cl.l (t.aJ.map St.enc++[st.enc]))).length=h.length:=by simp
  have F:big (t.aM:Int)=ah:=by unfold big;exact bR (by lia)
  have B:Go n h r t ((h.set r (Cl.l (t.aJ.map St.enc++[st.enc]))++[Cl.l ((t.keep st).aJ.map St.enc)]).set n (.o "Tape" ((t.keep st).fs h.length))) h.length (t.keep st):=by
   have q:n<(h.set r (Cl.l (t.aJ.map St.enc++[st.enc]))++[Cl.l ((t.keep st).aJ.map St.enc)]).length:=by simp;lia
   refine⟨a,⟨mP q _,?_⟩,.inr (UT _),by simp,λi e Y d=>?_⟩
   ·rw[qB (VN (Vi hn))];have:=S6 (h.set r (Cl.l (t.aJ.map St.enc++[st.enc]))) (Cl.l ((t.keep st).aJ.map St.enc)) [];rw[s]at this;exact this
   rw[Vm (VN e),UU (by simpa using d),Vm (VN Y)]
  refine⟨_,_,?_,B⟩;rw[run_eq P.keep rfl];have f:=fC B (.p .aF);have k2:(t.keep st).fs h.length=({t with aM:=2*t.aM}:Tp).fs h.length:=by rw[Tp.keep,bN c];rfl
  have w:eV "gap" (.p (.int ((t.aM:Int)*2))) (t.fs h.length)=(t.keep st).fs h.length:=by rw[k2,←HK t h.length (2*t.aM)];congr 3;show(t.aM:Int)*2=((2*t.aM:Nat):Int);lia
  have q:n<(h.set r (Cl.l (t.aJ.map St.enc++[st.enc]))++[Cl.l ((t.keep st).aJ.map St.enc)]).length:=by simp;lia
  have j:=mP q (.o "Tape" (t.fs h.length));rw[J5]at j;have u:∀x y:Cl,((h.set r (Cl.l (t.aJ.map St.enc++[st.enc]))++[Cl.l ((t.keep st).aJ.map St.enc)]).set n x).set n y=(h.set r (Cl.l (t.aJ.map St.enc++[st.enc]))++[Cl.l ((t.keep st).aJ.map St.enc)]).set n y:=λx y=>by rw[aai]
  simp[gG,a.ob,a.li,e1,e2,C,s,P.MOST_MARKS,rd,Z,b,ev,Ej,j,F,w,u,f]
end
structure TI(t:Tp)(e gv:Nat):Prop where
 run:Run t.p t.aI t.most e
 ok:Pg.ok t.p
 ask:Ask t.aI
 g0:0<t.aM
 g1:t.aM<=1000
 m1:t.most<=1000
 far:t.far<=e
 aK:t.aK=itr t.p t.aI t.far
 len:t.aJ.length=t.far/t.aM+1
 l8:t.aJ.length<=8
 aJ:∀j,j<t.aJ.length->t.aJ[j]?=aa (itr t.p t.aI (j*t.aM))
 now:t.now<=t.far
 pw:∃j,t.aM=gv*2^j/\(0<j->8<=t.far/(t.aM/2))
structure Sm8(t t':Tp):Prop where
 p:t'.p=t.p
 aI:t'.aI=t.aI
 most:t'.most=t.most
 now:t'.now=t.now
def Sm8.refl(t:Tp):Sm8 t t:=⟨rfl,rfl,rfl,rfl⟩
def Sm8.trans{t u v:Tp}(x:Sm8 t u)(y:Sm8 u v):Sm8 t v:=⟨y.p.trans x.p,y.aI.trans x.aI,y.most.trans x.most,y.now.trans x.now⟩
def Tp.on(t:Tp):Tp:={t with aK:=step t.p t.aI t.aK,far:=t.far+1}
def Tp.nx(t:Tp):Tp:=if(t.far+1)%t.aM=0 then t.on.keep t.on.aK else t.on
def Eo{f g:Nat}(q:0<g)(c:¬(f+1)%g=0):(f+1)/g=f/g:=by
 have J:=Yp f g;have D:f%g<g:=Yq _ q;have e:f+1=g*(f/g)+(f%g+1):=by lia
 have B:f%g+1<g:=by
  rcases Vd (f%g+1) g with z|z
  exact z
  ·exfalso;apply c;have:f%g+1=g:=by lia
   rw[e,this,Nat.mul_add_mod,Nat.mod_self]
 rw[e,Nat.mul_add_div q,Nat.div_eq_of_lt B];lia
def Ep{f g:Nat}(q:0<g)(c:(f+1)%g=0):(f+1)/g=f/g+1/\(f/g+1)*g=f+1:=by
 have J:=Yp f g;have D:f%g<g:=Yq _ q;have B:f%g+1=g:=by
  rcases Vd (f%g+1) g with z|z
  ·exfalso;have e:f+1=g*(f/g)+(f%g+1):=by lia
   rw[e,Nat.mul_add_mod,Nat.mod_eq_of_lt z]at c;lia
  lia
 have e:f+1=(f/g+1)*g:=by rw[Nat.add_mul,W4 (f/g) g];lia
 exact⟨by rw[e,YO _ q],e.symm⟩
def TI.nx{t:Tp}{e Y:Nat}(I:TI t e Y)(h:t.far<e):TI t.nx e Y/\Sm8 t t.nx/\t.nx.far=t.far+1:=by
 have g0:=I.g0;have U:step t.p t.aI t.aK=itr t.p t.aI (t.far+1):=by rw[I.aK];rfl
 have mono:∀g:Nat,t.far/g<=(t.far+1)/g:=λg=>Yu (V0 _);unfold Tp.nx
 by_cases c:(t.far+1)%t.aM=0
 ·rw[bM c];obtain⟨l,b⟩:=Ep g0 c;have M:t.on.aK=itr t.p t.aI (t.far+1):=U;have Z:∀j,j<t.aJ.length+1->(t.aJ++[itr t.p t.aI (t.far+1)])[j]?=aa (itr t.p t.aI (j*t.aM)):=λj B=>by
   rcases Vd j t.aJ.length with z|z
   rw[UU z];exact I.aJ j z
   ·have f:j=t.aJ.length:=by lia
    subst f;rw[Vk (UT _),aas];have:t.aJ.length*t.aM=t.far+1:=by rw[I.len];exact b
    rw[this];rfl
  unfold Tp.keep
  by_cases d:t.aJ.length<8
  ·have J:t.on.aJ.length<8:=d;rw[bM J];refine⟨⟨I.run,I.ok,I.ask,g0,I.g1,I.m1,h,U,?_,?_,λj B=>?_,?_,?_⟩,⟨rfl,rfl,rfl,rfl⟩,rfl⟩
   ·show(t.aJ++[t.on.aK]).length=(t.far+1)/t.aM+1;rw[l,U9,I.len];rfl
   ·show(t.aJ++[t.on.aK]).length<=8;rw[U9];simp;lia
   ·have D:j<t.aJ.length+1:=by
     have:(t.aJ++[t.on.aK]).length=t.aJ.length+1:=by simp
     rw[←this];exact B
    show(t.aJ++[t.on.aK])[j]?=aa (itr t.p t.aI (j*t.aM));rw[M];exact Z j D
   show t.now<=t.far+1;have:=I.now;lia
   ·obtain⟨j,O,V⟩:=I.pw;exact⟨j,O,λB=>Vp (V B) (mono _)⟩
  ·have J:¬t.on.aJ.length<8:=d;rw[bN J];have l8:t.aJ.length=8:=by have:=I.l8;lia
   have a:t.far+1=8*t.aM:=by rw[←b,←I.len,l8]
   have le:=I.run.le;have m1:=I.m1;have L:∀i,i<5->(t.aJ++[itr t.p t.aI (t.far+1)])[2*i]?=aa (itr t.p t.aI (i*(2*t.aM))):=λi m=>by rw[Z (2*i) (by lia)];congr 2;rw[W4 2 i,Nat.mul_assoc]
   have W:(Vj 5).filterMap (λi=>(t.aJ++[t.on.aK])[2*i]?)=(Vj 5).map λi=>itr t.p t.aI (i*(2*t.aM)):=by rw[M,show Vj 5=[0,1,2,3,4] from rfl];simp only[Vs,List.filterMap_nil,L 0 (by decide),L 1 (by decide),L 2 (by decide),L 3 (by decide),L 4 (by decide),U8,Wk]
   have k:(t.far+1)/(2*t.aM)=4:=by rw[a,show 8*t.aM=4*(2*t.aM) by lia];exact YO _ (by lia)
   refine⟨⟨I.run,I.ok,I.ask,?_,?_,I.m1,h,U,?_,?_,λj B=>?_,?_,?_⟩,⟨rfl,rfl,rfl,rfl⟩,rfl⟩;show 0<2*t.aM;lia;show 2*t.aM<=1000;lia
   ·show((Vj 5).filterMap λi=>(t.aJ++[t.on.aK])[2*i]?).length=(t.far+1)/(2*t.aM)+1;rw[W,k];simp
   ·show((Vj 5).filterMap λi=>(t.aJ++[t.on.aK])[2*i]?).length<=8;rw[W];simp
   ·have D:j<5:=by have q:j<((Vj 5).filterMap λi=>(t.aJ++[t.on.aK])[2*i]?).length:=B;rw[W]at q;simpa using q
    show((Vj 5).filterMap λi=>(t.aJ++[t.on.aK])[2*i]?)[j]?=aa (itr t.p t.aI (j*(2*t.aM)));rw[W,Vh,WZ D];rfl
   show t.now<=t.far+1;have:=I.now;lia
   ·obtain⟨j,O,V⟩:=I.pw;refine⟨j+1,?_,λ_=>?_⟩
    ·show 2*t.aM=Y*2^(j+1);rw[O,Nat.pow_succ];rw[W4 2,Nat.mul_assoc]
    ·show 8<=(t.far+1)/(2*t.aM/2);rw[Nat.mul_div_cancel_left _ (by lia:0<2),a,YO _ g0];exact UT _
 ·rw[bN c];refine⟨⟨I.run,I.ok,I.ask,g0,I.g1,I.m1,h,U,?_,I.l8,I.aJ,?_,?_⟩,⟨rfl,rfl,rfl,rfl⟩,rfl⟩
  ·show t.aJ.length=(t.far+1)/t.aM+1;rw[I.len,Eo g0 c]
  show t.now<=t.far+1;have:=I.now;lia
  ·obtain⟨j,O,V⟩:=I.pw;exact⟨j,O,λB=>Vp (V B) (mono _)⟩
section
variable{T:FK->Option Fn}{G:aA->Option W}
def rcC:E:=(.and (.z .lt (.i (.v 0) "farthest") (.v 1)) (.not (.aH (.v 0) "is_last" (cY (.i (.v 0) "farthest") (.i (.v 0) "front")))))
def rcB:S:=(.seq (.setf (.v 0) "front" (.aH (.v 0) "behind" (cZ (.i (.v 0) "front")))) (.seq (.augf (.v 0) "farthest" .add (.j (.int 1))) (.v (.z .eq (.bin .mod (.i (.v 0) "farthest") (.i (.v 0) "gap")) (.j (.int 0))) (.ex (.aH (.v 0) "keep" (cZ (.i (.v 0) "front")))) .nil)))
def sC(t:Tp)(r:Nat):eN "is_last" (t.fs r)=af:=gE t r rfl
def jn(t:Tp)(r:Nat):eN "behind" (t.fs r)=af:=gE t r rfl
def L7(t:Tp)(r:Nat):eN "keep" (t.fs r)=af:=gE t r rfl
def uC(t:Tp)(r:Nat):eN "reach" (t.fs r)=af:=gE t r rfl
def Jk(t:Tp)(r:Nat):eN "has" (t.fs r)=af:=gE t r rfl
def jM(t:Tp)(r:Nat):eN "check" (t.fs r)=af:=gE t r rfl
def HN(t:Tp)(r:Nat):eN "at" (t.fs r)=af:=gE t r rfl
def Px(t:Tp)(r:Nat):eN "end" (t.fs r)=af:=gE t r rfl
def Py{n r:Nat}{t:Tp}{h:HH}(a:TAt h n r t)(t':Tp)(k:t'.aJ=t.aJ):Go n h r t (h.set n (.o "Tape" (t'.fs r))) r t':=by have hn:=qA a.ob;have q:=Jj a.ob a.li;exact⟨a,⟨mP hn _,by rw[qB (VN q),k];exact a.li⟩,.inl ⟨by simp,rfl⟩,by simp,λi B _ _=>Vm (VN B)⟩
def HP(P:TpP T G)(k:Nat){n r:Nat}{t:Tp}{h:HH}{e g:Nat}(a:TAt h n r t)(I:TI t e g)(d:t.far<e)(w:W):
 ∃h' U,evS (runN T G (k+7)) G rcB [aa (.o n),aa w] h=aa (.nx [aa (.o n),aa w] h')/\Go n h r t h' U t.nx:=by
 have hn:=qA a.ob;have J:=iU I.ok I.ask I.run t.far (by lia);have le:=I.run.le;have m1:=I.m1;have m:=iV P k a I.ok (j:=t.far) (st:=t.aK) (by lia) (by rw[I.aK];exact J) (by rw[I.aK];exact I.run.on _ d);have q:=Py a t.on rfl;have e1:oat (h.set n (.o "Tape" (({t with aK:=step t.p t.aI t.aK}:Tp).fs r))) n=aa (U7 "Tape",({t with aK:=step t.p t.aI t.aK}:Tp).fs r):=mP hn _;have V:=A5 t r (step t.p t.aI t.aK);have Y:eV "farthest" (.p (.int ((t.far:Int)+1))) (({t with aK:=step t.p t.aI t.aK}:Tp).fs r)=t.on.fs r:=HL ({t with aK:=step t.p t.aI t.aK}:Tp) r (t.far+1);have e2:oat (h.set n (.o "Tape" (t.on.fs r))) n=aa (U7 "Tape",t.on.fs r):=mP hn _;have g0:(0:Int)<(t.aM:Int):=by have:=I.g0;lia
 have M:∀x y:Cl,(h.set n x).set n y=h.set n y:=λx y=>by rw[aai]
 have of:t.on.far=t.far+1:=rfl;have L:t.on.aM=t.aM:=rfl;have B:evS (runN T G (k+7)) G rcB [aa (.o n),aa w] h=evS (runN T G (k+7)) G (.v (.z .eq (.bin .mod (.i (.v 0) "farthest") (.i (.v 0) "gap")) (.j (.int 0))) (.ex (.aH (.v 0) "keep" (.cons (.i (.v 0) "front") .nil))) .nil) [aa (.o n),aa w] (h.set n (.o "Tape" (t.on.fs r))):=by rw[rcB];simp[a.ob,m,jn,V,e1,Y,M]
 rw[B];unfold Tp.nx;have s:(((t.far+1)%t.aM:Nat):Int)=((t.far:Int)+1)%(t.aM:Int):=by simp
 by_cases c:(t.far+1)%t.aM=0
 ·rw[bM c];have D:((t.far:Int)+1)%(t.aM:Int)=0:=by lia
  obtain⟨f,O,Z,k2⟩:=En P (k+6) q.b (by show t.aM<=100000;have:=I.g1;lia) (by show t.aJ.length<=8;exact I.l8) t.on.aK;refine⟨f,O,?_,q.trans k2⟩;simp[e2,of,L,g0,I.g0,D,L7,Z]
 ·rw[bN c];have D:¬((t.far:Int)+1)%(t.aM:Int)=0:=by lia
  refine⟨_,r,?_,q⟩;have l:(((t.far:Int)+1)%(t.aM:Int)==0)=ai:=by simpa using D
  simp[e2,of,L,g0,I.g0,l]
def oW(P:TpP T G)(k:Nat){n r:Nat}{t:Tp}{h:HH}{e J:Nat}(a:TAt h n r t)(I:TI t e J)(m:Nat):
 aO (runN T G (k+7)) G rcC [aa (.o n),aa (.p (.int m))] h=aa (.p (.bl (decide (t.far<min m e))),h):=by
 have B:=we P (k+5) a t.far t.aK;have le:=I.run.le
 by_cases c:t.far<m
 ·have D:(t.far:Int)<(m:Int):=by lia
  by_cases M:t.far<e
  ·have o:over t.p t.aK=ai:=by rw[I.aK];exact I.run.on _ M
   have q:(decide (t.most<=t.far)||over t.p t.aK)=ai:=by rw[o,YM];exact bQ (by lia)
   rw[q]at B;have d:decide (t.far<min m e)=ah:=bR (by lia);rw[d];simp[rcC,a.ob,D,c,sC,B]
  ·have L:t.far=e:=by have:=I.far;lia
   have q:(decide (t.most<=t.far)||over t.p t.aK)=ah:=by
    rcases I.run.last with z|z
    rw[bR (by lia)];rfl;rw[I.aK,L,z,Bool.or_true]
   rw[q]at B;have d:decide (t.far<min m e)=ai:=bQ (by lia);rw[d];simp[rcC,a.ob,D,c,sC,B]
 ·have D:¬(t.far:Int)<(m:Int):=by lia
  have d:decide (t.far<min m e)=ai:=bQ (by lia);rw[d];simp[rcC,a.ob,D,c]
def HQ(P:TpP T G)(k:Nat)(n:Nat)(e B m:Nat):∀(d f:Nat)(h:HH)(r:Nat)(t:Tp),TAt h n r t->TI t e B->min m e-t.far<=d->d<=f →
 ∃h' V t',gA (aO (runN T G (k+7)) G rcC) (evS (runN T G (k+7)) G rcB) (f+1) [aa (.o n),aa (.p (.int m))] h=aa (.nx [aa (.o n),aa (.p (.int m))] h')/\Go n h r t h' V t'/\TI t' e B/\Sm8 t t'/\t'.far=max t.far (min m e):=by
 intro d
 induction d with
 |zero =>
  intro f h r t a I Z Y;have q:=oW P k a I m;rw[bQ (by lia)]at q;refine⟨h,r,t,?_,.refl a,I,.refl t,by lia⟩;rw[gA,q,j6,ng]
 |succ d W =>
  intro f h r t a I Z Y
  by_cases c:t.far<min m e
  ·have q:=oW P k a I m;rw[bR c]at q;obtain⟨i,U,s,D⟩:=HP P k a I (by lia) (.p (.int m));obtain⟨v,M,x⟩:=I.nx (by lia);cases f with
   |zero=>lia
   |succ f =>
    obtain⟨g,O,J,l,j,u,L,w⟩:=W f i U t.nx D.b v (by lia) (by lia);refine⟨g,O,J,?_,D.trans j,u,M.trans L,by lia⟩;rw[gA,q,j6,tQ,s,fO,l]
  ·have q:=oW P k a I m;rw[bQ c]at q;refine⟨h,r,t,?_,.refl a,I,.refl t,by lia⟩;rw[gA,q,j6,ng]
theorem nY:gS=⟨["self","moment"],["self","moment"],.j rcC rcB⟩:=rfl
inductive Pz(x:Option (W×HH))(c:Option Nat->D)(F:Option Nat->Prop)(n:Nat)(h:HH)(r:Nat)(t:Tp)(e gv:Nat):Prop
 |mk(o:Option Nat)(h':HH)(B:Nat)(t':Tp)(q:x=aa (.p (c o),h'))(f:F o)(g:Go n h r t h' B t')(i:TI t' e gv)(m:Sm8 t t'):Pz x c F n h r t e gv
inductive wg{α:Type}(x:Option (α×HH))(y:α)(n:Nat)(h:HH)(r:Nat)(t:Tp)(e gv:Nat):Prop
 |mk(h':HH)(B:Nat)(t':Tp)(q:x=aa (y,h'))(g:Go n h r t h' B t')(i:TI t' e gv)(m:Sm8 t t'):wg x y n h r t e gv
inductive rC{α:Type}(x:Option (α×HH))(y:α)(n:Nat)(h:HH)(r:Nat)(t:Tp)(e gv f:Nat):Prop
 |mk(h':HH)(B:Nat)(t':Tp)(q:x=aa (y,h'))(g:Go n h r t h' B t')(i:TI t' e gv)(m:Sm8 t t')(a:t'.far=f):rC x y n h r t e gv f
def sD(P:TpP T G)(k:Nat){n r:Nat}{t:Tp}{h:HH}{e q:Nat}(a:TAt h n r t)(I:TI t e q)(m:Nat):
 rC (runN T G (k+8) (.m "Tape" "reach") [.o n,.p (.int m)] h) (.p .aF) n h r t e q (max t.far (min m e)):=by
 have le:=I.run.le;have m1:=I.m1;obtain⟨J,D,B,b,g,L,s,f⟩:=HQ P k n e q m 99999 99999 h r t a I (by lia) (UT _);refine⟨J,D,B,?_,g,L,s,f⟩;rw[run_eq P.reach rfl,nY];have fn:=fC g (.p .aF);simp[turns,b,fn]
def HR(P:TpP T G)(k:Nat){n r:Nat}{t:Tp}{h:HH}{e B:Nat}(a:TAt h n r t)(I:TI t e B)(m:Nat)(U:m<=t.most):
 rC (runN T G (k+9) (.m "Tape" "has") [.o n,.p (.int m)] h) (.p (.bl (decide (m<=e)))) n h r t e B (max t.far (min m e)):=by
 obtain⟨J,D,q,b,g,O,s,f⟩:=sD P k a I m;refine⟨J,D,q,?_,g,O,s,f⟩;rw[run_eq P.has rfl];have w:=jL P (k+7) m;have M:¬((m:Int)<0):=by lia
 have L:¬((t.most:Int)<(m:Int)):=by lia
 have fn:=λw=>fC g w;have far:=I.far;have d:decide ((m:Int)<=(q.far:Int))=decide (m<=e):=by
  by_cases c:m<=e
  rw[bR c];exact bR (by lia);rw[bQ c];exact bQ (by lia)
 simp[iy,w,M,a.ob,L,uC,b,g.b.ob,fn];simpa using d
def iK(P:TpP T G)(k:Nat){n r:Nat}{t:Tp}{h:HH}{e B:Nat}(a:TAt h n r t)(I:TI t e B)(m:Nat)(q:m<=e):
 rC (runN T G (k+10) (.m "Tape" "check") [.o n,.p (.int m)] h) (.p .aF) n h r t e B (max t.far m):=by
 obtain⟨L,J,D,b,g,M,s,f⟩:=HR P k a I m (Vp q I.run.le);rw[bR q]at b;refine⟨L,J,D,?_,g,M,s,by lia⟩;rw[run_eq P.check rfl];have fn:=fC g (.p .aF);simp[fS,a.ob,Jk,b,fn]
def atB:S:=(.set 2 (.aH (.v 0) "behind" (cZ (.v 2))))
theorem zB(P:TpP T G)(k:Nat){n r:Nat}{t:Tp}{h:HH}{e U:Nat}(a:TAt h n r t)(I:TI t e U)(B:W):∀(q j:Nat)(x:Option W)(lo:Int),j+q<=e →
 ∃D,dW (evS (runN T G (k+7)) G atB) [(3,"step")] (upto lo q) [aa (.o n),aa B,aa (.p (itr t.p t.aI j).enc),x] h=aa (.nx [aa (.o n),aa B,aa (.p (itr t.p t.aI (j+q)).enc),D] h)
 |0,j,x,lo,_=>⟨x,rfl⟩
 |q+1,j,x,lo,hj=>by
  have le:=I.run.le;have m1:=I.m1;obtain⟨D,b⟩:=zB P k a I B q (j+1) (aa (.p (.int lo))) (lo+1) (by lia);refine⟨D,?_⟩;have J:=iV P k a I.ok (j:=j) (st:=itr t.p t.aI j) (by lia) (iU I.ok I.ask I.run j (by lia)) (I.run.on j (by lia));have L:upto lo (q+1)=.int lo::upto (lo+1) q:=by unfold upto;rw[Wy,U8,Xj];simp only[X8,aau,Wv,true_and];apply V9;intro i _;simp;lia
  rw[L];have M:step t.p t.aI (itr t.p t.aI j)=itr t.p t.aI (j+1):=rfl;rw[M]at J;have V:j+1+q=j+(q+1):=by lia
  rw[V]at b;have O:evS (runN T G (k+7)) G atB [aa (.o n),aa B,aa (.p (itr t.p t.aI j).enc),aa (.p (.int lo))] h=aa (.nx [aa (.o n),aa B,aa (.p (itr t.p t.aI (j+1)).enc),aa (.p (.int lo))] h):=by simp[atB,a.ob,jn,J]
  simp[O,b]
theorem Er:jK=⟨["self","moment"],["self","moment","state","step"],(.seq (.ex (.aH (.v 0) "check" (.cons (.v 1) .nil)))
 (.seq (.set 2 (.y (.i (.v 0) "kept") (.bin .fdiv (.v 1) (.i (.v 0) "gap"))))
 (.seq (.for [(3,"step")] .rng1 (.cons (.bin .mod (.v 1) (.i (.v 0) "gap")) .nil) atB)
 (.ret (.v 2)))))⟩:=rfl
def at_of(P:TpP T G)(k:Nat){n r L:Nat}{t t':Tp}{h h':HH}{e U:Nat}(a:TAt h n r t)(m:Nat)(d:m<=e)(b:runN T G (k+10) (.m "Tape" "check") [.o n,.p (.int m)] h=aa (.p .aF,h'))(g:Go n h r t h' L t')(q:TI t' e U)(s:Sm8 t t')(f:t'.far=max t.far m):
 runN T G (k+11) (.m "Tape" "at") [.o n,.p (.int m)] h=aa (.p (itr t.p t.aI m).enc,h'):=by
 rw[run_eq P.at_ rfl,Er];have fn:=λw=>fC g w;have g0:=q.g0;have g1:=q.g1;have dm:=Yp m t'.aM;have Z:=Yq m g0;have M:m/t'.aM<t'.aJ.length:=by rw[q.len];have:m/t'.aM<=t'.far/t'.aM:=Yu (by lia);lia
 have D:=q.aJ _ M;have le:=q.run.le;have m1:=q.m1;rw[s.p,s.aI]at D;have O:(0:Int)<(t'.aM:Int):=by lia
 have V:(t'.aM:Int)<1073741824:=by lia
 have e1:(m:Int)/(t'.aM:Int)=((m/t'.aM:Nat):Int):=by simp
 have e2:(m:Int)%(t'.aM:Int)=((m%t'.aM:Nat):Int):=by simp
 have ix:dP (.aD (t'.aJ.map St.enc)) (.int ((m/t'.aM:Nat):Int))=aa (itr t.p t.aI (m/t'.aM*t'.aM)).enc:=by show atP _ _=_;rw[gR,Vh,D];rfl
 obtain⟨Y,B⟩:=zB P (k+3) g.b q (.p (.int m)) (m%t'.aM) (m/t'.aM*t'.aM) af 0 (by rw[W4];lia);rw[s.p,s.aI]at B;have W:m/t'.aM*t'.aM+m%t'.aM=m:=by rw[W4];exact dm
 rw[W]at B;have J:gW .rng1 [.int ((m%t'.aM:Nat):Int)]=aa (upto 0 (m%t'.aM)):=by
  rw[jk];have c:((-100000<=(((m%t'.aM:Nat):Int)):Bool)&&(((m%t'.aM:Nat):Int)<=100000:Bool))=ah:=by simp only[UQ,bP];lia
  rw[bM c];rfl
 simp[-fm,-jk,-Int.natCast_ediv,-Int.natCast_emod,a.ob,jM,b,g.b.ob,g.b.li,rd,O,g0,V,e1,e2,ix,J,iM,B,fn]
def xX(P:TpP T G)(k:Nat){n r:Nat}{t:Tp}{h:HH}{e B:Nat}(a:TAt h n r t)(I:TI t e B)(m:Nat)(q:m<=e):
 rC (runN T G (k+11) (.m "Tape" "at") [.o n,.p (.int m)] h) (.p (itr t.p t.aI m).enc) n h r t e B (max t.far m):=by
 obtain⟨M,L,J,b,g,D,s,f⟩:=iK P k a I m q;exact⟨M,L,J,at_of P k a m q b g D s f,g,D,s,f⟩
end
noncomputable def longer(p:Pg):Pg:=p++[.stop,.say (.num 5)]
def Et(n:Nat)(st:St):dok (n+2) st.enc=ah:=by simp[St.enc,yy,mO,qz]
def HS(L:List St):dok 100 (.aD (L.map St.enc))=ah:=by rw[yz,Wi];intro d q;simp at q;obtain⟨st,_,rfl⟩:=q;exact Et 97 st
@[simp]theorem QX(x:D)(st:St):eB x st.enc=ah:=lF (Et 98 st)
@[simp]theorem PB(x:D)(L:List St):eB x (.aD (L.map St.enc))=ah:=lF (HS L)
section
variable{T:FK->Option Fn}{G:aA->Option W}
@[simp]theorem Tg(st:St):qW st.enc (aa 3) af=aa (.aE [.aE (dh st.calls),.int st.aI,.aE (c6 st.said)]):=rfl
section
variable{F:FK->List W->HH->Option (W×HH)}
end
end
section
def Eu(i:Nat)(hi:i<h.length)(B:h'[i]?≠h[i]?)(w:W):fin h w h'=aa (w,h'):=by
 unfold fin
 by_cases c:h'.length=h.length
 rw[bM c]
 ·rw[bN c,bN];intro z;apply B;have q:=W3 (l:=h') hi;rw[z]at q;exact q.symm
def Tp.new(p:Pg)(aI:List Int)(ev q:Nat):Tp:=⟨p,aI,ev,q,[St.zero],0,St.zero,0⟩
def Ew(P:TpP T G)(k:Nat)(p:Pg)(aI:List Int)(ev q:Nat)(M:1<=ev)(h:HH):
 runN T G (k+2) (.m "Tape" "__init__") [.o h.length,.p (eS p),.p (.aD (c6 aI)),.p (.int ev),.p (.int q)] (h++[.o "Tape" []])=aa (.p .aF,h++[.o "Tape" ((Tp.new p aI ev q).fs (h.length+1)),.l [St.zero.enc]]):=by
 rw[run_eq P.init rfl];have b:=sy P.prg k;have L:(if(1:Int)>(ev:Int)then(1:Int)else(ev:Int))=(ev:Int):=bN (by lia);have J:(if(0:Int)>(q:Int)then(0:Int)else(q:Int))=(q:Int):=bN (by lia);have f:∀(c:Cl)(g:HH)(w:W),c≠.o "Tape" []->fin (h++[.o "Tape" []]) w (h++c::g)=aa (w,h++c::g):=λc g w D=>by refine Eu h.length (by simp) ?_ w;simp;exact D
 have B:=f (.o "Tape" ((Tp.new p aI ev q).fs (h.length+1))) [.l [St.zero.enc]] (.p .aF) (by simp[Tp.fs]);have fs:(Tp.new p aI ev q).fs (h.length+1)=([("program",.p (eS p)),("asked",.p (.aD (c6 aI))),("gap",.p (.int ev)),("most",.p (.int q)),("kept",.r (h.length+1)),("farthest",.p (.int 0)),("front",.p St.zero.enc),("now",.p (.int 0))]:List (aA×W)):=by simp[Tp.fs,Tp.new]
 rw[fs]at B⊢;rw[iG];simp only[ji,U8,Wk,Va,Wa];simp[L,J,b,B]
def L8{ev:Nat}(q:Pg.ok p)(D:Ask aI)(R:Run p aI most e)(h1:1<=ev)(h2:ev<=1000)(J:most<=1000):TI (Tp.new p aI ev most) e ev :=
 ⟨R,q,D,h1,h2,J,VL _,rfl,by simp[Tp.new],by simp[Tp.new],λj B=>by
  have:j=0:=by simpa [Tp.new]using B
  subst this;simp[Tp.new,itr],VL _,⟨0,by simp[Tp.new],λz=>bO z (VR _)⟩⟩
def Ma(h:HH)(p:Pg)(aI:List Int)(ev q:Nat):TAt (h++[.o "Tape" ((Tp.new p aI ev q).fs (h.length+1)),.l [St.zero.enc]]) h.length (h.length+1) (Tp.new p aI ev q) :=
 ⟨by simp,by simp[Tp.new]⟩
def TAt.app(a:TAt h n r t):TAt (h++g) n r t:=⟨(zA (qA a.ob)).trans a.ob,(HM (xV a.li)).trans a.li⟩
end
noncomputable def ltC:E:=(.and (.z .isN (.v 3) (.j .aF)) (.z .ge (.v 1) (.j (.int 0))))
def ltB:S:=(.seq (.set 4 (.bin .sub (.v 1) (.bin .mod (.v 1) (.i (.v 0) "gap")))) (.seq (.set 3 (.aH (.v 0) "last_between" (cX (.v 4) (.v 1) (.v 2)))) (.set 1 (.bin .sub (.v 4) (.j (.int 1))))))
def fX:Fn:=⟨["self","moment","test"],["self","moment","test","found","mark"], (.seq (.ex (.aH (.v 0) "check" (cZ (.v 1)))) (.seq (.set 3 (.j .aF)) (.seq (.j ltC ltB) (.ret (.v 3)))))⟩
def lbB:S:=(.seq (.v (.z .gt (.v 6) (.v 1)) (.set 4 (.aH (.v 0) "behind" (cZ (.v 4)))) .nil) (.v (.callv 3 (cZ (.v 4))) (.set 5 (.v 6)) .nil))
def ef:Fn:=⟨["self","mark","moment","test"],["self","mark","moment","test","state","found","number"], (.seq (.set 4 (.y (.i (.v 0) "kept") (.bin .fdiv (.v 1) (.i (.v 0) "gap")))) (.seq (.set 5 (.j .aF)) (.seq (.for [(6,"number")] .rng2 (cY (.v 1) (.bin .add (.v 2) (.j (.int 1)))) lbB) (.ret (.v 5)))))⟩
structure TpB(T:FK->Option Fn):Prop where
 last:T (.m "Tape" "last_to")=aa fX
 betw:T (.m "Tape" "last_between")=aa ef
noncomputable def jN:Option Nat->D
 |none=>.aF|some j=>.int j
@[simp]theorem Mb:jN af=.aF:=rfl
@[simp]theorem Ti(j:Nat):jN (aa j)=.int j:=rfl
structure FL(g:Nat->Bool)(a b:Nat)(o:Option Nat):Prop where
 yes:∀j,o=aa j->a<=j/\j<=b/\g j=ah/\∀i,j<i->i<=b->g i=ai
 no:o=af->∀i,a<=i->i<=b->g i=ai
section
def Tst(T:FK->Option Fn)(G:aA->Option W)(n:Nat)(t:Tp)(q:FK)(D:List Cp)(g:Nat->Bool)(e:Nat):Prop :=
 ∀k h r B,TAt h n r B->Sm8 t B->∀i,i<=e->runN T G (k+10) q (.p (itr t.p t.aI i).enc::D.map Cp.w) h=aa (.p (.bl (g i)),h)
def Ex(t:Tp)(r:Nat):eN "last_to" (t.fs r)=af:=gE t r rfl
def Mc(t:Tp)(r:Nat):eN "last_between" (t.fs r)=af:=gE t r rfl
def qC(lo:Int)(q:Nat):upto lo (q+1)=.int lo::upto (lo+1) q:=by unfold upto;rw[Wy,U8,Xj];simp only[X8,aau,Wv,true_and];apply V9;intro i _;simp;lia
theorem zC(P:TpP T G)(k:Nat)(A:TAt h n r t)(I:TI t e gv)(L:Sm8 t0 t){E:Nat}(f:Tst T G n t0 q cs g E)(a:Nat)(B:W):∀(c j:Nat)(o:Option Nat)(x:Option W),a<=j->j+c<=e->j+c<=E->FL g a j o →
 ∃o' U,dW (evS (runN T G (k+10)) G lbB) [(6,"number")] (upto ((j+1:Nat):Int) c) [aa (.o n),aa (.p (.int a)),aa B,aa (.c q cs),aa (.p (itr t.p t.aI j).enc),aa (.p (jN o)),x] h =
  aa (.nx [aa (.o n),aa (.p (.int a)),aa B,aa (.c q cs),aa (.p (itr t.p t.aI (j+c)).enc),aa (.p (jN o')),U] h)/\FL g a (j+c) o'
 |0,j,o,x,_,_,_,F=>⟨o,x,rfl,F⟩
 |c+1,j,o,x,h1,h2,h2',F=>by
  have le:=I.run.le;have m1:=I.m1;have J:=f k h r t A L (j+1) (by lia);rw[←L.p,←L.aI]at J;have Z:=iV P (k+3) A I.ok (j:=j) (st:=itr t.p t.aI j) (by lia) (iU I.ok I.ask I.run j (by lia)) (I.run.on j (by lia));have H:step t.p t.aI (itr t.p t.aI j)=itr t.p t.aI (j+1):=rfl;rw[H]at Z;have V:(a:Int)<((j+1:Nat):Int):=by lia
  have F1:FL g a (j+1) (if g (j+1)=ah then aa (j+1)else o):=by
   by_cases O:g (j+1)=ah
   ·rw[bM O];exact⟨λi e1=>by cases e1;exact⟨by lia,UT _,O,λi M u=>by lia⟩,λz=>by cases z⟩
   ·rw[bN O];have y:g (j+1)=ai:=by simpa using O
    refine⟨λi e1=>?_,λz i M u=>?_⟩
    ·obtain⟨R,q2,Q,N⟩:=F.yes i e1;refine⟨R,by lia,Q,λm M u=>?_⟩
     by_cases Y:m=j+1
     rw[Y];exact y;exact N m M (by lia)
    ·by_cases Y:i=j+1
     rw[Y];exact y;exact F.no z i M (by lia)
  obtain⟨o',U,b,C⟩:=zC P k A I L f a B c (j+1) _ (aa (.p (.int ((j+1:Nat):Int)))) (by lia) (by lia) (by lia) F1;have S:j+1+c=j+(c+1):=by lia
  rw[S]at b C;refine⟨o',U,?_,C⟩;have X:evS (runN T G (k+10)) G lbB [aa (.o n),aa (.p (.int a)),aa B,aa (.c q cs),aa (.p (itr t.p t.aI j).enc),aa (.p (jN o)),aa (.p (.int ((j+1:Nat):Int)))] h =
   aa (.nx [aa (.o n),aa (.p (.int a)),aa B,aa (.c q cs),aa (.p (itr t.p t.aI (j+1)).enc),aa (.p (jN (if g (j+1)=ah then aa (j+1)else o))),aa (.p (.int ((j+1:Nat):Int)))] h):=by
   generalize s:((j+1:Nat):Int)=z at V;have ez:∀i:Nat,i=j+1->(D.int (i:Int))=D.int z:=λi e1=>by rw[e1,s]
   cases v:g (j+1)with
   |true =>
    rw[v]at J;simp[lbB,V,A.ob,jn,Z,J,s]
   |false =>
    rw[v]at J;simp[lbB,V,A.ob,jn,Z,J]
  have e1:((j+1:Nat):Int)+1=((j+1+1:Nat):Int):=by lia
  rw[qC,e1];have st:∀(d:D)(l:List D)(K:Sl)(w:Option W),dW (evS (runN T G (k+10)) G lbB) [(6,"number")] (d::l) [aa (.o n),aa (.p (.int a)),aa B,aa (.c q cs),aa (.p (itr t.p t.aI j).enc),aa (.p (jN o)),w] h =
   lq (evS (runN T G (k+10)) G lbB [aa (.o n),aa (.p (.int a)),aa B,aa (.c q cs),aa (.p (itr t.p t.aI j).enc),aa (.p (jN o)),aa (.p d)] h) (dW (evS (runN T G (k+10)) G lbB) [(6,"number")] l):=λd l K w=>rfl
  rw[st _ _ [] x,X,fO,b]
def Ey(P:TpP T G)(L:TpB T)(k:Nat)(A:TAt h n r t)(I:TI t e gv)(B:Sm8 t0 t){E:Nat}(O:Tst T G n t0 q cs g E)(a m:Nat)(h1:a<=m)(h2:m<=t.far)(H:m<=E)(M:a%t.aM=0):
 ∃o,runN T G (k+11) (.m "Tape" "last_between") [.o n,.p (.int a),.p (.int m),.c q cs] h=aa (.p (jN o),h)/\FL g a m o:=by
 have le:=I.run.le;have m1:=I.m1;have K:=I.far;have g0:=I.g0;have v:=I.g1;have J:=O k h r t A B a (by lia);rw[←B.p,←B.aI]at J;have C:FL g a a (if g a=ah then aa a else af):=by
  by_cases c:g a=ah
  rw[bM c];exact⟨λi e1=>by cases e1;exact⟨UT _,UT _,c,λi M j=>by lia⟩,λz=>by cases z⟩;rw[bN c];exact⟨λi e1=>(by exact gu e1),λ_ i M j=>by rw[show i=a by lia];simpa using c⟩
 obtain⟨o,Z,b,F⟩:=zC P k A I B O a (.p (.int m)) (m-a) a _ (aa (.p (.int (a:Int)))) (UT _) (by lia) (by lia) C;rw[show a+(m-a)=m by lia]at b F;refine⟨o,?_,F⟩;rw[run_eq L.betw rfl,ef];have f:a/t.aM<t.aJ.length:=by rw[I.len];have:a/t.aM<=t.far/t.aM:=Yu (by lia);lia
 have Y:=I.aJ _ f;have x:a/t.aM*t.aM=a:=Nat.div_mul_cancel (Nat.dvd_of_mod_eq_zero M);rw[x]at Y;have e1:(a:Int)/(t.aM:Int)=((a/t.aM:Nat):Int):=by simp
 have ix:dP (.aD (t.aJ.map St.enc)) (.int ((a/t.aM:Nat):Int))=aa (itr t.p t.aI a).enc:=by show atP _ _=_;rw[gR,Vh,Y];rfl
 have s:(0:Int)<(t.aM:Int):=by lia
 have u:(t.aM:Int)<1073741824:=by lia
 have U:gW .rng2 [.int (a:Int),.int ((m:Int)+1)]=aa (.int (a:Int)::upto ((a+1:Nat):Int) (m-a)):=by
  rw[m8];have c:((-100000<=(a:Int):Bool)&&((a:Int)<=100000:Bool)&&((-100000<=(m:Int)+1:Bool))&&(((m:Int)+1<=100000:Bool)))=ah:=by simp only[UQ,bP];lia
  rw[bM c,show((m:Int)+1-(a:Int)).toNat=(m-a)+1 by lia,qC];rfl
 have y:evS (runN T G (k+10)) G lbB [aa (.o n),aa (.p (.int a)),aa (.p (.int m)),aa (.c q cs),aa (.p (itr t.p t.aI a).enc),aa (.p .aF),aa (.p (.int (a:Int)))] h =
  aa (.nx [aa (.o n),aa (.p (.int a)),aa (.p (.int m)),aa (.c q cs),aa (.p (itr t.p t.aI a).enc),aa (.p (jN (if g a=ah then aa a else af))),aa (.p (.int (a:Int)))] h):=by
  cases g1:g a with
  |_=>rw[g1]at J;simp[lbB,J]
 have st:∀(d:D)(l:List D)(w:Option W),dW (evS (runN T G (k+10)) G lbB) [(6,"number")] (d::l) [aa (.o n),aa (.p (.int a)),aa (.p (.int m)),aa (.c q cs),aa (.p (itr t.p t.aI a).enc),aa (.p .aF),w] h =
  lq (evS (runN T G (k+10)) G lbB [aa (.o n),aa (.p (.int a)),aa (.p (.int m)),aa (.c q cs),aa (.p (itr t.p t.aI a).enc),aa (.p .aF),aa (.p d)] h) (dW (evS (runN T G (k+10)) G lbB) [(6,"number")] l):=λd l w=>rfl
 have V:dW (evS (runN T G (k+10)) G lbB) [(6,"number")] (.int (a:Int)::upto ((a+1:Nat):Int) (m-a)) [aa (.o n),aa (.p (.int a)),aa (.p (.int m)),aa (.c q cs),aa (.p (itr t.p t.aI a).enc),aa (.p .aF),af] h=aa (.nx [aa (.o n),aa (.p (.int a)),aa (.p (.int m)),aa (.c q cs),aa (.p (itr t.p t.aI m).enc),aa (.p (jN o)),Z] h):=by rw[st,y,fO,b]
 generalize upto ((a+1:Nat):Int) (m-a)=ll at U V;simp[-fm,-m8,-Int.natCast_ediv,A.ob,A.li,rd,s,g0,u,e1,ix,U,iM,-dW,V,c7]
theorem zD(P:TpP T G)(L:TpB T)(k:Nat)(A:TAt h n r t)(I:TI t e gv)(Z:Sm8 t0 t){E:Nat}(Y:Tst T G n t0 q cs g E)(M:Nat)(w:M<=t.far)(C:M<=E):∀(f B:Nat)(o:Option Nat)(x:Option W),B<f->B<=M+1 →
 (o=af->∀i,B<=i->i<=M->g i=ai)->(∀j,o=aa j->FL g 0 M (aa j)) →
 ∃o' y V,gA (aO (runN T G (k+11)) G ltC) (evS (runN T G (k+11)) G ltB) f [aa (.o n),aa (.p (.int ((B:Int)-1))),aa (.c q cs),aa (.p (jN o)),x] h=aa (.nx [aa (.o n),y,aa (.c q cs),aa (.p (jN o')),V] h)/\FL g 0 M o'
 |0,B,o,x,hf,_,_,_=>bO hf (Yo _)
 |f+1,B,aa j,x,hf,hm,i1,i2=>by
  refine⟨aa j,aa (.p (.int ((B:Int)-1))),x,?_,i2 j rfl⟩;have D:aO (runN T G (k+11)) G ltC [aa (.o n),aa (.p (.int ((B:Int)-1))),aa (.c q cs),aa (.p (jN (aa j))),x] h=aa (.p (.bl ai),h):=by simp[ltC]
  rw[gA,D,j6,ng]
 |f+1,0,af,x,hf,hm,i1,i2=>by
  refine⟨af,aa (.p (.int (((0:Nat):Int)-1))),x,?_,⟨λj z=>(by exact gu z),λ_ i O J=>i1 rfl i O J⟩⟩;have D:aO (runN T G (k+11)) G ltC [aa (.o n),aa (.p (.int (((0:Nat):Int)-1))),aa (.c q cs),aa (.p (jN af)),x] h=aa (.p (.bl ai),h):=by simp[ltC]
  rw[gA,D,j6,ng]
 |f+1,m+1,af,x,hf,hm,i1,i2=>by
  have H:((m+1:Nat):Int)-1=(m:Int):=by lia
  rw[H];have D:aO (runN T G (k+11)) G ltC [aa (.o n),aa (.p (.int (m:Int))),aa (.c q cs),aa (.p (jN af)),x] h=aa (.p (.bl ah),h):=by simp[ltC]
  have g0:=I.g0;have dm:=Yp m t.aM;have X:=Yq m g0;have mk:(m-m%t.aM)%t.aM=0:=by
   have:m-m%t.aM=t.aM*(m/t.aM):=by lia
   rw[this];exact Nat.mul_mod_right _ _
  obtain⟨a,d,l⟩:=Ey P L k A I Z Y (m-m%t.aM) m (by lia) (by lia) (by lia) mk;have v:m%t.aM<=m:=Nat.mod_le _ _;have b:(m:Int)-(m:Int)%(t.aM:Int)=((m-m%t.aM:Nat):Int):=by
   have:(m:Int)%(t.aM:Int)=((m%t.aM:Nat):Int):=by simp
   rw[this];lia
  have F:(0:Int)<(t.aM:Int):=by lia
  have K:evS (runN T G (k+11)) G ltB [aa (.o n),aa (.p (.int (m:Int))),aa (.c q cs),aa (.p (jN af)),x] h=aa (.nx [aa (.o n),aa (.p (.int (((m-m%t.aM:Nat):Int)-1))),aa (.c q cs),aa (.p (jN a)),aa (.p (.int ((m-m%t.aM:Nat):Int)))] h):=by generalize hz:((m-m%t.aM:Nat):Int)=z at d b;simp[ltB,A.ob,F,g0,b,Mc,d]
  obtain ⟨o',y,V,N,Q⟩:=zD P L k A I Z Y M w C f (m - m % t.aM) a (aa (.p (.int ((m - m % t.aM:Nat):Int)))) (by lia) (by lia) (λz i O J=>by
   by_cases c:i<=m
   exact l.no z i O c
   ·exact i1 rfl i (by lia) J) (λj z=>by
   obtain⟨S,R,u,s⟩:=l.yes j z;refine⟨λj' U=>?_,λU=>by cases U⟩;cases U;refine⟨VL _,by lia,u,λi O J=>?_⟩
   by_cases c:i<=m
   exact s i O c
   ·exact i1 rfl i (by lia) J)
  refine⟨o',y,V,?_,Q⟩;rw[gA,D,j6,tQ,K,fO,N]
def Ez(P:TpP T G)(L:TpB T)(k:Nat)(a:TAt h n r t)(I:TI t e gv){E:Nat}(M:Tst T G n t q cs g E)(m:Nat)(V:m<=e)(W:m<=E):
 Pz (runN T G (k+12) (.m "Tape" "last_to") [.o n,.p (.int m),.c q cs] h) jN (FL g 0 m) n h r t e gv:=by
 obtain⟨Y,U,O,b,D,J,s,f⟩:=iK P (k+1) a I m V;have le:=I.run.le;have m1:=I.m1;obtain⟨o,y,d,B,F⟩:=zD P L k D.b J s M m (by lia) W 100000 (m+1) af af (by lia) (UT _) (λ_ i u l=>by lia) (λj z=>by exact gu z);refine⟨o,Y,U,O,?_,F,D,J,s⟩;rw[run_eq L.last rfl,fX];have fn:=λw=>fC D w;have Z:((m+1:Nat):Int)-1=(m:Int):=by lia
 rw[Z]at B;simp only[Mb]at B;simp[a.ob,jM,b,turns,B,fn]
structure TpE(T:FK->Option Fn):Prop where
 end_:T (.m "Tape" "end")=aa jc
def EA(P:TpP T G)(M:TpE T)(k:Nat)(a:TAt h n r t)(I:TI t e gv):
 rC (runN T G (k+9) (.m "Tape" "end") [.o n] h) (.p (.int e)) n h r t e gv e:=by
 obtain⟨J,D,q,b,g,L,s,f⟩:=sD P k a I t.most;have le:=I.run.le;have O:=I.far;have B:q.far=e:=by lia
 refine⟨J,D,q,?_,g,L,s,B⟩;rw[run_eq M.end_ rfl];have fn:=λw=>fC g w;simp[jc,a.ob,uC,b,g.b.ob,B,fn]
end
def jO:Fn:=⟨["thing"],["thing"], (.ret (.and (.call "is_whole" (cZ (.v 0))) (.chain .le .lt (.j (.int 0)) (.v 0) (.aG "CELL_COUNT"))))⟩
def fD:Fn:=⟨["thing"],["thing"], (.v (.and (.not (.call "is_name" (cZ (.v 0)))) (.not (.call "is_cell" (cZ (.v 0))))) .bad .nil)⟩
def fT:Fn:=⟨["row","state"],["row","state","word"], (.seq (.set 2 (.y (.v 0) (.j (.int 0)))) (.seq (.v (.or (.z .eq (.v 2) (.j (.str "set"))) (.z .eq (.v 2) (.j (.str "ask")))) (.ret (.y (.v 0) (.j (.int 1)))) .nil) (.ret (.ite (.z .eq (.v 2) (.j (.str "put"))) (.call "cell_by" (cY (.y (.v 0) (.j (.int 1))) (.v 1))) (.j .aF)))))⟩
def fY:Fn:=⟨["tape","state"],["tape","state"], (.ret (.call "written_by" (cY (.y (.i (.v 0) "program") (.y (.v 1) (.aG "ROW"))) (.v 1))))⟩
def gT:Fn:=⟨["tape","moment"],["tape","moment"], (.seq (.ex (.aH (.v 0) "check" (cZ (.v 1)))) (.ex (.aH (.v 0) "check" (cZ (.bin .sub (.v 1) (.j (.int 1)))))))⟩
def eY:Fn:=⟨["tape","moment","thing"],["tape","moment","thing","ahead","<writer_of>"], (.seq (.ex (.call "check_thing" (cZ (.v 2)))) (.seq (.ex (.aH (.v 0) "check" (cZ (.v 1)))) (.seq (.v (.z .eq (.v 1) (.j (.int 0))) (.ret (.j .aF)) .nil) (.seq (.set 3 (.methL (.v 0) "last_to" (cZ (.bin .sub (.v 1) (.j (.int 1)))) 12 [(0,"tape"),(2,"thing")])) (.ret (.ite (.z .isN (.v 3) (.j .aF)) (.j .aF) (.bin .add (.v 3) (.j (.int 1)))))))))⟩
structure ThP(T:FK->Option Fn):Prop where
 is_cell:T "is_cell"=aa jO
 check:T "check_thing"=aa fD
structure WrP(T:FK->Option Fn):Prop where
 written_by:T "written_by"=aa fT
 written_next:T "written_next"=aa fY
 check_step:T "check_step"=aa gT
structure WwP(T:FK->Option Fn):Prop where
 writer_of:T "writer_of"=aa eY
 l12:T (.l 12)=aa yJ
inductive Th
 |nm(x:Nm)|cl(i:Nat)(h:i<4)
def Th.enc:Th->D
 |.nm x=>.str x.w|.cl i _=>.int i
def Th.val(st:St):Th->Int
 |.nm x=>st.names.getD x.ix 0|.cl i _=>st.cells.getD i 0
def kZ:Option Th->D
 |none=>.aF|some th=>th.enc
def Nm.Jl{x y:Nm}(h:U7 x.w=U7 y.w):x=y:=by cases x<;>cases y<;>first|rfl|(simp[Nm.w]at h)
def PC(o:Option Th)(th:Th):eqv (kZ o) th.enc=ah↔o=aa th:=by
 cases o with
 |none=>cases th<;>simp[kZ,Th.enc]
 |some t =>
  cases t with
  |nm x =>
   cases th with
   |nm y =>
    simp only[kZ,Th.enc,eqv,bW,Wu,Th.nm.injEq];exact⟨Nm.Jl,λh=>by rw[h]⟩
   |cl i h=>simp[kZ,Th.enc]
  |cl i h =>
   cases th with
   |nm y=>simp[kZ,Th.enc]
   |cl j q =>
    simp only[kZ,Th.enc,eqv,bW,Wu,Th.cl.injEq];lia
def wb(st:St):Rw->Option Th
 |.set x _=>aa (.nm x)|.ask x=>aa (.nm x)|.put s _=>aa (.cl (s.val st%4).toNat (by lia))|_=>af
def wn(t:Tp)(i:Nat):Option Th:=(t.p[(itr t.p t.aI i).row]?).bind (wb (itr t.p t.aI i))
def sF{aI:List Int}{st:St}{r:Rw}{th:Th}(h:wb st r≠aa th):th.val (r.next aI st)=th.val st:=by
 cases r with
 |set x s =>
  cases th with
  |nm y =>
   have hn:x.ix≠y.ix:=λz=>h (by
    have:x=y:=by cases x<;>cases y<;>first|rfl|(simp[Nm.ix]at z)
    rw[this];rfl)
   simp[Th.val,Rw.next,Vm hn]
  |cl i q=>rfl
 |ask x =>
  cases th with
  |nm y =>
   have hn:x.ix≠y.ix:=λz=>h (by
    have:x=y:=by cases x<;>cases y<;>first|rfl|(simp[Nm.ix]at z)
    rw[this];rfl)
   simp[Th.val,Rw.next,Vm hn]
  |cl i q=>rfl
 |put s u =>
  cases th with
  |nm y=>rfl
  |cl i q =>
   have hn:(s.val st%4).toNat≠i:=λz=>h (by subst z;rfl);simp[Th.val,Rw.next,Vm hn]
 |_=>cases th<;>rfl
def qD{t:Tp}{i:Nat}{th:Th}(h:wn t i≠aa th):th.val (itr t.p t.aI (i+1))=th.val (itr t.p t.aI i):=by
 show th.val (step t.p t.aI (itr t.p t.aI i))=_;unfold step;unfold wn at h;cases e:t.p[(itr t.p t.aI i).row]? with
 |none=>rfl|some r=>rw[e]at h;exact sF h
section
variable{T:FK->Option Fn}{G:aA->Option W}
def rD(P:Prg T G)(k:Nat)(i:Int)(h:HH):runN T G (k+1) "is_name" [.p (.int i)] h=aa (.p (.bl ai),h):=by rw[run_eq P.is_name rfl];simp[iR,P.LETTERS,c7]
def wj(P:TpP T G)(C:ThP T)(k:Nat){i:Nat}(hi:i<4)(h:HH):runN T G (k+2) "is_cell" [.p (.int i)] h=aa (.p (.bl ah),h):=by
 rw[run_eq C.is_cell rfl];have w:=jL P k i h;have c:(i:Int)<4:=by lia
 have q:(0:Int)<=(i:Int):=by lia
 simp[jO,w,P.prg.CELL_COUNT,c,q,c7]
def oz(P:TpP T G)(C:ThP T)(k:Nat)(th:Th)(h:HH):runN T G (k+3) "check_thing" [.p th.enc] h=aa (.p .aF,h):=by
 rw[run_eq C.check rfl];cases th with
 |nm x =>
  have n:=nW P.prg (k+1) x h;simp[fD,Th.enc,n,c7]
 |cl i q =>
  have n:=rD P.prg (k+1) i h;have c:=wj P C k q h;simp[fD,Th.enc,n,c,c7]
def kD(P:Prg T G)(D:WrP T)(k:Nat)(m:Nat)(r:Rw)(q:r.ok m){st:St}(B:st.ok)(h:HH):runN T G (k+6) "written_by" [.p r.enc,.p st.enc] h=aa (.p (kZ (wb st r)),h):=by
 rw[run_eq D.written_by rfl];cases r with
 |put s u =>
  have c:=nX P k s q.1 st B h;have e:((s.val st%4).toNat:Int)=s.val st%4:=by lia
  simp[fT,Rw.enc,c,wb,kZ,Th.enc,e,c7]
 |_=>simp[fT,Rw.enc,wb,kZ,Th.enc,c7]
def qE{t:Tp}{e:Nat}(R:Run t.p t.aI t.most e){i:Nat}(hi:i<e):∃r,t.p[(itr t.p t.aI i).row]?=aa r:=by
 have on:=R.on i hi;unfold over at on;cases g:t.p[(itr t.p t.aI i).row]? with
 |none=>rw[g]at on;exact w9 on|some x=>exact⟨x,rfl⟩
def gw(t:Tp)(th:Th):Nat->Bool:=λi=>eqv (kZ (wn t i)) th.enc
def Jm{t t':Tp}(s:Sm8 t t')(th:Th):gw t' th=gw t th:=by unfold gw wn;rw[s.p,s.aI]
def HU(o:Option Th)(th:Th):eB (kZ o) th.enc=ah:=by cases th<;>simp[Th.enc]
def TI.run'{t t':Tp}(s:Sm8 t t'){e q:Nat}(I:TI t e q):Run t'.p t'.aI t'.most e/\Pg.ok t'.p/\Ask t'.aI:=by rw[s.p,s.aI,s.most];exact⟨I.run,I.ok,I.ask⟩
def mQ(P:TpP T G)(J:WrP T)(k:Nat){n r:Nat}{t:Tp}{h:HH}{e:Nat}(a:TAt h n r t)(R:Run t.p t.aI t.most e)(ok:Pg.ok t.p)(ask:Ask t.aI)(i:Nat)(hi:i<e):runN T G (k+7) "written_next" [.o n,.p (itr t.p t.aI i).enc] h=aa (.p (kZ (wn t i)),h):=by
 rw[run_eq J.written_next rfl];obtain⟨q,B⟩:=qE R hi;have D:=iU ok ask R i (by lia);have w:=kD P.prg J k t.p.length q (ok _ (UZ B)) D.ok h;have M:dP (itr t.p t.aI i).enc (.int 0)=aa (.int ((itr t.p t.aI i).row:Int)):=rfl;have L:dP (eS t.p) (.int ((itr t.p t.aI i).row:Int))=aa q.enc:=by show atP _ _=_;rw[gR,Vh,B];rfl
 have e1:wn t i=wb (itr t.p t.aI i) q:=by unfold wn;rw[B];rfl
 rw[e1];simp[-jh,fY,a.ob,P.prg.ROW,M,L,w,c7]
def PD(P:TpP T G)(J:WrP T)(D:WwP T){n:Nat}{t:Tp}{e B:Nat}(I:TI t e B)(th:Th)(M:0<e):Tst T G n t (.l 12) [.o n,.p th.enc] (gw t th) (e-1):=λk h r q a s i L=>by
 rw[run_eq (k:=k+9) D.l12 rfl];obtain⟨R,ok,ask⟩:=TI.run' s I;have w:=mQ P J (k+2) a R ok ask i (by lia);rw[s.p,s.aI]at w;have e1:wn q i=wn t i:=by unfold wn;rw[s.p,s.aI]
 rw[e1]at w;have ok:=HU (wn t i) th;simp[-eqv,yJ,w,ok,c7,gw]
def qF(P:TpP T G)(d:WrP T)(k:Nat){n r:Nat}{t:Tp}{h:HH}{e B:Nat}(a:TAt h n r t)(I:TI t e B)(m:Nat)(h1:1<=m)(V:m<=e):
 wg (runN T G (k+11) "check_step" [.o n,.p (.int m)] h) (.p .aF) n h r t e B:=by
 obtain⟨Y,j,i,c,q,g,O,u⟩:=iK P k a I m V;obtain⟨W,U,L,D,Z,f,M,s⟩:=iK P k q.b g (m-1) (by lia);have J:=q.trans Z;refine⟨W,U,L,?_,J,f,O.trans M⟩;rw[run_eq d.check_step rfl];have fn:=fC J (.p .aF);have e1:(m:Int)-1=((m-1:Nat):Int):=by lia
 generalize l:((m-1:Nat):Int)=z at D e1;simp[gT,a.ob,jM,c,q.b.ob,e1,D,fn]
noncomputable def A6:Option Nat->D
 |none=>.aF|some j=>.int ((j:Int)+1)
@[simp]theorem Tj:A6 af=.aF:=rfl
@[simp]theorem Tn(j:Nat):A6 (aa j)=.int ((j:Int)+1):=rfl
def qG(P:TpP T G)(L:TpB T)(C:ThP T)(A:WrP T)(J:WwP T)(k:Nat){n r:Nat}{t:Tp}{h:HH}{e V:Nat}(a:TAt h n r t)(I:TI t e V)(th:Th)(m:Nat)(u:m<=e):
 ∃o h' s t',runN T G (k+13) "writer_of" [.o n,.p (.int m),.p th.enc] h=aa (.p (A6 o),h')/\(m=0->o=af)/\(0<m->FL (gw t th) 0 (m-1) o)/\Go n h r t h' s t'/\TI t' e V/\Sm8 t t':=by
 have Z:=oz P C (k+9) th h;obtain⟨U,l,g,Y,q,M,B,K⟩:=iK P (k+2) a I m u
 by_cases c:m=0
 ·subst c;refine⟨af,U,l,g,?_,λ_=>rfl,λz=>bO z (VR _),q,M,B⟩;rw[run_eq J.writer_of rfl];have fn:=λw=>fC q w;have D:runN T G (k+12) (.m "Tape" "check") [.o n,.p (.int 0)] h=aa (.p .aF,U):=Y;simp[eY,Z,a.ob,jM,D,fn]
 ·have O:=PD (n:=n) P A J M th (by lia);rw[Jm B]at O;obtain⟨o,v,j,f,W,F,x,E,i⟩:=Ez P L k q.b M O (m-1) (by lia) (by lia);have d:=q.trans x;refine⟨o,v,j,f,?_,λz=>bO z c,λ_=>F,d,E,B.trans i⟩;rw[run_eq J.writer_of rfl];have fn:=λw=>fC d w;have e1:(m:Int)-1=((m-1:Nat):Int):=by lia
  have y:((m:Int)==0)=ai:=by rw[bV];lia
  generalize H:((m-1:Nat):Int)=z at W e1;cases o with
  |_=>simp[eY,Z,a.ob,jM,Y,c,y,q.b.ob,e1,Ex,W,fn]
def gc(t:Tp)(th:Th)(w:Int):Nat->Bool:=λi=>!(th.val (itr t.p t.aI i)==w)
end
section
noncomputable def each(f:Nat->D)(e:Nat):List D:=(Vj (e+1)).map f
end
def kW:Fn:=⟨["tape","moment","term"],["tape","moment","term"], (.ret (.call "reckoned" (cY (.v 2) (.aH (.v 0) "at" (cZ (.v 1))))))⟩
structure SuP(T:FK->Option Fn):Prop where
 sum_at:T "sum_at"=aa kW
def oX{cond:Es}(e1:evs F G sa s h=aa (ws,h1))(e2:(rds ws h1).bind (gW sr)=aa ds)(J:frees s fv=aa fs)(D:iM ws=ah)(B:dX (fN (evs F G cond) (aO F G elt) fs) tg.length ds h1=aa (xs,h2))(q:xs.length<=100000):aO F G (.comp ai sr sa tg fv cond elt) s h=aa (.p (.aD xs),h2):=by show bnd (evs F G sa s h) (pU ai sr tg.length (frees s fv) (evs F G cond) (aO F G elt))=_;rw[e1,eU];unfold pU;rw[e2,J];show(if iM ws=ah then _ else _)=_;rw[bM D,B,eU];unfold gY;rw[bM (show xs.length<=lim from q)];rfl
def Mf(f:List D->HH->Option (Option D×HH))(mk:α->D)(g:α->Option D)(h:HH):∀(l:List α),(∀x∈l,f [mk x] h=aa (g x,h))->dX f 1 (l.map mk) h=aa (l.filterMap g,h):=by
 intro l
 induction l with
 |nil=>intro _;rfl
 |cons x r B =>
  intro q;rw[U8,dX,gX];show bnd (f [mk x] h) (Co (dX f 1 (r.map mk)))=_;rw[q x UY,eU,yD,B λy J=>q y (UV _ J),eU,vp,Vs];cases g x<;>rfl
section
@[simp]theorem UL(h:HH)(a:Cl)(r:HH):dat (h++a::r) h.length=tE a:=by simp[dat]
def qH(P:TpP T G)(S:SuP T)(k:Nat)(a:TAt h n r t)(I:TI t e gv)(s:Sm)(O:s.size<=40000)(W:s.ok)(m:Nat)(q:m<=e):
 wg (runN T G (k+12) "sum_at" [.o n,.p (.int m),.p s.enc] h) (.p (.int (s.val (itr t.p t.aI m)))) n h r t e gv:=by
 obtain⟨B,M,J,V,D,Y,L,Z⟩:=xX P k a I m q;have U:=eX P.prg (k+7) s O W (itr t.p t.aI m) (iU I.ok I.ask I.run m q).ok B;refine⟨B,M,J,?_,D,Y,L⟩;rw[run_eq S.sum_at rfl];have fn:=λw=>fC D w;simp[kW,a.ob,HN,V,U,fn]
end
def EB(f:List D->HH->Option (Option D×HH))(n:Nat)(mk:α->D)(q:α->List D)(g:α->Option D)(h:HH):∀(l:List α),(∀x∈l,target n (mk x)=aa (q x)/\f (q x) h=aa (g x,h))->dX f n (l.map mk) h=aa (l.filterMap g,h):=by
 intro l
 induction l with
 |nil=>intro _;rfl
 |cons x r J =>
  intro B;obtain⟨O,M⟩:=B x UY;rw[U8,dX,O];show bnd (f (q x) h) (Co (dX f n (r.map mk)))=_;rw[M,eU,yD,J λy L=>B y (UV _ L),eU,vp,Vs];cases g x<;>rfl
section
end
def jP:Fn:=⟨["term","state"],["term","state","things","worths","part"], (.seq (.set 2 .dnew) (.seq (.set 3 (.aD ah .nil)) (.seq (.for [(4,"part")] .rev (cZ (.call "laid_out" (cZ (.v 0)))) (.seq (.v (.z .eq (.y (.v 4) (.j (.int 0))) (.j (.str "name"))) (.putd 2 (.y (.v 4) (.j (.int 1))) (.j (.bl ah))) (.v (.z .eq (.y (.v 4) (.j (.int 0))) (.j (.str "cell"))) (.putd 2 (.bin .mod (.y (.v 3) (.neg (.j (.int 1)))) (.aG "CELL_COUNT")) (.j (.bl ah))) .nil)) (.ex (.me .append (.v 3) (cZ (.call "worth_of" (cX (.v 4) (.v 3) (.v 1)))))))) (.ret (.v 2)))))⟩
def gO:Fn:=⟨["row","state"],["row","state","things"], (.seq (.set 2 .dnew) (.seq (.v (.or (.z .eq (.y (.v 0) (.j (.int 0))) (.j (.str "set"))) (.z .eq (.y (.v 0) (.j (.int 0))) (.j (.str "put")))) (.ex (.m2 .upd (.v 2) (.frz (.call "read_by" (cY (.y (.v 0) (.j (.int 2))) (.v 1)))))) .nil) (.seq (.v (.z .eq (.y (.v 0) (.j (.int 0))) (.j (.str "put"))) (.ex (.m2 .upd (.v 2) (.frz (.call "read_by" (cY (.y (.v 0) (.j (.int 1))) (.v 1)))))) .nil) (.ret (.v 2)))))⟩
structure RdP(T:FK->Option Fn):Prop where
 read_by:T "read_by"=aa jP
 read_in:T "read_in"=aa gO
def Th.ky:Th->Ky
 |.nm x=>.inr x.w|.cl i _=>.inl i
def Th.Mg(th:Th):jx th.enc=aa th.ky:=by cases th<;>rfl
def Th.EC{a b:Th}(h:a.ky=b.ky):a=b:=by
 cases a with
 |nm x =>
  cases b with
  |nm y =>
   simp only[Th.ky,Sum.inr.injEq]at h;rw[Nm.Jl h]
  |cl j q=>exact nomatch h
 |cl i B =>
  cases b with
  |nm y=>exact nomatch h
  |cl j q =>
   simp only[Th.ky,Sum.inl.injEq]at h;have:i=j:=by lia
   subst this;rfl
def Sm.rd(st:St):Sm->List Th
 |.num _=>[]|.nam x=>[.nm x]|.cell s=>s.rd st++[.cl (s.val st%4).toNat (by lia)]|.two _ s t=>s.rd st++t.rd st
def Rw.rd(st:St):Rw->List Th
 |.set _ s=>s.rd st|.put s t=>t.rd st++s.rd st|_=>[]
def sG(kvs:List (Ky×D))(k:Ky):(dY kvs k).isSome=ah↔k∈kvs.map (·.1):=by unfold dY;rw[Option.isSome_map,List.find?_isSome];simp only[bP,XC]
def Mh(kvs:List (Ky×D))(k:Ky):(kvs.any λq=>decide (q.1=k))=ah↔k∈kvs.map (·.1):=by rw[List.any_eq_true];simp only[bP,XC]
def nB(kvs:List (Ky×D))(k:Ky)(v:D)(x:Ky):x∈(fu kvs k v).map (·.1)↔x∈kvs.map (·.1)\/x=k:=by
 unfold fu;split
 ·rename_i c;have e:(kvs.map λB=>if B.1=k then(B.1,v)else B).map (·.1)=kvs.map (·.1):=by rw[Xj];apply V9;intro q _;show(if q.1=k then(q.1,v)else q).1=q.1;split<;>rfl
  rw[e];exact⟨.inl,λh=>h.elim id λh=>by rw[h];exact(Mh kvs k).mp c⟩
 simp[W8]
def sH(kvs:List (Ky×D))(k:Ky)(v:D):(fu kvs k v).length<=kvs.length+1:=by unfold fu;split<;>simp
def sI(kvs:List (Ky×D))(k x:Ky):x∈(lg kvs k).map (·.1)↔x∈kvs.map (·.1)/\x≠k:=by unfold lg;simp only[XC,List.mem_filter,bP];exact⟨λ⟨q,⟨h1,h2⟩,h3⟩=>⟨⟨q,h1,h3⟩,h3 ▸ h2⟩,λ⟨⟨q,h1,h2⟩,h3⟩=>⟨q,⟨h1,h2 ▸ h3⟩,h2⟩⟩
structure Sb(kvs:List (Ky×D))(b:Nat)(P:Th->Prop):Prop where
 len:kvs.length<=b
 keys:∀k∈kvs.map (·.1),∃th:Th,k=th.ky
 mem:∀th:Th,th.ky∈kvs.map (·.1)↔P th
def Sb.nil:Sb [] 0 (λ_=>False):=⟨UT _,λk h=>bO h (by simp),λth=>by simp⟩
def Sb.iff{kvs:List (Ky×D)}{b:Nat}{P Q:Th->Prop}(h:Sb kvs b P)(e:∀th,P th↔Q th):Sb kvs b Q:=⟨h.len,h.keys,λth=>(h.mem th).trans (e th)⟩
def Sb.le{kvs:List (Ky×D)}{b c:Nat}{P:Th->Prop}(h:Sb kvs b P)(e:b<=c):Sb kvs c P:=⟨Vp h.len e,h.keys,h.mem⟩
def Sb.put{kvs:List (Ky×D)}{b:Nat}{P:Th->Prop}(h:Sb kvs b P)(th:Th)(v:D):Sb (fu kvs th.ky v) (b+1) (λx=>P x\/x=th):=by
 refine⟨Vp (sH ..) (Zf h.len),λk B=>?_,λx=>?_⟩
 ·rcases (nB ..).mp B with q|q
  exact h.keys k q;exact⟨th,q⟩
 ·rw[nB,h.mem x];exact or_congr_right ⟨Th.EC,λe=>by rw[e]⟩
def Sb.del{kvs:List (Ky×D)}{b:Nat}{P:Th->Prop}(h:Sb kvs b P)(th:Th):Sb (lg kvs th.ky) b (λx=>P x/\x≠th):=by refine⟨Vp (Xl _ _) h.len,λk q=>h.keys k ((sI ..).mp q).1,λx=>?_⟩;rw[sI,h.mem x];exact and_congr_right λ_=>⟨λe z=>e (by rw[z]),λe z=>e (Th.EC z)⟩
def Sb.upd:∀{us kvs:List (Ky×D)}{b c:Nat}{P Q:Th->Prop},Sb kvs b P->Sb us c Q->Sb (us.foldl (λa p=>fu a p.1 p.2) kvs) (b+c) (λx=>P x\/Q x):=by
 intro us;have J:∀(us kvs:List (Ky×D)),(us.foldl (λa p=>fu a p.1 p.2) kvs).length<=kvs.length+us.length/\∀x,x∈(us.foldl (λa p=>fu a p.1 p.2) kvs).map (·.1)↔x∈kvs.map (·.1)\/x∈us.map (·.1):=by
  intro us
  induction us with
  |nil=>intro kvs;exact⟨by simp,λx=>by simp⟩
  |cons p us M =>
   intro kvs;obtain⟨L,B⟩:=M (fu kvs p.1 p.2);have:=sH kvs p.1 p.2;refine⟨by rw[WJ,Va];lia,λx=>?_⟩;rw[WJ,B x,nB,U8,Xr];exact or_assoc
 intro kvs b c P Q h g;obtain⟨L,B⟩:=J us kvs;refine⟨Vp L (Nat.add_le_add h.len g.len),λk O=>?_,λx=>?_⟩
 ·rcases (B k).mp O with q|q
  exact h.keys k q;exact g.keys k q
 rw[B,h.mem x,g.mem x]
def A7(h:HH)(kvs:List (Ky×D))(g:HH):dat (h++.d kvs::g) h.length=aa kvs:=by simp[dat]
def uD(h:HH)(c:Cl)(xs:List D):lat (h++[c,.l xs]) (h.length+1)=aa xs:=by simp[lat]
def ED(h:HH)(c d e:Cl):(h++[c,d]).set h.length e=h++[e,d]:=by simp
def nZ(h:HH)(c d e:Cl):(h++[c,d]).set (h.length+1) e=h++[c,e]:=by simp[List.set_append]
def EE(h:HH)(kvs:List (Ky×D))(g:HH):fin h (.r h.length) (h++.d kvs::g)=aa (.r h.length,h++[.d kvs]):=by simp[fin]
def rbB:S:=(.seq (.v (.z .eq (.y (.v 4) (.j (.int 0))) (.j (.str "name"))) (.putd 2 (.y (.v 4) (.j (.int 1))) (.j (.bl ah))) (.v (.z .eq (.y (.v 4) (.j (.int 0))) (.j (.str "cell"))) (.putd 2 (.bin .mod (.y (.v 3) (.neg (.j (.int 1)))) (.aG "CELL_COUNT")) (.j (.bl ah))) .nil)) (.ex (.me .append (.v 3) (cZ (.call "worth_of" (cX (.v 4) (.v 3) (.v 1)))))))
section
variable{T:FK->Option Fn}{G:aA->Option W}
def Mi(P:Prg T G)(k:Nat)(h:HH)(q:W)(st:St)(B:st.ok)(n:Int)(ws:List D)(kvs:List (Ky×D))(l:ws.length<100000):
 evS (runN T G (k+3)) G rbB [aa q,aa (.p st.enc),aa (.r h.length),aa (.r (h.length+1)),aa (.p (Sm.num n).enc)] (h++[.d kvs,.l ws]) =
  aa (.nx [aa q,aa (.p st.enc),aa (.r h.length),aa (.r (h.length+1)),aa (.p (Sm.num n).enc)] (h++[.d kvs,.l (ws++[.int n])])):=by
 have r:=(gD P k st B (h.length+1) (h++[.d kvs,.l ws])).1 n;have e:(Sm.num n).enc=.aE [.str "num",.int n]:=rfl;rw[e]at r⊢;simp[rbB,r,l,uD,nZ]
def Mj(P:Prg T G)(k:Nat)(h:HH)(q:W)(st:St)(B:st.ok)(x:Nm)(ws:List D)(kvs:List (Ky×D))(l:ws.length<100000)(l2:kvs.length<100000):
 evS (runN T G (k+3)) G rbB [aa q,aa (.p st.enc),aa (.r h.length),aa (.r (h.length+1)),aa (.p (Sm.nam x).enc)] (h++[.d kvs,.l ws]) =
  aa (.nx [aa q,aa (.p st.enc),aa (.r h.length),aa (.r (h.length+1)),aa (.p (Sm.nam x).enc)] (h++[.d (fu kvs (Th.nm x).ky (.bl ah)),.l (ws++[.int (st.names.getD x.ix 0)])])):=by
 have r:=(gD P k st B (h.length+1) (h++[.d (fu kvs (Th.nm x).ky (.bl ah)),.l ws])).2 x;have e:(Sm.nam x).enc=.aE [.str "name",.str x.w]:=rfl;rw[e]at r⊢;simp only[Th.ky]at r⊢;simp[rbB,r,l,l2,uD,A7,ED,nZ]
def HV(P:Prg T G)(k:Nat)(h:HH)(B:W)(st:St)(q:st.ok)(s:Sm)(J:s.ok)(ws:List D)(kvs:List (Ky×D))(l:ws.length<100000)(l2:kvs.length<100000):
 evS (runN T G (k+3)) G rbB [aa B,aa (.p st.enc),aa (.r h.length),aa (.r (h.length+1)),aa (.p (Sm.cell s).enc)] (h++[.d kvs,.l (ws++[.int (s.val st)])]) =
  aa (.nx [aa B,aa (.p st.enc),aa (.r h.length),aa (.r (h.length+1)),aa (.p (Sm.cell s).enc)] (h++[.d (fu kvs (Th.cl (s.val st%4).toNat (by lia)).ky (.bl ah)),.l (ws++[.int ((Sm.cell s).val st)])])):=by
 have r:=ko P (k+2) st q (h.length+1) (h++[.d (fu kvs (Th.cl (s.val st%4).toNat (by lia)).ky (.bl ah)),.l (ws++[.int (s.val st)])]) s ws (s.val st) (uD ..) (Sm.nV (s:=s) q J).1;rw[nZ]at r;have e:(Sm.cell s).enc=.aE [.str "cell",s.enc]:=rfl;have ev:((s.val st%4).toNat:Int)=s.val st%4:=by lia
 have L:dP (.aD (ws++[.int (s.val st)])) (.int (-1))=aa (.int (s.val st)):=by
  show atP _ _=_;have O:(-1:Int)+((ws++[D.int (s.val st)]).length:Int)=(ws.length:Int):=by simp;lia
  have M:place (ws++[D.int (s.val st)]).length (-1)=aa ws.length:=by unfold place;rw[bN (by decide),bM (by simp;lia),O,V1]
  unfold atP;rw[M];simp
 have U:0<=s.val st:=(Sm.nV (s:=s) q J).1;rw[e]at r⊢;simp only[Th.ky,ev]at r⊢;show _=aa (Fl.nx _ (h++[Cl.d _,Cl.l (ws++[.int (st.cells.getD (s.val st%4).toNat 0)])]));simp[-fm,rbB,r,l,l2,uD,A7,ED,nZ,rd,L,P.CELL_COUNT]
def Ml(P:Prg T G)(k:Nat)(h:HH)(q:W)(st:St)(M:st.ok)(o:Op)(s t:Sm)(L:s.ok)(ws:List D)(kvs:List (Ky×D))(l:ws.length<100000):
 evS (runN T G (k+3)) G rbB [aa q,aa (.p st.enc),aa (.r h.length),aa (.r (h.length+1)),aa (.p (Sm.two o s t).enc)] (h++[.d kvs,.l (ws++[.int (s.val st),.int (t.val st)])]) =
  aa (.nx [aa q,aa (.p st.enc),aa (.r h.length),aa (.r (h.length+1)),aa (.p (Sm.two o s t).enc)] (h++[.d kvs,.l (ws++[.int ((Sm.two o s t).val st)])])):=by
 have r:=lA P (k+1) st (h.length+1) (h++[.d kvs,.l (ws++[.int (s.val st),.int (t.val st)])]) o s t ws (s.val st) (t.val st) (Sm.nV (s:=s) M L) (uD ..);rw[nZ]at r;have e:(Sm.two o s t).enc=.aE [.str o.w,s.enc,t.enc]:=rfl;obtain⟨O,J,B⟩:=o.other;rw[e]at r⊢;show _=aa (Fl.nx _ (h++[Cl.d _,Cl.l (ws++[.int (BT.two o (s.val st) (t.val st))])]));generalize o.w=ow at *;simp[rbB,r,l,uD,nZ,J,B]
def HW(P:Prg T G)(k:Nat)(h:HH)(O:W)(st:St)(a:st.ok):∀(s:Sm),s.ok->∀(ws:List D)(kvs:List (Ky×D)) (b:Nat) (A:Th->Prop) (rest:List D) (x:Option W),Sb kvs b A->ws.length+s.size<=50000->b+s.size<=50000 →
 ∃j J,Sb J (b+s.size) (λth=>A th\/th∈s.rd st)/\dW (evS (runN T G (k+3)) G rbB) [(4,"part")] ((s.lay.map Sm.enc).reverse++rest) [aa O,aa (.p st.enc),aa (.r h.length),aa (.r (h.length+1)),x] (h++[.d kvs,.l ws]) =
  dW (evS (runN T G (k+3)) G rbB) [(4,"part")] rest [aa O,aa (.p st.enc),aa (.r h.length),aa (.r (h.length+1)),j] (h++[.d J,.l (ws++[.int (s.val st)])]):=by
 intro s
 induction s with
 |num n =>
  intro _ ws kvs b A rest x B Y Z;refine⟨aa (.p (Sm.num n).enc),kvs,(B.le (Nat.le_add_right _ _)).iff λth=>by simp[Sm.rd],?_⟩;have M:=Mi P k h O st a n ws kvs (by lia);simp only[Sm.lay,U8,Wk,Wx,Vx,Sm.val];simp[M]
 |nam i =>
  intro _ ws kvs b A rest x B Y Z;refine⟨aa (.p (Sm.nam i).enc),_,(B.put (.nm i) (.bl ah)).iff λth=>by simp[Sm.rd],?_⟩;have:=B.len;have M:=Mj P k h O st a i ws kvs (by lia) (by lia);simp only[Sm.lay,U8,Wk,Wx,Vx,Sm.val];simp[M]
 |cell s m =>
  intro U ws kvs b A rest x B Y Z;simp only[Sm.size]at Y Z;obtain⟨g,L,q,e1⟩:=m U ws kvs b A ((Sm.cell s).enc::rest) x B (by lia) (by lia);refine⟨aa (.p (Sm.cell s).enc),_,(q.put (.cl (s.val st%4).toNat (by lia)) (.bl ah)).iff λth=>by simp[Sm.rd,or_assoc],?_⟩;have:=q.len;have M:=HV P k h O st a s U ws L (by lia) (by lia);simp only[Sm.lay,U8,XS,Vv,Vx];rw[e1];simp[M]
 |two o s t f e =>
  intro U ws kvs b A rest x B Y Z;simp only[Sm.size]at Y Z;obtain⟨g,L,q,e1⟩:=f U.1 ws kvs b A ((t.lay.map Sm.enc).reverse++((Sm.two o s t).enc::rest)) x B (by lia) (by lia);obtain⟨u,V,c,e2⟩:=e U.2 (ws++[.int (s.val st)]) L _ _ ((Sm.two o s t).enc::rest) g q (by simp only[U9,Vy];have:=s.size_pos;lia) (by lia);refine⟨aa (.p (Sm.two o s t).enc),V,(c.le (by simp only[Sm.size];lia)).iff λth=>by simp[Sm.rd,or_assoc],?_⟩;have M:=Ml P k h O st a o s t U.1 ws V (by lia);simp only[Sm.lay,U8,W8,XS,Yx,Vv,Vx];rw[e1,e2];simp only[Vv,Vx];simp[M]
theorem rE:jP=⟨["term","state"],["term","state","things","worths","part"],.seq (.set 2 .dnew) (.seq (.set 3 (.aD ah .nil))
 (.seq (.for [(4,"part")] .rev (.cons (.call "laid_out" (.cons (.v 0) .nil)) .nil) rbB) (.ret (.v 2))))⟩:=rfl
def n8(P:Prg T G)(R:RdP T)(k:Nat)(s:Sm)(D:s.size<=40000)(L:s.ok)(st:St)(J:st.ok)(h:HH):
 ∃kvs,Sb kvs s.size (λth=>th∈s.rd st)/\runN T G (k+4) "read_by" [.p s.enc,.p st.enc] h=aa (.r h.length,h++[.d kvs]):=by
 obtain⟨M,kvs,B,q⟩:=HW P k h (.p s.enc) st J s L [] [] 0 _ [] af Sb.nil (by simp only[Wa];lia) (by lia);refine⟨kvs,(B.le (by lia)).iff λth=>by simp,?_⟩;rw[run_eq R.read_by rfl,rE];simp only[Vn,W7]at q;have r:=mK P (k+1) s D;have e1:h++[Cl.d []]++[Cl.l []]=h++[Cl.d [],Cl.l []]:=by simp
 simp[r,iM,q,rd,EE]
def kE(P:Prg T G)(R:RdP T)(k:Nat)(s:Sm)(B:s.size<=40000)(J:s.ok)(st:St)(D:st.ok)(h:HH):
 ∃kvs,Sb kvs s.size (λth=>th∈s.rd st)/\bnd (runN T G (k+4) "read_by" [.p s.enc,.p st.enc] h) (Cw h)=aa (.k (.m kvs),h):=by
 obtain⟨kvs,q,e⟩:=n8 P R k s B J st D h;exact⟨kvs,q,by rw[e];exact Cy []⟩
def wk(P:Prg T G)(R:RdP T)(k:Nat)(n:Nat)(r:Rw)(b:r.ok n){st:St}(V:st.ok)(h:HH):
 ∃kvs,Sb kvs 60 (λth=>th∈r.rd st)/\runN T G (k+5) "read_in" [.p r.enc,.p st.enc] h=aa (.r h.length,h++[.d kvs]):=by
 have B:∀kvs:List (Ky×D),fin h (.r h.length) (h++[.d kvs])=aa (.r h.length,h++[.d kvs]):=λkvs=>EE h kvs [];have Z:∀kvs:List (Ky×D),dat (h++[.d kvs]) h.length=aa kvs:=λkvs=>A7 h kvs [];rw[run_eq R.read_in rfl];cases r with
 |set x s =>
  obtain⟨W,i⟩:iX s:=b;obtain⟨L,J,e⟩:=kE P R k s (by lia) W st V (h++[.d []]);have q:=Sb.nil.upd J;refine⟨_,(q.le (by lia)).iff λth=>by simp[Rw.rd],?_⟩;have:=J.len;have c:L.length<=100000:=by lia
  have U:(Rw.set x s).enc=.aE [.str "set",.str x.w,s.enc]:=rfl;rw[U];simp[gO,pV,e,Z,c,B]
 |put a s =>
  obtain⟨ha,hs⟩:iX a/\iX s:=b;obtain⟨W,i⟩:=hs;obtain⟨M,g⟩:=ha;obtain⟨L,J,e⟩:=kE P R k s (by lia) W st V (h++[.d []]);have q:=Sb.nil.upd J;obtain⟨f,Y,e2⟩:=kE P R k a (by lia) M st V (h++[.d (L.foldl (λc p=>fu c p.1 p.2) [])]);have O:=q.upd Y;refine⟨_,(O.le (by lia)).iff λth=>by simp[Rw.rd],?_⟩;have:=J.len;have:=Y.len;have:=q.len;have c:L.length<=100000:=by lia
  have j:(L.foldl (λc p=>fu c p.1 p.2) []).length+f.length<=100000:=by lia
  have U:(Rw.put a s).enc=.aE [.str "put",a.enc,s.enc]:=rfl;rw[U];simp[gO,pV,e,e2,Z,c,j,B]
 |_ =>
  refine⟨[],(Sb.nil.le (by lia)).iff λth=>by simp[Rw.rd],?_⟩;simp[gO,Rw.enc,B]
end
section
variable{T:FK->Option Fn}{G:aA->Option W}
def xY(P:TpP T G)(k:Nat){n r:Nat}{t:Tp}{h:HH}{e B:Nat}(a:TAt h n r t)(I:TI t e B)(m:Nat)(D:m<=t.far):
 runN T G (k+8) (.m "Tape" "reach") [.o n,.p (.int m)] h=aa (.p .aF,h):=by
 have q:=oW P k a I m;rw[bQ (by lia)]at q;rw[run_eq P.reach rfl,nY];have e1:gA (aO (runN T G (k+7)) G rcC) (evS (runN T G (k+7)) G rcB) 100000 [aa (.o n),aa (.p (.int m))] h=aa (.nx [aa (.o n),aa (.p (.int m))] h):=by rw[show(100000:Nat)=99999+1 from rfl,gA,q,j6,ng]
 simp[turns,e1,c7]
def EF(P:TpP T G)(k:Nat){n r:Nat}{t:Tp}{h:HH}{e B:Nat}(a:TAt h n r t)(I:TI t e B)(m:Nat)(q:m<=t.far):
 runN T G (k+9) (.m "Tape" "has") [.o n,.p (.int m)] h=aa (.p (.bl ah),h):=by
 have b:=xY P k a I m q;have M:=I.far;have le:=I.run.le;rw[run_eq P.has rfl];have w:=jL P (k+7) m;have L:¬((m:Int)<0):=by lia
 have J:¬((t.most:Int)<(m:Int)):=by lia
 have D:(m:Int)<=(t.far:Int):=by lia
 simp[iy,w,L,J,D,q,a.ob,uC,b,c7]
def xZ(P:TpP T G)(k:Nat){n r:Nat}{t:Tp}{h:HH}{e B:Nat}(a:TAt h n r t)(I:TI t e B)(m:Nat)(q:m<=t.far):
 runN T G (k+10) (.m "Tape" "check") [.o n,.p (.int m)] h=aa (.p .aF,h):=by
 have b:=EF P k a I m q;rw[run_eq P.check rfl];simp[fS,a.ob,Jk,b,c7]
def HX(P:TpP T G)(k:Nat){n r:Nat}{t:Tp}{h:HH}{e B:Nat}(a:TAt h n r t)(I:TI t e B)(m:Nat)(q:m<=t.far):
 runN T G (k+11) (.m "Tape" "at") [.o n,.p (.int m)] h=aa (.p (itr t.p t.aI m).enc,h) :=
 at_of P k a m (Vp q I.far) (xZ P k a I m q) (Go.refl a) I (Sm8.refl t) (by lia)
end
def sqB:S:=(.seq (.ex (.m2 .app (.v 4) (.callv 2 (cY (.y (.i (.v 0) "program") (.y (.v 3) (.aG "ROW"))) (.v 3))))) (.set 3 (.aH (.v 0) "behind" (cZ (.v 3)))))
def dZ:Fn:=⟨["self","moment","reader"],["self","moment","reader","state","told","step"], (.seq (.ex (.aH (.v 0) "check" (cZ (.v 1)))) (.blk (.seq (.set 3 (.y (.i (.v 0) "kept") (.j (.int 0)))) (.seq (.set 4 (.aD ah .nil)) (.seq (.for [(5,"step")] .rng1 (cZ (.v 1)) (.seq (.ex (.m2 .app (.v 4) (.callv 2 (cY (.y (.i (.v 0) "program") (.y (.v 3) (.aG "ROW"))) (.v 3))))) (.set 3 (.aH (.v 0) "behind" (cZ (.v 3)))))) (.ret (.v 4)))))))⟩
theorem qI:dZ=⟨["self","moment","reader"],["self","moment","reader","state","told","step"],
 (.seq (.ex (.aH (.v 0) "check" (.cons (.v 1) .nil)))
 (.blk (.seq (.set 3 (.y (.i (.v 0) "kept") (.j (.int 0))))
 (.seq (.set 4 (.aD ah .nil))
 (.seq (.for [(5,"step")] .rng1 (.cons (.v 1) .nil) sqB)
 (.ret (.v 4)))))))⟩:=rfl
def wm(t:Tp)(i:Nat):Option Rw:=t.p[(itr t.p t.aI i).row]?
structure Rds(T:FK->Option Fn)(G:aA->Option W)(n:Nat)(t:Tp)(q:FK)(cs:List Cp)(C:Nat->Cl->Prop)(e:Nat):Prop where
 zero:C 0 (.l [])
 ok:∀i c,C i c->i<e->∀g:HH,pV .app g.length (g++[c])=ah
 next:∀i c,C i c->i<e->∀k h r t' rw,TAt h n r t'->Sm8 t t'->wm t i=aa rw->∃w,runN T G (k+10) q (.p rw.enc::.p (itr t.p t.aI i).enc::cs.map Cp.w) h=aa (w,h)/\∃c',C (i+1) c'/\∀g:HH,oM2 .app g.length w (g++[c])=aa (.p .aF,g++[c'])
section
variable{T:FK->Option Fn}{G:aA->Option W}
def qJ(t:Tp)(r:Nat):eN "steps_to" (t.fs r)=af:=gE t r rfl
theorem zE(P:TpP T G)(k:Nat){n r:Nat}{t:Tp}{h:HH}{e H:Nat}(a:TAt h n r t)(I:TI t e H){q:FK}{M:List Cp}{C:Nat->Cl->Prop}(U:Rds T G n t q M C e)(B:W):∀(d j:Nat)(c:Cl)(x:Option W)(lo:Int),C j c->j+d<=e →
 ∃O c',C (j+d) c'/\dW (evS (runN T G (k+10)) G sqB) [(5,"step")] (upto lo d) [aa (.o n),aa B,aa (.c q M),aa (.p (itr t.p t.aI j).enc),aa (.r h.length),x] (h++[c]) =
  aa (.nx [aa (.o n),aa B,aa (.c q M),aa (.p (itr t.p t.aI (j+d)).enc),aa (.r h.length),O] (h++[c']))
 |0,j,c,x,lo,hc,_=>⟨x,c,hc,rfl⟩
 |d+1,j,c,x,lo,hc,hj=>by
  have le:=I.run.le;have m1:=I.m1;have A:=a.app (g:=[c]);obtain⟨D,J⟩:=qE I.run (i:=j) (by lia);obtain⟨w,Q,Y,V,Z⟩:=U.next j c hc (by lia) k (h++[c]) r t D A (.refl t) J
  have Z:=Z h;have ok:=U.ok j c hc (by lia) h;obtain⟨O,c',L,b⟩:=zE P k a I U B d (j+1) Y (aa (.p (.int lo))) (lo+1) V (by lia);have N:j+1+d=j+(d+1):=by lia
  rw[N]at L b;refine⟨O,c',L,?_⟩;have l:=a.app (g:=[Y]);have f:=iV P (k+3) l I.ok (j:=j) (st:=itr t.p t.aI j) (by lia) (iU I.ok I.ask I.run j (by lia)) (I.run.on j (by lia));have s:step t.p t.aI (itr t.p t.aI j)=itr t.p t.aI (j+1):=rfl;rw[s]at f;have m:upto lo (d+1)=.int lo::upto (lo+1) d:=by unfold upto;rw[Wy,U8,Xj];simp only[X8,aau,Wv,true_and];apply V9;intro i _;simp;lia
  rw[m];have v:dP (itr t.p t.aI j).enc (.int 0)=aa (.int ((itr t.p t.aI j).row:Int)):=rfl;have u:dP (eS t.p) (.int ((itr t.p t.aI j).row:Int))=aa D.enc:=by show atP _ _=_;rw[gR,Vh,J];rfl
  have F:evS (runN T G (k+10)) G sqB [aa (.o n),aa B,aa (.c q M),aa (.p (itr t.p t.aI j).enc),aa (.r h.length),aa (.p (.int lo))] (h++[c])=aa (.nx [aa (.o n),aa B,aa (.c q M),aa (.p (itr t.p t.aI (j+1)).enc),aa (.r h.length),aa (.p (.int lo))] (h++[Y])):=by
   generalize R:(itr t.p t.aI j).enc=z at *;generalize E:eS t.p=y at *;have K:eN "program" (t.fs r)=aa (.p y):=by rw[←E];rfl
   simp[-jh,sqB,ok,A.ob,l.ob,P.prg.ROW,K,v,u,Q,Z,jn,f]
  simp[F,b]
def mR(P:TpP T G)(N:T (.m "Tape" "steps_to")=aa dZ)(k:Nat){n r:Nat}{t:Tp}{h:HH}{e d:Nat}(a:TAt h n r t)(I:TI t e d){q:FK}{V:List Cp}{C:Nat->Cl->Prop}(M:Rds T G n t q V C e)(m:Nat)(F:m<=e)
(R:∀c,C m c->∃w,(∀(g:HH),xw g (aa c)=aa (w,g))/\(∀n,w≠.r n)/\∀n,w≠.o n):
 ∃c w,C m c/\(∀(g:HH),xw g (aa c)=aa (w,g))/\rC (runN T G (k+11) (.m "Tape" "steps_to") [.o n,.p (.int m),.c q V] h) w n h r t e d (max t.far m):=by
 obtain ⟨L,z,D,b,g,O,s,f⟩:=iK P k a I m F;have U:Rds T G n D q V C e:=⟨M.zero,M.ok,λi c K H k2 Q y u J X v E=>by
  have e1:wm t i=aa J:=by rw[←E];unfold wm;rw[s.p,s.aI]
  have:=M.next i c K H k2 Q y u J X (s.trans v) e1
  rw[s.p,s.aI];exact this⟩
 obtain⟨x',W,B,Y⟩:=zE P k g.b O U (.p (.int m)) m 0 (.l []) af 0 M.zero (by lia);rw[aaq]at B Y;obtain⟨w,j,nr,no⟩:=R W B;refine⟨W,w,B,j,L,z,D,?_,g,O,s,f⟩;have A:0<D.aJ.length:=by rw[O.len];exact aar _
 have Z:=O.aJ 0 A;rw[Nat.zero_mul]at Z;have ix:dP (.aD (D.aJ.map St.enc)) (.int 0)=aa (itr D.p D.aI 0).enc:=by show atP _ ((0:Nat):Int)=_;rw[gR,Vh,Z];rfl
 have le:=I.run.le;have m1:=I.m1;have x:gW .rng1 [.int (m:Int)]=aa (upto 0 m):=by
  rw[jk];have c:((-100000<=(m:Int):Bool)&&((m:Int)<=100000:Bool))=ah:=by simp only[UQ,bP];lia
  rw[bM c];rfl
 have fn:=λw=>fC g w;have S:fin L (.r L.length) (L++[W])=aa (w,L):=by simp[fin,j]
 rw[run_eq N rfl,qI];simp[-fm,-jk,a.ob,jM,b,g.b.ob,g.b.li,rd,ix,x,iM,Y,Gf,S,fn]
end
def jdB:S:=(.seq (.set 7 (.p2 .y (.v 3) (.bin .sub (.v 6) (.j (.int 1))))) (.seq (.set 8 (.p2 .mem (.p2 .y (.v 7) (.j (.int 0))) (.v 4))) (.seq (.v (.v 8) (.seq (.ex (.m2 .pop (.v 4) (.p2 .y (.v 7) (.j (.int 0))))) (.ex (.m2 .upd (.v 4) (.p2 .y (.v 7) (.j (.int 1)))))) .nil) (.v (.z .notN (.p2 .y (.v 7) (.j (.int 0))) (.j .aF)) (.ex (.me .append (.v 5) (cZ (.aE (cY (.v 6) (.v 8)))))) .nil))))
def jo:Fn:=⟨["tape","moment","term"],["tape","moment","term","steps","wanted","told","number","step","is_reason","<judged>"], (.seq (.set 3 (.methL (.v 0) "steps_to" (cZ (.v 1)) 13 [])) (.blk (.seq (.set 4 (.call "read_by" (cY (.v 2) (.aH (.v 0) "at" (cZ (.v 1)))))) (.seq (.set 5 (.aD ah .nil)) (.seq (.for [(6,"number")] .rng3 (cX (.v 1) (.j (.int 0)) (.neg (.j (.int 1)))) (.seq (.set 7 (.p2 .y (.v 3) (.bin .sub (.v 6) (.j (.int 1))))) (.seq (.set 8 (.p2 .mem (.p2 .y (.v 7) (.j (.int 0))) (.v 4))) (.seq (.v (.v 8) (.seq (.ex (.m2 .pop (.v 4) (.p2 .y (.v 7) (.j (.int 0))))) (.ex (.m2 .upd (.v 4) (.p2 .y (.v 7) (.j (.int 1)))))) .nil) (.v (.z .notN (.p2 .y (.v 7) (.j (.int 0))) (.j .aF)) (.ex (.me .append (.v 5) (cZ (.aE (cY (.v 6) (.v 8)))))) .nil))))) (.ret (.stp ai (-1) (.v 5))))))))⟩
theorem uE:jo=⟨["tape","moment","term"],["tape","moment","term","steps","wanted","told","number","step","is_reason","<judged>"],
 (.seq (.set 3 (.methL (.v 0) "steps_to" (.cons (.v 1) .nil) 13 []))
 (.blk (.seq (.set 4 (.call "read_by" (.cons (.v 2) (.cons (.aH (.v 0) "at" (.cons (.v 1) .nil)) .nil))))
 (.seq (.set 5 (.aD ah .nil))
 (.seq (.for [(6,"number")] .rng3 (.cons (.v 1) (.cons (.j (.int 0)) (.cons (.neg (.j (.int 1))) .nil))) jdB)
 (.ret (.stp ai (-1) (.v 5))))))))⟩:=rfl
structure JdP(T:FK->Option Fn):Prop where
 rd:RdP T
 steps_to:T (.m "Tape" "steps_to")=aa dZ
 judged:T "judged"=aa jo
 l13:T (.l 13)=aa yK
def gJ(t:Tp)(i:Nat):List Th:=match wm t i with
 |some r=>r.rd (itr t.p t.aI i)|none=>[]
def zF{t t':Tp}(s:Sm8 t t')(i:Nat):gJ t' i=gJ t i:=by unfold gJ wm;rw[s.p,s.aI]
def zG{t t':Tp}(s:Sm8 t t')(i:Nat):wn t' i=wn t i:=by unfold wn;rw[s.p,s.aI]
def wtD(t:Tp)(Q:Th->Prop)(m:Nat):Nat->Th->Prop
 |0,th=>Q th
 |d+1,th=>match wn t (m-d-1)with
  |none=>wtD t Q m d th|some x=>(wtD t Q m d x/\((wtD t Q m d th/\th≠x)\/th∈gJ t (m-d-1)))\/(¬wtD t Q m d x/\wtD t Q m d th)
theorem ya{t t':Tp}(s:Sm8 t t')(Q:Th->Prop)(m:Nat):∀(d:Nat)(th:Th),wtD t' Q m d th=wtD t Q m d th
 |0,th=>rfl
 |d+1,th=>by
  unfold wtD;rw[zG s,zF s];cases wn t (m-d-1)with
  |none=>exact ya s Q m d th|some x=>simp only[ya s Q m d]
def isR(t:Tp)(Q:Th->Prop)(m i:Nat):Prop:=∃x,wn t (i-1)=aa x/\wtD t Q m (m-i) x
open Classical in
noncomputable def nC(t:Tp)(Q:Th->Prop)(m j:Nat):D:=.aE [.int ((j:Int)+1),.bl (decide (isR t Q m (j+1)))]
open Classical in
def Mm{t:Tp}{Q:Th->Prop}{m j:Nat}(h:isR t Q m (j+1)):nC t Q m j=.aE [.int ((j:Int)+1),.bl ah]:=by unfold nC;rw[bR h]
open Classical in
def Mn{t:Tp}{Q:Th->Prop}{m j:Nat}(h:¬isR t Q m (j+1)):nC t Q m j=.aE [.int ((j:Int)+1),.bl ai]:=by unfold nC;rw[bQ h]
def jud(t:Tp)(Q:Th->Prop)(m:Nat):List D:=((Vj m).filter λj=>(wn t j).isSome).map (nC t Q m)
def mS(t:Tp)(Q:Th->Prop)(m j:Nat):List D:=(((Vj m).filter λi=>decide (j<=i)&&(wn t i).isSome).map (nC t Q m)).reverse
def Mp(t:Tp)(Q:Th->Prop)(m:Nat):mS t Q m m=[]:=by
 unfold mS;rw[List.filter_eq_nil_iff.mpr (λi q=>by have:=List.mem_range.mp q;simp;lia)]
 rfl
def Mq(t:Tp)(Q:Th->Prop)(m:Nat):mS t Q m 0=(jud t Q m).reverse:=by unfold mS jud;simp
def EG(m j:Nat)(p:Nat->Bool)(O:j<m):(Vj m).filter (λi=>decide (j<=i)&&p i)=(if p j then [j]else [])++(Vj m).filter (λi=>decide (j+1<=i)&&p i):=by
 induction m with
 |zero=>lia
 |succ m J =>
  rw[Zo,YL,YL]
  by_cases c:j=m
  ·subst c;have D:(Vj j).filter (λi=>decide (j<=i)&&p i)=[]:=List.filter_eq_nil_iff.mpr λi q=>by have:=List.mem_range.mp q;simp;lia
   have B:(Vj j).filter (λi=>decide (j+1<=i)&&p i)=[]:=List.filter_eq_nil_iff.mpr λi q=>by have:=List.mem_range.mp q;simp;lia
   rw[D,B];cases g:p j<;>simp[g]
  ·rw[J (by lia),Vv];have M:j<=m:=by lia
   have L:j+1<=m:=by lia
   congr 2;rw[Wh,Wh,bR M,bR L];rfl
def Mr(t:Tp)(Q:Th->Prop)(m j:Nat)(q:j<m):mS t Q m j=mS t Q m (j+1)++(if(wn t j).isSome then [nC t Q m j]else []):=by unfold mS;rw[EG m j _ q,W8,Yx];cases (wn t j).isSome<;>rfl
def Prs(t:Tp)(i:Nat)(ps:List Pr):Prop:=ps.length=i/\∀j,j<i->∃q,ps[j]?=aa (kZ (wn t j),q)/\Sb q 60 (λth=>th∈gJ t j)
def CP(t:Tp)(i:Nat)(c:Cl):Prop:=(i=0/\c=.l [])\/(0<i/\∃q,c=.s q/\Prs t i q)
section
variable{T:FK->Option Fn}{G:aA->Option W}
def A8(P:TpP T G)(O:WrP T)(J:JdP T)(k:Nat){t:Tp}{e:Nat}(ok:Pg.ok t.p){i:Nat}{st:St}(L:st.ok){B:Rw}(D:B∈t.p)(h:HH):
 ∃kvs,Sb kvs 60 (λth=>th∈B.rd st)/\runN T G (k+10) (.l 13) [.p B.enc,.p st.enc] h=aa (.k (.q (kZ (wb st B)) kvs),h):=by
 have w:=kD P.prg O (k+3) t.p.length B (ok _ D) L h;obtain⟨kvs,M,b⟩:=wk P.prg J.rd (k+4) t.p.length B (ok _ D) L h;refine⟨kvs,M,?_⟩;have z:=Cy (h:=h) (kvs:=kvs) [];rw[run_eq J.l13 rfl];generalize st.enc=y at *;generalize B.enc=x at *;simp[yK,w,b,z,c7]
def PF(P:TpP T G)(f:WrP T)(J:JdP T){n:Nat}{t:Tp}{e d:Nat}(I:TI t e d):Rds T G n t (.l 13) [] (CP t) e:=by
 refine⟨.inl ⟨rfl,rfl⟩,λi c M Z g=>?_,λi c M Z k h r m B a s L=>?_⟩
 ·rcases M with⟨_,rfl⟩|⟨_,ps,rfl,_⟩
  simp[pV,lat];simp[pV,sat]
 ·have O:=iU I.ok I.ask I.run i (by lia);obtain⟨q,D,b⟩:=A8 P f J k (t:=t) (e:=e) I.ok (i:=i) O.ok (UZ L) h;have e1:wb (itr t.p t.aI i) B=wn t i:=by unfold wn;rw[show t.p[(itr t.p t.aI i).row]?=aa B from L];rfl
  have e2:B.rd (itr t.p t.aI i)=gJ t i:=by unfold gJ;rw[L]
  rw[e1]at b;rw[e2]at D;refine⟨_,b,?_⟩;have le:=I.run.le;have m1:=I.m1;rcases M with⟨rfl,rfl⟩|⟨h0,ps,rfl,pl,pp⟩
  ·refine⟨.s [(kZ (wn t 0),q)],.inr ⟨by lia,_,rfl,rfl,λj Y=>?_⟩,λg=>by simp[pat]⟩;have:j=0:=by lia
   subst this;exact⟨q,rfl,D⟩
  ·refine⟨.s (ps++[(kZ (wn t i),q)]),.inr ⟨by lia,_,rfl,by simp[pl],λj Y=>?_⟩,λg=>?_⟩
   ·by_cases c:j<i
    ·obtain⟨W,V,U⟩:=pp j c;exact⟨W,by rw[UU (by lia)];exact V,U⟩
    ·have:j=i:=by lia
     subst this;exact⟨q,by rw[Vk (by lia),pl];simp,D⟩
   ·have c:ps.length<100000:=by lia
    simp[pat,c]
def zH(x:Th)(n:Nat)(h:HH):oP2 .mem (.p x.enc) (.r n) h=(dat h n).bind λkvs=>aa (.p (.bl (dY kvs x.ky).isSome),h):=by cases x<;>rfl
def wo(x:Th):jT x.enc=ai:=by cases x<;>rfl
def Ms(j:Nat):down ((j:Int)+1) (j+1)=.int ((j:Int)+1)::down j j:=by unfold down;rw[Wy,U8,Xj];simp only[X8,Int.sub_zero,Wv,true_and];apply V9;intro i _;simp;lia
noncomputable def jdS(n:Nat)(B q:W)(ps:List Pr)(H:Nat)(x y z:Option W):Sl:=[aa (.o n),aa B,aa q,aa (.k (.s ps)),aa (.r H),aa (.r (H+1)),x,y,z,af]
def HY{F:FK->List W->HH->Option (W×HH)}(n:Nat)(L J:W){ps:List Pr}{j:Nat}{kw:List (Ky×D)}(V:ps[j]?=aa (.aF,kw))(h:HH)(kvs:List (Ky×D))(B:List D)(y z:Option W):
 ∃O M,evS F G jdB (jdS n L J ps h.length (aa (.p (.int ((j:Int)+1)))) y z) (h++[.d kvs,.l B])=aa (.nx (jdS n L J ps h.length (aa (.p (.int ((j:Int)+1)))) O M) (h++[.d kvs,.l B])):=by
 refine⟨aa (.k (.q .aF kw)),aa (.p (.bl ai)),?_⟩;have U:atP ps (j:Int)=aa (.aF,kw):=(gR ps j).trans V;simp[-atP,jdB,jdS,U,A7]
def PJ{F:FK->List W->HH->Option (W×HH)}(n:Nat)(L J:W){ps:List Pr}{j:Nat}{kw:List (Ky×D)}{x:Th}(a:ps[j]?=aa (x.enc,kw))(h:HH)(kvs:List (Ky×D))(B:List D)(y z:Option W)(Z:(dY kvs x.ky).isSome=ai)(b:B.length<100000):
 ∃O M,evS F G jdB (jdS n L J ps h.length (aa (.p (.int ((j:Int)+1)))) y z) (h++[.d kvs,.l B])=aa (.nx (jdS n L J ps h.length (aa (.p (.int ((j:Int)+1)))) O M) (h++[.d kvs,.l (B++[.aE [.int ((j:Int)+1),.bl ai]])])):=by
 refine⟨aa (.k (.q x.enc kw)),aa (.p (.bl ai)),?_⟩;have Y:atP ps (j:Int)=aa (x.enc,kw):=(gR ps j).trans a;have U:=wo x;have V:=zH x;generalize x.enc=xe at *;simp[-atP,-Option.isSome_eq_false_iff,-Option.isNone_iff_eq_none,jdB,jdS,Y,A7,V,Z,U,uD,nZ,b]
def Mt{F:FK->List W->HH->Option (W×HH)}(n:Nat)(L J:W){ps:List Pr}{j:Nat}{kw:List (Ky×D)}{x:Th}(e:ps[j]?=aa (x.enc,kw))(h:HH)(kvs:List (Ky×D))(B:List D)(y z:Option W)(a:(dY kvs x.ky).isSome=ah)(f:B.length<100000)(g:(lg kvs x.ky).length+kw.length<=100000):
 ∃O M,evS F G jdB (jdS n L J ps h.length (aa (.p (.int ((j:Int)+1)))) y z) (h++[.d kvs,.l B])=aa (.nx (jdS n L J ps h.length (aa (.p (.int ((j:Int)+1)))) O M) (h++[.d (kw.foldl (λc p=>fu c p.1 p.2) (lg kvs x.ky)),.l (B++[.aE [.int ((j:Int)+1),.bl ah]])])):=by
 refine⟨aa (.k (.q x.enc kw)),aa (.p (.bl ah)),?_⟩;have Z:atP ps (j:Int)=aa (x.enc,kw):=(gR ps j).trans e;have U:=wo x;have V:=zH x;have Y:=x.Mg;obtain⟨v,b⟩:=Option.isSome_iff_exists.mp a;generalize x.enc=xe at *;simp[-atP,jdB,jdS,Z,A7,V,b,U,uD,nZ,ED,f,g,Y,pV]
def HZ{F:FK->List W->HH->Option (W×HH)}(n:Nat)(Z Y:W){t:Tp}{Q:Th->Prop}{m:Nat}{ps:List Pr}(P:Prs t m ps)(h:HH):∀(j:Nat)(kvs:List (Ky×D)) (b:Nat) (x y z:Option W),Sb kvs b (wtD t Q m (m-j))->j<=m->m<=1000->b+60*j<=90000 →
 ∃I V U f,dW (evS F G jdB) [(6,"number")] (down (j:Int) j) (jdS n Z Y ps h.length x y z) (h++[.d kvs,.l (mS t Q m j)])=aa (.nx (jdS n Z Y ps h.length I V U) (h++[.d f,.l (mS t Q m 0)])):=by
 intro j
 induction j with
 |zero=>intro kvs b x y z a R o S;exact⟨x,y,z,kvs,rfl⟩
 |succ j u =>
  intro kvs b x y z a R o S;obtain⟨N,e,E⟩:=P.2 j (by lia);have e1:m-j=(m-(j+1))+1:=by lia
  have e2:m-(m-(j+1))-1=j:=by lia
  have H:(mS t Q m (j+1)).length<100000:=by unfold mS;rw[List.length_reverse,U0];exact XD (Xl _ _) (by rw[XU];lia)
  have g:=Mr t Q m j (by lia);have T:(((j+1:Nat)):Int)=(j:Int)+1:=by lia
  rw[T,Ms];have st:∀w,sets [(6,("number":aA))] [w] (jdS n Z Y ps h.length x y z)=jdS n Z Y ps h.length (aa (.p w)) y z:=λw=>rfl;have X:=E.len;cases hw:wn t j with
  |none =>
   rw[hw]at e g;obtain⟨V,U,i⟩:=HY (F:=F) (G:=G) n Z Y e h kvs (mS t Q m (j+1)) y z;have M:Sb kvs b (wtD t Q m (m-j)):=by rw[e1];refine a.iff λth=>?_;rw[wtD,e2,hw]
   obtain⟨L,J,B,O,r⟩:=u kvs b (aa (.p (.int ((j:Int)+1)))) V U M (by lia) o (by lia);refine⟨L,J,B,O,?_⟩;rw[g]at r;simp only[aap,Xb,if_false,Vn]at r;rw[dW];simp only[Vy,gX,st,i,fO];exact r
  |some w =>
   rw[hw]at e g
   by_cases c:wtD t Q m (m-(j+1)) w
   ·have A:(dY kvs w.ky).isSome=ah:=(sG ..).mpr ((a.mem w).mpr c);have C:=a.del w;have K:=C.upd E;have l1:=C.len;obtain⟨V,U,i⟩:=Mt (F:=F) (G:=G) n Z Y e h kvs (mS t Q m (j+1)) y z A H (by lia);have M:Sb (N.foldl (λc p=>fu c p.1 p.2) (lg kvs w.ky)) (b+60) (wtD t Q m (m-j)):=by rw[e1];refine K.iff λth=>?_;rw[wtD,e2,hw];simp[c]
    obtain⟨L,J,B,O,r⟩:=u _ (b+60) (aa (.p (.int ((j:Int)+1)))) V U M (by lia) o (by lia);refine⟨L,J,B,O,?_⟩;have s:nC t Q m j=.aE [.int ((j:Int)+1),.bl ah]:=Mm ⟨w,hw,c⟩;rw[g,s]at r;simp only[Yw,if_true]at r;rw[dW];simp only[Vy,gX,st,i,fO];exact r
   ·have A:(dY kvs w.ky).isSome=ai:=Bool.eq_false_iff.mpr λz=>c ((a.mem w).mp ((sG ..).mp z));obtain⟨V,U,i⟩:=PJ (F:=F) (G:=G) n Z Y e h kvs (mS t Q m (j+1)) y z A H;have M:Sb kvs b (wtD t Q m (m-j)):=by rw[e1];refine a.iff λth=>?_;rw[wtD,e2,hw];simp[c]
    obtain⟨L,J,B,O,r⟩:=u kvs b (aa (.p (.int ((j:Int)+1)))) V U M (by lia) o (by lia);refine⟨L,J,B,O,?_⟩;have s:nC t Q m j=.aE [.int ((j:Int)+1),.bl ai]:=Mn λ⟨v,k,q⟩=>by have k:wn t j=aa v:=k;rw[hw]at k;cases k;exact c q
    rw[g,s]at r;simp only[Yw,if_true]at r;rw[dW];simp only[Vy,gX,st,i,fO];exact r
def rdS(t:Tp)(s:Sm)(m:Nat):Th->Prop:=λth=>th∈s.rd (itr t.p t.aI m)
def EI(xs:List D):pT (-1) xs=xs.reverse:=by unfold pT;rw[PySem.W.krv_bounds];show(Yb ((xs.length:Int)-1) (-1) (-1)).filterMap (λi=>xs[i]?)=_;rw[PySem.W.krv_sliceRange,PySem.W.krv_range,List.filterMap_reverse];have:=PySem.W.krv_all xs.toArray;simp only[US,aaj]at this;rw[this]
def qK(P:TpP T G)(R:WrP T)(J:JdP T)(k:Nat){n r:Nat}{t:Tp}{h:HH}{e j:Nat}(a:TAt h n r t)(I:TI t e j)(s:Sm)(W:iX s)(m:Nat)(i:m<=e):
 rC (runN T G (k+12) "judged" [.o n,.p (.int m),.p s.enc] h) (.p (.aD (jud t (rdS t s m) m))) n h r t e j (max t.far m):=by
 have le:=I.run.le;have m1:=I.m1;obtain⟨c,w,O,Y,q,H,A,b,g,v,U,f⟩:=mR P J.steps_to k a I (PF P R J (n:=n) I) m i λc O=>by
  rcases O with⟨_,rfl⟩|⟨_,ps,rfl,_⟩
  exact⟨.p (.aD []),λg=>rfl,λn z=>(nomatch z),λn z=>nomatch z⟩;exact⟨.k (.s ps),λg=>rfl,λn z=>(nomatch z),λn z=>nomatch z⟩
 refine⟨q,H,A,?_,g,v,U,f⟩;have u:=HX P k g.b v m (by lia);rw[U.p,U.aI]at u;obtain⟨B,C,Q⟩:=n8 P.prg J.rd (k+7) s (by have:=W.2;lia) W.1 _ (iU I.ok I.ask I.run m i).ok q;have K:xq w q=aa (w,q):=by
  rcases O with⟨_,rfl⟩|⟨_,ps,rfl,_⟩
  cases Y q;rfl;cases Y q;rfl
 have E:gW .rng3 [.int (m:Int),.int 0,.int (-1)]=aa (down (m:Int) m):=by rw[rQ,bM (by lia)];simp
 have L:∃x y z M,dW (evS (runN T G (k+11)) G jdB) [(6,"number")] (down (m:Int) m) [aa (.o n),aa (.p (.int m)),aa (.p s.enc),aa w,aa (.r q.length),aa (.r (q.length+1)),af,af,af,af] (q++[.d B,.l []])=aa (.nx [aa (.o n),aa (.p (.int m)),aa (.p s.enc),aa w,aa (.r q.length),aa (.r (q.length+1)),x,y,z,af] (q++[.d M,.l (jud t (rdS t s m) m).reverse])):=by
  rcases O with⟨rfl,rfl⟩|⟨_,ps,rfl,pp⟩
  exact⟨af,af,af,B,rfl⟩
  ·cases Y q;have V:Sb B 60 (wtD t (rdS t s m) m (m-m)):=by rw[aas];exact(C.le (by have:=W.2;lia)).iff λth=>aaY
   obtain⟨x,y,z,D,L⟩:=HZ (F:=runN T G (k+11)) (G:=G) n (.p (.int m)) (.p s.enc) pp q m B 60 af af af V (UT _) (by lia) (by lia);rw[Mp,Mq]at L;exact⟨x,y,z,D,L⟩
 obtain⟨x,y,z,D,L⟩:=L;have Z:=EI (jud t (rdS t s m) m).reverse;rw[List.reverse_reverse]at Z;have fn:=λw=>fC g w;have N:fin q (.p (.aD (jud t (rdS t s m) m))) (q++[.d D,.l (jud t (rdS t s m) m).reverse])=aa (.p (.aD (jud t (rdS t s m) m)),q):=lz q _ _;have S:q++[Cl.d B]++[Cl.l []]=q++[Cl.d B,Cl.l []]:=by simp
 rw[run_eq J.judged rfl,uE];simp[a.ob,qJ,b,K,g.b.ob,HN,u,Q,E,iM,L,uD,rd,Z,Gf,N,fn]
end
noncomputable def nI(xs:List Nat):List Int:=xs.map λ(n:Nat)=>(n:Int)
def EJ(xs:List Nat):dh xs=c6 (nI xs):=by simp[dh,c6,nI]
theorem nE:∀(xs:List Nat),intsOf (dh xs)=aa (nI xs)
 |[]=>rfl
 |x::xs=>by show(intsOf (dh xs)).map ((x:Int) :: ·)=_;rw[nE xs];rfl
theorem wu(w:Int):∀(xs σ:List Int),w∈xs.foldl (fun σ v=>if σ.any (·==v)then σ else σ++[v]) σ↔w∈σ\/w∈xs
 |[],σ=>by simp
 |v::xs,σ=>by
  have:w∈(if σ.any (·==v)then σ else σ++[v])↔w∈σ\/w=v:=by
   split
   ·rename_i c;obtain⟨x,q,e⟩:=List.any_eq_true.mp c;cases beq_iff_eq.mp e;exact⟨.inl,λz=>z.elim id λz=>z ▸ q⟩
   simp
  rw[WJ,wu w xs,this,Xr,or_assoc]
def Mu(x:Nat)(l:List Nat):(x:Int)∈nI l↔x∈l:=by
 unfold nI;rw[XC];constructor
 ·rintro ⟨y,h1,h2⟩
  have e:y=x:=by lia
  rw[←e];exact h1
 exact λh=>⟨x,h,rfl⟩
def Jo{S:List Nat}(q:S.Pairwise (· < ·)):(nI S).Pairwise (· < ·):=ZE _ (λa b h=>by lia) q
def oY{l S:List Nat}(B:∀x,x∈l↔x∈S)(q:S.Pairwise (· < ·))(D:l.length<64):biD .sset [.aD (dh l)]=aa (.aD (dh S)):=by
 have e:nI S=sortI (ded (nI l)):=by refine PySem.W.lks_uniq ?_ ((Jo q).imp λz=>by lia) (pR _);refine((ZC ((Jo q).imp λz=>by lia) (BX.rX _)).mpr λw=>?_).trans (sortI_perm _).symm;rw[ded,wu];simp only[WX,false_or];unfold nI;simp only[XC];exact⟨λ⟨y,h1,h2⟩=>⟨y,(B y).mpr h1,h2⟩,λ⟨y,h1,h2⟩=>⟨y,(B y).mp h1,h2⟩⟩
 rw[vj,nE,Wc,bM (by unfold nI;rw[U0];exact D),←e,EJ];rfl
noncomputable def mvs(m:Nat)(p:Nat->Bool):List Nat:=((Vj m).filter λj=>p (j+1)).map (·+1)
def eZ{m:Nat}{p:Nat->Bool}{x:Nat}:x∈mvs m p↔1<=x/\x<=m/\p x=ah:=by unfold mvs;simp only[XC,List.mem_filter,List.mem_range];exact⟨λ⟨j,⟨h1,h2⟩,h3⟩=>by subst h3;exact⟨by lia,by lia,h2⟩,λ⟨h1,h2,h3⟩=>⟨x-1,⟨by lia,by rw[show x-1+1=x by lia];exact h3⟩,by lia⟩⟩
def nF(m:Nat)(p:Nat->Bool):(mvs m p).Pairwise (· < ·):=by unfold mvs;refine ZE _ (λa b h=>Nat.succ_lt_succ h) ?_;exact(aac (n:=m)).filter _
def iH(m:Nat)(p:Nat->Bool):(mvs m p).length<=m:=by unfold mvs;rw[U0];exact Vp (Xl _ _) (by rw[XU];exact UT _)
def mT(m:Nat)(p:Nat->Bool):mvs (m+1) p=mvs m p++(if p (m+1)then [m+1]else []):=by unfold mvs;rw[Zo,YL,W8];cases h:p (m+1)<;>simp[h]
def A9{m:Nat}{p q:Nat->Bool}(h:∀x,1<=x->x<=m->p x=q x):mvs m p=mvs m q:=by unfold mvs;congr 1;exact YV λj B=>h (j+1) (by lia) (by have:=List.mem_range.mp B;lia)
open Classical in
noncomputable def fq(t:Tp)(Q:Th->Prop)(m x:Nat):Bool:=decide (isR t Q m x)
def fE{t:Tp}{Q:Th->Prop}{m x:Nat}:fq t Q m x=ah↔isR t Q m x:=by unfold fq;simp
def wrs(t:Tp)(x:Nat):Bool:=(wn t (x-1)).isSome
def rsn(t:Tp)(Q:Th->Prop)(m:Nat):List Nat:=mvs m (fq t Q m)
def ndl(t:Tp)(Q:Th->Prop)(m:Nat):List Nat:=mvs m λx=>wrs t x&&!fq t Q m x
def wA{t:Tp}{Q:Th->Prop}{m x:Nat}(h:fq t Q m x=ah):wrs t x=ah:=by obtain⟨w,q,_⟩:=fE.mp h;unfold wrs;rw[q];rfl
def zI{t t':Tp}(s:Sm8 t t')(Q:Th->Prop)(m x:Nat):fq t' Q m x=fq t Q m x:=by
 have e:isR t' Q m x=isR t Q m x:=by unfold isR;simp only[zG s,ya s]
 unfold fq;rw[e]
def Mv{t t':Tp}(s:Sm8 t t')(x:Nat):wrs t' x=wrs t x:=by unfold wrs;rw[zG s]
def nG{t t':Tp}(s:Sm8 t t')(Q:Th->Prop)(m:Nat):rsn t' Q m=rsn t Q m:=by unfold rsn;rw[show fq t' Q m=fq t Q m from funext λx=>zI s Q m x]
def EK{t t':Tp}(s:Sm8 t t')(Q:Th->Prop)(m:Nat):ndl t' Q m=ndl t Q m:=by unfold ndl;congr 1;funext x;rw[zI s,Mv s]
def qL{t t':Tp}(s:Sm8 t t')(c:Sm)(m:Nat):rdS t' c m=rdS t c m:=by unfold rdS;rw[s.p,s.aI]
def jQ:Fn:=⟨["tape","moment","term"],["tape","moment","term"], (.ret (.comp ai .seq (cZ (.call "judged" (cX (.v 0) (.v 1) (.v 2)))) ["number","is_reason"] [] (cZ (.v 1)) (.v 0)))⟩
def je:Fn:=⟨["tape","moment","term"],["tape","moment","term"], (.ret (.comp ai .seq (cZ (.call "judged" (cX (.v 0) (.v 1) (.v 2)))) ["number","is_reason"] [] (cZ (.not (.v 1))) (.v 0)))⟩
open Classical in
def zJ(t:Tp)(Q:Th->Prop)(m j:Nat):nC t Q m j=.aE [.int ((j:Int)+1),.bl (fq t Q m (j+1))]:=by unfold nC fq;rfl
section
variable{T:FK->Option Fn}{G:aA->Option W}
def sJ(l:List Nat)(p:Nat->Bool):l.filterMap (λj=>if p j=ah then aa (D.int ((j:Int)+1))else af)=dh ((l.filter p).map (·+1)):=by
 induction l with
 |nil=>rfl
 |cons x l q =>
  rw[Vs,Wh];cases h:p x;simp[q];simp[q,dh]
def gq(P:TpP T G)(i:WrP T)(J:JdP T)(Z:T "reasons"=aa jQ)(k:Nat){n r:Nat}{t:Tp}{h:HH}{e L:Nat}(a:TAt h n r t)(I:TI t e L)(s:Sm)(V:iX s)(m:Nat)(W:m<=e):
 rC (runN T G (k+13) "reasons" [.o n,.p (.int m),.p s.enc] h) (.p (.aD (dh (rsn t (rdS t s m) m)))) n h r t e L (max t.far m):=by
 obtain⟨B,U,M,b,g,l,O,f⟩:=qK P i J k a I s V m W;refine⟨B,U,M,?_,g,l,O,f⟩;have le:=I.run.le;have m1:=I.m1;have fn:=λw=>fC g w;have c:dX (fN (evs (runN T G (k+12)) G (.cons (.v 1) .nil)) (aO (runN T G (k+12)) G (.v 0)) []) 2 (jud t (rdS t s m) m) B=aa (dh (rsn t (rdS t s m) m),B):=by
  have q:=EB (fN (evs (runN T G (k+12)) G (.cons (.v 1) .nil)) (aO (runN T G (k+12)) G (.v 0)) []) 2 (nC t (rdS t s m) m) (λj=>[.int ((j:Int)+1),.bl (fq t (rdS t s m) m (j+1))]) (λj=>if fq t (rdS t s m) m (j+1)=ah then aa (.int ((j:Int)+1))else af) B ((Vj m).filter λj=>(wn t j).isSome) λj u=>by refine⟨by rw[zJ];rfl,?_⟩;cases fq t (rdS t s m) m (j+1)<;>simp[fN,fZ]
  rw[sJ,aaX]at q;unfold jud rsn mvs;rw[q];congr 4;apply YV;intro j _;cases Y:fq t (rdS t s m) m (j+1);rfl
  ·have:=wA Y;unfold wrs at this;simpa using this
 have d:(dh (rsn t (rdS t s m) m)).length<=100000:=by have:=iH m (fq t (rdS t s m) m);simp only[dh,U0];unfold rsn;lia
 have D:=oX (F:=runN T G (k+12)) (G:=G) (sr:=.seq) (sa:=.cons (.call "judged" (.cons (.v 0) (.cons (.v 1) (.cons (.v 2) .nil)))) .nil) (tg:=["number","is_reason"]) (fv:=[]) (cond:=.cons (.v 1) .nil) (elt:=.v 0) (s:=[aa (.o n),aa (.p (.int m)),aa (.p s.enc)]) (h:=h) (ws:=[.p (.aD (jud t (rdS t s m) m))]) (h1:=B) (fs:=[]) (by simp[b]) rfl rfl rfl c d;rw[run_eq Z rfl];have D:aO (runN T G (k+12)) G (.comp ai .seq (.cons (.call "judged" (.cons (.v 0) (.cons (.v 1) (.cons (.v 2) .nil)))) .nil) ["number","is_reason"] [] (.cons (.v 1) .nil) (.v 0)) [aa (.o n),aa (.p (.int m)),aa (.p s.enc)] h=_:=D;show nh (bnd (aO (runN T G (k+12)) G (.comp ai .seq (.cons (.call "judged" (.cons (.v 0) (.cons (.v 1) (.cons (.v 2) .nil)))) .nil) ["number","is_reason"] [] (.cons (.v 1) .nil) (.v 0)) [aa (.o n),aa (.p (.int m)),aa (.p s.enc)] h) qY) (fin h)=_;rw[D];exact fn _
def uF(P:TpP T G)(d:WrP T)(J:JdP T)(W:T "needless"=aa je)(k:Nat){n r:Nat}{t:Tp}{h:HH}{e D:Nat}(a:TAt h n r t)(I:TI t e D)(s:Sm)(U:iX s)(m:Nat)(V:m<=e):
 rC (runN T G (k+13) "needless" [.o n,.p (.int m),.p s.enc] h) (.p (.aD (dh (ndl t (rdS t s m) m)))) n h r t e D (max t.far m):=by
 obtain⟨B,O,L,b,g,i,M,f⟩:=qK P d J k a I s U m V;refine⟨B,O,L,?_,g,i,M,f⟩;have le:=I.run.le;have m1:=I.m1;have fn:=λw=>fC g w;have c:dX (fN (evs (runN T G (k+12)) G (.cons (.not (.v 1)) .nil)) (aO (runN T G (k+12)) G (.v 0)) []) 2 (jud t (rdS t s m) m) B=aa (dh (ndl t (rdS t s m) m),B):=by
  have q:=EB (fN (evs (runN T G (k+12)) G (.cons (.not (.v 1)) .nil)) (aO (runN T G (k+12)) G (.v 0)) []) 2 (nC t (rdS t s m) m) (λj=>[.int ((j:Int)+1),.bl (fq t (rdS t s m) m (j+1))]) (λj=>if(!fq t (rdS t s m) m (j+1))=ah then aa (.int ((j:Int)+1))else af) B ((Vj m).filter λj=>(wn t j).isSome) λj l=>by refine⟨by rw[zJ];rfl,?_⟩;cases fq t (rdS t s m) m (j+1)<;>simp[fN,fZ]
  rw[sJ,aaX]at q;unfold jud ndl mvs;rw[q];congr 4;apply YV;intro j _;rw[Bool.and_comm];rfl
 have Z:(dh (ndl t (rdS t s m) m)).length<=100000:=by have:=iH m λx=>wrs t x&&!fq t (rdS t s m) m x;simp only[dh,U0];unfold ndl;lia
 have Y:=oX (F:=runN T G (k+12)) (G:=G) (sr:=.seq) (sa:=.cons (.call "judged" (.cons (.v 0) (.cons (.v 1) (.cons (.v 2) .nil)))) .nil) (tg:=["number","is_reason"]) (fv:=[]) (cond:=.cons (.not (.v 1)) .nil) (elt:=.v 0) (s:=[aa (.o n),aa (.p (.int m)),aa (.p s.enc)]) (h:=h) (ws:=[.p (.aD (jud t (rdS t s m) m))]) (h1:=B) (fs:=[]) (by simp[b]) rfl rfl rfl c Z;rw[run_eq W rfl];show nh (bnd (aO (runN T G (k+12)) G (.comp ai .seq (.cons (.call "judged" (.cons (.v 0) (.cons (.v 1) (.cons (.v 2) .nil)))) .nil) ["number","is_reason"] [] (.cons (.not (.v 1)) .nil) (.v 0)) [aa (.o n),aa (.p (.int m)),aa (.p s.enc)] h) qY) (fin h)=_;rw[show aO (runN T G (k+12)) G (.comp ai .seq (.cons (.call "judged" (.cons (.v 0) (.cons (.v 1) (.cons (.v 2) .nil)))) .nil) ["number","is_reason"] [] (.cons (.not (.v 1)) .nil) (.v 0)) [aa (.o n),aa (.p (.int m)),aa (.p s.enc)] h=_ from Y];exact fn _
end
def rmB:S:=(.seq (.set 5 (.y (.v 3) (.bin .sub (.v 2) (.j (.int 1))))) (.set 4 (.aH (.v 0) "behind" (cZ (.aE (cU (.y (.v 5) (.aG "ROW")) (.y (.v 4) (.aG "NAMES")) (.y (.v 4) (.aG "CELLS")) (.y (.v 5) (.aG "CALLS")) (.y (.v 5) (.aG "ASKED")) (.aE .nil)))))))
def rmK:S:=.ex (.call "check_step" (cY (.v 0) (.v 2)))
def jq:Fn:=⟨["tape","moments"],["tape","moments","moment","heads","state","head","<remade>"], (.seq (.for [(2,"moment")] .seq (cZ (.v 1)) (.ex (.call "check_step" (cY (.v 0) (.v 2))))) (.seq (.set 3 (.methL (.v 0) "steps_to" (cZ (.bi .maxd ai (cY (.v 1) (.j (.int 0))))) 14 [])) (.seq (.set 4 (.call "begun" .nil)) (.seq (.for [(2,"moment")] .seq (cZ (.bi .sset ai (cZ (.v 1)))) (.seq (.set 5 (.y (.v 3) (.bin .sub (.v 2) (.j (.int 1))))) (.set 4 (.aH (.v 0) "behind" (cZ (.aE (cU (.y (.v 5) (.aG "ROW")) (.y (.v 4) (.aG "NAMES")) (.y (.v 4) (.aG "CELLS")) (.y (.v 5) (.aG "CALLS")) (.y (.v 5) (.aG "ASKED")) (.aE .nil)))))))) (.ret (.aE (cY (.y (.v 4) (.aG "NAMES")) (.y (.v 4) (.aG "CELLS")))))))))⟩
theorem uG:jq=⟨["tape","moments"],["tape","moments","moment","heads","state","head","<remade>"],
 (.seq (.for [(2,"moment")] .seq (.cons (.v 1) .nil) rmK)
 (.seq (.set 3 (.methL (.v 0) "steps_to" (.cons (.bi .maxd ai (.cons (.v 1) (.cons (.j (.int 0)) .nil))) .nil) 14 []))
 (.seq (.set 4 (.call "begun" .nil))
 (.seq (.for [(2,"moment")] .seq (.cons (.bi .sset ai (.cons (.v 1) .nil)) .nil) rmB)
 (.ret (.aE (.cons (.y (.v 4) (.aG "NAMES")) (.cons (.y (.v 4) (.aG "CELLS")) .nil))))))))⟩:=rfl
structure RmP(T:FK->Option Fn):Prop where
 remade:T "remade"=aa jq
 steps_to:T (.m "Tape" "steps_to")=aa dZ
 l14:T (.l 14)=aa yL
def mix(t:Tp)(i:Nat)(st:St):St:=⟨(itr t.p t.aI i).row,st.names,st.cells,(itr t.p t.aI i).calls,(itr t.p t.aI i).aI,[]⟩
def rmd(t:Tp):List Nat->St->St
 |[],st=>st|x::l,st=>rmd t l (step t.p t.aI (mix t (x-1) st))
theorem uH(t:Tp):∀(l r:List Nat)(st:St),rmd t (l++r) st=rmd t r (rmd t l st)
 |[],r,st=>rfl|x::l,r,st=>uH t l r _
def Mw{t t':Tp}(s:Sm8 t t')(i:Nat)(st:St):mix t' i st=mix t i st:=by unfold mix;rw[s.p,s.aI]
theorem yb{t t':Tp}(s:Sm8 t t'):∀(l:List Nat)(st:St),rmd t' l st=rmd t l st
 |[],st=>rfl
 |x::l,st=>by show rmd t' l (step t'.p t'.aI (mix t' (x-1) st))=_;rw[Mw s,s.p,s.aI,yb s l];rfl
def wB(t:Tp)(i:Nat)(st:St):over t.p (mix t i st)=over t.p (itr t.p t.aI i):=by
 unfold over;show(match t.p[(itr t.p t.aI i).row]? with|some r=>r.over (mix t i st)|none=>ah)=_;cases t.p[(itr t.p t.aI i).row]? with
 |none=>rfl|some r=>cases r<;>rfl
def yc{t:Tp}{e:Nat}(ok:Pg.ok t.p)(ask:Ask t.aI)(R:Run t.p t.aI t.most e){i:Nat}(hi:i<=e){st:St}(q:st.ok):At i (mix t i st):=by have a:=iU ok ask R i hi;exact⟨⟨q.nlen,q.clen,q.nw,q.cw⟩,VL _,a.calls⟩
def wC{t:Tp}{e:Nat}(ok:Pg.ok t.p)(ask:Ask t.aI)(R:Run t.p t.aI t.most e){i:Nat}(hi:i<e){st:St}(q:st.ok):(step t.p t.aI (mix t i st)).ok :=
 (zo ok ask (yc ok ask R (V6 hi) q) ((wB t i st).trans (R.on i hi))).ok
theorem yd{t:Tp}{e:Nat}(ok:Pg.ok t.p)(ask:Ask t.aI)(R:Run t.p t.aI t.most e):∀(l:List Nat)(st:St),(∀x∈l,1<=x/\x<=e)->st.ok->(rmd t l st).ok
 |[],st,_,ho=>ho
 |x::l,st,hl,ho=>by have:=hl x UY;exact yd ok ask R l _ (λy q=>hl y (UV _ q)) (wC ok ask R (by lia) ho)
def hdD(t:Tp)(i:Nat):D:=.aE [.int (itr t.p t.aI i).row,.aE (c6 (itr t.p t.aI i).names),.aE (c6 (itr t.p t.aI i).cells),.aE (dh (itr t.p t.aI i).calls),.int (itr t.p t.aI i).aI]
def hds(t:Tp)(M:Nat):List D:=(Vj M).map (hdD t)
section
variable{T:FK->Option Fn}{G:aA->Option W}
theorem zK(P:TpP T G)(M:WrP T)(k:Nat){n:Nat}{e J:Nat}(q:W):∀(l:List Nat)(h:HH)(r:Nat)(t:Tp) (x:Option W),TAt h n r t->TI t e J->(∀y∈l,1<=y/\y<=e) →
 ∃B h' g t',dW (evS (runN T G (k+11)) G rmK) [(2,"moment")] (dh l) [aa (.o n),aa q,x,af,af,af,af] h=aa (.nx [aa (.o n),aa q,B,af,af,af,af] h')/\Go n h r t h' g t'/\TI t' e J/\Sm8 t t'
 |[],h,r,t,x,a,I,_=>⟨x,h,r,t,rfl,Go.refl a,I,Sm8.refl t⟩
 |y::l,h,r,t,x,a,I,hl=>by
  obtain⟨U,O⟩:=hl y UY;obtain⟨D,f,Y,v,L,A,c⟩:=qF P M k a I y U O;obtain⟨B,j,d,V,u,m,w,Z⟩:=zK P M k q l D f Y (aa (.p (.int y))) L.b A λz i=>hl z (UV _ i);refine⟨B,j,d,V,?_,L.trans m,w,c.trans Z⟩;have s:evS (runN T G (k+11)) G rmK [aa (.o n),aa q,aa (.p (.int y)),af,af,af,af] h=aa (.nx [aa (.o n),aa q,aa (.p (.int y)),af,af,af,af] D):=by simp[rmK,v]
  show dW _ _ (.int (y:Int)::dh l) _ _=_;rw[dW];simp only[Vy,gX,sets,aaW,aaV,s,fO];exact u
def PK(P:TpP T G)(M:RmP T){n:Nat}{t:Tp}{e L:Nat}(I:TI t e L):Rds T G n t (.l 14) [] (λi c=>c=.l (hds t i)) e:=by
 have le:=I.run.le;have m1:=I.m1;refine⟨rfl,λi c B J g=>by subst B;simp[pV,lat],λi c B J k h r O q a s U=>?_⟩;subst B;have D:qW (itr t.p t.aI i).enc af (aa 5)=aa (hdD t i):=by unfold St.enc hdD;rw[xj];rfl
 have b:runN T G (k+10) (.l 14) [.p q.enc,.p (itr t.p t.aI i).enc] h=aa (.p (hdD t i),h):=by rw[run_eq M.l14 rfl];generalize (itr t.p t.aI i).enc=y at *;simp[yL,P.prg.SAID,D,c7]
 refine⟨_,b,.l (hds t (i+1)),rfl,λg=>?_⟩;have e1:hds t (i+1)=hds t i++[hdD t i]:=by unfold hds;rw[Zo,W8];rfl
 have c:(hds t i).length<100000:=by unfold hds;rw[U0,XU];lia
 rw[e1];simp[lat,c]
theorem zL(P:TpP T G)(k:Nat){n r:Nat}{t:Tp}{h:HH}{e f:Nat}(a:TAt h n r t)(I:TI t e f)(B:W){M:Nat}(d:M<=e):∀(S:List Nat)(st:St)(x y:Option W),st.ok->(∀z∈S,1<=z/\z<=M) →
 ∃J D,dW (evS (runN T G (k+11)) G rmB) [(2,"moment")] (dh S) [aa (.o n),aa B,x,aa (.p (.aD (hds t M))),aa (.p st.enc),y,af] h=aa (.nx [aa (.o n),aa B,J,aa (.p (.aD (hds t M))),aa (.p (rmd t S st).enc),D,af] h)
 |[],st,x,y,_,_=>⟨x,y,rfl⟩
 |z::S,st,x,y,ho,hS=>by
  obtain⟨m,l⟩:=hS z UY;have le:=I.run.le;have m1:=I.m1;obtain⟨J,D,b⟩:=zL P k a I B d S (step t.p t.aI (mix t (z-1) st)) (aa (.p (.int z))) (aa (.p (hdD t (z-1)))) (wC I.ok I.ask I.run (by lia) ho) λq c=>hS q (UV _ c);refine⟨J,D,?_⟩;have L:=iV P (k+4) a I.ok (j:=z-1) (st:=mix t (z-1) st) (by lia) (yc I.ok I.ask I.run (by lia) ho) ((wB t (z-1) st).trans (I.run.on (z-1) (by lia)));have g:(mix t (z-1) st).enc=.aE [.int (itr t.p t.aI (z-1)).row,.aE (c6 st.names),.aE (c6 st.cells),.aE (dh (itr t.p t.aI (z-1)).calls),.int (itr t.p t.aI (z-1)).aI,.aE []]:=rfl;rw[g]at L;have Z:dP (.aD (hds t M)) (.int (z-1))=aa (hdD t (z-1)):=by show atP _ _=_;rw[show((z:Int)-1)=((z-1:Nat):Int) by lia,gR];unfold hds;rw[Vh,WZ (by lia)];rfl
  have Y:dP (hdD t (z-1)) (.int 0)=aa (.int (itr t.p t.aI (z-1)).row):=rfl;have V:dP (hdD t (z-1)) (.int 3)=aa (.aE (dh (itr t.p t.aI (z-1)).calls)):=rfl;have U:dP (hdD t (z-1)) (.int 4)=aa (.int (itr t.p t.aI (z-1)).aI):=rfl;have O:dP st.enc (.int 1)=aa (.aE (c6 st.names)):=rfl;have k2:dP st.enc (.int 2)=aa (.aE (c6 st.cells)):=rfl;have i:evS (runN T G (k+11)) G rmB [aa (.o n),aa B,aa (.p (.int z)),aa (.p (.aD (hds t M))),aa (.p st.enc),y,af] h=aa (.nx [aa (.o n),aa B,aa (.p (.int z)),aa (.p (.aD (hds t M))),aa (.p (step t.p t.aI (mix t (z-1) st)).enc),aa (.p (hdD t (z-1))),af] h):=by generalize hdD t (z-1)=hd at *;generalize st.enc=se at *;generalize (step t.p t.aI (mix t (z-1) st)).enc=sn at *;generalize hds t M=hm at *;simp[-fm,-jh,rmB,rd,Z,Y,V,U,O,k2,P.prg.ROW,P.prg.NAMES,P.prg.CELLS,P.prg.CALLS,P.prg.ASKED,a.ob,jn,L]
  show dW _ _ (.int (z:Int)::dh S) _ _=_;rw[dW];simp only[Vy,gX,sets,aaW,aaV,i,fO];exact b
def Ia{e:Nat}:∀{l:List Nat},(∀x∈l,1<=x/\x<=e)->∃M:Nat,biD .maxd [.aD (dh l),.int 0]=aa (.int (M:Int))/\M<=e/\∀x∈l,x<=M:=by
 intro l L;rw[vm,nE];cases q:vf (nI l)with
 |none =>
  cases l with
  |nil=>exact⟨0,by rw[WC,q];rfl,VL _,λx B=>nomatch B⟩|cons x l=>exact gu q.symm
 |some M =>
  obtain⟨D,O⟩:=m7 q;unfold nI at D;obtain⟨y,J,e1⟩:=List.mem_map.mp D;subst e1;refine⟨y,by rw[WC,q];rfl,(L y J).2,λx B=>?_⟩;have:=O (x:Int) ((Mu x l).mpr B);lia
def qM(P:TpP T G)(Wr:WrP T)(W:RmP T)(k:Nat){n r:Nat}{t:Tp}{h:HH}{e f:Nat}(a:TAt h n r t)(I:TI t e f){l S:List Nat}(J:∀x∈l,1<=x/\x<=e)(D:∀x,x∈l↔x∈S)(K:S.Pairwise (· < ·))(hz:l.length<64):
 wg (runN T G (k+12) "remade" [.o n,.p (.aD (dh l))] h) (.p (.aE [.aE (c6 (rmd t S St.zero).names),.aE (c6 (rmd t S St.zero).cells)])) n h r t e f:=by
 obtain⟨y,h1,r1,Z,X,q,v,C⟩:=zK P Wr k (.p (.aD (dh l))) l h r t af a I J;obtain⟨M,F,d,O⟩:=Ia J;obtain⟨c,w,L,Q,U,E,Y,m,V,u,B,f2⟩:=mR P W.steps_to k q.b v (PK P W (n:=n) v) M d λc L=>by subst L;exact⟨.p (.aD (hds Z M)),λg=>rfl,λn z=>(nomatch z),λn z=>nomatch z⟩
 subst L;cases Q U;have s:=C.trans B;have N:hds Z M=hds Y M:=by unfold hds;congr 1;funext i;unfold hdD;rw[B.p,B.aI]
 rw[N]at m;have R:=sy P.prg (k+10) U;obtain⟨x3,y3,j⟩:=zL P k V.b u (.p (.aD (dh l))) d S St.zero y af oU λz hz=>⟨(J z ((D z).mpr hz)).1,O z ((D z).mpr hz)⟩;rw[yb s]at j;refine⟨U,E,Y,?_,q.trans V,u,s⟩;have A:=oY D K hz;have fn:=λw=>fC (q.trans V) w;have H:dP (rmd t S St.zero).enc (.int 1)=aa (.aE (c6 (rmd t S St.zero).names)):=rfl;have k2:dP (rmd t S St.zero).enc (.int 2)=aa (.aE (c6 (rmd t S St.zero).cells)):=rfl;generalize (rmd t S St.zero).enc=se at *;rw[run_eq W.remade rfl,uG];simp[-jh,rd,iM,X,F,q.b.ob,qJ,m,R,A,j,H,k2,P.prg.NAMES,P.prg.CELLS,fn]
end
theorem gr{st st':St}:∀(s:Sm),(∀th∈s.rd st,th.val st'=th.val st)->s.val st'=s.val st/\s.rd st'=s.rd st
 |.num _,_=>⟨rfl,rfl⟩|.nam x,h=>⟨h (.nm x) UY,rfl⟩
 |.cell s,h=>by obtain⟨B,J⟩:=gr s λth q=>h th (VG _ q);have D:=h (.cl (s.val st%4).toNat (by lia)) (Vf _ UY);refine⟨?_,by simp only[Sm.rd,B,J]⟩;show st'.cells.getD (s.val st'%4).toNat 0=st.cells.getD (s.val st%4).toNat 0;rw[B];exact D
 |.two o a b,h=>by obtain⟨B,J⟩:=gr a λth q=>h th (VG _ q);obtain⟨D,L⟩:=gr b λth q=>h th (Vf _ q);exact⟨by simp only[Sm.val,B,D],by simp only[Sm.rd,J,L]⟩
def Jp{st st':St}(hn:st'.names=st.names)(q:st'.cells=st.cells)(th:Th):th.val st'=th.val st:=by cases th<;>simp only[Th.val,hn,q]
def EL{st st':St}(hn:st'.names=st.names)(q:st'.cells=st.cells)(s:Sm):s.val st'=s.val st:=(gr s λth _=>Jp hn q th).1
def wvl(aI:List Int)(st:St):Rw->Int
 |.set _ s=>s.val st|.put _ u=>u.val st|.ask _=>aI.getD st.aI 0|_=>0
def wD{aI:List Int}{st:St}(q:st.ok){r:Rw}{th:Th}(h:wb st r=aa th):th.val (r.next aI st)=wvl aI st r:=by
 have nm:∀(x:Nm)(v:Int),(st.names.set x.ix v).getD x.ix 0=v:=λx v=>by have:=x.D3;rw[VW,VB (by rw[q.nlen];exact this)];rfl
 cases r with
 |set x s=>cases h;exact nm x _|ask x=>cases h;exact nm x _
 |put s u =>
  cases h;show(st.cells.set (s.val st%4).toNat (u.val st)).getD (s.val st%4).toNat 0=_;rw[VW,VB (by rw[q.clen];lia)];rfl
 |_=>cases h
def EM{aI:List Int}{st st':St}{r:Rw}(h:∀th∈r.rd st,th.val st'=th.val st)(B:st'.aI=st.aI):wb st' r=wb st r/\wvl aI st' r=wvl aI st r:=by
 cases r with
 |set x s=>exact⟨rfl,(gr s h).1⟩|ask x=>exact⟨rfl,by simp only[wvl,B]⟩
 |put s u =>
  have J:=(gr u λth q=>h th (VG _ q)).1;have D:=(gr s λth q=>h th (Vf _ q)).1;exact⟨by simp only[wb,D],J⟩
 |_=>exact⟨rfl,rfl⟩
def zM(t:Tp)(i:Nat)(st:St)(th:Th):th.val (mix t i st)=th.val st:=Jp rfl rfl th
section
variable{t:Tp}{e:Nat}
def Mx(ok:Pg.ok t.p)(ask:Ask t.aI)(R:Run t.p t.aI t.most e){i:Nat}(hi:i<e){st:St}(O:st.ok)(U:∀th∈gJ t i,th.val st=th.val (itr t.p t.aI i))(th:Th):
 (wn t i=aa th->th.val (step t.p t.aI (mix t i st))=th.val (itr t.p t.aI (i+1)))/\(wn t i≠aa th->th.val (step t.p t.aI (mix t i st))=th.val st):=by
 obtain⟨r,q⟩:=qE R hi;have e1:step t.p t.aI (mix t i st)=r.next t.aI (mix t i st):=by unfold step;rw[show t.p[(mix t i st).row]?=aa r from q]
 have e2:itr t.p t.aI (i+1)=r.next t.aI (itr t.p t.aI i):=by show step t.p t.aI (itr t.p t.aI i)=_;unfold step;rw[q]
 have J:wn t i=wb (itr t.p t.aI i) r:=by unfold wn;rw[q];rfl
 have B:∀th∈r.rd (itr t.p t.aI i),th.val (mix t i st)=th.val (itr t.p t.aI i):=λth M=>by rw[zM];refine U th ?_;unfold gJ wm;rw[q];exact M
 obtain⟨D,L⟩:=EM (aI:=t.aI) (st:=itr t.p t.aI i) (st':=mix t i st) B rfl;refine⟨λh=>?_,λh=>?_⟩
 ·rw[J]at h;rw[e1,e2,wD (iU ok ask R i (by lia)).ok h,wD (yc ok ask R (by lia) O).ok (D.trans h),L]
 ·rw[J,←D]at h;rw[e1,sF h,zM]
theorem qN{Q:Th->Prop}{m i:Nat}(hi:i<m)(th:Th):wtD t Q m (m-i) th=match wn t i with
 |none=>wtD t Q m (m-(i+1)) th
 |some x=>(wtD t Q m (m-(i+1)) x/\((wtD t Q m (m-(i+1)) th/\th≠x)\/th∈gJ t i))\/(¬wtD t Q m (m-(i+1)) x/\wtD t Q m (m-(i+1)) th):=by
 rw[show m-i=(m-(i+1))+1 by lia,wtD,show m-(m-(i+1))-1=i by lia]
 all_goals cases wn t i<;>rfl
def slice(ok:Pg.ok t.p)(ask:Ask t.aI)(R:Run t.p t.aI t.most e){Q:Th->Prop}{m:Nat}(V:m<=e):∀i,i<=m->∀th,wtD t Q m (m-i) th->th.val (rmd t (mvs i (fq t Q m)) St.zero)=th.val (itr t.p t.aI i):=by
 intro i
 induction i with
 |zero=>intro _ th _;rfl
 |succ i B =>
  intro W th hw;have B:=B (by lia);rw[mT];cases J:fq t Q m (i+1)with
  |true =>
   obtain⟨x,q,L⟩:=fE.mp J;have q:wn t i=aa x:=q;simp only[if_true];rw[uH];show th.val (step t.p t.aI (mix t i (rmd t (mvs i (fq t Q m)) St.zero)))=_;have O:=yd ok ask R (mvs i (fq t Q m)) St.zero (λy D=>by have:=eZ.mp D;lia) oU;have U:∀y∈gJ t i,y.val (rmd t (mvs i (fq t Q m)) St.zero)=y.val (itr t.p t.aI i):=λy D=>by refine B y ?_;rw[qN (by lia),q];exact .inl ⟨L,.inr D⟩
   have d:=Mx ok ask R (by lia) O U th
   by_cases c:wn t i=aa th
   exact d.1 c
   ·rw[d.2 c,qD c];refine B th ?_;rw[qN (by lia),q];exact .inl ⟨L,.inl ⟨hw,λz=>c (by rw[q,z])⟩⟩
  |false =>
   simp only[Xb,if_false,Vn];have M:¬isR t Q m (i+1):=λz=>by rw[fE.mpr z]at J;exact w9 J
   have c:wn t i≠aa th:=λz=>M ⟨th,z,hw⟩;rw[qD c];refine B th ?_;rw[qN (by lia)];cases q:wn t i with
   |none=>exact hw|some x=>exact .inr ⟨λz=>M ⟨x,q,z⟩,hw⟩
def Ba(ok:Pg.ok t.p)(ask:Ask t.aI)(R:Run t.p t.aI t.most e)(s:Sm){m:Nat}(B:m<=e):s.val (rmd t (rsn t (rdS t s m) m) St.zero)=s.val (itr t.p t.aI m) :=
 (gr s λth q=>slice ok ask R B m (UT _) th (by rw[aas];exact q)).1
def Mz(ok:Pg.ok t.p)(ask:Ask t.aI)(R:Run t.p t.aI t.most e):∀i,i<=e->(rmd t (mvs i (wrs t)) St.zero).names=(itr t.p t.aI i).names/\(rmd t (mvs i (wrs t)) St.zero).cells=(itr t.p t.aI i).cells:=by
 intro i
 induction i with
 |zero=>intro _;exact⟨rfl,rfl⟩
 |succ i U =>
  intro Y;obtain⟨D,B⟩:=U (by lia);obtain⟨r,q⟩:=qE R (i:=i) (by lia);have e2:itr t.p t.aI (i+1)=r.next t.aI (itr t.p t.aI i):=by show step t.p t.aI (itr t.p t.aI i)=_;unfold step;rw[q]
  have W:wn t i=wb (itr t.p t.aI i) r:=by unfold wn;rw[q];rfl
  rw[mT];have V:wrs t (i+1)=(wn t i).isSome:=rfl;rw[V];cases hw:wn t i with
  |none =>
   simp only[aap,Xb,if_false,Vn];rw[D,B,e2];rw[W]at hw;cases r<;>first|exact⟨rfl,rfl⟩|exact(gu hw.symm)
  |some x =>
   simp only[Yw,if_true];rw[uH];show(step t.p t.aI (mix t i (rmd t (mvs i (wrs t)) St.zero))).names=_/\(step t.p t.aI (mix t i (rmd t (mvs i (wrs t)) St.zero))).cells=_;generalize rmd t (mvs i (wrs t)) St.zero=st at D B;have e1:step t.p t.aI (mix t i st)=r.next t.aI (mix t i st):=by unfold step;rw[show t.p[(mix t i st).row]?=aa r from q]
   have L:(mix t i st).names=(itr t.p t.aI i).names:=D;have J:(mix t i st).cells=(itr t.p t.aI i).cells:=B;have O:(mix t i st).aI=(itr t.p t.aI i).aI:=rfl;have M:∀s:Sm,s.val (mix t i st)=s.val (itr t.p t.aI i):=λs=>EL L J s;rw[e1,e2];cases r<;>simp[Rw.next,L,J,O,M]
theorem zN(t:Tp)(Q:Th->Prop)(m d:Nat)(th:Th):wtD t Q m (d+1) th=match wn t (m-d-1)with
 |none=>wtD t Q m d th|some x=>(wtD t Q m d x/\((wtD t Q m d th/\th≠x)\/th∈gJ t (m-d-1)))\/(¬wtD t Q m d x/\wtD t Q m d th):=rfl
theorem EN{Q1 Q2:Th->Prop}{m:Nat}:∀d th,wtD t (λx=>Q1 x\/Q2 x) m d th↔wtD t Q1 m d th\/wtD t Q2 m d th
 |0,th=>aaY
 |d+1,th=>by
  have q:=EN (Q1:=Q1) (Q2:=Q2) (m:=m) d;rw[wtD,wtD,wtD];cases wn t (m-d-1)with
  |none=>exact q th
  |some x =>
   simp only[q]
   by_cases M:wtD t Q1 m d x<;>by_cases L:wtD t Q2 m d x<;>by_cases e:th=x
   all_goals
    simp only[M,L,e,true_and,false_and,not_true,not_false_iff,or_false,false_or,or_true,true_or,ne_eq,and_true,and_false]
   all_goals
    by_cases J:wtD t Q1 m d th<;>by_cases D:wtD t Q2 m d th<;>by_cases B:th∈gJ t (m-d-1)<;>simp[J,D,B]
def MA{Q1 Q2:Th->Prop}{m i:Nat}:isR t (λx=>Q1 x\/Q2 x) m i↔isR t Q1 m i\/isR t Q2 m i:=by unfold isR;simp only[EN];exact⟨λ⟨x,h1,h2⟩=>h2.elim (λh=>.inl ⟨x,h1,h⟩) λh=>.inr ⟨x,h1,h⟩,λh=>h.elim (λ⟨x,h1,h2⟩=>⟨x,h1,.inl h2⟩) λ⟨x,h1,h2⟩=>⟨x,h1,.inr h2⟩⟩
theorem mU{m:Nat}:∀d th,¬wtD t (λ_=>False) m d th
 |0,th=>id
 |d+1,th=>by
  rw[wtD];cases wn t (m-d-1)with
  |none=>exact mU d th
  |some x=>exact λz=>z.elim (λz=>mU d x z.1) λz=>mU d th z.2
theorem sL{Q:Th->Prop}{m w:Nat}(h1:1<=w)(hw:w<=m){P:Th->Prop}(h:∀th,wtD t Q m (m-w+1) th↔P th):∀d th,d<=w-1->(wtD t Q m (m-w+1+d) th↔wtD t P (w-1) d th)
 |0,th,_=>h th
 |d+1,th,hd=>by
  have q:=λth=>sL h1 hw h d th (by lia);rw[show m-w+1+(d+1)=(m-w+1+d)+1 by lia,zN t Q m (m-w+1+d) th,zN t P (w-1) d th,show m-(m-w+1+d)-1=w-1-d-1 by lia];cases wn t (w-1-d-1)with
  |none=>exact q th|some x=>simp only[q]
end
structure RsP(T:FK->Option Fn)(G:aA->Option W):Prop where
 tp:TpP T G
 end_:TpE T
 wr:WrP T
 jd:JdP T
 rm:RmP T
 rs:T "reasons"=aa jQ
 nd:T "needless"=aa je
 su:SuP T
section
variable{T:FK->Option Fn}{G:aA->Option W}
def mV(L:Lw T)(ns:List Int)(D:ns.length<=1000)(q many:Int)(B:0<many):∃z:Nat,(z:Int)<many/\∀k h,runN T G (k+2) "_law_drawn" [.p (.aD (c6 ns)),.p (.int q),.p (.int many)] h=aa (.p (.int (z:Int)),h):=by have M:=gi ns q B;have J:=gj ns q B;refine⟨(drw ns q many).toNat,by lia,λk h=>?_⟩;have:=gn (G:=G) L k ns D q many B h;rw[this];congr 4;lia
def zO(f:List D->HH->Option (Option D×HH))(p:Nat->Bool)(h:HH)(l:List Nat)(B:∀i∈l,f [.int (i:Int)] h=aa (if p i=ah then aa (.int (i:Int))else af,h)):dX f 1 (dh l) h=aa (dh (l.filter p),h):=by
 have c:=Mf f (λi:Nat=>D.int (i:Int)) (λi:Nat=>if p i=ah then aa (D.int (i:Int))else af) h l B;have e:l.filterMap (λi:Nat=>if p i=ah then aa (D.int (i:Int))else af)=dh (l.filter p):=by
  clear c B
  induction l with
  |nil=>rfl
  |cons x l q =>
   rw[Vs,Wh];cases g:p x;simp[q];simp[q,dh]
 rw[e]at c;exact c
def jr(l:List Nat):(dh l).length=l.length:=by simp[dh]
def kX(l r:List Nat):dh (l++r)=dh l++dh r:=by simp[dh]
def EO(l:List Nat):dok 100 (.aD (dh l))=ah:=qz 99 l
def Jq(l:List Nat):gI .ne (.aD (dh l)) (.aD (dh l))=aa ai:=ne_self (EO l)
def MB{F:FK->List W->HH->Option (W×HH)}{e:E}{s:Sl}{h g:HH}{i j:Nat}{x y:aA}{a b:D}(h1:aO F G e s h=aa (.p (.aE [a,b]),g)):evS F G (.unp [(i,x),(j,y)] e) s h=aa (.nx ((s.set i (aa (.p a))).set j (aa (.p b))) g):=by simp[h1]
def ER{F:FK->List W->HH->Option (W×HH)}{a b:E}{s:Sl}{h h1 h2:HH}{f:aA}{x y:W}{r:W×HH}(e1:aO F G a s h=aa (x,h1))(e2:aO F G b s h1=aa (y,h2))(q:F (.f f) [x,y] h2=aa r):aO F G (.call f (.cons a (.cons b .nil))) s h=aa r:=by simp[e1,e2,q]
def PL(s:Sl)(h:HH)(k:Sl->HH->Option Fl):nN (aa (.nx s h)) k=k s h:=Eq.trans rfl rfl
def nH{F:FK->List W->HH->Option (W×HH)}{c:E}{a b:S}{s:Sl}{h g:HH}(h1:aO F G c s h=aa (.p (.bl ai),g)):evS F G (.seq (.v c a .nil) b) s h=evS F G b s g:=by simp[h1]
def lN(l:List Nat):Option W:=aa (.p (.aD (dh l)))
def qO(t:Tp)(Q:Th->Prop)(m:Nat):(rsn t Q m++ndl t Q m).Perm (mvs m (wrs t)):=by
 have D:∀p:Nat->Bool,(mvs m p).Nodup:=λp=>(nF m p).imp λh=>Vi h;refine(ZC (List.nodup_append.mpr ⟨D _,D _,λx L y J z=>?_⟩) (D _)).mpr λx=>?_
 ·subst z;have B:=(eZ.mp L).2.2;have q:=(eZ.mp J).2.2;rw[B]at q;simp at q
 ·rw[List.mem_append,eZ,eZ,eZ];constructor
  ·rintro (⟨B,q,h3⟩|⟨B,q,h3⟩)
   exact⟨B,q,wA h3⟩;exact⟨B,q,by simp at h3;exact h3.1⟩
  ·rintro ⟨B,q,h3⟩
   cases M:fq t Q m x with
   |true=>exact .inl ⟨B,q,rfl⟩|false=>exact .inr ⟨B,q,by simp[h3]⟩
end
def MC:E:=(.z .ne (.call "reckoned" (cY (.v 4) (.aE (cU (.j (.int 0)) (.v 9) (.v 10) (.aE .nil) (.j (.int 0)) (.aE .nil))))) (.call "sum_at" (cX (.v 2) (.v 6) (.v 4))))
def PM:E:=(.comp ai .seq (cZ (.v 7)) ["_law_at"] [(8,"_law_others")] (cZ (.z .mem (.v 0) (.v 1))) (.v 0))
def MD:E:=(.or (.z .ne (.call "remade" (cY (.v 2) (.bin .add (.v 7) (.v 8)))) (.n (.aH (.v 2) "at" (cZ (.v 6))) (cZ (.j (.int 1))) (cZ (.j (.int 3))))) (.z .ne PM (.aD ai .nil)))
def PN:E:=(.comp ai .seq (cZ (.v 7)) ["_law_at"] [(6,"_law_moment")] (cZ (.not (.chain .le .le (.j (.int 1)) (.v 0) (.v 1)))) (.v 0))
def ME:E:=(.or (.z .ne PN (.aD ai .nil)) (.z .ne (.v 7) (.bi .sset ai (cZ (.v 7)))))
def MF:E:=(.or (.z .ne (.v 11) (.bi .sset ai (cZ (.bin .add (.v 7) (.call "reasons" (cX (.v 2) (.v 6) (.v 5))))))) (.z .ne (.call "reasons" (cX (.v 2) (.v 6) (.aE (cY (.j (.str "num")) (.j (.int 3)))))) (.aD ai .nil)))
def PP:E:=(.and (.z .eq (.v 14) (.aD ai .nil)) (.z .eq (.call "sum_at" (cX (.v 2) (.v 6) (.aE (cY (.j (.str "name")) (.v 12))))) (.j (.int 0))))
def MG:E:=(.or (.z .ne (.y (.v 14) (.neg (.j (.int 1)))) (.v 13)) (.z .ne (.call "writer_of" (cX (.v 2) (.v 13) (.v 12))) (.v 13)))
def MH:E:=(.y (.v 1) (.y (.aH (.v 2) "at" (cZ (.bin .sub (.v 13) (.j (.int 1))))) (.j (.int 0))))
def Ib:E:=(.ite (.z .eq (.y (.v 15) (.j (.int 0))) (.j (.str "ask"))) (.aD ai .nil) (.call "reasons" (cX (.v 2) (.bin .sub (.v 13) (.j (.int 1))) (.y (.v 15) (.j (.int 2))))))
def MI:E:=(.z .eq (.v 14) (.bi .sset ai (cZ (.bin .add (.v 16) (.aD ai (cZ (.v 13)))))))
def PR:S:=(.seq (.v MG (.ret (.j (.bl ai))) .nil) (.seq (.set 15 MH) (.seq (.set 16 Ib) (.ret MI))))
def Ic:S:=(.seq (.set 13 (.call "writer_of" (cX (.v 2) (.v 6) (.v 12)))) (.seq (.set 14 (.call "reasons" (cX (.v 2) (.v 6) (.aE (cY (.j (.str "name")) (.v 12)))))) (.seq (.v (.z .isN (.v 13) (.j .aF)) (.ret PP) .nil) PR)))
def PU:S:=(.seq (.set 11 (.call "reasons" (cX (.v 2) (.v 6) (.aE (cX (.j (.str "add")) (.v 4) (.v 5)))))) (.seq (.v MF (.ret (.j (.bl ai))) .nil) (.seq (.set 12 (.y (.j (.str "abc")) (.call "_law_drawn" (cX (.v 0) (.j (.int 444)) (.j (.int 3)))))) Ic)))
def PV:S:=(.seq (.v MC (.ret (.j (.bl ai))) .nil) (.seq (.v MD (.ret (.j (.bl ai))) .nil) (.seq (.v ME (.ret (.j (.bl ai))) .nil) PU)))
def Ie:S:=(.seq (.set 7 (.call "reasons" (cX (.v 2) (.v 6) (.v 4)))) (.seq (.set 8 (.call "needless" (cX (.v 2) (.v 6) (.v 4)))) (.seq (.unp [(9,"_law_names"),(10,"_law_cells")] (.call "remade" (cY (.v 2) (.v 7)))) PV)))
def kF:Fn:=⟨["_law_script"],["_law_script","_law_program_here","_law_tape","_law_end","_law_one","_law_two","_law_moment","_law_used","_law_others","_law_names","_law_cells","_law_both","_law_name","_law_writer","_law_told","_law_row_here","_law_behind"], (.seq (.set 1 (.call "_law_program" (cY (.v 0) (.j (.int 20))))) (.seq (.set 2 (.make "Tape" (cW (.v 1) (.call "_law_asked" (cY (.v 0) (.j (.int 450)))) (.bin .add (.j (.int 1)) (.call "_law_drawn" (cX (.v 0) (.j (.int 441)) (.j (.int 5))))) (.call "_law_drawn" (cX (.v 0) (.j (.int 440)) (.j (.int 15))))))) (.seq (.set 3 (.aH (.v 2) "end" .nil)) (.seq (.set 4 (.call "_law_sum" (cX (.v 0) (.j (.int 460)) (.j (.int 2))))) (.seq (.set 5 (.call "_law_sum" (cX (.v 0) (.j (.int 480)) (.j (.int 1))))) (.seq (.set 6 (.call "_law_drawn" (cX (.v 0) (.j (.int 443)) (.bin .add (.v 3) (.j (.int 1)))))) Ie))))))⟩
structure To(T:FK->Option Fn):Prop where
 lw:Lw T
 program:T "_law_program"=aa fB
 law:T "law"=aa kF
structure RwP(T:FK->Option Fn)(G:aA->Option W):Prop where
 rs:RsP T G
 tb:TpB T
 th:ThP T
 ww:WwP T
section
variable{T:FK->Option Fn}{G:aA->Option W}
def ES{F:FK->List W->HH->Option (W×HH)}{e e2:E}{s:Sl}{h g:HH}(h1:aO F G e s h=aa (.p (.bl ai),g)):aO F G (.or e e2) s h=aO F G e2 s g:=by simp[h1]
def ET{t:Tp}{th:Th}{i:Nat}:gw t th i=ah↔wn t i=aa th:=PC (wn t i) th
def Jr{t:Tp}{th:Th}{i:Nat}(h:gw t th i=ai):wn t i≠aa th:=λz=>by rw[ET.mpr z]at h;exact w9 h
theorem qP{t:Tp}{x:Th}{m w:Nat}(h:∀i,w<=i->i<m->wn t i≠aa x):∀d,d<=m-w->∀th,wtD t (λy=>y=x) m d th↔th=x
 |0,_,th=>aaY
 |d+1,hd,th=>by
  have B:=qP h d (by lia);rw[zN t _ m d th];cases hw:wn t (m-d-1)with
  |none=>exact B th
  |some z =>
   have D:¬wtD t (λy=>y=x) m d z:=λq=>h (m-d-1) (by lia) (by lia) (by rw[hw,(B z).mp q]);exact⟨λq=>q.elim (λq=>bO q.1 D) λq=>(B th).mp q.2,λq=>.inr ⟨D,(B th).mpr q⟩⟩
def EU{t:Tp}{x:Th}{m w:Nat}(h:∀i,w<=i->i<m->wn t i≠aa x){y:Nat}(h1:w<y)(h2:y<=m):¬isR t (λy=>y=x) m y:=λ⟨z,hz,wz⟩ =>
 h (y-1) (by lia) (by lia) (by rw[hz,(qP h (m-y) (by lia) z).mp wz])
def zP{t:Tp}{Q:Th->Prop}{m:Nat}(h:∀y,1<=y->y<=m->¬isR t Q m y):rsn t Q m=[]:=by
 unfold rsn;cases B:mvs m (fq t Q m)with
 |nil=>rfl
 |cons x l =>
  have q:x∈mvs m (fq t Q m):=by rw[B];exact UY
  obtain⟨a,b,c⟩:=eZ.mp q;exact bO (fE.mp c) (h x a b)
def sM(t:Tp)(m:Nat):rsn t (λ_=>False) m=[]:=zP λy _ _ ⟨z,_,wz⟩=>mU _ z wz
def Ig{m w:Nat}{p:Nat->Bool}(hw:w<=m)(h:∀y,w<y->y<=m->p y=ai):mvs m p=mvs w p:=by
 induction m with
 |zero=>rw[show w=0 by lia]
 |succ m q =>
  by_cases c:w=m+1
  rw[c]
  ·rw[mT,h (m+1) (by lia) (UT _)];simp only[Xb,if_false,Vn];exact q (by lia) λy B D=>h y B (by lia)
def Bb{t:Tp}{Q P:Th->Prop}{m w:Nat}(h1:1<=w)(hw:w<=m)(B:isR t Q m w)(D:∀y,w<y->y<=m->¬isR t Q m y)(h:∀th,wtD t Q m (m-w+1) th↔P th):rsn t Q m=rsn t P (w-1)++[w]:=by
 unfold rsn;rw[Ig hw λy a b=>Bool.eq_false_iff.mpr λz=>D y a b (fE.mp z)];have e:w=w-1+1:=by lia
 rw[show mvs w (fq t Q m)=mvs (w-1+1) (fq t Q m) by rw[←e],mT,←e,fE.mpr B];simp only[if_true];congr 1;refine A9 λy a b=>?_;have q:isR t Q m y↔isR t P (w-1) y:=by unfold isR;rw[show m-y=m-w+1+(w-1-y) by lia];simp only[λz=>sL h1 hw h (w-1-y) z (by lia)]
 exact Bool.eq_iff_iff.mpr (fE.trans (q.trans fE.symm))
def Ih{t:Tp}{x:Th}{m w:Nat}(h1:1<=w)(hw:w<=m)(B:wn t (w-1)=aa x)(h:∀i,w<=i->i<m->wn t i≠aa x):rsn t (λy=>y=x) m=rsn t (λth=>th∈gJ t (w-1)) (w-1)++[w]:=by have q:=qP h (m-w) (UT _);refine Bb h1 hw ⟨x,B,(q x).mpr rfl⟩ (λy a b=>EU h a b) λth=>?_;rw[zN t _ m (m-w) th,show m-(m-w)-1=w-1 by lia,B];show(wtD t _ m (m-w) x/\((wtD t _ m (m-w) th/\th≠x)\/th∈gJ t (w-1)))\/(¬wtD t _ m (m-w) x/\wtD t _ m (m-w) th)↔_;rw[q x,q th];simp
def Ii(t:Tp)(x:Nm)(m:Nat):rdS t (.nam x) m=λy=>y=.nm x:=by funext y;unfold rdS;simp[Sm.rd]
theorem sN{t:Tp}{x:Nm}:∀m,(∀i,i<m->wn t i≠aa (.nm x))->(Th.nm x).val (itr t.p t.aI m)=0
 |0,_=>by cases x<;>rfl
 |m+1,h=>by rw[qD (h m (Wj m))];exact sN m λi q=>h i (by lia)
def Bc(l:List Nat)(w:Nat):dP (.aD (dh (l++[w]))) (.int (-1))=aa (.int (w:Int)):=by
 show atP _ _=_;have B:(-1:Int)+((dh (l++[w])).length:Int)=(l.length:Int):=by rw[jr,U9,Vy];lia
 have q:place (dh (l++[w])).length (-1)=aa l.length:=by unfold place;rw[bN (by decide),bM (by rw[jr,U9,Vy];lia),B,V1]
 unfold atP;rw[q,kX];simp[dh]
def Ij(t:Tp)(o:Op)(a b:Sm)(m:Nat):rdS t (.two o a b) m=λy=>rdS t a m y\/rdS t b m y:=by funext y;unfold rdS;simp[Sm.rd]
def Ik(t:Tp)(i:Int)(m:Nat):rdS t (.num i) m=λ_=>False:=by funext y;unfold rdS;simp[Sm.rd]
def V52(c Z:W)(n e:Nat)(a b:Sm)(m:Nat)(Y V U O M L J D B q:Option W):Sl:=[aa c,aa Z,aa (.o n),aa (.p (.int (e:Int))),aa (.p a.enc),aa (.p b.enc),aa (.p (.int (m:Int))),Y,V,U,O,M,L,J,D,B,q]
def PX(A:RsP T G)(k:Nat)(g f:W){n r:Nat}{t:Tp}{h:HH}{e Y:Nat}(ta:TAt h n r t)(I:TI t e Y)(a b:Sm)(q:iX a)(m:Nat)(s:m<=e)(d c U O M L J D:Option W)(st:St)(B:st.ok)(o:a.val st=a.val (itr t.p t.aI m)):
 wg (aO (runN T G (k+13)) G MC (V52 g f n e a b m d c (aa (.p (.aE (c6 st.names)))) (aa (.p (.aE (c6 st.cells)))) U O M L J D) h) (.p (.bl ai)) n h r t e Y:=by
 have V:(⟨0,st.names,st.cells,[],0,[]⟩:St).ok:=⟨B.nlen,B.clen,B.nw,B.cw⟩;have Z:=eX A.tp.prg (k+9) a (by have:=q.2;lia) q.1 ⟨0,st.names,st.cells,[],0,[]⟩ V h;have e1:(⟨0,st.names,st.cells,[],0,[]⟩:St).enc=.aE [.int 0,.aE (c6 st.names),.aE (c6 st.cells),.aE [],.int 0,.aE []]:=rfl;have e2:a.val ⟨0,st.names,st.cells,[],0,[]⟩=a.val (itr t.p t.aI m):=(EL (st:=st) (st':=⟨0,st.names,st.cells,[],0,[]⟩) rfl rfl a).trans o;rw[e1,e2]at Z;obtain⟨u,l,i,w,v,x,j⟩:=qH A.tp A.su (k+1) ta I a (by have:=q.2;lia) q.1 m s;refine⟨u,l,i,?_,v,x,j⟩;simp[MC,V52,Z,w,rd]
def PY(F:FK->List W->HH->Option (W×HH))(f d:W)(n e:Nat)(a b:Sm)(m:Nat)(Z U O M L J D B:Option W)(h:HH)(t:Tp)(Q:Th->Prop)(o:m<=1000):
 aO F G PM (V52 f d n e a b m (lN (rsn t Q m)) (lN (ndl t Q m)) Z U O M L J D B) h=aa (.p (.aD []),h):=by
 have c:=zO (fN (evs F G (.cons (.z .mem (.v 0) (.v 1)) .nil)) (aO F G (.v 0)) [lN (ndl t Q m)]) (λ_=>ai) h (rsn t Q m) λi k=>by
  have hn:i∉ndl t Q m:=λz=>by have h1:=(eZ.mp k).2.2;have Y:=(eZ.mp z).2.2;rw[h1]at Y;simp at Y
  have q:gI .mem (.int (i:Int)) (.aD (dh (ndl t Q m)))=aa ai:=by
   rw[gK,bM (List.all_eq_true.mpr λy _=>Cg y _)];congr 1;rw[List.any_eq_false];intro y V z;unfold dh at V;obtain⟨j,g,rfl⟩:=List.mem_map.mp V;have:j=i:=by simp at z;lia
   exact hn (this ▸ g)
  simp[-gK,fN,fZ,lN,q,rd]
 have l:(rsn t Q m).filter (λ_=>ai)=[]:=by simp
 rw[l]at c;exact oX (ws:=[.p (.aD (dh (rsn t Q m)))]) (h1:=h) (fs:=[lN (ndl t Q m)]) (by simp[V52,lN]) rfl rfl rfl c (by simp[dh])
def PZ(A:RsP T G)(k:Nat)(d Z:W){n r:Nat}{t:Tp}{h:HH}{e s:Nat}(ta:TAt h n r t)(I:TI t e s)(a b:Sm)(Q:Th->Prop)(m:Nat)(o:m<=e)(N:e<=60)(U O M L J D B q:Option W):
 wg (aO (runN T G (k+13)) G MD (V52 d Z n e a b m (lN (rsn t Q m)) (lN (ndl t Q m)) U O M L J D B q) h) (.p (.bl ai)) n h r t e s:=by
 have H:=(qO t Q m).length_eq;have lw:=iH m (wrs t);rw[U9]at H;obtain⟨h1,r1,t1,w,i,I1,f⟩:=qM A.tp A.wr A.rm (k+1) ta I (l:=rsn t Q m++ndl t Q m) (S:=mvs m (wrs t)) (λx K=>by have:=eZ.mp ((qO t Q m).mem_iff.mp K);lia) (λx=>(qO t Q m).mem_iff) (nF m (wrs t)) (by rw[U9];lia);obtain⟨Y,V⟩:=Mz I.ok I.ask I.run m o;rw[Y,V]at w;obtain⟨g,F,y,u,P,X,E,f2⟩:=xX A.tp (k+2) i.b I1 m o;rw[f.p,f.aI]at u;refine⟨g,F,y,?_,i.trans P,X,f.trans E⟩;have c:=PY (G:=G) (runN T G (k+13)) d Z n e a b m U O M L J D B q g t Q (by have:=I.run.le;have:=I.m1;lia);have C:qW (itr t.p t.aI m).enc (aa 1) (aa 3)=aa (.aE [.aE (c6 (itr t.p t.aI m).names),.aE (c6 (itr t.p t.aI m).cells)]):=rfl;have ne:=L3 (itr t.p t.aI m).names (itr t.p t.aI m).cells;have R:dh (rsn t Q m)++dh (ndl t Q m)=dh (rsn t Q m++ndl t Q m):=(kX _ _).symm;have cl:(rsn t Q m).length+(ndl t Q m).length<=100000:=by lia
 have e1:aO (runN T G (k+13)) G (.z .ne (.call "remade" (.cons (.v 2) (.cons (.bin .add (.v 7) (.v 8)) .nil))) (.n (.aH (.v 2) "at" (.cons (.v 6) .nil)) (.cons (.j (.int 1)) .nil) (.cons (.j (.int 3)) .nil))) (V52 d Z n e a b m (lN (rsn t Q m)) (lN (ndl t Q m)) U O M L J D B q) h=aa (.p (.bl ai),g):=by generalize (itr t.p t.aI m).enc=se at *;simp[-kL,V52,lN,jr,cl,R,w,i.b.ob,HN,u,C,ne,rd]
 unfold MD;rw[ES e1];simp[c]
def P0(F:FK->List W->HH->Option (W×HH))(Z Y:W)(n e:Nat)(a b:Sm)(m:Nat)(V U O M L J D B q:Option W)(h:HH)(t:Tp)(Q:Th->Prop)(w:m<=60):
 aO F G ME (V52 Z Y n e a b m (lN (rsn t Q m)) V U O M L J D B q) h=aa (.p (.bl ai),h):=by
 have c:=zO (fN (evs F G (.cons (.not (.chain .le .le (.j (.int 1)) (.v 0) (.v 1))) .nil)) (aO F G (.v 0)) [aa (.p (.int (m:Int)))]) (λ_=>ai) h (rsn t Q m) λi f=>by
  obtain⟨h1,k,_⟩:=eZ.mp f;have u:(1:Int)<=(i:Int):=by lia
  have s:(i:Int)<=(m:Int):=by lia
  simp[fN,fZ,u,s,k,rd]
 have r:(rsn t Q m).filter (λ_=>ai)=[]:=by simp
 rw[r]at c;have o:aO F G PN (V52 Z Y n e a b m (lN (rsn t Q m)) V U O M L J D B q) h=aa (.p (.aD []),h) :=
  oX (ws:=[.p (.aD (dh (rsn t Q m)))]) (h1:=h) (fs:=[aa (.p (.int (m:Int)))]) (by simp[V52,lN]) rfl rfl rfl c (by simp[dh])
 have d:=oY (l:=rsn t Q m) (S:=rsn t Q m) (λx=>aaY) (nF m _) (by have:=iH m (fq t Q m);unfold rsn;lia);have ne:=Jq (rsn t Q m);have e2:aO F G (.z .ne (.v 7) (.bi .sset ai (.cons (.v 7) .nil))) (V52 Z Y n e a b m (lN (rsn t Q m)) V U O M L J D B q) h=aa (.p (.bl ai),h):=by simp[-kL,V52,lN,d,ne,rd]
 unfold ME;rw[ES (g:=h) (by simp[o])];exact e2
def P4(A:RsP T G)(k:Nat)(c Z:W){n r:Nat}{t:Tp}{h:HH}{e i:Nat}(ta:TAt h n r t)(I:TI t e i)(a b:Sm)(H:iX b)(m:Nat)(d:m<=e)(K:e<=30)(Y V O M L J D B:Option W):
 wg (aO (runN T G (k+13)) G MF (V52 c Z n e a b m (lN (rsn t (rdS t a m) m)) Y V O (lN (rsn t (rdS t (.two .add a b) m) m)) M L J D B) h) (.p (.bl ai)) n h r t e i:=by
 obtain⟨g,r1,t1,Q,j,X,y,f1⟩:=gq A.tp A.wr A.jd A.rs k ta I b H m d;have N:iX (.num 3):=⟨show Wth 3 from⟨by decide,by decide⟩,by simp[Sm.size]⟩;obtain⟨f,C,s,l,P,S,w,f2⟩:=gq A.tp A.wr A.jd A.rs k j.b X (.num 3) N m d;rw[Ik,sM]at l;refine⟨f,C,s,?_,j.trans P,S,y.trans w⟩;have l1:=iH m (fq t (rdS t a m) m);have l2:=iH m (fq t (rdS t b m) m);have F:(rsn t (rdS t a m) m++rsn t (rdS t b m) m).length<64:=by rw[U9];unfold rsn;lia
 have E:∀x,x∈rsn t (rdS t a m) m++rsn t (rdS t b m) m↔x∈rsn t (rdS t (.two .add a b) m) m:=λx=>by rw[List.mem_append,Ij];unfold rsn;rw[eZ,eZ,eZ,fE,fE,fE,MA];exact⟨λz=>z.elim (λz=>⟨z.1,z.2.1,.inl z.2.2⟩) λz=>⟨z.1,z.2.1,.inr z.2.2⟩,λz=>z.2.2.elim (λq=>.inl ⟨z.1,z.2.1,q⟩) λq=>.inr ⟨z.1,z.2.1,q⟩⟩
 have u:=oY E (nF m _) F;have ne:=Jq (rsn t (rdS t (.two .add a b) m) m);have R:dh (rsn t (rdS t a m) m)++dh (rsn t (rdS t b m) m)=dh (rsn t (rdS t a m) m++rsn t (rdS t b m) m):=(kX _ _).symm;have cl:(rsn t (rdS t a m) m).length+(rsn t (rdS t b m) m).length<=100000:=by unfold rsn;lia
 have U:runN T G (k+13) "reasons" [.o n,.p (.int m),.p (.aE [.str "num",.int 3])] g=aa (.p (.aD []),f):=l;have e1:aO (runN T G (k+13)) G (.z .ne (.v 11) (.bi .sset ai (.cons (.bin .add (.v 7) (.call "reasons" (.cons (.v 2) (.cons (.v 6) (.cons (.v 5) .nil))))) .nil))) (V52 c Z n e a b m (lN (rsn t (rdS t a m) m)) Y V O (lN (rsn t (rdS t (.two .add a b) m) m)) M L J D B) h=aa (.p (.bl ai),g):=by simp[-kL,V52,lN,Q,jr,cl,R,u,ne,rd]
 unfold MF;rw[ES e1];simp[V52,U,rd]
def MJ{st:St}{r:Rw}{x:Nm}(h:wb st r=aa (.nm x)):(∃s,r=.set x s)\/r=.ask x:=by
 cases r with
 |set y s=>cases h;exact .inl ⟨s,rfl⟩|ask y=>cases h;exact .inr rfl|_=>cases h
def P5(A:RwP T G)(k:Nat)(l i:W){n r:Nat}{t:Tp}{h:HH}{e Z:Nat}(ta:TAt h n r t)(I:TI t e Z)(a b:Sm)(m j:Nat)(H:j<e){x:Nm}(Y:wn t j=aa (.nm x))(q:Rw)(V:wm t j=aa q)(g f d M L J D B:Option W):
 wg (aO (runN T G (k+13)) G Ib (V52 l i n e a b m g f d M L J (aa (.p (.int ((j:Int)+1)))) D (aa (.p q.enc)) B) h) (.p (.aD (dh (rsn t (λth=>th∈gJ t j) j)))) n h r t e Z:=by
 have C:wn t j=wb (itr t.p t.aI j) q:=by unfold wn;rw[show t.p[(itr t.p t.aI j).row]?=aa q from V];rfl
 have c:gJ t j=q.rd (itr t.p t.aI j):=by unfold gJ;rw[V]
 rw[C]at Y;have O:q∈t.p:=UZ V;have ok:=I.ok _ O;rcases MJ Y with⟨s,rfl⟩|rfl
 ·obtain⟨y,v,o,E,z,F,u,K⟩:=gq A.rs.tp A.rs.wr A.rs.jd A.rs.rs k ta I s ok j (by lia);have eq:(λth=>th∈gJ t j)=rdS t s j:=by rw[c];rfl
  rw[eq];refine⟨y,v,o,?_,z,F,u⟩;have U:dP (Rw.set x s).enc (.int 0)=aa (.str "set"):=rfl;have w:dP (Rw.set x s).enc (.int 2)=aa s.enc:=rfl;generalize (Rw.set x s).enc=re at *;simp[-jh,Ib,V52,U,w,E,rd]
 ·have eq:(λth=>th∈gJ t j)=λ_=>False:=by rw[c];funext th;simp[Rw.rd]
  rw[eq,sM];refine⟨h,r,t,?_,.refl ta,I,.refl t⟩;have U:dP (Rw.ask x).enc (.int 0)=aa (.str "ask"):=rfl;generalize (Rw.ask x).enc=re at *;simp[-jh,Ib,V52,U,rd,dh]
def P6(A:RwP T G)(k:Nat)(Z:W){n r:Nat}{t:Tp}{h:HH}{e gv:Nat}(ta:TAt h n r t)(I:TI t e gv)(a b:Sm)(m:Nat)(R:m<=e)(h30:e<=30)(x:Nm)(Y V U B q:Option W):
 ∃h',evS (runN T G (k+13)) G Ic (V52 Z (.p (eS t.p)) n e a b m Y V U B q (aa (.p (.str x.w))) af af af af) h=aa (.rt (.p (.bl ah)) h'):=by
 obtain⟨o,f,r1,t1,b1,z0,z1,g1,I1,K⟩:=qG A.rs.tp A.tb A.th A.rs.wr A.ww k ta I (.nm x) m R;have hn:iX (.nam x):=⟨True.intro,by simp[Sm.size]⟩;obtain⟨M,r2,t2,b2,g2,I2,s2,f2⟩:=gq A.rs.tp A.rs.wr A.rs.jd A.rs.rs k g1.b I1 (.nam x) hn m R;rw[qL K,nG K,Ii]at b2;have H:=K.trans s2;have b1':runN T G (k+13) "writer_of" [.o n,.p (.int m),.p (.str x.w)] h=aa (.p (A6 o),f):=b1;have b2':runN T G (k+13) "reasons" [.o n,.p (.int m),.p (.aE [.str "name",.str x.w])] f=aa (.p (.aD (dh (rsn t (λy=>y=.nm x) m))),M):=b2;have C:∀b':S,evS (runN T G (k+13)) G (.seq (.set 13 (.call "writer_of" (.cons (.v 2) (.cons (.v 6) (.cons (.v 12) .nil))))) (.seq (.set 14 (.call "reasons" (.cons (.v 2) (.cons (.v 6) (.cons (.aE (.cons (.j (.str "name")) (.cons (.v 12) .nil))) .nil))))) b')) (V52 Z (.p (eS t.p)) n e a b m Y V U B q (aa (.p (.str x.w))) af af af af) h =
  evS (runN T G (k+13)) G b' (V52 Z (.p (eS t.p)) n e a b m Y V U B q (aa (.p (.str x.w))) (aa (.p (A6 o))) (lN (rsn t (λy=>y=.nm x) m)) af af) M:=λb'=>by
  refine(kr (w:=.p (A6 o)) (g:=f) ?_).trans (kr (w:=.p (.aD (dh (rsn t (λy=>y=.nm x) m)))) (g:=M) ?_);simp[V52,b1'];simp[V52,b2']
 cases o with
 |none =>
  have nw:∀i,i<m->wn t i≠aa (.nm x):=λi hi=>Jr ((z1 (by lia)).no rfl i (VL _) (by lia));have e0:rsn t (λy=>y=.nm x) m=[]:=zP λy f M=>EU (w:=0) (λi _ hi=>nw i hi) f M;obtain⟨c,r3,t3,E,X,I3,s3⟩:=qH A.rs.tp A.rs.su (k+1) g2.b I2 (.nam x) (by simp[Sm.size]) True.intro m R;rw[H.p,H.aI]at E;have vz:Sm.val (itr t.p t.aI m) (.nam x)=0:=sN m nw;rw[vz]at E;have d:runN T G (k+13) "sum_at" [.o n,.p (.int m),.p (.aE [.str "name",.str x.w])] M=aa (.p (.int 0),c):=E;refine⟨c,?_⟩;unfold Ic;rw[C,e0];refine LM (g:=c) ?_ ?_;rfl;simp[PP,V52,lN,dh,d,rd]
 |some j =>
  have m0:0<m:=Nat.pos_of_ne_zero λz=>gu (z0 z).symm;obtain⟨_,j2,u,j4⟩:=(z1 m0).yes j rfl;have hx:wn t j=aa (.nm x):=ET.mp u;have s:∀i,j+1<=i->i<m->wn t i≠aa (.nm x):=λi f M=>Jr (j4 i (by lia) (by lia));have J:=Ih (w:=j+1) (x:=.nm x) (by lia) (by lia) hx s;rw[Nat.add_sub_cancel]at J;have ej:((j+1:Nat):Int)=(j:Int)+1:=by lia
  obtain⟨o2,c,r3,t3,E,y0,y1,X,I3,s3⟩:=qG A.rs.tp A.tb A.th A.rs.wr A.ww k g2.b I2 (.nm x) (j+1) (by lia);have F2:=y1 (by lia);rw[Nat.add_sub_cancel,Jm H]at F2;have N:o2=aa j:=by
   cases o2 with
   |none=>rw[F2.no rfl j (VL _) (UT _)]at u;exact dR u
   |some i =>
    obtain⟨_,i2,i3,i4⟩:=F2.yes i rfl;rcases Vd i j with z|z
    rw[i4 j z (UT _)]at u;exact dR u;rw[show i=j by lia]
  subst N;have d:runN T G (k+13) "writer_of" [.o n,.p (.int ((j:Int)+1)),.p (.str x.w)] M=aa (.p (.int ((j:Int)+1)),c):=by rw[←ej];exact E
  have S3:=H.trans s3;obtain⟨h4,r4,t4,b4,g4,I4,s4,f4⟩:=xX A.rs.tp (k+2) X.b I3 j (by lia);rw[S3.p,S3.aI]at b4;have F:=S3.trans s4;obtain⟨O,hr⟩:=qE I.run (i:=j) (by lia);obtain⟨h5,r5,t5,b5,g5,I5,s5⟩:=P5 A k Z (.p (eS t.p)) g4.b I4 a b m j (by lia) (by rw[zG F];exact hx) O (by unfold wm;rw[F.p,F.aI];exact hr) Y V U B q (aa (.p (.str x.w))) (lN (rsn t (λy=>y=.nm x) m)) af;have e5:rsn t4 (λth=>th∈gJ t4 j) j=rsn t (λth=>th∈gJ t j) j:=by rw[nG F,zF F]
  rw[e5]at b5;refine⟨h5,?_⟩;unfold Ic;rw[C];have Q:aO (runN T G (k+13)) G (.z .isN (.v 13) (.j .aF)) (V52 Z (.p (eS t.p)) n e a b m Y V U B q (aa (.p (.str x.w))) (aa (.p (.int ((j:Int)+1)))) (lN (rsn t (λy=>y=.nm x) m)) af af) M=aa (.p (.bl ai),M):=rfl;refine(nH Q).trans ?_;unfold PR;have il:dP (.aD (dh (rsn t (λy=>y=.nm x) m))) (.int (-1))=aa (.int ((j:Int)+1)):=by rw[J,Bc,ej]
  have P:∀i:Int,gI .ne (.int i) (.int i)=aa ai:=λi=>ne_self rfl;have eh:aO (runN T G (k+13)) G MG (V52 Z (.p (eS t.p)) n e a b m Y V U B q (aa (.p (.str x.w))) (aa (.p (.int ((j:Int)+1)))) (lN (rsn t (λy=>y=.nm x) m)) af af) M=aa (.p (.bl ai),c):=by unfold lN;generalize dh (rsn t (λy=>y=.nm x) m)=L at il;simp[-kL,-fm,MG,V52,lN,il,P,d,rd]
  refine(nH eh).trans ?_;have i1:dP (itr t.p t.aI j).enc (.int 0)=aa (.int ((itr t.p t.aI j).row:Int)):=rfl;have i2:dP (eS t.p) (.int ((itr t.p t.aI j).row:Int))=aa O.enc:=by show atP _ _=_;rw[gR,Vh,hr];rfl
  have ei:aO (runN T G (k+13)) G MH (V52 Z (.p (eS t.p)) n e a b m Y V U B q (aa (.p (.str x.w))) (aa (.p (.int ((j:Int)+1)))) (lN (rsn t (λy=>y=.nm x) m)) af af) c=aa (.p O.enc,h4):=by generalize (itr t.p t.aI j).enc=se at *;generalize eS t.p=pe at *;simp[-jh,MH,V52,X.b.ob,HN,b4,i1,i2,rd]
  refine (kr ei).trans ((kr b5).trans ?_);have ss:=oY (l:=rsn t (λth=>th∈gJ t j) j++[j+1]) (S:=rsn t (λy=>y=.nm x) m) (λy=>by rw[J]) (nF m _) (by
   rw[← J];have:=iH m (fq t (λy=>y=.nm x) m);unfold rsn;lia)
  have l1:=iH j (fq t (λth=>th∈gJ t j) j);have cl:(rsn t (λth=>th∈gJ t j) j).length+1<=100000:=by unfold rsn;lia
  have ap:dh (rsn t (λth=>th∈gJ t j) j)++[D.int ((j:Int)+1)]=dh (rsn t (λth=>th∈gJ t j) j++[j+1]):=by rw[kX,←ej];rfl
  have eqs:gI .eq (.aD (dh (rsn t (λy=>y=.nm x) m))) (.aD (dh (rsn t (λy=>y=.nm x) m)))=aa ah:=by rw[tK,bM (lF (EO _)),mL]
  refine LN ?_;show aO _ G MI [aa Z,aa (.p (eS t.p)),aa (.o n),aa (.p (.int (e:Int))),aa (.p a.enc),aa (.p b.enc),aa (.p (.int (m:Int))),Y,V,U,B,q,aa (.p (.str x.w)),aa (.p (.int ((j:Int)+1))),lN (rsn t (λy=>y=.nm x) m),aa (.p O.enc),lN (rsn t (λth=>th∈gJ t j) j)] h5=_;simp[-tK,MI,lN,jr,cl,ap,ss,eqs,rd]
def Il(A:RwP T G)(hD:Lw T)(ns:List Int)(hl:ns.length<=1000)(k:Nat){n r:Nat}{t:Tp}{h:HH}{e gv:Nat}(ta:TAt h n r t)(I:TI t e gv)(a b:Sm)(L:iX a)(c:iX b)(hab:a.size+b.size<=14)(m:Nat)(q:m<=e)(D:e<=30):
 ∃h',evS (runN T G (k+13)) G Ie (V52 (.p (.aD (c6 ns))) (.p (eS t.p)) n e a b m af af af af af af af af af af) h=aa (.rt (.p (.bl ah)) h'):=by
 obtain⟨z,X,dz⟩:=mV (G:=G) hD ns hl 444 3 (by decide);obtain⟨x,ex⟩:=Ec (z:Int) (by lia) X;have lU:=iH m (fq t (rdS t a m) m);have Z:∀x∈rsn t (rdS t a m) m,1<=x/\x<=e:=λx hx=>by have:=eZ.mp hx;lia
 have B:iX (.two .add a b):=⟨⟨L.1,c.1⟩,by simp only[Sm.size];lia⟩;obtain⟨h1,r1,t1,b1,g1,I1,M,f1⟩:=gq A.rs.tp A.rs.wr A.rs.jd A.rs.rs k ta I a L m q;obtain⟨h2,r2,t2,E,g2,I2,R,f2⟩:=uF A.rs.tp A.rs.wr A.rs.jd A.rs.nd k g1.b I1 a L m q;rw[qL M,EK M]at E;have F:=M.trans R;obtain⟨h3,r3,t3,C,g3,I3,Q⟩:=qM A.rs.tp A.rs.wr A.rs.rm (k+1) g2.b I2 (l:=rsn t (rdS t a m) m) (S:=rsn t (rdS t a m) m) Z (λx=>aaY) (nF m _) (by unfold rsn;lia);rw[yb F]at C;have Y:=F.trans Q;obtain⟨h4,r4,t4,b4,g4,I4,P⟩:=PX A.rs k (.p (.aD (c6 ns))) (.p (eS t.p)) g3.b I3 a b L m q (lN (rsn t (rdS t a m) m)) (lN (ndl t (rdS t a m) m)) af af af af af af (rmd t (rsn t (rdS t a m) m) St.zero) (yd I.ok I.ask I.run _ _ Z oU) (by rw[Y.p,Y.aI];exact Ba I.ok I.ask I.run a q);have W:=Y.trans P;obtain⟨i,r5,t5,v,g5,I5,N⟩:=PZ A.rs k (.p (.aD (c6 ns))) (.p (eS t.p)) g4.b I4 a b (rdS t a m) m q (by lia) (aa (.p (.aE (c6 (rmd t (rsn t (rdS t a m) m) St.zero).names)))) (aa (.p (.aE (c6 (rmd t (rsn t (rdS t a m) m) St.zero).cells)))) af af af af af af;rw[nG W,EK W]at v;have V:=W.trans N;have b6:=P0 (G:=G) (runN T G (k+13)) (.p (.aD (c6 ns))) (.p (eS t.p)) n e a b m (lN (ndl t (rdS t a m) m)) (aa (.p (.aE (c6 (rmd t (rsn t (rdS t a m) m) St.zero).names)))) (aa (.p (.aE (c6 (rmd t (rsn t (rdS t a m) m) St.zero).cells)))) af af af af af af i t (rdS t a m) (by lia);obtain⟨f,r7,t7,u,g7,I7,K,f7⟩:=gq A.rs.tp A.rs.wr A.rs.jd A.rs.rs k g5.b I5 (.two .add a b) B m q;rw[qL V,nG V]at u;have J:=V.trans K;have U:runN T G (k+13) "reasons" [.o n,.p (.int m),.p (.aE [.str "add",a.enc,b.enc])] i=aa (.p (.aD (dh (rsn t (rdS t (.two .add a b) m) m))),f):=u;obtain⟨d,r8,t8,s,g8,I8,H⟩:=P4 A.rs k (.p (.aD (c6 ns))) (.p (eS t.p)) g7.b I7 a b c m q D (lN (ndl t (rdS t a m) m)) (aa (.p (.aE (c6 (rmd t (rsn t (rdS t a m) m) St.zero).names)))) (aa (.p (.aE (c6 (rmd t (rsn t (rdS t a m) m) St.zero).cells)))) af af af af af;rw[qL J,qL J,nG J,nG J]at s;have S8:=J.trans H;obtain⟨h9,j⟩:=P6 A k (.p (.aD (c6 ns))) g8.b I8 a b m q D x (lN (rsn t (rdS t a m) m)) (lN (ndl t (rdS t a m) m)) (aa (.p (.aE (c6 (rmd t (rsn t (rdS t a m) m) St.zero).names)))) (aa (.p (.aE (c6 (rmd t (rsn t (rdS t a m) m) St.zero).cells)))) (lN (rsn t (rdS t (.two .add a b) m) m));rw[S8.p]at j;refine⟨h9,?_⟩;unfold Ie;refine(kr (w:=.p (.aD (dh (rsn t (rdS t a m) m)))) (g:=h1) ?_).trans ?_;simp[V52,b1];refine(kr (w:=.p (.aD (dh (ndl t (rdS t a m) m)))) (g:=h2) ?_).trans ?_;simp[V52,E];refine(Pq (MB (ER (x:=.o n) (h1:=h2) (y:=.p (.aD (dh (rsn t (rdS t a m) m)))) (h2:=h2) rfl rfl C))).trans ?_;unfold PV;refine(nH b4).trans ((nH v).trans ((nH b6).trans ?_));unfold PU;refine(kr (w:=.p (.aD (dh (rsn t (rdS t (.two .add a b) m) m)))) (g:=f) ?_).trans ?_;simp[V52,U];refine(nH s).trans ?_;refine(kr (w:=.p (.str x.w)) (g:=d) ?_).trans j;have O:=dz (k+11) d;simp[-jy,V52,O,ex,rd]
def Bd(A:RwP T G)(B:To T)(ns:List Int)(J:ns.length<=1000)(k:Nat):∃h',runN T G (k+14) "law" [.p (.aD (c6 ns))] []=aa (.p (.bl ah),h'):=by
 obtain⟨pg,K,v⟩:=v9 (G:=G) B.lw B.program ns J 20;obtain⟨L,E,C,ra⟩:=A4 (G:=G) B.lw ns J 450;obtain⟨a,Q,az,rs⟩:=oV (G:=G) B.lw ns J 2 460;obtain⟨b,N,bz,rt⟩:=oV (G:=G) B.lw ns J 1 480;have c:=v (k+6);have g:=ra (k+10);have Z:∀h,runN T G (k+13) "_law_sum" [.p (.aD (c6 ns)),.p (.int 460),.p (.int 2)] h=aa (.p a.enc,h):=λh=>rs (k+8) h;have Y:∀h,runN T G (k+13) "_law_sum" [.p (.aD (c6 ns)),.p (.int 480),.p (.int 1)] h=aa (.p b.enc,h):=λh=>rt (k+9) h;obtain⟨D,z,d⟩:=mV (G:=G) B.lw ns J 440 15 (by decide);obtain⟨q,y,W⟩:=mV (G:=G) B.lw ns J 441 5 (by decide);have O:=d (k+11);have M:=W (k+11);obtain⟨e,R,es⟩:=HG pg L D;have le:=R.le;obtain⟨m,hm,w⟩:=mV (G:=G) B.lw ns J 443 ((e:Int)+1) (by lia);have f:=w (k+11);have n:1+(q:Int)=((q+1:Nat):Int):=by lia
 have U:runN T G (k+13) (.m "Tape" "__init__") [.o 0,.p (eS pg),.p (.aD (c6 L)),.p (.int ((q+1:Nat):Int)),.p (.int (D:Int))] [.o "Tape" []]=aa (.p .aF,[.o "Tape" ((Tp.new pg L (q+1) D).fs 1),.l [St.zero.enc]]):=Ew A.rs.tp (k+11) pg L (q+1) D (by lia) [];have s:TAt [.o "Tape" ((Tp.new pg L (q+1) D).fs 1),.l [St.zero.enc]] 0 1 (Tp.new pg L (q+1) D):=Ma [] pg L (q+1) D;have X:TI (Tp.new pg L (q+1) D) e (q+1):=L8 K.ok E R (by lia) (by lia) (by lia);obtain⟨F,r1,t,P,H,S,u,f1⟩:=EA A.rs.tp A.rs.end_ (k+4) s X;have p8:2^(2+1)=8:=rfl;have p4:2^(1+1)=4:=rfl;obtain⟨i,r⟩:=Il A B.lw ns J k H.b S a b ⟨Q,by lia⟩ ⟨N,by lia⟩ (by lia) m (by lia) (by lia);have V:t.p=pg:=u.p;rw[V]at r;have I:fin [] (.p (.bl ah)) i=aa (.p (.bl ah),[]):=by have:=lz [] i (.bl ah);simpa using this
 refine⟨[],?_⟩;rw[run_eq B.law rfl,kF];generalize x:((q+1:Nat):Int)=z1 at U n;have j:evS (runN T G (k+13)) G Ie [aa (.p (.aD (c6 ns))),aa (.p (eS pg)),aa (.o 0),aa (.p (.int (e:Int))),aa (.p a.enc),aa (.p b.enc),aa (.p (.int (m:Int))),af,af,af,af,af,af,af,af,af,af] F=aa (.rt (.p (.bl ah)) i):=r;simp[-Cz,PL,c,g,Z,Y,O,M,f,n,U,s.ob,Px,P,j,I]
end
end BT
end
section
namespace BF
open PySem PySem.Spec PyProof.Rows L2 BS
variable{K:UM}
def ye(P:U4)(w:Vl)(K:UM)(mg:aA->Option aC)(x:aA)(z:aP):Prop:=∃u v,mg x=aa u/\RelV v u/\∀m H,RW P w K m H v z
def EV(X:K.In h)(G:h.Ns U6 mg)(a:Vu K U6 x=aa (aa (.int n t))):ye P w K mg x (.p (.int n)) :=
 ⟨_,.int n,WE X G a,⟨t,rfl⟩,λ_ _=>.p (.int n)⟩
inductive gH:List aA->List aC->Prop
 |nil:gH [] []
 |cons{x:aA}{xs:List aA}{t:Tok}{vs:List aC}(h:PyData.strOk x=ah)(r:gH xs vs):gH (x::xs) (.str x t::vs)
theorem gH.vals:∀{xs:List aA}{vs:List aC},gH xs vs->dF (xs.map V.str) vs
 |_,_,.nil=>.nil|_,_,.cons _ r=>.cons ⟨_,rfl⟩ r.vals
theorem gH.rds{K:UM}:∀{xs:List aA}{vs:List aC},gH xs vs->RDs K m H (xs.map V.str) (xs.map aQ.str)
 |_,_,.nil=>.nil|_,_,.cons h r=>.cons (.str _ h) r.rds
theorem gH.len:∀{xs:List aA}{vs:List aC},gH xs vs->vs.length=xs.length
 |_,_,.nil=>rfl
 |_,_,.cons _ r=>by simp[r.len]
def EW(X:K.In h)(G:h.Ns U6 mg)(a:Vu K U6 x=aa (aa (.ref f)))
(l:K.lookup f=aa ⟨.type "tuple",af,.seq its n,sl⟩)(q:xs.length<=1000)(r:gH xs its.toList):ye P w K mg x (.p (.aE (xs.map aQ.str))):=by
 refine⟨_,.ref f,WE X G a,rfl,λm H=>.p (.aE (.inr ⟨_,its,n,⟨l,rfl,rfl,?_,r.vals⟩,rfl⟩) r.rds)⟩;have:=r.len;have e:its.size=xs.length:=by rw[←this];simp
 rw[e];exact V6 (Ae q)
inductive jf(w:Vl):List (aA×Int)->List Zi->Prop
 |nil:jf w [] []
 |cons{x:aA}{n:Int}{kvs:List (aA×Int)}{t u:Tok}{es:List Zi}(r:jf w kvs es):jf w ((x,n)::kvs) (⟨PyData.keyHash w.params x,.str x t,.int n u⟩::es)
theorem jf.ex:∀{kvs:List (aA×Int)}{es:List Zi},jf w kvs es->∃vs:List (Key×aC),KV ((kvs.map λq=>(q.1,V.int q.2)).map λq=>((Sum.inr q.1:Key),q.2)) vs/\Pairs (dI P w) es vs/\vs.map (·.1)=kvs.map (λq=>(Sum.inr q.1:Key))/\(∀e∈es,∃k,(dI P w).is k e.key=ah/\e.hash=(dI P w).hash k)
 |_,_,.nil=>⟨[],.nil,.nil,rfl,λe B=>nomatch B⟩
 |_,_,@jf.cons _ x n kvs t u es r=>by
  obtain⟨vs,M,L,J,D⟩:=r.ex (P:=P);have is:(dI P w).is (Sum.inr x) (.str x t)=ah:=by show YG x (.str x t)=ah;simp[YG]
  refine⟨(Sum.inr x,.int n u)::vs,.cons ⟨rfl,u,rfl⟩ M,.cons is rfl L,by simp[J],λe B=>?_⟩;rcases List.mem_cons.mp B with rfl|B
  exact⟨Sum.inr x,is,rfl⟩;exact D e B
def Be{P:U4}{w:Vl}{h:au}{mg:aA->Option aC}(X:K.In h)(G:h.Ns U6 mg){x:aA}{f:aB}{es:Array Zi}{n:Nat}{kvs:List (aA×Int)}(a:Vu K U6 x=aa (aa (.ref f)))
(l:K.lookup f=aa {cls:=.type "dict",data:=.dict es n})(W:(f==Wt)=ai)(r:jf w kvs es.toList)(B:(kvs.map (·.1)).Nodup):ye P w K mg x (.k (.t (kvs.map λq=>(q.1,aQ.int q.2)))):=by
 obtain⟨O,M,L,J,D⟩:=r.ex (P:=P);refine⟨_,.ref f,WE X G a,rfl,λm H=>.k (es:=kvs.map λq=>(q.1,V.int q.2)) ⟨W,O,M,λb Z=>⟨_,es,n,Z _ _ l,⟨rfl,rfl,rfl⟩,rfl,λe Y=>D e (by simpa using Y),L,?_⟩⟩ ?_⟩
 ·rw[J];have e:(kvs.map λq=>(Sum.inr q.1:Key))=(kvs.map (·.1)).map Sum.inr:=by simp
  rw[e];exact List.pairwise_map.mpr (B.imp λh z=>h (Sum.inr.inj z))
 ·clear r B M L J D l
  induction kvs with
  |nil=>exact .nil|cons q kvs U=>exact .cons (λ_ _=>.int _) U
noncomputable def look{κ q:Type}[DecidableEq κ](l:List (κ×q))(x:κ):Option q:=match l with
 |[]=>af
 |(y,a)::r=>if y=x then aa a else look r x
theorem kG{κ q:Type}[DecidableEq κ]{Q:κ->q->Prop}:∀{l:List (κ×q)} (_:∀p∈l,Q p.1 p.2) {x:κ}{a:q},look l x=aa a->Q x a
 |[],_,_,_,e=>by exact bG e
 |(y,b)::r,h,x,a,e=>by
  rw[look]at e;split at e
  ·rename_i z;cases e;subst z;exact h (y,b) UY
  exact kG (λp B=>h p (UV _ B)) e
theorem gC{K:UM}:∀ns:List Int,RDs K m H (ns.map V.int) (BT.c6 ns)
 |[]=>.nil|n::r=>.cons (.int n) (gC r)
def EX(tb:TB K H)(B:LL K H a (ns.map V.int))(e:∃h',g [.p (.aD (BT.c6 ns))] []=aa (.p (.bl ah),h')):spF P w K g [.ref a] H (λv _=>v=.bl ah) λ_ _ _=>False:=by obtain⟨h',e⟩:=e;refine⟨[],_,[],_,h',⟨Yv,rfl,λi a D z=>by simp at z,tb⟩,.cons (.p (.aD (B.elim (λq=>.inl ⟨q,by simp⟩) .inr) (gC ns))) .nil,e,λv L J _ _ r=>nj r⟩
end BF
end
section
namespace BG
open PySem PySem.Spec PySem.Calls PyProof.Rows L2 BS BF
variable{K:UM}{st:Zk}
def Im(H:∀p∈K,h.get? p.1=aa p.2):K.In h:=by
 intro a o e;obtain⟨p,D,B⟩:∃p∈K,p.1=a/\p.2=o:=by
  clear H
  induction K with
  |nil=>exact bG e
  |cons q r J =>
   rw[Wg]at e;split at e
   ·rename_i c;cases e;exact⟨q,UY,(bT c).symm,rfl⟩
   ·obtain⟨p,D,B⟩:=J e;exact⟨p,UV _ D,B⟩
 rw[←B.1,←B.2];exact H p D
inductive P7(K:UM)(x qual:aA)(st:Zk)(f:aB):Prop
 |mk(fd:Wq)(F:Fun K x qual st f fd)(kV doc pm:aC)(an:Option aB)(cdv ct:aC)(e:fd=Wb x qual (gx st) (dU st) (dB st) .none kV doc pm an cdv ct):P7 K x qual st f
def EY(e:Fd K f=aa (yi x qual st)):P7 K x qual st f:=by
 unfold Fd at e;split at e
 ·rename_i Z Y O U l;have q:=U3 e;unfold yi at q;obtain⟨nm,L,W,d,V,a,cl,b,B,D,pm,an,J,ct,c⟩:=O;simp only[FS.mk.injEq]at q;obtain⟨rfl,rfl,rfl,rfl,rfl,rfl,rfl,rfl,rfl,M⟩:=q;have F:=JZ (K:=K) (x:=nm) (qual:=L) (st:=st) (f:=f) (kV:=B) (doc:=D) (pm:=pm) (an:=an) (cdv:=J) (ct:=ct) l M (by simp only[VY,l]);exact⟨_,F,B,D,pm,an,J,ct,rfl⟩
 exact bG e
def nth{q:Type}{l:List q}{a:q}(i:Nat)(h:l[i]?=aa a):a∈l:=UZ h
noncomputable def qQ(ns:List aA):Bool:=ns.all λn=>!(n.cps[0]?==aa 60)
def P8(y:aA):(bH y).cps[0]?=aa 60:=by show(((#[60]:Array Nat)++y.cps)++#[62])[0]?=aa 60;rw[←aaf];simp
def Io(h:bH y=bH z):y=z:=by
 have e:((#[60]:Array Nat)++y.cps)++#[62]=((#[60]:Array Nat)++z.cps)++#[62]:=bU Str.cps h;have e2:y.cps.toList=z.cps.toList:=by have:=bU aae e;simpa using this
 cases y;cases z;exact bU Str.mk (Array.toList_inj.mp e2)
def qR(h:qQ ns=ah)(y:aA):ns.contains (bH y)=ai:=by
 cases e:ns.contains (bH y)with
 |false=>rfl
 |true =>
  have:=List.all_eq_true.mp h _ (List.contains_iff_mem.mp e);rw[P8]at this;exact aU this
def EZ(h:qQ fn.ns=ah):nU K q fd fn:=λy B=>by rw[qR h y]at B;exact aU B
section
variable{K:UM}
def uI(e:refOf o=aa f):o=aa (aa (.ref f)):=by unfold refOf at e;split at e;cases e;rfl;exact bG e
def uJ(X:K.In h)(G:h.Ns U6 mg)(e:fj K (.fn x f st)=fk w (.fn x f st))
(sc:gy fn.ns fn.ps (dB st))(L:∀(kV doc pm:aC)(an:Option aB)(cdv ct:aC)(us:List aC),us.length=fn.ps.length->ZV (Wb x x (gx st) (dU st) (dB st) .none kV doc pm an cdv ct) ⟨us,[]⟩=pure (fn.ps.zip us))
(M:CSs (dB st) fn.ns fn.body (dU st))(tg:∀fd,Vu K U6 x=aa (aa (.ref f))->(∃B q D,K.lookup f=aa ⟨B,q,.func fd,D⟩)->nU K x fd fn):Def K mg x fn:=by
 simp only[fj,fk,Ov.fn.injEq]at e;obtain⟨fd,F,kV,doc,pm,an,cdv,ct,rfl⟩:=EY e.2;refine⟨f,_,st,WE X G (uI e.1),F,sc,F.binds L,M,tg _ (uI e.1) ?_⟩;obtain⟨B,q,kV,doc,pm,an,cdv,ct,osl,e1,J,_⟩:=F.ex;exact⟨B,q,osl,J⟩
def E1(e:fj K (.cls c C)=fk w (.cls c C)):nQ K c C:=by simp only[fj,fk,Ov.b.injEq,Nj,UQ,bP]at e;obtain⟨⟨⟨⟨⟨⟨V,U⟩,O⟩,M⟩,L⟩,J⟩,D⟩:=e;refine⟨V,⟨U,O,M,L⟩,λf B=>?_,D⟩;have q:f∈attrs:=List.contains_iff_mem.mp B;exact bS (p:=Vq K (.ref C) f=aa af) (List.all_eq_true.mp J f q)
def Ip(X:K.In h)(G:h.Ns U6 mg)(M:fj K (.cls c C)=fk w (.cls c C))(D:fj K (.mk C)=fk w (.mk C))(e:fj K (.me C m x qual f st)=fk w (.me C m x qual f st))
(sc:gy fn.ns fn.ps (dB st))(L:∀(kV doc pm:aC)(an:Option aB)(cdv ct:aC)(us:List aC),us.length=fn.ps.length->ZV (Wb x qual (gx st) (dU st) (dB st) .none kV doc pm an cdv ct) ⟨us,[]⟩=pure (fn.ps.zip us))
(O:CSs (dB st) fn.ns fn.body (dU st))(tg:qQ fn.ns=ah):D0 K mg c m fn:=by
 have J:=E1 M;simp only[fj,fk,Ov.fn.injEq]at e;obtain⟨e1,e2⟩:=e;obtain⟨U,F,kV,doc,pm,an,cdv,ct,rfl⟩:=EY e2;have B:meB K C m f=ah:=by
  cases q:meB K C m f with
  |true=>rfl|false=>rw[q]at e1;exact bG e1
 simp only[meB,UQ,bP]at B;simp only[fj,fk,Ov.b.injEq,mkB,UQ]at D;refine⟨C,f,_,x,qual,st,J,WE X G J.cn,⟨B.1,B.2,F.kp⟩,λz=>?_,F,sc,F.binds L,O,EZ tg⟩;subst z;exact⟨D.1,B.1,B.2,D.2⟩
def none_of(X:K.In h)(G:h.Ns U6 mg)(e:fj K (.no x)=fk w (.no x)):mg x=af:=by simp only[fj,fk,Ov.b.injEq,bP]at e;exact PySem.W.mg_none_of X G e
def E2(h:intOf v=aa x):∃t,v=.int x t:=by cases v<;>simp[intOf]at h;exact⟨_,by rw[h]⟩
def E3(h:strOf v=aa x):∃t,v=.str x t:=by cases v<;>simp[strOf]at h;exact⟨_,by rw[h]⟩
def fU(X:K.In h)(G:h.Ns U6 mg)(e:fj K (.int x n)=fk w (.int x n)):ye P w K mg x (.p (.int n)):=by
 simp only[fj,fk,Ov.int.injEq]at e;split at e
 ·rename_i v q;obtain⟨t,rfl⟩:=E2 e;exact EV X G q
 exact bG e
theorem zQ:∀{xs:List aA}{vs:List aC},xs.all PyData.strOk=ah->vs.map strOf=xs.map aa->gH xs vs
 |[],[],_,_=>.nil
 |[],_::_,_,h=>by simp at h
 |_::_,[],_,h=>by simp at h
 |x::xs,v::vs,k,h=>by simp only[U8,Wv]at h;simp only[ZY,UQ]at k;obtain⟨t,rfl⟩:=E3 h.1;exact .cons k.1 (zQ k.2 h.2)
theorem zR:∀{kvs:List (aA×Int)}{es:List Zi},es.map (λe=>(e.hash,strOf e.key,intOf e.val))=kvs.map (λq=>(PyData.keyHash w.params q.1,aa q.1,aa q.2))->jf w kvs es
 |[],[],_=>.nil
 |[],_::_,h=>by simp at h
 |_::_,[],h=>by simp at h
 |(x,n)::kvs,⟨ha,k,v⟩::es,h=>by simp only[U8,Wv,ZA]at h;obtain⟨⟨rfl,J,D⟩,B⟩:=h;obtain⟨t,rfl⟩:=E3 J;obtain⟨u,rfl⟩:=E2 D;exact .cons (zR B)
def E4(X:K.In h)(G:h.Ns U6 mg)(e:fj K (.aE x f xs)=fk w (.aE x f xs))(L:xs.length<=1000)(J:xs.all PyData.strOk=ah):ye P w K mg x (.p (.aE (xs.map aQ.str))):=by simp only[fj,fk,Ov.seq.injEq]at e;obtain⟨e1,e2,q⟩:=e;obtain⟨o,l,B⟩:=Option.map_eq_some_iff.mp e2;rw[l]at q;obtain⟨cl,U,O,D⟩:=o;simp only[shp,ZA]at B;obtain⟨rfl,rfl,M⟩:=B;have:D=#[]:=YW M;subst this;simp only[Wc,Bh]at q;cases O<;>simp only[Wu,reduceCtorEq]at q;exact EW X G (uI e1) l L (zQ J q)
def E5(X:K.In h)(G:h.Ns U6 mg){x:aA}{f:aB}{kvs:List (aA×Int)}(e:fj K (.dct x f kvs)=fk w (.dct x f kvs))(M:(f==Wt)=ai)(L:(kvs.map (·.1)).Nodup):ye P w K mg x (.k (.t (kvs.map λq=>(q.1,aQ.int q.2)))):=by simp only[fj,fk,Ov.dct.injEq]at e;obtain⟨e1,e2,B⟩:=e;obtain⟨o,l,D⟩:=Option.map_eq_some_iff.mp e2;rw[l]at B;obtain⟨cl,V,U,J⟩:=o;simp only[shp,ZA]at D;obtain⟨rfl,rfl,O⟩:=D;have:J=#[]:=YW O;subst this;simp only[Wc,IF]at B;cases U<;>simp only[Wu,reduceCtorEq]at B;exact Be X G (uI e1) l M (zR B) L
end
def yf{q:Type}{us:List q}{n:Nat}(h:us.length=n+1):∃a r,us=a::r/\r.length=n:=by
 cases us with
 |nil=>simp at h|cons a r=>exact⟨a,r,rfl,by simpa using h⟩
def len0{q:Type}{us:List q}(h:us.length=0):us=[]:=Xn h
def MK{B:Type}{us:List B}(h:us.length=1):∃q,us=[q]:=by obtain⟨q,r,rfl,g⟩:=yf h;exact⟨q,by rw[len0 g]⟩
def ML{D:Type}{us:List D}(h:us.length=2):∃B q,us=[B,q]:=by obtain⟨B,r,rfl,g⟩:=yf h;obtain⟨q,rfl⟩:=MK g;exact⟨B,q,rfl⟩
def Iq{J:Type}{us:List J}(h:us.length=3):∃D B q,us=[D,B,q]:=by obtain⟨D,r,rfl,g⟩:=yf h;obtain⟨B,q,rfl⟩:=ML g;exact⟨D,B,q,rfl⟩
def MM{L:Type}{us:List L}(h:us.length=4):∃J D B q,us=[J,D,B,q]:=by obtain⟨J,r,rfl,g⟩:=yf h;obtain⟨D,B,q,rfl⟩:=Iq g;exact⟨J,D,B,q,rfl⟩
def P9{M:Type}{us:List M}(h:us.length=5):∃L J D B q,us=[L,J,D,B,q]:=by obtain⟨L,r,rfl,g⟩:=yf h;obtain⟨J,D,B,q,rfl⟩:=MM g;exact⟨L,J,D,B,q,rfl⟩
def Qa{O:Type}{us:List O}(h:us.length=6):∃M L J D B q,us=[M,L,J,D,B,q]:=by obtain⟨M,r,rfl,g⟩:=yf h;obtain⟨L,J,D,B,q,rfl⟩:=P9 g;exact⟨M,L,J,D,B,q,rfl⟩
def Tt{U:Type}{us:List U}(h:us.length=7):∃O M L J D B q,us=[O,M,L,J,D,B,q]:=by obtain⟨O,r,rfl,g⟩:=yf h;obtain⟨M,L,J,D,B,q,rfl⟩:=Qa g;exact⟨O,M,L,J,D,B,q,rfl⟩
noncomputable abbrev BdT(x qual:aA)(st:Zk)(fn:bC):Prop:=∀(kV B J:aC)(L:Option aB)(D ct:aC)(q:List aC),q.length=fn.ps.length->ZV (Wb x qual (gx st) (dU st) (dB st) .none kV B J L D ct) ⟨q,[]⟩=pure (fn.ps.zip q)
structure CkB(x qual:aA)(s:Zk)(f:bC):Prop where
 ck:CSs (dB s) f.ns f.body (dU s):=by repeat' (first|rfl|constructor|decide +kernel)
 sc:gy f.ns f.ps (dB s):=by constructor<;>first|rfl|decide +kernel
 bd:BdT x qual s f:=by intro _ _ _ _ _ _ us hl;first|(obtain⟨a0,a1,rfl⟩:=ML hl;rfl)|(obtain⟨a0,rfl⟩:=MK hl;rfl)|(obtain⟨a0,a1,a2,rfl⟩:=Iq hl;rfl)|(obtain⟨a0,a1,a2,a3,rfl⟩:=MM hl;rfl)|(obtain rfl:=len0 hl;rfl)|(obtain⟨a0,a1,a2,a3,a4,rfl⟩:=P9 hl;rfl)|(obtain⟨a0,a1,a2,a3,a4,a5,rfl⟩:=Qa hl;rfl)|(obtain⟨a0,a1,a2,a3,a4,a5,a6,rfl⟩:=Tt hl;rfl)
def dk{p:Prop}(h:p:=by decide +kernel):p:=h
def hn{w:Vl}{B:List Qy}(D:∀q∈B,fj K q=fk w q)(i:Nat){a:Qy}(h:B[i]?=aa a):fj K a=fk w a:=D _ (nth i h)
def sO(K:UM)(mg:aA->Option aC)(p:BT.FK×bC):Prop:=(∀x,p.1=.f x->Def K mg x p.2)/\(∀c m,p.1=.m c m->D0 K mg c m p.2)/\∀L,p.1=.l L->BT.qZ L=aa p.2/\∃q B,p.2=⟨q,q,.ret B⟩/\∀y,q.contains (bH y)=ai
def dd(d:Def K mg x fn):sO K mg (.f x,fn):=⟨λy e=>by cases e;exact d,λc m e=>(by cases e),λL e=>by cases e⟩
def dm(d:D0 K mg c m fn):sO K mg (.m c m,fn):=⟨λy e=>(by cases e),λc m e=>by cases e;exact d,λL e=>by cases e⟩
def dj{q:Type}{Q:q->Prop}{a:q}{l:List q}(h:Q a)(t:∀p∈l,Q p):∀p∈a::l,Q p:=List.forall_mem_cons.mpr ⟨h,t⟩
def E6{q:Type}{Q:q->Prop}:∀p∈([]:List q),Q p:=λ_ h=>bO h WX
def dl(h:BT.qZ L=aa ⟨ns,ns,.ret bt⟩)(n:qQ ns=ah):sO K mg (.l L,⟨ns,ns,.ret bt⟩):=⟨λy e=>(by cases e),λc m e=>(by cases e),λM e=>by cases e;exact⟨h,ns,bt,rfl,qR n⟩⟩
section
variable{K:UM}
def dd0(X:K.In h)(G:h.Ns U6 mg)(e:fj K (.fn x f st)=fk w (.fn x f st))(c:CkB x x st fn)(tg:qQ fn.ns=ah:=by decide +kernel):sO K mg (.f x,fn) :=
 dd (uJ X G e c.sc c.bd c.ck λ_ _ _=>EZ tg)
def dm0(X:K.In h)(G:h.Ns U6 mg)(B:fj K (.cls c C)=fk w (.cls c C))(q:fj K (.mk C)=fk w (.mk C))(e:fj K (.me C m x qual f st)=fk w (.me C m x qual f st))(k:CkB x qual st fn)(tg:qQ fn.ns=ah:=by decide +kernel):sO K mg (.m c m,fn) :=
 dm (Ip X G B q e k.sc k.bd k.ck tg)
end
structure Ir(K:UM)(tl:List (aA×aB×aB)):Prop where
 all:∀z∈BT.gP,(∃c P,(z,c,P)∈tl/\VJ K z=aa (c,P))\/VJ K z=af
 hd:∀q∈tl,XR K q.2.1 q.2.2=ah
def jR(e:fj K (.tab x c P)=fk w (.tab x c P)):VJ K x=aa (c,P)/\XR K c P=ah:=by simp only[fj,fk,Ov.b.injEq,UQ,bP]at e;exact e
def fh(e:fj K (.no x)=fk w (.no x)):VJ K x=af:=by simp only[fj,fk,Ov.b.injEq,bP]at e;unfold VJ;rw[e]
def E7(h1:Vu K U6 x=aa (aa (.ref f)))(h2:K.lookup f=aa ⟨oc,od,.func fd,sl⟩)(h:VJ K x=aa (c,P)):fd.code=.ref c:=by
 unfold VJ at h;rw[h1]at h;simp only[h2]at h;split at h
 ·rename_i B q;split at h
  ·split at h;cases h;exact q;exact bG h
  exact bG h
 exact bG h
def MN(e:fj K (.bm b)=fk w (.bm b)):∃bm ob,Vu K U6 "__builtins__"=aa (aa (.ref bm))/\bm≠WI/\K.lookup bm=aa ob/\ob.cls=.type "module"/\ob.dict=aa WI/\ob.data=.plain:=by
 simp only[fj,fk,Ov.b.injEq,bmB,UQ,bP]at e;obtain⟨⟨e1,e2⟩,q⟩:=e;split at q
 ·rename_i d B l;exact⟨b,_,e1,e2,l,rfl,bU aa (bT q),rfl⟩
 exact aU q
def tabsOk(tl:List (aA×aB×aB)):Bool:=tl.all λp=>tl.all λq=>!(p.2.2==q.2.2)||p.1==q.1
def uK(D:fn.ns=ns++[bH x])(d:qQ ns=ah)(B:x∈BT.gP)(a:Ir K tl)(Z:tabsOk tl=ah)(Y:(x,c,P)∈tl)(g:fj K (.tab x c P)=fk w (.tab x c P))(h:fj K (.bm b)=fk w (.bm b)):
 ∀fd,Vu K U6 x=aa (aa (.ref f))->(∃O M L,K.lookup f=aa ⟨O,M,.func fd,L⟩)->nU K x fd fn:=λfd h1 ⟨O,M,L,h2⟩ y hy=>by
 obtain⟨J,U⟩:=jR g;have e:y=x:=by
  have m:=List.contains_iff_mem.mp hy;rw[D]at m;rcases List.mem_append.mp m with m|m
  ·have:=qR d y;rw[List.contains_iff_mem.mpr m]at this;exact BT.w9 this
  exact Io (by simpa using m)
 subst e;refine⟨rfl,B,⟨c,P,J,E7 h1 h2 J,U,λz W j e2=>?_⟩,MN h⟩;rcases a.all z W with⟨i,k,V,q⟩|q
 ·rw[e2]at q;cases q;have:=List.all_eq_true.mp (List.all_eq_true.mp Z _ V) _ Y;simp only[beq_self_eq_true,Bool.not_true,Bool.false_or]at this;exact bT this
 rw[e2]at q;cases q
def yh(e:K.lookup b=aa o):b∈K.map (·.1):=List.mem_map.mpr ⟨(b,o),PySem.W.mem_of_lookupK e,rfl⟩
def Bf 
(A:K.In s₁.heap)(I:s₁.heap.Ns U6 mg)(R:s₁.heap.Ns WI mb)(Q:∀x:aA,x≠"__name__"->mb x=XY x)(f:s₁.heap.NoLimit)(hg:s₁.gens=#[])
(g:s₁.heap.get? a=aa {cls:=.type "list",data:=.seq vs.toArray})(hi:XQ vs ns)(hl:ns.length<=aj)(hr:fM k aaN)
(hT:Ir K tl)(M:∀p∈tl,s₁.heap.get? p.2.2=aa (WO #[]))(S:∀p∈tl,K.lookup p.2.2=af)
(F:∀base:au,jv P w K mg base CX0 k fa fd [x] sp)(W:∀(s:UR)(u:aC),K.In s.heap->BindsTo s fd ⟨[u],[]⟩ [(x,u)])
(G:∀H:Hp,TB K H->LL K H a (ns.map V.int)->sp [.ref a] H (λv _=>v=.bl ah) λ_ _ _=>False):
 ak (Vb P w) aaN (.call (.ref fa) ⟨[.ref a],[]⟩) (λr s'=>r=.ok (.ret (.bool ah))/\OldK s₁.heap s'.heap/\s'.os=s₁.os/\ZG s'.gens) s₁:=by
 have rv:=kJ hi;have Z:=hi.length;have C:∀p∈tl,p.2.2≠a:=λp D z=>by have:=M p D;rw[z,g]at this;cases this
 let t:HO:=.frz {cls:=.type "list",data:=.seq vs.toArray} (.aD (ns.map V.int))
 let H:Hp:=λb=>if ∃p∈tl,p.2.2=b then aa (.tbl #[])else if b=a/\K.lookup a=af then aa t else af
 have Ht:∀p∈tl,H p.2.2=aa (.tbl #[]):=λp D=>bM ⟨p,D,rfl⟩;have J:∀b u,H b=aa u->(∃p∈tl,p.2.2=b/\u=.tbl #[])\/(b=a/\K.lookup a=af/\u=t):=λb u e=>by
  by_cases X:∃p∈tl,p.2.2=b
  ·have Y:aa (HO.tbl #[])=aa u:=(bM X).symm.trans e;obtain⟨p,D,L⟩:=X;exact .inl ⟨p,D,L,(U3 Y).symm⟩
  ·have Y:(if b=a/\K.lookup a=af then aa t else af)=aa u:=(bN X).symm.trans e
   by_cases y:b=a/\K.lookup a=af
   ·rw[bM y]at Y;exact .inr ⟨y.1,y.2,(U3 Y).symm⟩
   rw[bN y]at Y;exact bG Y
 have E:∀{b:aB}{o:aq}{i:Array Zi}{j:Nat},s₁.heap.get? b=aa o->o.data=.dict i j->H b=af:=λ{b o i j} e d=>by
  cases q:H b with
  |none=>rfl
  |some u =>
   rcases J b u q with⟨p,D,L,_⟩|⟨L,_⟩
   ·have z:=M p D;rw[L,e]at z;cases z;cases d
   ·rw[L,g]at e;cases e;have d':Data.seq vs.toArray _=Data.dict i j:=d;cases d'
 have U:∀ {b:aB}{m:aA->Option aC},s₁.heap.Ns b m->(uN s₁.heap H).Ns b m:=λ{b m} ⟨o,i,j,e,d,r⟩=>⟨o,i,j,uO e (E e d),d,r⟩;have T:K.In (uN s₁.heap H):=λb o e=>uO (A b o e) (by
  cases q:H b with
  |none=>rfl
  |some u =>
   rcases J b u q with⟨p,D,L,_⟩|⟨L,h3,_⟩
   rw[←L,S p D]at e;exact bG e
   ·rw[L,h3] at e;exact bG e)
 have hM:Mod K mg (uN s₁.heap H):=⟨T,U I,⟨mb,U R,Q⟩,let ⟨mc,h1,L⟩:=f;⟨mc,U h1,L⟩⟩;have aL:HOk P w H s₁.heap:=λb u e=>by
  rcases J b u e with⟨p,D,L,rfl⟩|⟨L,_,rfl⟩
  subst L;exact M p D;subst L;exact⟨g,by rw[U0];exact hl,vs,_,rv,g⟩
 have e0:o9 P w K mg (uN s₁.heap H) aaN [] s₁ H:=⟨rfl,hM,λb o e=>Fe e,Nat.le_of_eq (zU _ _),trivial,λb R=>bO (show b∈([]:List aB) from R) (by simp),aL,.of_eq hg⟩;have tb:TB K H:=λz hz c Pt e=>by
  rcases hT.all z hz with⟨c3,P3,m3,l⟩|l
  ·rw[e]at l;cases l;exact⟨#[],Ht _ m3,trivial,λpos v q=>by cases q⟩
  rw[e]at l;cases l
 have hS:LL K H a (ns.map V.int):=by
  cases N:K.lookup a with
  |some o =>
   have e:=A a o N;rw[g]at e;cases e;exact .inr ⟨vs,_,N,by rw[Z];exact hl,rv⟩
  |none =>
   refine .inl (.inr ⟨{cls:=.type "list",data:=.seq vs.toArray},?_⟩);have e1:H a=(if a=a/\K.lookup a=af then aa t else af):=bN λ⟨p,D,z⟩=>C p D z;rw[e1,bM ⟨rfl,N⟩]
 refine codeAny_mono ((F _).run aaN [] s₁ H ⟨[.ref a],[]⟩ [.ref a] [.ref a] _ _ hr e0 (W s₁ (.ref a) A) (.cons rfl .nil) (G H tb hS)) λr s' h=>?_;cases r with
 |error e=>exact VE h
 |ok fl =>
  cases fl with
  |ret u =>
   obtain⟨v,H',os,n,un,O,r',q⟩:=h;have q':v=.bl ah:=q;subst q';obtain rfl:u=aaP ah:=r';have kp:∀b o,s₁.heap.get? b=aa o->(s'.heap.get? b=aa o)\/∃p∈tl,p.2.2=b/\∃B,s'.heap.get? b=aa (WO (#[]++B)):=λb o e=>by
    cases q:H b with
    |none=>exact .inl (un.keep b o e q (by intro z;exact bO (show b∈([]:List aB) from z) (by simp)) (by simp))
    |some u =>
     rcases J b u q with⟨p,D,L,rfl⟩|⟨L,h3,rfl⟩
     ·obtain⟨B,z⟩:=un.tbls b _ q;exact .inr ⟨p,D,L,B,O b _ z⟩
     ·have z2:=un.frzs b _ _ q;obtain⟨e1,_⟩:=aL b _ q;obtain⟨e2,_⟩:=O b _ z2;rw[e]at e1;cases e1;exact .inl e2
   refine⟨rfl,⟨λb o e=>?_,λb o e=>?_⟩,os,n⟩
   ·rcases kp b o e with z|⟨p,D,rfl,B,z⟩
    exact .inl z
    ·have e2:=M p D;rw[e]at e2;cases e2;have tA:=(aaa A (hT.hd p D)).tab e;exact .inr (.inl ⟨tA.isCodeTable,rfl,#[],B,rfl,z⟩)
   ·rcases kp b o e with z|⟨p,D,rfl,B,z⟩
    exact⟨o,z⟩;exact⟨_,z⟩
  |_=>exact VE h
def E8{l:PySem.W.OpenLaw}{n k:Nat}{q:U4}{loose:List aA}{XP:(aA->Option aC)->au->Prop}{d:DefRec}{as:List aB}{V:List Qy}{ts:List aB}{tl:List (aA×aB×aB)}{T:BT.FK->Option bC}{G:aA->Option aP}{fn:bC}{x:aA}
(hn:l.most=aa n)(j:n<=aj)(t:d.params.defaults=[])(N:fM (2*k) aaN)(D:fn.ps=[x])(y:T (.f d.name)=aa fn)(Z:ts=tl.map (·.2.2))(c:tl.all (λp=>!as.contains p.2.2)=ah)
(FT:∀(w:Vl)(K:UM),(∀q∈V,fj K q=fk w q)->Ir K tl)
(F:∀(P:U4)(w:Vl)(mg:aA->Option aC)(K:UM) (h:au),K.In h->h.Ns U6 mg->(∀q∈V,fj K q=fk w q)->Txt P w K mg T G)
(M:∀ns:List Int,ns.length<=n->∃h',aY T G k (.f d.name) [.p (.aD (BT.c6 ns))] []=aa (.p (.bl ah),h')):
 PySem.W.WalkO q loose XP (sees as V ts).says l.row.toRowW d [] (λf vs=>aaQ f vs):=by
 refine Att.uY hn t λw v L mg mb fa o pm cd doc a vs ns U Y ho hd R r O J B Q=>?_;obtain⟨K,I,E,k2,C⟩:=Y;have A:=Im E;have X:=F l.prog w mg K L.heap A U.T.g k2;obtain⟨f,fd,st,z,h2,h3,h4,h5,h6⟩:=(X.defs _ fn y).ex;rw[r]at z;cases z;refine Bf (sp:=spF l.prog w K (aY T G k (.f d.name))) (x:=x) (k:=2*k) (fd:=fd) (tl:=tl) A U.T.g U.T.b U.T.builtins U.T.nolimit Q O J (Vp B j) N (FT w K k2) (λp i=>C _ (by rw[Z];exact aaE i)) (λp i=>?_) (λbase=>?_) (λs u hK=>?_) (λH tb S=>EX tb S (M ns B))
 ·cases e:K.lookup p.2.2 with
  |none=>rfl
  |some o =>
   have m:=yh e;rw[I]at m;have:=List.all_eq_true.mp c p i;rw[List.contains_iff_mem.mpr m]at this;exact aU this
 ·have:=LK (base:=base) X k (.f d.name) fn y _ fd d.name d.name st h2 h3 h5 h6;rw[D]at this;exact this
 ·have:=h4 s [u] hK (by rw[D];rfl);rw[D]at this;exact this
end BG
end
section
namespace BL
open PySem PySem.Spec PyProof.Rows L2 BS BF BG
def ck6:CkB "is_whole" "is_whole" (top 6) BT.jb:={}
def ck7:CkB "is_name" "is_name" (top 7) BT.iR:={}
def ck8:CkB "is_cell" "is_cell" (top 8) BT.jO:={}
def ck9:CkB "inner_sums" "inner_sums" (top 9) BT.fR:={}
def Tu:CkB "begun" "begun" (top 22) BT.mJ:={}
def Tv:CkB "check_thing" "check_thing" (top 23) BT.fD:={}
def Tw:CkB "worth_in" "worth_in" (top 24) BT.i8:={}
def Tz:CkB "laid_out" "laid_out" (top 25) BT.i7:={}
def TF:CkB "of_two" "of_two" (top 26) BT.kT:={}
def TH:CkB "worth_of" "worth_of" (top 27) BT.fz:={}
def TJ:CkB "reckoned" "reckoned" (top 28) BT.i9:={}
def TL:CkB "cell_by" "cell_by" (top 29) BT.jH:={}
def TM:CkB "is_over" "is_over" (top 30) BT.iS:={}
def TN:CkB "place_behind" "place_behind" (top 31) BT.fW:={}
def TQ:CkB "with_worth" "with_worth" (top 32) BT.gQ:={}
def TR:CkB "with_name" "with_name" (top 33) BT.iC:={}
def TU:CkB "brought" "brought" (top 34) BT.iT:={}
def TV:CkB "stepped" "stepped" (top 35) BT.jI:={}
def TX:CkB "written_by" "written_by" (top 37) BT.fT:={}
def TY:CkB "read_by" "read_by" (top 38) BT.jP:={}
def TZ:CkB "read_in" "read_in" (top 39) BT.gO:={}
def T3:CkB "written_next" "written_next" (top 40) BT.fY:={}
def T4:CkB "check_step" "check_step" (top 41) BT.gT:={}
def MO:CkB "writer_of" "writer_of" (top 42) BT.eY:={}
def MP:CkB "judged" "judged" (top 43) BT.jo:={}
def T5:CkB "reasons" "reasons" (top 44) BT.jQ:={}
def T6:CkB "needless" "needless" (top 45) BT.je:={}
def MQ:CkB "remade" "remade" (top 46) BT.jq:={}
def T7:CkB "sum_at" "sum_at" (top 48) BT.kW:={}
def T8:CkB "_law_cell" "_law_cell" (top 53) BT.iw:={}
def T9:CkB "_law_drawn" "_law_drawn" (top 54) BT.iE:={}
def Ua:CkB "_law_sum" "_law_sum" (top 55) BT.gf:={}
def Ub:CkB "_law_row" "_law_row" (top 56) BT.jJ:={}
def Uc:CkB "_law_program" "_law_program" (top 57) BT.fB:={}
def Ud:CkB "_law_asked" "_law_asked" (top 58) BT.iF:={}
def Ue:CkB "law" "law" (top 61) BT.kF:={}
def MR:CkB "__init__" "Tape.__init__" (iA 51 0) BT.iG:={}
def MS:CkB "at" "Tape.at" (iA 51 1) BT.jK:={}
def MT:CkB "end" "Tape.end" (iA 51 2) BT.jc:={}
def Iu:CkB "behind" "Tape.behind" (iA 51 10) BT.gF:={}
def Iv:CkB "is_last" "Tape.is_last" (iA 51 11) BT.ff:={}
def Iw:CkB "keep" "Tape.keep" (iA 51 12) BT.gG:={}
def Iz:CkB "reach" "Tape.reach" (iA 51 13) BT.gS:={}
def IA:CkB "has" "Tape.has" (iA 51 14) BT.iy:={}
def IB:CkB "check" "Tape.check" (iA 51 15) BT.fS:={}
def IC:CkB "steps_to" "Tape.steps_to" (iA 51 17) BT.dZ:={}
def ID:CkB "last_to" "Tape.last_to" (iA 51 19) BT.fX:={}
def IE:CkB "last_between" "Tape.last_between" (iA 51 20) BT.ef:={}
def tab:List (BT.FK×bC):=[(.f "is_whole",BT.jb),(.f "is_name",BT.iR),(.f "is_cell",BT.jO),(.f "inner_sums",BT.fR),(.f "begun",BT.mJ),(.f "check_thing",BT.fD),(.f "worth_in",BT.i8),(.f "laid_out",BT.i7),(.f "of_two",BT.kT),(.f "worth_of",BT.fz),(.f "reckoned",BT.i9),(.f "cell_by",BT.jH),(.f "is_over",BT.iS),(.f "place_behind",BT.fW),(.f "with_worth",BT.gQ),(.f "with_name",BT.iC),(.f "brought",BT.iT),(.f "stepped",BT.jI),(.f "written_by",BT.fT),(.f "read_by",BT.jP),(.f "read_in",BT.gO),(.f "written_next",BT.fY),(.f "check_step",BT.gT),(.f "writer_of",BT.eY),(.f "judged",BT.jo),(.f "reasons",BT.jQ),(.f "needless",BT.je),(.f "remade",BT.jq),(.f "sum_at",BT.kW),(.f "_law_cell",BT.iw),(.f "_law_drawn",BT.iE),(.f "_law_sum",BT.gf),(.f "_law_row",BT.jJ),(.f "_law_program",BT.fB),(.f "_law_asked",BT.iF),(.f "law",BT.kF),(.m "Tape" "__init__",BT.iG),(.m "Tape" "at",BT.jK),(.m "Tape" "end",BT.jc),(.m "Tape" "behind",BT.gF),(.m "Tape" "is_last",BT.ff),(.m "Tape" "keep",BT.gG),(.m "Tape" "reach",BT.gS),(.m "Tape" "has",BT.iy),(.m "Tape" "check",BT.fS),(.m "Tape" "steps_to",BT.dZ),(.m "Tape" "last_to",BT.fX),(.m "Tape" "last_between",BT.ef),(.l 12,BT.yJ),(.l 13,BT.yK),(.l 14,BT.yL)]
noncomputable def aG:List (aA×aP):=[("CELL_COUNT",.p (.int 4)),("WORTH_COUNT",.p (.int 10007)),("ROW",.p (.int 0)),("NAMES",.p (.int 1)),("CELLS",.p (.int 2)),("CALLS",.p (.int 3)),("ASKED",.p (.int 4)),("SAID",.p (.int 5)),("MOST_CALLS",.p (.int 6)),("MOST_MARKS",.p (.int 8)),("LETTERS",.p (.aE ((["a","b","c","d","e","f"]:List aA).map aQ.str))),("INNER_COUNTS",.k (.t (([("num",0),("name",0),("cell",1),("add",2),("sub",2),("mul",2),("less",2)]:List (aA×Int)).map λq=>(q.1,aQ.int q.2))))]
noncomputable abbrev T:BT.FK->Option bC:=look tab
noncomputable abbrev G:aA->Option aP:=look aG
def prg:BT.Prg T G:=⟨rfl,rfl,rfl,rfl,rfl,rfl,rfl,rfl,rfl,rfl,rfl,rfl,rfl,rfl,rfl,rfl,rfl,rfl,rfl,rfl,rfl,rfl,rfl,rfl,rfl,rfl⟩
def tpp:BT.TpP T G:=⟨prg,rfl,rfl,rfl,rfl,rfl,rfl,rfl,rfl,rfl,rfl⟩
def rsp:BT.RsP T G:=⟨tpp,⟨rfl⟩,⟨rfl,rfl,rfl⟩,⟨⟨rfl,rfl⟩,rfl,rfl,rfl⟩,⟨rfl,rfl,rfl⟩,rfl,rfl,⟨rfl⟩⟩
def run(ns:List Int)(h:ns.length<=1000):∃h',aY T G 40 "law" [.p (.aD (BT.c6 ns))] []=aa (.p (.bl ah),h'):=BT.Bd ⟨rsp,⟨rfl,rfl⟩,⟨rfl,rfl⟩,⟨rfl,rfl⟩⟩ ⟨⟨rfl,rfl,rfl,rfl,rfl⟩,rfl,rfl⟩ ns h 26
def Qc(w:Vl)(K:UM)(B:∀q∈qys,fj K q=fk w q):Ir K tl:=by
 refine⟨λz D=>?_,λp J=>?_⟩
 ·simp only[BT.gP,Xr,WX,or_false]at D;rcases D with rfl|rfl|rfl|rfl|rfl|rfl|rfl|rfl|rfl|rfl|rfl|rfl|rfl|rfl|rfl
  exact .inr (fh (w:=w) (hn B 69 rfl));exact .inr (fh (w:=w) (hn B 70 rfl));exact .inr (fh (w:=w) (hn B 71 rfl));exact .inr (fh (w:=w) (hn B 72 rfl));exact .inr (fh (w:=w) (hn B 73 rfl));exact .inr (fh (w:=w) (hn B 74 rfl));exact .inr (fh (w:=w) (hn B 75 rfl));exact .inr (fh (w:=w) (hn B 76 rfl));exact .inr (fh (w:=w) (hn B 77 rfl));exact .inr (fh (w:=w) (hn B 78 rfl));exact .inr (fh (w:=w) (hn B 79 rfl));exact .inr (fh (w:=w) (hn B 80 rfl));exact .inl ⟨227,223,nth 0 rfl,(jR (w:=w) (hn B 81 rfl)).1⟩;exact .inl ⟨234,230,nth 1 rfl,(jR (w:=w) (hn B 82 rfl)).1⟩;exact .inl ⟨251,247,nth 2 rfl,(jR (w:=w) (hn B 83 rfl)).1⟩
 ·simp only[tl,Xr,WX,or_false]at J;rcases J with rfl|rfl|rfl
  exact(jR (w:=w) (hn B 81 rfl)).2;exact(jR (w:=w) (hn B 82 rfl)).2;exact(jR (w:=w) (hn B 83 rfl)).2
def txt(P:U4)(w:Vl)(mg:aA->Option aC)(K:UM)(h:au)(X:K.In h)(D:h.Ns U6 mg)(B:∀q∈qys,fj K q=fk w q):Txt P w K mg T G:=by have J:=Qc w K B;have all:∀p∈tab,sO K mg p:=dj (dd0 X D (hn B 0 rfl) ck6) <|dj (dd0 X D (hn B 1 rfl) ck7) <|dj (dd0 X D (hn B 2 rfl) ck8) <|dj (dd0 X D (hn B 3 rfl) ck9) <|dj (dd0 X D (hn B 4 rfl) Tu) <|dj (dd0 X D (hn B 5 rfl) Tv) <|dj (dd0 X D (hn B 6 rfl) Tw) <|dj (dd0 X D (hn B 7 rfl) Tz) <|dj (dd0 X D (hn B 8 rfl) TF) <|dj (dd0 X D (hn B 9 rfl) TH) <|dj (dd0 X D (hn B 10 rfl) TJ) <|dj (dd0 X D (hn B 11 rfl) TL) <|dj (dd0 X D (hn B 12 rfl) TM) <|dj (dd0 X D (hn B 13 rfl) TN) <|dj (dd0 X D (hn B 14 rfl) TQ) <|dj (dd0 X D (hn B 15 rfl) TR) <|dj (dd0 X D (hn B 16 rfl) TU) <|dj (dd0 X D (hn B 17 rfl) TV) <|dj (dd0 X D (hn B 18 rfl) TX) <|dj (dd0 X D (hn B 19 rfl) TY) <|dj (dd0 X D (hn B 20 rfl) TZ) <|dj (dd0 X D (hn B 21 rfl) T3) <|dj (dd0 X D (hn B 22 rfl) T4) <|dj (dd (uJ X D (hn B 23 rfl) MO.sc MO.bd MO.ck (uK (f:=228) (ns:=BT.eY.ns.dropLast) dk dk dk J dk (nth 0 rfl) (hn B 81 rfl) (hn B 84 rfl)))) <|dj (dd (uJ X D (hn B 24 rfl) MP.sc MP.bd MP.ck (uK (f:=235) (ns:=BT.jo.ns.dropLast) dk dk dk J dk (nth 1 rfl) (hn B 82 rfl) (hn B 84 rfl)))) <|dj (dd0 X D (hn B 25 rfl) T5) <|dj (dd0 X D (hn B 26 rfl) T6) <|dj (dd (uJ X D (hn B 27 rfl) MQ.sc MQ.bd MQ.ck (uK (f:=252) (ns:=BT.jq.ns.dropLast) dk dk dk J dk (nth 2 rfl) (hn B 83 rfl) (hn B 84 rfl)))) <|dj (dd0 X D (hn B 28 rfl) T7) <|dj (dd0 X D (hn B 29 rfl) T8) <|dj (dd0 X D (hn B 30 rfl) T9) <|dj (dd0 X D (hn B 31 rfl) Ua) <|dj (dd0 X D (hn B 32 rfl) Ub) <|dj (dd0 X D (hn B 33 rfl) Uc) <|dj (dd0 X D (hn B 34 rfl) Ud) <|dj (dd0 X D (hn B 35 rfl) Ue) <|dj (dm0 X D (hn B 85 rfl) (hn B 86 rfl) (hn B 87 rfl) MR) <|dj (dm0 X D (hn B 85 rfl) (hn B 86 rfl) (hn B 88 rfl) MS) <|dj (dm0 X D (hn B 85 rfl) (hn B 86 rfl) (hn B 89 rfl) MT) <|dj (dm0 X D (hn B 85 rfl) (hn B 86 rfl) (hn B 90 rfl) Iu) <|dj (dm0 X D (hn B 85 rfl) (hn B 86 rfl) (hn B 91 rfl) Iv) <|dj (dm0 X D (hn B 85 rfl) (hn B 86 rfl) (hn B 92 rfl) Iw) <|dj (dm0 X D (hn B 85 rfl) (hn B 86 rfl) (hn B 93 rfl) Iz) <|dj (dm0 X D (hn B 85 rfl) (hn B 86 rfl) (hn B 94 rfl) IA) <|dj (dm0 X D (hn B 85 rfl) (hn B 86 rfl) (hn B 95 rfl) IB) <|dj (dm0 X D (hn B 85 rfl) (hn B 86 rfl) (hn B 96 rfl) IC) <|dj (dm0 X D (hn B 85 rfl) (hn B 86 rfl) (hn B 97 rfl) ID) <|dj (dm0 X D (hn B 85 rfl) (hn B 86 rfl) (hn B 98 rfl) IE) <|dj (dl rfl (by decide +kernel)) <|dj (dl rfl (by decide +kernel)) <|dj (dl rfl (by decide +kernel)) <|E6;refine⟨λx fn e=>?_,λc m fn e=>?_,λL fn e=>?_,λx z e=>?_,?_⟩;exact kG (Q:=λk fn=>∀x,k=.f x->Def K mg x fn) (l:=tab) (λp M=>(all p M).1) e x rfl;exact kG (Q:=λk fn=>∀c m,k=.m c m->D0 K mg c m fn) (l:=tab) (λp M=>(all p M).2.1) e c m rfl;exact kG (Q:=λk fn=>∀L,k=.l L->BT.qZ L=aa fn/\∃ns O,fn=⟨ns,ns,.ret O⟩/\∀y,ns.contains (bH y)=ai) (l:=tab) (λp M=>(all p M).2.2) e L rfl;exact kG (Q:=λx z=>ye P w K mg x z) (l:=aG) (dj (fU X D (hn B 36 rfl)) <|dj (fU X D (hn B 37 rfl)) <|dj (fU X D (hn B 38 rfl)) <|dj (fU X D (hn B 39 rfl)) <|dj (fU X D (hn B 40 rfl)) <|dj (fU X D (hn B 41 rfl)) <|dj (fU X D (hn B 42 rfl)) <|dj (fU X D (hn B 43 rfl)) <|dj (fU X D (hn B 44 rfl)) <|dj (fU X D (hn B 45 rfl)) <|dj (E4 X D (hn B 46 rfl) (by decide) (by decide +kernel)) <|dj (E5 X D (hn B 47 rfl) (by decide) (by decide +kernel)) <|E6) e;exact dj (none_of X D (hn B 48 rfl)) <|dj (none_of X D (hn B 49 rfl)) <|dj (none_of X D (hn B 50 rfl)) <|dj (none_of X D (hn B 51 rfl)) <|dj (none_of X D (hn B 52 rfl)) <|dj (none_of X D (hn B 53 rfl)) <|dj (none_of X D (hn B 54 rfl)) <|dj (none_of X D (hn B 55 rfl)) <|dj (none_of X D (hn B 56 rfl)) <|dj (none_of X D (hn B 57 rfl)) <|dj (none_of X D (hn B 58 rfl)) <|dj (none_of X D (hn B 59 rfl)) <|dj (none_of X D (hn B 60 rfl)) <|dj (none_of X D (hn B 61 rfl)) <|dj (none_of X D (hn B 62 rfl)) <|dj (none_of X D (hn B 63 rfl)) <|dj (none_of X D (hn B 64 rfl)) <|dj (none_of X D (hn B 65 rfl)) <|dj (none_of X D (hn B 66 rfl)) <|dj (none_of X D (hn B 67 rfl)) <|dj (none_of X D (hn B 68 rfl)) <|E6
noncomputable abbrev lw:DefRec:=⟨"law",gx (top 61),dU (top 61),dB (top 61),Q3 (top 61)⟩
def df:PySem.W.defOf qg "law"=aa (lw,[]):=by kernel_rfl
def th:pg.theDef "law"=aa (lw.params,lw.body,lw.scope):=by kernel_rfl
def walk:PySem.W.WalkO qg loo (PySem.W.XL qg []) (sees adr qys tas).says PySem.Challenge.rw_backtape_k52_whole_reasons.row.toRowW lw [] (λf vs=>aaQ f vs) :=
 E8 (l:=PySem.Challenge.rw_backtape_k52_whole_reasons) (n:=63) (k:=40) (x:="_law_script") (d:=lw) (T:=T) (G:=G) (ts:=tas) (fn:=BT.kF) rfl (by decide) rfl ⟨rfl,by decide,by decide⟩ rfl rfl (tl:=tl) rfl (by decide +kernel) Qc txt λq B=>run q (by lia)
end BL
open PySem PySem.W PyProof.Rows
set_option maxRecDepth 100000 in
set_option maxHeartbeats 0 in
theorem PySem.Challenge.cw_backtape_k52_whole_reasons_holds : PySem.Challenge.rw_backtape_k52_whole_reasons.Holds := by
 w_on;refine PySem.W.holds_law (by decide +kernel) λsaid=>?_
 refine PySem.W.holds_open (q:=BL.qg) (loose:=BL.loo) (XP:=XL BL.qg []) (YP:=(BG.sees BL.adr BL.qys BL.tas).says) (d:=BL.lw) (kwd:=[]) BL.left (BG.sees BL.adr BL.qys BL.tas).of (BG.sees BL.adr BL.qys BL.tas).keeps (λs e=>xl_of s (Bool.and_eq_true_iff.mp e).1) XL.keeps BL.df BL.th (by kernel_rfl) (λs e=>recFacts_of (Bool.and_eq_true_iff.mp e).2) rfl (by first|assumption|decide +kernel) (by decide +kernel) ⟨rfl,rfl,rfl,rfl,rfl,by decide +kernel⟩ ?hw BL.walk
 (case hw=>w_witness2)
#print axioms PySem.Challenge.cw_backtape_k52_whole_reasons_holds
end
end

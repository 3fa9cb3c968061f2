import PyProof.Rows.All
import Wide.All
import OpenK.AllK
import Wide.FinOn
import PyProof.EqAt
import PyProof.EqKinds
import PyProof.TupleCall
import Open.Tree
import Wide.Once
import KE.KLam
import KE.KNestM
import KE.KIsAll
import OpenK.KMore
import KE.KSortTup
import PyProof.Rows.SetFrom
import PyProof.IsiH_list
import PyProof.Rows.Exc
import KE.KDictOf
import PySem.Syntax
import PySem.Builtin.Str.Common
import PyProof.SliceList
import PyProof.StrCalls2
import KE.KIntText
import PyProof.NeData
import PyProof.ExcAttrAll.ValueError
import PyProof.ZipIter
import KE.KRevIter
import KE.KItemsList
import KE.KDictSum
import PyProof.DictWalks
import KE.KPairComp
import KE.KEqDict
import PyProof.StrBlock2
import PyProof.StrBlockL
import PyProof.ConsumeWalk
import PyProof.ListRange
import PyProof.EnumFor
import PyProof.EnumMake
import PyProof.EnumStmt
import PyProof.CompFree
import PyProof.PlainList
import PyProof.Draws
import PyProof.StrWalks
import PyProof.StrLawsTight
import PyProof.DictUpdate
import Lean
import PySem.Challenge.RW_backtape_k53_whole_needless
set_option autoImplicit true
set_option Elab.async false
set_option linter.all false
set_option maxRecDepth 100000
set_option maxHeartbeats 8000000
set_option genSizeOf false
set_option compiler.extract_closed false
set_option bootstrap.genMatcherCode false
noncomputable section
def bJ:=@if_pos
def bK:=@if_neg
def bL:=@absurd
def bM:=@decide_eq_true_eq
def bN:=@decide_eq_false
def bO:=@decide_eq_true
def bP:=@of_decide_eq_true
def bQ:=@eq_of_beq
def bR:=@congrArg
def bS:=@beq_iff_eq
open PySem renaming Value->aA,Addr->az,Str->ay,wpAny->av,wpAny_pure->au,Heap->aq,Obj->ao,codeAny->ak,sizeLine->aj
open Option renaming some->aa,none->af
open Bool renaming true->ah,false->ai
open PySem.W renaming Frag->Uv,findIn->Va,nsIn->Vd,tabIn->Vs,emptyDict->VF,keepIn->VH,fnOf->VW,kitOne->VY,instObj->V3,mg_of->Wk,hasDictIn->Wl,tabObj->Wv,kia_one->WJ,callWith_K->WK,plainGet->W3,envX->Xg,codeHdIn->Xv,methodCall_KW->XD,kla_obj->XF,lookIn->XQ,codeIn->XR,plainGet_of->XZ,callWith_K0->X0,mroIn->X8,plainOver->Yn,methodObj->Yo,isFn->Yq,takerIn->YF,makesIn->YG,byRow2->YT,absHeap->Zf,SharedT->Zg,recOk->Zh,cellsFrom_some->Zt,xlAt->Zz,codeHd_of_K->ZW,specialIn->aab,wideGood->aaj,lks_uniq->aak,ksm_same->aal,handedIn->aam,clsGoodW->aan,openSeen->aav,takesIn->aaE,readsIn->aaF
open PySem renaming wpAny_bind->Uw,Expr->Uy,Shared->UA,Program->UM,mainGlobals->UP,model->UT,World->U6,starEach->U9,sliceBounds->Vc,Scope->Vf,wpAny_newObj_type->Vm,Stmt->Vr,compareOp->Vt,wpAny_holding->Vw,Around->VE,wpAny_truthy_bool->VM,wpAny_Call_Name_kw->VO,mem_of_lookup->VR,wpAny_mono->V4,binaryOp->V6,FuncData->V8,wpAny_setState_of->Wa,sysModules->Wb,wpAny_callSpecial?_slot->Wg,rawInt->Wj,Arguments->Wm,builtinsNs->Wn,wpAny_updateSeq->Wx,wpAny_passesOwn->Wy,sizeLine_eq->Wz,backTo->WA,assignEach->WC,NameKind->WD,wpAny_setField->WO,wpAny_call_entry->WQ,call_meets->WW,wpAny_loadPart'->W2,fits_of_scanBound->W8,wpAny_seqItems->W9,wpAny_typeOf->Xd,scanBound->Xe,wpAny_isInstance->Xh,wpAny_in_of->Xm,swapsWith->Xn,pickOrder->Xo,keywordEach->Xp,codeAmong->Xq,bootBuiltins->XA,wpAny_tryCatch->XC,Keyword->XI,wpAny_call->XM,sliceRange->XN,wpAny_standAt->XW,holding->XX,attributeBase->XY,Operator->X4,Expr->X7,wpAny_ite_split->Yi,wpAny_execs_nil->Yj,letOwnedTupleGo->Yk,importedModules->Yl,wpAny_rule->Yp,wpAny_setEntries_of->YD,argBest->YE,Builtin->YJ,storeSet->YN,pyNext->YO,behindInMarks->YQ,backToKw->YR,ExceptHandler->YZ,DictEntry->Y0,Stmt->Y4,spliced->Zd,getItem->Ze,assign->Zs,IsPart->Zx,noFill_tuple_add->Zy,numAt_eq->ZF,bindArgs->ZG,wpAny_letGo->ZO,standAt->ZP,intItems_at->ZQ,getMethod->ZR,Result->ZU,Within->ZV,PassesOwn->ZX,IsRangeIter->Z0,wpAny_binaryOp_repeat_ref->Z8,setAddHashedIn->Z9,bltViewBooted->aaa,wpAny_getItem_list_slice->aai,seq_tuple_add->aau,nums_intItems->aaw,intItems->aax,evalPart_none->aay,compEnvC->aaz,callerA->aaA,call->aaD
open PySem.Heap renaming get?_push_of_some->Ux,lt_size->UF,get?_push_size->UG,get?_update_self->Vb,get?_update_other->Vk,SameBut->VC,size_push->VP,ExtBut->Za
open Bool renaming and_eq_true->Uz,false_ne_true->Vh,or_eq_true->Ws,false_eq_true->WV,not_eq_true'->W1,or_false->Ys
open List renaming size_toArray->UB,mem_cons_of_mem->UC,getElem?_append_left->UD,mem_cons_self->UH,length_map->UI,mem_of_getElem?->UJ,getElem?_eq_getElem->UL,getElem?_eq_none->UO,map_cons->UQ,length_append->UR,length_cons->US,replicate->UU,mem_append_right->UW,range->UZ,getElem?_map->U1,getElem?_append_right->U4,filterMap_cons->U5,getElem?_set_ne->U7,append_nil->U8,append_assoc->Ve,singleton_append->Vg,getElem?_set_self->Vj,mem_append_left->Vl,length_singleton->Vn,getD_eq_getElem?_getD->Vv,all_eq_true->VN,replicate_succ->VT,map_congr_left->VU,length_nil->VV,lookup_cons->V0,filter_cons->V1,map_nil->V2,getElem?_of_mem->V7,reverse_singleton->We,length_filter_le->Wo,foldl_cons->Wp,flatten_cons->Wu,not_mem_nil->WE,lookup->WH,getElem?_range->WI,getElem?_take_of_lt->WM,nil_append->WR,map_append->WS,getElem?_replicate->WT,find?_cons->WU,range_succ_eq_map->WY,length_replicate->W4,length_drop->W6,eq_nil_of_length_eq_zero->W7,mem_cons->Xb,any_cons->Xc,mem_map->Xj,map_map->Xk,reverse_cons->Xw,length_range->Xx,length_take->XG,getElem_mem->XH,find?_cons_of_neg->XJ,of_mem_zip->XS,length_dropLast->X6,nodup_nil->X9,reverse_append->Yc,filter_append->Yr,filter_congr->YB,getElem_map->YM,range_succ->Y8,length->Y9,perm_ext_iff_of_nodup->Zn,length_eraseIdx_of_lt->Zo,getElem?_eq_none_iff->Zv,drop_eq_getElem_cons->Zw,foldl->ZD,sum_cons->ZH,head_eq_of_cons_eq->ZI,all_cons->ZJ,take_of_length_le->ZY,pairwise_lt_range->ZZ,set_set->Z5,getElem?_toArray->Z6,range'->aaq,mem_map_of_mem->aar,set_cons_zero->aaI,set_cons_succ->aaJ,filter_filter->aaK
open Nat renaming le_refl->UE,lt_or_ge->UX,lt_of_lt_of_le->UY,ne_of_lt->U0,le_trans->U3,zero_le->Vx,lt_irrefl->VD,le_succ->VJ,le_of_lt->VQ,lt_succ_self->Wd,ne_of_gt->Wt,mul_comm->WN,lt_of_le_of_lt->Xl,mul_div_cancel->Yu,add_assoc->Yv,mod_lt->YH,lt_succ_of_lt->YI,sub_self->YK,lt_trans->YL,succ_le_succ->YW,not_lt_zero->Zl,div_add_mod->Zm,zero_add->aad,succ_pos->aae,le_of_ble_eq_true->aaf,div_le_div_right->aap
open Option.some renaming inj->UK,injEq->Wc
open PySem.Str renaming ofString->UN,ofString_eq_toList->Z4
open Array renaming length_toList->UV,getElem?_eq_getElem->Vi,getElem?_eq_none->VG,eq_empty_of_size_eq_zero->YC,getElem?_append_left->Zc,getElem?_extract->ZM,toList->Z1,getElem?_toList->Z2,getElem?_push->aah
open False renaming elim->Vo
open PySem.Around renaming under_plainId->Vp,under->ZN,frames_deeper->Z3
open PySem.Heap.SameBut renaming update->Vq,refl->XU
open Ne renaming symm->Vu
open PySem.NameKind renaming free->Vy,cell->X5
open PySem.Value renaming ref->Vz,none->WX,int->Xf,type->Xr,isStrOf->Ym,isInt->YS,str->ZT,isInt_shape->aaB,bool->aaC
open Option renaming bind_some->VA,map_some->Wi,isSome_some->Yb,isSome_none->aac,getD_some->aaG,getD_none->aaH
open PyProof.Rows renaming callWith_type1->VB,slot_tuple_getitem->VX,firstMet->V5,IntsAre->Xu,callWith_builtin1->X3,plainGoodE->Yy,plainGoodD->Yz,expectedOf->YA,drecsOf->YV,AllBare->Zr,envOfC->ZS,tail_any->aas,subscriptTail->aat
open PySem.Builtin.List renaming listTooLong->VI,listExtendWith->W0,listLengthHint->Yh,listSameRef->Yx
open PySem.Obj renaming mapFields->VL,mapSeq->Ww
open Int renaming toNat_natCast->VS,natCast_zero->YX,le_antisymm->Zq
open PySem.F renaming plain_extend_loop->VZ,plainAttrs_list->WL,args_tuple_add_2->Xi,entry_tuple_add->Xs,slot_tuple_add->Xy,entry_extend_loop->YU,type_list_append->Y5,slot_list_append->Y6,slot_dict_update->Y7,plain_list_iadd->Zi,plainAttrs_dict->Zj,slot_set_iter->ZA,slot_dict_pop->ZC
open True renaming intro->V9
open PySem.Calls renaming spliced_cons->Wf,spliced_nil->WZ,Name_function_global->Zb,callWith_builtin->ZL
open PySem.Builtin.Slice renaming slicePlaces->Wh,sliceAdjust->W5,sliceApplied->Yg
open PySem.Builtin.Tuple renaming tupleExact->Wq,tupleTooMany->Yd,tupleItemsOf->Ye
open PySem.Builtin.Str renaming occurrences->WB
open List.cons renaming injEq->WG
open PySem.pickOrder renaming go->Xa
open ForInStep renaming yield->Xz
open PySem.PassesOwn renaming never->Yt
open PySem.Builtin.Range renaming rangeSize->Yw
open PySem.Heap.IsSliceOf renaming new->YY
open Classical renaming axiomOfChoice->Y3
open Prod.mk renaming injEq->Zk
open List.Pairwise renaming map->Zp
open PyProof renaming noPylong_small->Zu
open Char renaming toNat->ZE
open PySem.Code renaming isFrame->Z7
open PySem.AutoSeq1 renaming idx_int->aag
open PyProof.Rows.IntsAre renaming length->aao
open Iff renaming rfl->aaL
section
namespace L2
open PySem PySem.Spec PyProof.Rows
def f9(s:Y4):Wm:=match s with
 |.FunctionDef _ a _ _ _ _ _ _ _ _=>a|_=>{posonlyargs:=[],args:=[],vararg:=af,kwonlyargs:=[],kw_defaults:=[],kwarg:=af,defaults:=[]}
def dQ(s:Y4):List Y4:=match s with
 |.FunctionDef _ _ b _ _ _ _ _ _ _=>b|_=>[]
def dh(s:Y4):Vf:=match s with
 |.FunctionDef _ _ _ _ _ _ q _ _ _=>q|_=>{kind:=.function,names:=[],isGenerator:=ai,isCoroutine:=ai}
end L2
end
section
namespace BR
open PySem PySem.W PyProof.Rows
noncomputable def uK:List ao->BT->Nat->Option (BT×Nat)
 |[],T,n=>aa (T,n)
 |o::r,T,n=>match ((T.ins n o).get n).isSome with
  |true=>uK r (T.ins n o) (n+1)|false=>af
theorem rA(q:Life):∀{l:List ao}{T D:BT}{n B:Nat},uK l T n=aa (D,B)->(Zf D B q).objs.toList=(Zf T n q).objs.toList++l
 |[],T,D,n,B,h=>by cases h;simp
 |o::r,T,D,n,B,h=>by
  unfold uK at h;cases g:((T.ins n o).get n).isSome with
  |false=>rw[g]at h;cases h
  |true =>
   rw[g]at h;rw[rA q h,absHeap_ins g];show((Zf T n q).objs.push o).toList++r=_;simp
def toT(s:UA):Option Zg:=match uK s.heap.objs.toList .nil 0 with
 |some (T,n)=>aa ⟨T,n,s.heap.life,s.gens,s.drawn,s.toks,s.os⟩|none=>af
def E4(h:toT s=aa t):t.abs=s:=by
 unfold toT at h;cases e:uK s.heap.objs.toList .nil 0 with
 |none=>rw[e]at h;cases h
 |some r =>
  obtain⟨T,n⟩:=r;rw[e]at h;cases h;have:=rA s.heap.life e;obtain⟨⟨objs,life⟩,g,d,k,o⟩:=s;show Shared.mk (Zf T n life) g d k o=Shared.mk ⟨objs,life⟩ g d k o;have e2:(Zf T n life).objs.toList=objs.toList:=by rw[this];simp[Zf,BT.list]
  have B:(Zf T n life).objs=objs:=Array.toList_inj.mp e2;have q:Zf T n life=⟨objs,life⟩:=by show Heap.mk _ _=Heap.mk _ _;exact bR (Heap.mk · life) B
  rw[q]
noncomputable def oj(tb:String->Option YJ)(p:UM)(w:U6)(n₀:Nat)(ann:Option aA):Nat->Zg->Thread->Option Zg
 |0,_,_=>af
 |n+1,s,t=>match through t with
  |true=>aa s
  |false=>match stepOk n₀ ann t with
   |false=>af
   |true=>match stepT (denote tb) p w s t with
    |some (s',t')=>oj tb p w n₀ ann n s' t'|none=>af
section
variable{tb:String->Option YJ}{p:UM}{w:U6}{n₀:Nat}{ann:Option aA}
theorem rB:∀{n:Nat}{s s':Zg}{t:Thread},oj tb p w n₀ ann n s t=aa s'->topRun tb p w n₀ ann n s.abs t=aa s'.abs
 |0,_,_,_,h=>by cases h
 |n+1,s,s',t,h=>by
  unfold oj at h;unfold topRun;cases L:through t with
  |true=>rw[L]at h;cases h;rfl
  |false =>
   rw[L]at h;cases J:stepOk n₀ ann t with
   |false=>rw[J]at h;cases h
   |true =>
    rw[J]at h;cases q:stepT (denote tb) p w s t with
    |none=>rw[q]at h;cases h|some r=>obtain⟨D,B⟩:=r;rw[q]at h;dsimp only;rw[stepT_spec q];exact rB h
end
def oQ(tb:String->Option YJ)(p:UM)(w:U6)(N:Nat)(s₀:UA):Option Zg :=
 match s₀.heap.isNs UP&&s₀.gens.size==0 with
 |true=>(toT s₀).bind λB=>(oj tb p w s₀.heap.objs.size (s₀.heap.nsMap UP "__annotations__") N B (topStub p)).bind λq =>
  match staticsOk (Yl p.main.body) s₀.heap q.abs.heap&&namesBound p q.abs.heap&&gensDone q.abs&&laidKept s₀.heap q.abs.heap with
   |true=>aa q|false=>af
 |false=>af
def wF(h:oQ tb p w N s₀=aa t):topFrom tb p w N s₀=aa t.abs:=by
 unfold oQ at h;unfold topFrom;cases e:(s₀.heap.isNs UP&&s₀.gens.size==0)with
 |false=>rw[e]at h;cases h
 |true =>
  rw[e]at h;obtain⟨B,L,h⟩:=Option.bind_eq_some_iff.mp h;obtain⟨q,J,h⟩:=Option.bind_eq_some_iff.mp h;have D:=rB J;rw[E4 L]at D;dsimp only;rw[D];show(match _ with|true=>aa q.abs|false=>af)=_;cases e2:(staticsOk (Yl p.main.body) s₀.heap q.abs.heap&&namesBound p q.abs.heap&&gensDone q.abs&&laidKept s₀.heap q.abs.heap)with
  |false=>rw[e2]at h;cases h|true=>rw[e2]at h;cases h;rfl
def ku(tb:String->Option YJ)(p:UM)(w:U6)(N:Nat):Option Zg:=(fencedOpening tb p w N).bind (oQ tb p w N)
def E5{tb:String->Option YJ}{p:UM}{w:U6}{N:Nat}{B:Type}{f:UA->B}{x:B}(h:(ku tb p w N).map (λt=>f t.abs)=aa x):(openEnds tb p w N).map f=aa x:=by obtain⟨t,D,e⟩:=Option.map_eq_some_iff.mp h;obtain⟨q,L,J⟩:=Option.bind_eq_some_iff.mp D;unfold openEnds;rw[L];show(topFrom tb p w N q).map f=aa x;rw[wF J];exact bR aa e
def Bg{q J D B:Type}{o:Option q}{f:q->J×D}{g:q->B}{x:J}{y:D}{z:B}(h1:o.map (λt=>(f t).1)=aa x)(h2:o.map (λt=>(f t).2)=aa y)(L:o.map g=aa z):o.map (λt=>(f t,g t))=aa ((x,y),z):=by
 cases o with
 |none=>cases h2
 |some t =>
  have e1:(f t).1=x:=UK h1;have e2:(f t).2=y:=UK h2;have M:g t=z:=UK L;show aa (f t,g t)=_;rw[←e1,←e2,←M]
theorem good(q:UM)(loose:List ay):openGood q loose=(YA q,aaa,ah,ah,PySem.pinGoodD (YV q),Yy q (PySem.W.looseW q loose),Yz q loose,aaj q,aan q loose):=rfl
def LA(tb:String->Option YJ)(p q:UM)(loose B:List ay)(J:UA->Bool)(D:Bool)(N:Nat)(w:U6):Prop :=
 (ku tb p w N).map (λt=>(aav q loose B J D t.abs).1)=aa (YA q)
def LB(tb:String->Option YJ)(p q:UM)(loose B:List ay)(J:UA->Bool)(D:Bool)(N:Nat)(w:U6):Prop :=
 (ku tb p w N).map (λt=>(aav q loose B J D t.abs).2)=aa (aaa,ah,ah,PySem.pinGoodD (YV q),Yy q (PySem.W.looseW q loose),Yz q loose,aaj q,aan q loose)
def LO(tb:String->Option YJ)(p:UM)(N:Nat){q:Type}(B:UA->q)(D:U6->q)(w:U6):Prop:=(ku tb p w N).map (λt=>B t.abs)=aa (D w)
def E6{tb:String->Option YJ}{p q:UM}{loose B:List ay}{J:UA->Bool}{D:Bool}{N:Nat}{M:Type}{L:UA->M}{O:U6->M}{w:U6}(h1:LA tb p q loose B J D N w)(h2:LB tb p q loose B J D N w)(U:LO tb p N L O w):
 (openEnds tb p w N).map (λs=>(aav q loose B J D s,L s))=aa (openGood q loose,O w):=by
 rw[good];have h:=Bg (f:=λt:Zg=>aav q loose B J D t.abs) (g:=λt:Zg=>L t.abs) h1 h2 U;exact E5 (f:=λs=>(aav q loose B J D s,L s)) h
end BR
end
section
namespace BG
open PySem PySem.Spec PySem.Calls PyProof.Rows L2
structure FS where
 name:ay
 qual:ay
 params:Wm
 body:FuncBody
 scope:Vf
 globals:az
 closure:List (ay×az)
 defaults:aA
 builtins:az
 code:Bool
noncomputable def E7(K:Uv)(f:az):Option FS:=match K.lookup f with
 |some ⟨_,_,.func fd,_⟩=>aa ⟨fd.name,fd.qualname,fd.params,fd.body,fd.scope,fd.globals,fd.closure,fd.defaults,fd.builtins,XR K fd.code fd.qualname⟩|_=>af
noncomputable def ym(x qual:ay)(st:Y4):FS:=⟨x,qual,f9 st,.stmts (dQ st),dh st,UP,[],.none,Wn,ah⟩
noncomputable def strOf:aA->Option ay
 |.str x _=>aa x|_=>af
noncomputable def intOf:aA->Option Int
 |.int i _=>aa i|_=>af
noncomputable def refOf:Option (Option aA)->Option az
 |some (aa (.ref a))=>aa a|_=>af
inductive Qy
 |fn(x:ay)(f:az)(st:Y4)|int(x:ay)(n:Int)|aC(x:ay)(f:az)(xs:List ay)|dct(x:ay)(f:az)(kvs:List (ay×Int))|no(x:ay)|cls(c:ay)(C:az)|me(C:az)(m x qual:ay)(f:az)(st:Y4)|mk(C:az)
 |tab(x:ay)(c P:az)|bm(b:az)|fv(x:ay)(f:az)|exc(D:az)(xs:List (ay×az))
 |str(x s:ay)|stp(f:az)(xs:List ay)|dtp(x:ay)(f:az)(kvs:List (ay×az))
inductive Ov
 |fn(a:Option az)(o:Option FS)|int(n:Option Int)|seq(a:Option az)(c:Option (aA×Option az×Nat))(xs:Option (List (Option ay)))|dct(a:Option az)(c:Option (aA×Option az×Nat))(xs:Option (List (Int×Option ay×Option Int)))|b(x:Bool)
noncomputable def shp(o:ao):aA×Option az×Nat:=(o.cls,o.dict,o.slots.size)
def Bh(o:ao):Option (List (Option ay)):=match o.data with
 |.seq q _=>aa (q.toList.map strOf)|_=>af
def Ir(o:ao):Option (List (Int×Option ay×Option Int)):=match o.data with
 |.dict q _=>aa (q.toList.map λe=>(e.hash,strOf e.key,intOf e.val))|_=>af
noncomputable def MT:aA->Option Int
 |.ref a=>aa (a:Int)|_=>af
def MU(o:ao):Option (List (Int×Option ay×Option Int)):=match o.data with
 |.dict q _=>aa (q.toList.map λe=>(e.hash,strOf e.key,MT e.val))|_=>af
noncomputable def attrs:List ay:=["program","asked","gap","most","kept","farthest","front","now","origins","branches","tape","named"]
def MV(K:Uv)(c:ay)(C:az):Bool:=decide (Vd K UP c=aa (aa (.ref C)))&&W3 K C Str.empty&&Wl K C&&Yn K C&&decide (Va K (.ref C) "__setattr__"=aa (aa (.builtin "object.__setattr__"))) &&
 (attrs.all λf=>decide (Va K (.ref C) f=aa af))&&aaF K C (.type "type")
noncomputable def meB(K:Uv)(C:az)(m:ay)(f:az):Bool:=decide (Va K (.ref C) m=aa (aa (.ref f)))&&Yq K (.ref f)
noncomputable def mkB(K:Uv)(C:az):Bool:=YG K C&&VH K (.ref C)
noncomputable def bmB(K:Uv)(b:az):Bool:=decide (Vd K UP "__builtins__"=aa (aa (.ref b)))&&decide (b≠Wn)&&(match K.lookup b with
 |some ⟨.type "module",aa d,.plain,_⟩=>d==Wn
 | _=>ai)
noncomputable def QD(K:Uv)(C D:az):Bool:=match K.lookup C with
 |some ⟨_,_,.cls cd,_⟩=>cd.mro.contains (.ref D)|_=>ai
noncomputable def MW(K:Uv)(c:ay)(C:az):Bool:=decide (Vd K UP c=aa (aa (.ref C)))&&PySem.W.excIn K C [.type "ValueError",.type "Exception",.type "BaseException",.type "object"] "ValueError.__new__"
def QE(K:Uv)(D:az)(xs:List (ay×az))(c:ay)(C:az):Bool:=MW K c C&&QD K C D&&decide (Va K (.ref C) "__getattribute__"=aa (aa (.builtin "BaseException.__getattribute__")))&&decide (Va K (.ref C) "__getattr__"=aa af) &&
 decide (X8 K C (.type "BaseException")=aa ah)&&Wl K C&&decide (Va K (.ref C) "__class__"=aa (aa (.builtin "object.__class__")))&&decide (aab K (.builtin "object.__class__") "__get__"=aa (aa (.builtin "getset_descriptor.__get__"))) &&
 decide (aaE K (.builtin "object.__class__")=aa ah)&&decide (X8 K C (.type "object")=aa ah)&&decide (VY K (.ref C) (.type "ValueError")=aa ah)&&xs.all λq=>decide (VY K (.ref C) (.ref q.2)=aa (q.1==c))
def QF(K:Uv)(D:az)(xs:List (ay×az)):Bool:=MW K "TapeError" D&&xs.all λq=>QE K D xs q.1 q.2
def eX(K:Uv):Qy->Ov
 |.fn x f _=>.fn (refOf (Vd K UP x)) (E7 K f)|.int x _=>.int (match Vd K UP x with|some (aa v)=>intOf v|_=>af)|.aC x f _=>.seq (refOf (Vd K UP x)) ((K.lookup f).map shp) ((K.lookup f).bind Bh)|.dct x f _=>.dct (refOf (Vd K UP x)) ((K.lookup f).map shp) ((K.lookup f).bind Ir)|.no x=>.b (decide (Vd K UP x=aa af))|.cls c C=>.b (MV K c C)|.me C m _ _ f _=>.fn (if meB K C m f then aa f else af) (E7 K f)|.mk C=>.b (mkB K C)|.tab x c P=>.b (decide (Vs K x=aa (c,P))&&Xv K c P)|.bm b=>.b (bmB K b)|.fv x f=>.b (decide (Vd K UP x=aa (aa (.ref f)))&&VH K (.ref f))|.exc D q=>.b (QF K D q)|.str x _=>.seq af af (match Vd K UP x with|some (aa v)=>aa [strOf v]|_=>af)|.stp f _=>.seq af ((K.lookup f).map shp) ((K.lookup f).bind Bh)|.dtp x f _=>.dct (refOf (Vd K UP x)) ((K.lookup f).map shp) ((K.lookup f).bind MU)
def eY(w:U6):Qy->Ov
 |.fn x f st=>.fn (aa f) (aa (ym x x st))|.int _ n=>.int (aa n)|.aC _ f J=>.seq (aa f) (aa (.type "tuple",af,0)) (aa (J.map aa))|.dct _ f B=>.dct (aa f) (aa (.type "dict",af,0)) (aa (B.map λq=>(PyData.keyHash w.params q.1,aa q.1,aa q.2)))|.no _=>.b ah|.cls _ _=>.b ah|.me _ _ x D f st=>.fn (aa f) (aa (ym x D st))|.mk _=>.b ah|.tab _ _ _=>.b ah|.bm _=>.b ah|.fv _ _=>.b ah|.exc _ _=>.b ah|.str _ s=>.seq af af (aa [aa s])|.stp f J=>.seq af (aa (.type "tuple",af,0)) (aa (J.map aa))|.dtp _ f B=>.dct (aa f) (aa (.type "dict",af,0)) (aa (B.map λq=>(PyData.keyHash w.params q.1,aa q.1,aa (q.2:Int))))
noncomputable def KOf(as:List az)(h:aq):Uv:=as.map λa=>(a,(h.get? a).getD default)
def sees(as:List az)(B:List Qy)(ts:List az):PySem.W.Hook where
 α:=Bool×List Ov×List (Option ao)
 obs:=λs=>(as.all λa=>(s.heap.get? a).isSome,B.map (eX (KOf as s.heap)),ts.map s.heap.get?)
 val:=λw=>(ah,B.map (eY w),ts.map λ_=>aa (Wv #[]))
 says:=λw h=>∃K:Uv,K.map (·.1)=as/\(∀p∈K,h.get? p.1=aa p.2)/\(∀q∈B,eX K q=eY w q)/\∀P∈ts,h.get? P=aa (Wv #[])
 of:=λw s e=>by have e1:=bR Prod.fst e;have e2:=bR (λp=>p.2.1) e;have V:=bR (λp=>p.2.2) e;refine⟨KOf as s.heap,by simp[KOf,Function.comp_def],λp D=>?_,λq L=>List.map_inj_left.mp e2 q L,λP J=>List.map_inj_left.mp V P J⟩;obtain⟨a,O,rfl⟩:=List.mem_map.mp D;have U:=List.all_eq_true.mp e1 a O;obtain⟨o,M⟩:=Option.isSome_iff_exists.mp U;show s.heap.get? a=aa ((s.heap.get? a).getD default);rw[M];rfl
 keeps:=λw h h' ⟨K,m,n,k,t⟩ hk=>⟨K,m,λp D=>hk _ _ (n p D),k,λP J=>hk _ _ (t P J)⟩
end BG
end
section
namespace BL
open PySem PySem.Spec PyProof.Rows L2 BG
noncomputable abbrev pg:UM:=PySem.Challenge.pw_backtape_k53_whole_needless
def qg:UM:=PySem.W.view pg [0,2,3,4,5,6,7,8,9,11,12,13,15,16,17,18,19,20,21,22,23,24,25,26,27,28,29,30,31,32,33,34,35,37,38,39,40,41,42,43,44,45,46,48,50,51,53,54,55,56,57,58,59,60,61,62,63,64,65,66]
noncomputable abbrev loo:List ay:=["INNER_COUNTS"]
def top(i:Nat):Y4:=pg.main.body.getD i (.Pass ⟨0,0,0,0⟩)
noncomputable def MY:Y4->List Y4
 |.ClassDef _ _ _ b _ _ _ _ _ _ _=>b|_=>[]
def jc(i j:Nat):Y4:=(MY (top i)).getD j (.Pass ⟨0,0,0,0⟩)
noncomputable def QG:Y4->Pos
 |.FunctionDef _ _ _ _ _ _ _ _ _ p=>p|_=>⟨0,0,0,0⟩
noncomputable abbrev adr:List az:=[2,3,4,22,23,29,30,36,37,43,44,50,51,94,95,101,102,108,109,115,116,122,123,129,130,136,137,143,144,150,151,157,158,164,165,171,172,178,179,185,186,192,193,199,200,206,207,213,214,220,221,227,228,234,235,239,240,244,245,251,252,258,259,272,273,279,280,286,287,340,341,347,348,354,355,361,362,368,369,375,376,389,390,413,414,424,425,431,432,438,439,445,446,450,451,455,456,462,463,504,505,509,510]
def qys:List Qy:=[.fn "is_whole" 30 (top 6),
 .fn "is_name" 37 (top 7),
 .fn "is_cell" 44 (top 8),
 .fn "inner_sums" 51 (top 9),
 .fn "begun" 95 (top 22),
 .fn "check_thing" 102 (top 23),
 .fn "worth_in" 109 (top 24),
 .fn "laid_out" 116 (top 25),
 .fn "of_two" 123 (top 26),
 .fn "worth_of" 130 (top 27),
 .fn "reckoned" 137 (top 28),
 .fn "cell_by" 144 (top 29),
 .fn "is_over" 151 (top 30),
 .fn "place_behind" 158 (top 31),
 .fn "with_worth" 165 (top 32),
 .fn "with_name" 172 (top 33),
 .fn "brought" 179 (top 34),
 .fn "stepped" 186 (top 35),
 .fn "written_by" 193 (top 37),
 .fn "read_by" 200 (top 38),
 .fn "read_in" 207 (top 39),
 .fn "written_next" 214 (top 40),
 .fn "check_step" 221 (top 41),
 .fn "thing_written" 228 (top 42),
 .fn "judged" 235 (top 43),
 .fn "reasons" 240 (top 44),
 .fn "needless" 245 (top 45),
 .fn "remade" 252 (top 46),
 .fn "sum_at" 259 (top 48),
 .fn "_law_cell" 425 (top 53),
 .fn "_law_drawn" 432 (top 54),
 .fn "_law_sum" 439 (top 55),
 .fn "_law_row" 446 (top 56),
 .fn "_law_program" 451 (top 57),
 .fn "_law_asked" 456 (top 58),
 .fn "_law_worth" 463 (top 59),
 .fn "_law_reads" 505 (top 65),
 .fn "law" 510 (top 66),
 .int "CELL_COUNT" 4,
 .int "WORTH_COUNT" 10007,
 .int "ROW" 0,
 .int "NAMES" 1,
 .int "CELLS" 2,
 .int "CALLS" 3,
 .int "ASKED" 4,
 .int "SAID" 5,
 .int "MOST_CALLS" 6,
 .int "MOST_MARKS" 8,
 .aC "LETTERS" 22 ["a","b","c","d","e","f"],
 .dct "INNER_COUNTS" 23 [("num",0),("name",0),("cell",1),("add",2),("sub",2),("mul",2),("less",2)],
 .no "len",
 .no "abs",
 .no "int",
 .no "list",
 .no "tuple",
 .no "isinstance",
 .no "str",
 .no "bool",
 .no "range",
 .no "reversed",
 .no "enumerate",
 .no "zip",
 .no "min",
 .no "max",
 .no "sorted",
 .no "sum",
 .no "all",
 .no "any",
 .no "set",
 .no "ValueError",
 .no "dict",
 .no "worths_of",
 .no "last_change",
 .no "next_change",
 .no "moments_so",
 .no "last_so",
 .no "next_so",
 .no "visits",
 .no "last_visit",
 .no "when_said",
 .no "next_within",
 .no "last_within",
 .no "first_other",
 .no "writer_of",
 .tab "judged" 234 230,
 .tab "remade" 251 247,
 .bm 4,
 .cls "Tape" 414,
 .mk 414,
 .me 414 "__init__" "__init__" "Tape.__init__" 273 (jc 51 0),
 .me 414 "at" "at" "Tape.at" 280 (jc 51 1),
 .me 414 "end" "end" "Tape.end" 287 (jc 51 2),
 .me 414 "behind" "behind" "Tape.behind" 341 (jc 51 10),
 .me 414 "is_last" "is_last" "Tape.is_last" 348 (jc 51 11),
 .me 414 "keep" "keep" "Tape.keep" 355 (jc 51 12),
 .me 414 "reach" "reach" "Tape.reach" 362 (jc 51 13),
 .me 414 "has" "has" "Tape.has" 369 (jc 51 14),
 .me 414 "check" "check" "Tape.check" 376 (jc 51 15),
 .me 414 "steps_to" "steps_to" "Tape.steps_to" 390 (jc 51 17)]
noncomputable abbrev tl:List (ay×az×az):=[("judged",234,230),("remade",251,247)]
noncomputable abbrev tas:List az:=[230,247]
abbrev LA:U6->Prop:=BR.LA treeTable pg qg loo (Yl pg.main.body) (λs=>Zz qg [] s&&Zh [] s) ah 6378
def la0(w:U6):LA (w.withFollow "special-get-raises" ai):=by unfold LA BR.LA;kernel_rfl
def la1(w:U6):LA (w.withFollow "special-get-raises" ah):=by unfold LA BR.LA;kernel_rfl
abbrev LB:U6->Prop:=BR.LB treeTable pg qg loo (Yl pg.main.body) (λs=>Zz qg [] s&&Zh [] s) ah 6378
def lb0(w:U6):LB (w.withFollow "special-get-raises" ai):=by unfold LB BR.LB;kernel_rfl
def lb1(w:U6):LB (w.withFollow "special-get-raises" ah):=by unfold LB BR.LB;kernel_rfl
abbrev LO:U6->Prop:=BR.LO treeTable pg 6378 (sees adr qys tas).obs (sees adr qys tas).val
def lo0(w:U6):LO (w.withFollow "special-get-raises" ai):=by unfold LO BR.LO;kernel_rfl
def lo1(w:U6):LO (w.withFollow "special-get-raises" ah):=by unfold LO BR.LO;kernel_rfl
def left:PySem.W.LeftO pg qg loo (λs=>Zz qg [] s&&Zh [] s) (sees adr qys tas).obs (sees adr qys tas).val 6378:=λw=>BR.E6 (YT (P:=LA) "special-get-raises" la0 la1 w) (YT (P:=LB) "special-get-raises" lb0 lb1 w) (YT (P:=LO) "special-get-raises" lo0 lo1 w)
end BL
end
section
namespace L2
open PySem PySem.Spec PyProof.Rows
noncomputable abbrev Key:=Sum Int ay
noncomputable def jJ:Key->aA->Bool
 |.inl k,v=>YS k v|.inr x,v=>Ym x v
noncomputable def MZ(w:U6):Key->Int
 |.inl k=>hashInt k|.inr x=>hashStr w x
theorem dH:∀{k:Key}{v:aA},jJ k v=ah->(∃i t,k=Sum.inl i/\v=Xf i t)\/(∃x t,k=Sum.inr x/\v=ZT x t)
 |.inl i,v,h=>by obtain⟨t,e⟩:=aaB (k:=i) (v:=v) h;exact .inl ⟨i,t,rfl,e⟩
 |.inr x,v,h=>by obtain⟨t,e⟩:=Value.isStrOf_shape (x:=x) (v:=v) h;exact .inr ⟨x,t,rfl,e⟩
def zQ(i:Int)(t:Tok):jJ (.inl i) (.int i t)=ah:=by simp[jJ,YS]
def zR(x:ay)(t:Tok):jJ (.inr x) (.str x t)=ah:=by simp[jJ,Ym]
def Jg(a b:Int):decide ((Sum.inl a:Key)=Sum.inl b)=(a==b):=by
 by_cases e:a=b
 subst e;simp
 ·have h:¬(Sum.inl a:Key)=Sum.inl b:=λq=>e (Sum.inl.inj q);rw[bN h];exact(beq_eq_false_iff_ne.mpr e).symm
def Jh(a b:ay):decide ((Sum.inr a:Key)=Sum.inr b)=decide (a=b):=by
 by_cases e:a=b
 subst e;simp
 ·have h:¬(Sum.inr a:Key)=Sum.inr b:=λq=>e (Sum.inr.inj q);rw[bN h,bN e]
def Ji(a:Int)(b:ay):decide ((Sum.inl a:Key)=Sum.inr b)=ai:=bN (λq=>nomatch q)
def Jj(a:ay)(b:Int):decide ((Sum.inr a:Key)=Sum.inl b)=ai:=bN (λq=>nomatch q)
def dD(prog:UM)(w:U6):PySem.KeyKind prog w Key where
 is:=jJ
 hash:=MZ w
 inj:=λv a b J B=>by
  rcases dH J with⟨i,t,rfl,rfl⟩|⟨x,t,rfl,rfl⟩
  ·rcases dH B with⟨j,u,rfl,e⟩|⟨y,u,rfl,e⟩
   ·injection e with e1 _;rw[e1]
   exact nomatch e
  ·rcases dH B with⟨j,u,rfl,e⟩|⟨y,u,rfl,e⟩
   exact nomatch e
   ·injection e with e1 _;rw[e1]
 byValue:=λk v h=>by rcases dH h with⟨i,t,rfl,rfl⟩|⟨x,t,rfl,rfl⟩<;>rfl
 pyHash:=λq h=>by
  rcases dH q with⟨i,t,rfl,rfl⟩|⟨x,t,rfl,rfl⟩
  exact wpAny_pyHash_int h;exact wpAny_pyHash_str h
 eqBool:=λD q h=>by
  rcases dH D with⟨i,t,rfl,rfl⟩|⟨x,t,rfl,rfl⟩
  ·rcases dH q with⟨j,u,rfl,rfl⟩|⟨y,u,rfl,rfl⟩
   rw[Jg]at h;exact wpAny_eqBool_int h;rw[Ji]at h;exact SeqAt.EqAt.int_str i t y u _ _ _ _ h
  ·rcases dH q with⟨j,u,rfl,rfl⟩|⟨y,u,rfl,rfl⟩
   rw[Jj]at h;exact SeqAt.EqAt.str_int x t j u _ _ _ _ h;rw[Jh]at h;exact wpAny_eqBool_str h
 «strs»:=λk x t v h=>by
  rcases dH h with⟨i,u,rfl,e⟩|⟨y,u,rfl,e⟩
  exact nomatch e
  ·injection e with e1 _
   subst e1;cases v<;>rfl
def uL(prog:UM)(w:U6)(i:Int)(t:Tok):(dD prog w).is (.inl i) (.int i t)=ah:=zQ i t
def iU(prog:UM)(w:U6)(x:ay)(t:Tok):(dD prog w).is (.inr x) (.str x t)=ah:=zR x t
end L2
namespace L2
open PySem PySem.Spec PyProof.Rows
inductive V
 |aD|bl(b:Bool)|int(i:Int)|str(x:ay)|byt(b:Array UInt8)|flt(b:UInt64)|ref(a:az)|ty(n:String)
 deriving DecidableEq
noncomputable def RelV:V->aA->Prop
 |.aD,u=>u=WX|.bl b,u=>u=aaC b|.int i,u=>∃t,u=Xf i t|.str x,u=>∃t,u=ZT x t|.byt b,u=>∃t,u=Value.bytes b t|.flt b,u=>∃t,u=Value.float b t|.ref a,u=>u=Vz a|.ty n,u=>u=Xr n
abbrev dw:List V->List aA->Prop:=Paired RelV
def dw.length(r:dw xs us):xs.length=us.length:=Paired.length r
theorem dw.get:∀{xs:List V}{us:List aA}{i:Nat}{x:V},dw xs us->xs[i]?=aa x->∃u,us[i]?=aa u/\RelV x u
 |_,_,_,_,.nil,e=>by simp at e
 |_,_,0,_,.cons r _,e=>by simp at e;subst e;exact⟨_,rfl,r⟩
 |_,_,i+1,x,.cons _ t,e=>by obtain⟨u,B,q⟩:=dw.get (i:=i) (x:=x) t (by simpa using e);exact⟨u,by simpa using B,q⟩
theorem dw.set(r:RelV x u):∀{xs:List V}{us:List aA}(i:Nat),dw xs us->dw (xs.set i x) (us.set i u)
 |_,_,_,.nil=>.nil|_,_,0,.cons _ t=>.cons r t|_,_,i+1,.cons q t=>.cons q (dw.set r i t)
theorem dw.append:∀{xs ys:List V}{us ws:List aA},dw xs us->dw ys ws->dw (xs++ys) (us++ws)
 |_,_,_,_,.nil,s=>s|_,_,_,_,.cons r t,s=>.cons r (dw.append t s)
theorem dw.take:∀{xs:List V}{us:List aA}(n:Nat),dw xs us->dw (xs.take n) (us.take n)
 |_,_,0,_=>.nil|_,_,_+1,.nil=>.nil|_,_,n+1,.cons r t=>.cons r (dw.take n t)
theorem dw.drop:∀{xs:List V}{us:List aA}(n:Nat),dw xs us->dw (xs.drop n) (us.drop n)
 |_,_,0,r=>r|_,_,_+1,.nil=>.nil|_,_,n+1,.cons _ t=>dw.drop n t
def oR:Option V->Option aA->Prop
 |some v,aa u=>RelV v u|none,af=>True|_,_=>False
def KV{κ:Type}:List (κ×V)->List (κ×aA)->Prop:=Paired λ(p:κ×V)(q:κ×aA)=>p.1=q.1/\RelV p.2 q.2
noncomputable def kV:Key->V
 |.inl i=>.int i|.inr x=>.str x
inductive HO
 |aB(xs:List V)
 |aC(xs:List V)
 |dK(kvs:List (Key×V))|dT(kvs:List (List Key×V))
 |set(S:Int->Bool)(n:Nat)
 |ins(C dx:az)(fs:List (ay×V))
 |own(x:az)
 |xd(fs:List (ay×V))
 |met(f x:az)
 |rng(lo hi:Int)
 |frz(o:ao)(u:HO)
 |tbl(ps:Array aA)
 |ext(q:aq->Prop)
noncomputable abbrev Hp:=az->Option HO
noncomputable def upd(H:Hp)(a:az)(o:HO):Hp:=λb=>if b=a then aa o else H b
def dG:upd H a o a=aa o:=by unfold upd;rw[bJ rfl]
def dj(h:b≠a):upd H a o b=H b:=by unfold upd;rw[bK h]
def dF{H:Hp}{a b:az}{o:HO}(h:H a=aa o)(h':H b=af):a≠b:=by intro e;subst e;rw[h]at h';cases h'
section
variable(P:UM)(w:U6)
def fZ(H:Hp)(h:aq)(a:az):HO->Prop
 |.aB J=>J.length<=aj/\∃(D:List aA) (n:Nat),dw J D/\h.get? a=aa {cls:=.type "list",data:=.seq D.toArray n}|.aC J=>J.length<=aj/\∃D:List aA,dw J D/\IsTup h a D.toArray|.dK B=>B.length<=aj/\(a==Wb)=ai/\∃U,KV B U/\h.DictOf (dD P w) a U
 |.dT B=>B.length<=aj/\(a==Wb)=ai/\∃J:List (List Key×az×aA),
  Paired (λ(p:List Key×V)(q:List Key×az×aA)=>p.1=q.1/\H q.2.1=aa (.aC (p.1.map kV))/\RelV p.2 q.2.2) B J ∧
  ∃o Z d,h.get? a=aa o/\o.ExactDict/\o.data=.dict Z d/\Z.toList=J.map (entryOfKey (tupleKind (dD P w)))/\(J.map (·.1)).Nodup
 |.set S n=>h.SetOf (intKind P w) a S n|.ins C M fs=>H M=aa (.own a)/\fs.length<=1000/\M≠a/\h.get? a=aa (V3 C M) ∧
  ∃L,h.Ns1 M L/\(∀f,oR (fs.lookup f) (L f))/\ZV L (fs.map (·.1))
 |.own _=>∃o,h.get? a=aa o|.xd fs=>∃L,h.Ns1 a L/\∀f,oR (fs.lookup f) (L f)|.rng lo c=>∃t u v,h.get? a=aa {cls:=.type "range",data:=.fields #[.int lo t,.int c u,.int 1 v]}|.frz o u=>h.get? a=aa o/\fZ H h a u|.tbl b=>h.get? a=aa {cls:=.none,data:=.fields b}|.met f x=>h.get? a=aa (Yo (.ref f) (.ref x))|.ext O=>O h/\(∃o,h.get? a=aa o)/\∀Y W:aq,O Y->(∀o,Y.get? a=aa o->W.get? a=aa o)->O W
def HOk(H:Hp)(h:aq):Prop:=∀a o,H a=aa o->fZ P w H h a o
end
section
variable{P:UM}{w:U6}{H H':Hp}{h h':aq}{a:az}{o:HO}
def fZ.lt(x:fZ P w H h a o):a<h.objs.size:=by
 cases o with
 |aB q=>obtain⟨_,_,_,_,e⟩:=x;exact UF e|aC q=>obtain⟨_,_,_,p⟩:=x;exact p.lt|set S n=>obtain⟨o,_,_,_,e,_⟩:=x;exact UF e|ins C L fs=>obtain⟨_,_,_,e,_⟩:=x;exact UF e|own y=>obtain⟨_,e⟩:=x;exact UF e|xd fs=>obtain⟨_,⟨_,_,_,e,_⟩,_⟩:=x;exact UF e|rng lo J=>obtain⟨_,_,_,e⟩:=x;exact UF e|frz ob u=>obtain⟨e,_⟩:=x;exact UF e|tbl D=>exact UF (show h.get? a=aa _ from x)|met f y=>exact UF (show h.get? a=aa _ from x)|ext B=>obtain⟨_,⟨_,e⟩,_⟩:=x;exact UF e|_=>obtain⟨_,_,_,_,o,_,_,e,_⟩:=x;exact UF e
theorem Paired.M0:∀{B:List α}{q:List β},Paired F B q->(∀a b,F a b->G a b)->Paired G B q
 |_,_,.nil,_=>.nil|_,_,.cons r t,f=>.cons (f _ _ r) (Paired.M0 t f)
def fZ.stay(x:fZ P w H h a o)(k:∀b u,(b=a\/H b=aa (.own a))->h.get? b=aa u->h'.get? b=aa u)
(g:∀b,H b=aa (.own a)->H' b=aa (.own a))(Z:∀b xs,H b=aa (.aC xs)->H' b=aa (.aC xs)):fZ P w H' h' a o:=by
 induction o with
 |aB xs=>obtain⟨z,J,n,r,e⟩:=x;exact⟨z,J,n,r,k _ _ (.inl rfl) e⟩|aC xs=>obtain⟨z,J,r,ob,e,c⟩:=x;exact⟨z,J,r,ob,k _ _ (.inl rfl) e,c⟩|dK O=>obtain⟨z,y,V,r,ob,B,D,e,c⟩:=x;exact⟨z,y,V,r,ob,B,D,k _ _ (.inl rfl) e,c⟩
 |dT O =>
  obtain⟨z,y,xs,r,ob,B,D,e,c⟩:=x;exact⟨z,y,xs,Paired.M0 r λp q z=>⟨z.1,Z _ _ z.2.1,z.2.2⟩,ob,B,D,k _ _ (.inl rfl) e,c⟩
 |set S n=>obtain⟨ob,B,D,t,e,c⟩:=x;exact⟨ob,B,D,t,k _ _ (.inl rfl) e,c⟩
 |ins C l fs =>
  obtain⟨d,z,W,e,M,⟨L,B,D,e2,c⟩,r⟩:=x;exact⟨g _ d,z,W,k _ _ (.inl rfl) e,M,⟨L,B,D,k _ _ (.inr d) e2,c⟩,r⟩
 |own y=>obtain⟨ob,e⟩:=x;exact⟨ob,k _ _ (.inl rfl) e⟩|xd fs=>obtain⟨M,⟨L,B,D,e,c⟩,r⟩:=x;exact⟨M,⟨L,B,D,k _ _ (.inl rfl) e,c⟩,r⟩|rng lo j=>obtain⟨t,u,v,e⟩:=x;exact⟨t,u,v,k _ _ (.inl rfl) e⟩|frz ob u Y=>obtain⟨e,q⟩:=x;exact⟨k _ _ (.inl rfl) e,Y q⟩
 |tbl U =>
  have e:h.get? a=aa {cls:=.none,data:=.fields U}:=x;show h'.get? a=aa {cls:=.none,data:=.fields U};exact k a _ (.inl rfl) e
 |met f y =>
  have e:h.get? a=aa (Yo (.ref f) (.ref y)):=x;show h'.get? a=aa (Yo (.ref f) (.ref y));exact k a _ (.inl rfl) e
 |ext i=>obtain⟨p,⟨o,e⟩,st⟩:=x;exact⟨st _ _ p λo q=>k _ _ (.inl rfl) q,⟨o,k _ _ (.inl rfl) e⟩,st⟩
def HOk.lt(x:HOk P w H h)(e:H a=aa o):a<h.objs.size:=(x a o e).lt
def HOk.fresh(x:HOk P w H h)(e:h.objs.size<=a):H a=af:=by
 cases q:H a with
 |none=>rfl|some u=>exact bL (UY (x.lt q) e) (VD _)
def HOk.aH(x:HOk P w H h)(k:∀b u,h.get? b=aa u->h'.get? b=aa u):HOk P w H h':=λa o e =>
 (x a o e).stay (λb u _ q=>k b u q) (λ_ q=>q) λ_ _ q=>q
def HOk.laid(x:HOk P w H h)(k:∀b u,h.get? b=aa u->h'.get? b=aa u)(D:h.objs.size<=a)(new:fZ P w (upd H a o) h' a o):HOk P w (upd H a o) h':=λb u e=>by
 have hn:=x.fresh D
 by_cases B:b=a
 subst B;rw[dG]at e;cases e;exact new
 ·rw[dj B]at e;exact(x b u e).stay (λc v _ q=>k c v q) (λc q=>by rw[dj (dF q hn)];exact q) λc J q=>by rw[dj (dF q hn)];exact q
end
def Rd(H:Hp)(a:az)(u:HO):Prop:=H a=aa u\/∃o,H a=aa (.frz o u)
def Rd.ok(r:Rd H a u)(x:HOk P w H h):fZ P w H h a u:=by
 rcases r with r|⟨o,r⟩
 exact x a u r
 ·obtain⟨_,q⟩:=x a _ r;exact q
noncomputable def Mut:Option HO->Prop
 |some (.aB _)=>True|some (.dK _)=>True|some (.dT _)=>True|some (.set _ _)=>True|some (.ins _ _ _)=>True|some (.ext _)=>True|_=>False
section
variable{P:UM}{w:U6}{H:Hp}{h h':aq}{x e:az}{o':HO}
def HOk.write(ok:HOk P w H h)(mu:Mut (H x))(W:e=x\/H e=aa (.own x))(k:∀b u,b≠e->h.get? b=aa u->h'.get? b=aa u)(U:∃u,h'.get? e=aa u)
(new:fZ P w (upd H x o') h' x o'):HOk P w (upd H x o') h':=λb u q=>by
 have D:∀c y,H c=aa (.own y)->c≠x:=λc y r z=>by subst z;rw[r]at mu;exact mu
 have J:∀c L,H c=aa (.aC L)->c≠x:=λc L r z=>by subst z;rw[r]at mu;exact mu
 by_cases O:b=x
 subst O;rw[dG]at q;cases q;exact new
 ·rw[dj O]at q
  by_cases B:b=e
  ·have V:H b=aa (.own x):=by
    rcases W with z|z
    exact bL (B.trans z) O;rw[B];exact z
   rw[q]at V;cases V;obtain⟨v,Y⟩:=U;exact⟨v,by rw[B];exact Y⟩
  ·refine(ok b u q).stay (λc v M r=>k c v ?_ r) (λc r=>by rw[dj (D c b r)];exact r) λc L r=>by rw[dj (J c L r)];exact r
   rcases M with rfl|M
   exact B
   ·rintro rfl
    rcases W with z|z
    exact D c b M z;rw[M]at z;cases z;exact O rfl
end
structure Un(fs ex:List az)(H H':Hp)(h h':aq):Prop where
 keep:∀b o,h.get? b=aa o->H b=af->b∉fs->b∉ex->h'.get? b=aa o
 slot:∀b o,h.get? b=aa o->H b=af->b∈fs->b∉ex->∃sl,h'.get? b=aa {o with slots:=sl}
 free:∀b o,h.get? b=aa o->H b=af->b∉ex->H' b=af
 there:∀b o,h.get? b=aa o->b∉ex->∃o',h'.get? b=aa o'
 tups:∀b xs,H b=aa (.aC xs)->H' b=aa (.aC xs)
 frzs:∀b o u,H b=aa (.frz o u)->H' b=aa (.frz o u)
 tbls:∀b ps,H b=aa (.tbl ps)->∃more,H' b=aa (.tbl (ps++more))
section
variable{fs fs' ex ex':List az}{H H1 H2:Hp}{h h1 h2 h':aq}{a x e:az}{o:HO}
def Un.any(u:Un fs ex H H1 h h1)(q:h.get? b=aa ob)(n:H b=af)(B:b∉ex):∃J,h1.get? b=aa {ob with slots:=J}:=by
 by_cases D:b∈fs
 exact u.slot b ob q n D B;exact⟨ob.slots,u.keep b ob q n D B⟩
def Un.aH(k:∀b u,h.get? b=aa u->h'.get? b=aa u):Un fs ex H H h h' :=
 ⟨λb ob q _ _ _=>k b ob q,λb ob q _ _ _=>⟨ob.slots,k b ob q⟩,λ_ _ _ n _=>n,λb ob q _=>⟨ob,k b ob q⟩,λ_ _ q=>q,λ_ _ _ q=>q,λ_ B q=>⟨#[],by rw[q];simp⟩⟩
def Un.refl:Un fs ex H H h h:=Un.aH λ_ _ q=>q
theorem Un.laid(k:∀b u,h.get? b=aa u->h'.get? b=aa u)(D:h.objs.size<=a)(hn:H a=af):Un fs ex H (upd H a o) h h' where
 keep:=λb u q _ _ _=>k b u q
 slot:=λb u q _ _ _=>⟨u.slots,k b u q⟩
 free:=λb u q n _=>by rw[dj (U0 (UY (UF q) D))];exact n
 there:=λb u q _=>⟨u,k b u q⟩
 tups:=λb B q=>by rw[dj (dF q hn)];exact q
 frzs:=λb u B q=>by rw[dj (dF q hn)];exact q
 tbls:=λb J q=>⟨#[],by rw[dj (dF q hn),q];simp⟩
def Un.write(mu:Mut (H x))(U:e=x\/H e=aa (.own x))(k:∀b u,b≠e->h.get? b=aa u->h'.get? b=aa u)(J:∃u,h'.get? e=aa u):Un fs ex H (upd H x o) h h':=by
 have L:∀b,H b=af->b≠x:=λb n z=>by subst z;rw[n]at mu;exact mu
 have M:∀b,H b=af->b≠e:=λb n z=>by
  subst z;rcases U with r|r
  exact L b n r;rw[n]at r;cases r
 have D:∀b u,H b=aa u->¬Mut (aa u)->b≠x:=λb u q nm z=>by subst z;rw[q]at mu;exact nm mu
 refine ⟨λb u q n _ _=>k b u (M b n) q,λb u q n _ _=>⟨u.slots,k b u (M b n) q⟩,λb u q n _=>by rw[dj (L b n)];exact n,λb u q _=>?_,
  λb O q=>by rw[dj (D b _ q λz=>z)];exact q,λb u O q=>by rw[dj (D b _ q λz=>z)];exact q,λb V q=>⟨#[],by rw[dj (D b _ q λz=>z),q];simp⟩⟩
 by_cases B:b=e
 subst B;exact J;exact⟨u,k b u B q⟩
end
noncomputable def trk(h:aq)(H:Hp):List az:=(UZ h.objs.size).filter λa=>(H a).isSome
def uM(h:aq)(H:Hp):aq:=PySem.W.hideAll h (trk h H)
def zS(h:aq)(H:Hp):(uM h H).objs.size=h.objs.size:=PySem.W.hideAll_size _ _
def uN(e:h.get? b=aa o)(n:H b=af):(uM h H).get? b=aa o :=
 PySem.W.hideAll_get _ e λB=>by have q:(H b).isSome=ah:=(List.mem_filter.mp B).2;rw[n]at q;simp at q
def E8(e:(uM h H).get? b=aa o):h.get? b=aa o/\H b=af:=by
 have B:h.get? b=aa o:=PySem.W.of_hideAll (trk h H) e;refine⟨B,?_⟩;cases q:H b with
 |none=>rfl
 |some x =>
  have D:b∈trk h H:=List.mem_filter.mpr ⟨List.mem_range.mpr (UF B),by simp[q]⟩;have z:(uM h H).get? b=af:=PySem.W.hideAll_none (trk h H) D;rw[z]at e;cases e
noncomputable def E9(g h:aq)(L:az):List (az×ao):=(UZ h.objs.size).filterMap λa=>if a=L\/(g.get? a).isSome=ah then af else(h.get? a).map λo=>(a,o)
def rest(g h:aq)(L d:az):List (az×ao):=(E9 g h L).filter λp=>decide (p.1≠d)
end L2
namespace L2
open PySem PySem.Spec PyProof.Rows
structure Mod(K:Uv)(mg:ay->Option aA)(base:aq):Prop where
 kin:K.In base
 glob:base.Ns UP mg
 blt:∃mb,base.Ns Wn mb/\∀x:ay,x≠"__name__"->mb x=XA x
 nolimit:base.NoLimit
structure Cx where
 prog:UM
 w:U6
 K:Uv
 mg:ay->Option aA
 base:aq
 A:VE
 N:List ay
 s₀:UA
 H₀:Hp
 env:Env
 outer:List Env
 stack:List Env
 ex:List az
 fn:ay->Bool
 calm:Bool
 pn:List (az×ao)
 xe:aA->UA->Prop
noncomputable def frs(l:List Env):List az:=l.filterMap (·.frame)
noncomputable abbrev Cx.fs(X:Cx):List az:=frs X.outer
def Vis(sc:Vf)(x:ay):Prop:=sc.names.lookup x=aa .local\/sc.names.lookup x=aa .cell\/sc.names.lookup x=aa .free
def Loc(sc:Vf)(x:ay):Prop:=sc.names.lookup x=aa .local\/sc.names.lookup x=aa .cell
def Look(env:Env)(h:aq)(m:ay->Option aA)(x:ay)(u:aA):Prop :=
 (env.kindOf x=aa .local/\m x=aa u)\/((env.kindOf x=aa .cell\/env.kindOf x=aa .free)/\∃c,env.cells.lookup x=aa c/\h.IsCell c (aa u))
structure Cx.Ok(X:Cx):Prop where
 mod:Mod X.K X.mg X.base
 kind:X.env.scope.kind=.function
 glob:X.env.globals=UP
 blt:X.env.builtins=Wn
 above:X.s₀.heap.objs.size<=X.env.locals
 inj:∀x y c,X.env.cells.lookup x=aa c->X.env.cells.lookup y=aa c->x=y
 has:∀x,(X.env.kindOf x=aa .cell\/X.env.kindOf x=aa .free)->∃c,X.env.cells.lookup x=aa c
 cab:∀x c,X.fn x=ah->X.env.cells.lookup x=aa c->X.s₀.heap.objs.size<=c
 hd:X.calm=ah->X.A.handled=af
 frames:X.A.frames=aa X.stack
 stk:X.stack=X.outer\/(X.stack=X.env::X.outer/\X.env.frame=aa X.env.locals)
 exf:∀b∈X.ex,b≠X.env.locals/\∀x c,X.env.cells.lookup x=aa c->c≠b
 bs:∀b o,X.base.get? b=aa o->X.s₀.heap.get? b=aa o/\X.H₀ b=af
 bsz:X.base.objs.size<=X.s₀.heap.objs.size
 noex:∀b o,X.base.get? b=aa o->b∉X.ex
 exfs:∀b∈X.ex,b∉X.fs
 kR:X.s₀.heap.FunFrames X.base X.outer
 frf:∀b∈X.fs,X.H₀ b=af
structure Inv(X:Cx)(zt:List (az×ao))(σ:List (Option V))(H:Hp)(s:UA):Prop where
 ok:X.Ok
 os:s.os=X.s₀.os
 bare:Zr s.gens
 base:Un X.fs X.ex X.H₀ H X.s₀.heap s.heap
 loc:∃m,s.heap.Ns X.env.locals m/\∀(i:Nat)(x:ay)(v:V),X.N[i]?=aa x->σ[i]?=aa (aa v)->Vis X.env.scope x->∃u,RelV v u/\Look X.env s.heap m x u
 cell:∀x c,X.env.cells.lookup x=aa c->∃v,s.heap.IsCell c v
 free:H X.env.locals=af
 freeC:∀x c,X.env.cells.lookup x=aa c->H c=af
 pin:∀p∈X.pn++zt,s.heap.get? p.1=aa p.2/\H p.1=af/\p.1≠X.env.locals/\p.1∉X.fs/\∀v,p.2.data≠.cell v
 aJ:HOk X.prog X.w H s.heap
 len:σ.length=X.N.length
section
variable{X:Cx}{zt:List (az×ao)}{σ:List (Option V)}{H H':Hp}{s:UA}{h':aq}
def Cx.Ok.QH(ok:X.Ok)(e:X.base.get? b=aa o):b∉X.fs:=λq=>by have:=(ok.kR.mem q).1;rw[e]at this;cases this
def Inv.bs(I:Inv X zt σ H s):∀b o,X.base.get? b=aa o->s.heap.get? b=aa o/\H b=af:=λb o e =>
 ⟨I.base.keep b o (I.ok.bs b o e).1 (I.ok.bs b o e).2 (I.ok.QH e) (I.ok.noex b o e),I.base.free b o (I.ok.bs b o e).1 (I.ok.bs b o e).2 (I.ok.noex b o e)⟩
def Inv.bk(I:Inv X zt σ H s):∀b o,X.base.get? b=aa o->s.heap.get? b=aa o:=λb o e=>(I.bs b o e).1
def Inv.mod(I:Inv X zt σ H s):Mod X.K X.mg X.base:=I.ok.mod
def Inv.kIn(I:Inv X zt σ H s):X.K.In s.heap:=I.ok.mod.kin.keeps I.bk
def Inv.lt(I:Inv X zt σ H s):X.env.locals<s.heap.objs.size:=let ⟨_,hn,_⟩:=I.loc;hn.lt
def Inv.sz(I:Inv X zt σ H s):X.s₀.heap.objs.size<=s.heap.objs.size:=U3 I.ok.above (VQ I.lt)
def Inv.QI(I:Inv X zt σ H s)(h:s.heap.objs.size<=a):a∉X.fs:=λB=>by obtain⟨_,o,q,_⟩:=I.ok.kR.mem B;exact bL (UY (UF q) (U3 I.sz h)) (VD _)
def Inv.cne(I:Inv X zt σ H s):∀x c,X.env.cells.lookup x=aa c->c≠X.env.locals:=λx c e z=>by obtain⟨v,o,D,J⟩:=I.cell x c e;obtain⟨m,⟨L,M,O,q,B,_⟩,_⟩:=I.loc;rw[z,q]at D;cases D;rw[B]at J;cases J
def Inv.kR(I:Inv X zt σ H s):s.heap.FunFrames X.base X.outer:=by
 have all:∀(l:List Env),(∀b∈frs l,b∈X.fs)->X.s₀.heap.FunFrames X.base l->s.heap.FunFrames X.base l:=by
  intro l
  induction l with
  |nil=>intro _ _;trivial
  |cons Z r M =>
   intro J V;obtain⟨W,⟨L,o,q,hn,U,Y⟩,O⟩:=V;have D:L∈X.fs:=J L (by unfold frs;rw[U5,q];exact UH);obtain⟨a,e⟩:=I.base.slot L o U (I.ok.frf L D) D λz=>I.ok.exfs L z D;exact⟨W,⟨L,_,q,hn,e,Y⟩,M (λb B=>J b (by unfold frs;rw[U5,q];exact UC _ B)) O⟩
 exact all X.outer (λ_ B=>B) I.ok.kR
def Inv.stack(I:Inv X zt σ H s):s.heap.FunFrames X.base X.stack:=by
 rcases I.ok.stk with e|⟨e,hf⟩
 rw[e];exact I.kR
 ·rw[e];obtain⟨m,hn,_⟩:=I.loc;refine .cons (by rw[I.ok.kind];decide) hf hn ?_ I.kR;exact Heap.get?_none_of_le (U3 I.ok.bsz I.ok.above)
def Inv.oU(I:Inv X zt σ H s):∀b∈frs X.stack,b∈X.env.locals::X.fs:=λb q=>by
 rcases I.ok.stk with e|⟨e,hf⟩
 rw[e]at q;exact UC _ q
 ·rw[e]at q;unfold frs at q;rw[U5,hf]at q;exact q
def Inv.sI(I:Inv X zt σ H s):∀b∈frs X.stack,H b=af:=λb q=>by
 rcases List.mem_cons.mp (I.oU b q)with e|q
 rw[e];exact I.free
 ·obtain⟨_,o,B,_⟩:=I.ok.kR.mem q;exact I.base.free b o B (I.ok.frf b q) λz=>I.ok.exfs b z q
def Inv.step{g':Array GenState}{t':Nat}{d':Drawn}{ch:List az}(I:Inv X zt σ H s)
(J:∀b∈ch,(b∈X.ex\/X.s₀.heap.objs.size<=b)/\b≠X.env.locals/\(∀x c,X.env.cells.lookup x=aa c->c≠b)/\∀p∈X.pn++zt,p.1≠b)
(keep:∀b o,b≠X.env.locals->b∉X.fs->b∉ch->s.heap.get? b=aa o->H b=af->h'.get? b=aa o)
(slot:∀b o,b≠X.env.locals->b∈X.fs->b∉ch->s.heap.get? b=aa o->H b=af->∃Z,h'.get? b=aa {o with slots:=Z})(free:∀b o,b∉ch->s.heap.get? b=aa o->H b=af->H' b=af)
(there:∀b o,b∉ch->s.heap.get? b=aa o->∃o',h'.get? b=aa o')
(tups:∀b xs,H b=aa (.aC xs)->H' b=aa (.aC xs))(frzs:∀b o u,H b=aa (.frz o u)->H' b=aa (.frz o u))(tbls:∀b ps,H b=aa (.tbl ps)->∃W,H' b=aa (.tbl (ps++W)))
(ns:∀m,s.heap.Ns X.env.locals m->h'.Ns X.env.locals m)(E:HOk X.prog X.w H' h')(A:Zr g'):
 Inv X zt σ H' {s with heap:=h',gens:=g',drawn:=d',toks:=t'}:=by
 have V:∀b o,X.s₀.heap.get? b=aa o->b≠X.env.locals:=λb o e=>U0 (UY (UF e) I.ok.above);have M:∀b o,X.s₀.heap.get? b=aa o->b∉X.ex->b∉ch:=λb o e B O=>by
  rcases (J b O).1 with z|z
  exact B z;exact bL (UY (UF e) z) (VD _)
 have L:∀x c,X.env.cells.lookup x=aa c->∀v,s.heap.IsCell c v->h'.IsCell c v:=λx c e v ⟨o,U,a⟩=>by
  have D:c∉ch:=λz=>(J c z).2.2.1 x c e rfl
  by_cases j:c∈X.fs
  ·obtain⟨Z,q⟩:=slot c o (I.cne x c e) j D U (I.freeC x c e);exact⟨_,q,a⟩
  exact⟨o,keep c o (I.cne x c e) j D U (I.freeC x c e),a⟩
 refine⟨I.ok,I.os,A,⟨λb o e n O B=>?_,λb o e n O B=>?_,λb o e n B=>?_,λb o e B=>?_,λb xs e=>tups b xs (I.base.tups b xs e),λb o xs e=>frzs b o xs (I.base.frzs b o xs e),λb ps e=>?_⟩,?_,λx c e=>?_,?_,λx c e=>?_,λp h=>?_,E,I.len⟩;exact keep b o (V b o e) O (M b o e B) (I.base.keep b o e n O B) (I.base.free b o e n B)
 ·obtain⟨Z,e1⟩:=I.base.slot b o e n O B;obtain⟨Y,e2⟩:=slot b _ (V b o e) O (M b o e B) e1 (I.base.free b o e n B);exact⟨Y,e2⟩
 ·obtain⟨o',e1⟩:=I.base.there b o e B;exact free b o' (M b o e B) e1 (I.base.free b o e n B)
 ·obtain⟨o',e1⟩:=I.base.there b o e B;exact there b o' (M b o e B) e1
 ·obtain⟨t,e1⟩:=I.base.tbls b ps e;obtain⟨m2,e2⟩:=tbls b _ e1;exact⟨t++m2,by rw[e2,Array.append_assoc]⟩
 ·obtain⟨m,hn,y⟩:=I.loc;refine⟨m,ns m hn,λi x v e1 e2 C=>?_⟩;obtain⟨u,r,l⟩:=y i x v e1 e2 C;refine⟨u,r,?_⟩;rcases l with l|⟨k,c,e,z⟩
  exact .inl l;exact .inr ⟨k,c,e,L x c e _ z⟩
 ·obtain⟨v,z⟩:=I.cell x c e;exact⟨v,L x c e v z⟩
 ·obtain⟨m,⟨o,_,_,U,_⟩,_⟩:=I.loc;exact free _ o (λz=>(J _ z).2.1 rfl) U I.free
 ·obtain⟨v,o,U,a⟩:=I.cell x c e;exact free c o (λz=>(J c z).2.2.1 x c e rfl) U (I.freeC x c e)
 ·obtain⟨e,n,g,f,d⟩:=I.pin p h;have D:p.1∉ch:=λz=>(J p.1 z).2.2.2 p h rfl;exact⟨keep p.1 p.2 g f D e n,free p.1 p.2 D e n,g,f,d⟩
def Inv.un(I:Inv X zt σ H s)(u:Un X.fs [] H H' s.heap h')(V:HOk X.prog X.w H' h'):Inv X zt σ H' {s with heap:=h',toks:=t'}:=by
 obtain⟨m,⟨o,a,c,L,r⟩,_⟩:=id I.loc;obtain⟨W,U⟩:=u.any L I.free (by simp);exact I.step (g':=s.gens) (d':=s.drawn) (ch:=[]) (λ_ z=>nomatch z) (λb o _ B _ e n=>u.keep b o e n B (by simp)) (λb o _ B _ e n=>u.slot b o e n B (by simp)) (λb o _ e n=>u.free b o e n (by simp)) (λb o _ e=>u.there b o e (by simp)) u.tups u.frzs u.tbls (λZ O=>by obtain⟨Y,D,J,q,M⟩:=O;rw[L]at q;cases q;exact⟨_,D,J,U,M⟩) V I.bare
def Inv.call(I:Inv X zt σ H s)(u:Un (frs X.stack) ch H H' s.heap h')(Z:HOk X.prog X.w H' h')(W:Zr g')
(D:∀b∈ch,(b∈X.ex\/X.s₀.heap.objs.size<=b)/\b≠X.env.locals/\(∀x c,X.env.cells.lookup x=aa c->c≠b)/\∀p∈X.pn++zt,p.1≠b):
 Inv X zt σ H' {s with heap:=h',gens:=g',drawn:=d',toks:=t'}:=by
 obtain⟨m,⟨o,g,h,O,r⟩,_⟩:=id I.loc;obtain⟨a,J⟩:=u.any O I.free λz=>(D _ z).2.1 rfl;exact I.step (ch:=ch) D (λb o J Y q e n=>u.keep b o e n (λz=>(List.mem_cons.mp (I.oU b z)).elim J Y) q) (λb o _ _ q e n=>u.any e n q) (λb o q e n=>u.free b o e n q) (λb o q e=>u.there b o e q) u.tups u.frzs u.tbls (λf V=>by obtain⟨d,L,M,B,U⟩:=V;rw[O]at B;cases B;exact⟨_,L,M,J,U⟩) Z W
def Inv.turned(I:Inv X zt σ H s)(k:∀b o,b≠it->s.heap.get? b=aa o->h'.get? b=aa o)(hn:H it=af)(J:it≠X.env.locals)
(h1:it∈X.ex\/X.s₀.heap.objs.size<=it)(h2:∀x c,X.env.cells.lookup x=aa c->c≠it)(U:∀p∈X.pn++zt,p.1≠it):Inv X zt σ H {s with heap:=h',toks:=t'}:=by
 have D:∀b u,H b=aa u->b≠it:=λb u e z=>by rw[z,hn]at e;cases e
 refine I.step (g':=s.gens) (d':=s.drawn) (ch:=[it]) (λb O=>?_) (λb o _ _ B e _=>k b o (λz=>B (by simp[z])) e) (λb o _ _ B e _=>⟨o.slots,k b o (λz=>B (by simp[z])) e⟩) (λ_ _ _ _ n=>n)
  (λb o B e=>⟨o,k b o (λz=>B (by simp[z])) e⟩) (λ_ _ e=>e) (λ_ _ _ e=>e) (λb Y e=>⟨#[],by rw[e];simp⟩) (λm M=>?_) (λb u e=>?_) I.bare
 ·have e:b=it:=by simpa using O
  subst e;exact⟨h1,J,h2,U⟩
 ·obtain⟨o,V,W,L,r⟩:=M;exact⟨o,V,W,k _ o (Vu J) L,r⟩
 ·refine(I.aJ b u e).stay (λc v B q=>k c v ?_ q) (λ_ q=>q) λ_ _ q=>q;rcases B with z|z
  rw[z];exact D b u e;exact D c _ z
def Inv.tok(I:Inv X zt σ H s)(t:Nat):Inv X zt σ H {s with toks:=t}:=I.un (h':=s.heap) (t':=t) Un.refl I.aJ
def Inv.aH(I:Inv X zt σ H s)(k:∀b u,s.heap.get? b=aa u->h'.get? b=aa u):Inv X zt σ H {s with heap:=h',toks:=t'}:=I.un (Un.aH k) (I.aJ.aH k)
def Inv.laid(I:Inv X zt σ H s)(k:∀b u,s.heap.get? b=aa u->h'.get? b=aa u)(q:s.heap.objs.size<=a)(new:fZ X.prog X.w (upd H a o) h' a o):
 Inv X zt σ (upd H a o) {s with heap:=h',toks:=t'}:=I.un (Un.laid k q (I.aJ.fresh q)) (I.aJ.laid k q new)
def Inv.write(I:Inv X zt σ H s)(mu:Mut (H x))(B:e=x\/H e=aa (.own x))(k:∀b u,b≠e->s.heap.get? b=aa u->h'.get? b=aa u)(q:∃u,h'.get? e=aa u)
(new:fZ X.prog X.w (upd H x o) h' x o):Inv X zt σ (upd H x o) {s with heap:=h',toks:=t'}:=I.un (Un.write mu B k q) (I.aJ.write mu B k q new)
def Inv.om(I:Inv X zt σ H s)(h:∀p∈pins',s.heap.get? p.1=aa p.2/\H p.1=af/\p.1≠X.env.locals/\p.1∉X.fs/\∀v,p.2.data≠.cell v):Inv X pins' σ H s :=
 ⟨I.ok,I.os,I.bare,I.base,I.loc,I.cell,I.free,I.freeC,λp q=>(List.mem_append.mp q).elim (λz=>I.pin p (Vl _ z)) (h p),I.aJ,I.len⟩
def uO{N:List ay}(q:N.Nodup){i j:Nat}{x:ay}(a:N[i]?=aa x)(b:N[j]?=aa x):i=j:=by obtain⟨D,e1⟩:=List.getElem?_eq_some_iff.mp a;obtain⟨B,e2⟩:=List.getElem?_eq_some_iff.mp b;exact(List.getElem_inj q).mp (e1.trans e2.symm)
def rC{M:Model}{A:VE}{E:aA->UA->Prop}{i:Nat}{x:ay}{v:V}{u:aA}{Q:Unit->UA->Prop}(I:Inv X zt σ H s)(hN:X.N.Nodup)(hi:X.N[i]?=aa x)(L:Loc X.env.scope x)(r:RelV v u)
(h:∀s',Inv X zt (σ.set i (aa v)) H s'->(∃a,VC a s.heap s'.heap/\(a=X.env.locals\/X.env.cells.lookup x=aa a))->Q () s')(hf:X.fn x=ah\/X.env.scope.names.lookup x=aa .local:=by first|exact .inl rfl|exact .inr rfl|assumption):av M A (storeName X.env x u) Q E s:=by
 obtain⟨m,hn,hl⟩:=id I.loc;have t:(X.env.scope.kind==.class||(X.env.scope.kind==.module&&X.env.locals != X.env.globals))=ai:=by rw[I.ok.kind];rfl
 have U:i<σ.length:=by rw[I.len];exact(List.getElem?_eq_some_iff.mp hi).1
 have cne:=I.cne;have D:∀{a:az}{f:aq},(∃o,s.heap.get? a=aa o/\H a=af)->VC a s.heap f->HOk X.prog X.w H f:=λ{a f} ha B b ob e=>by
  obtain⟨_,_,O⟩:=ha;refine(I.aJ b ob e).stay (λc G J q=>(B.2 c ?_).trans q) (λ_ q=>q) λ_ _ q=>q
  rintro rfl
  rcases J with rfl|J
  rw[O]at e;cases e;rw[O]at J;cases J
 rcases L with hk|hk
 ·refine wpAny_storeName_local hk hn (λf hn' B=>?_) t;obtain⟨oL,_,_,hoL,_⟩:=id hn;refine h _ ⟨I.ok,I.os,I.bare,⟨λb o e n Z L=>?_,λb o e n Z L=>?_,I.base.free,λb o e L=>?_,I.base.tups,I.base.frzs,I.base.tbls⟩,⟨_,hn',λj y R e1 e2 e3=>?_⟩,λy c e=>?_,I.free,I.freeC,λp hp=>?_,D ⟨oL,hoL,I.free⟩ B,by simpa using I.len⟩ ⟨_,B,.inl rfl⟩;exact(B.2 b (U0 (UY (UF e) I.ok.above))).trans (I.base.keep b o e n Z L)
  ·obtain⟨T,e1⟩:=I.base.slot b o e n Z L;exact⟨T,(B.2 b (U0 (UY (UF e) I.ok.above))).trans e1⟩
  ·obtain⟨o',e1⟩:=I.base.there b o e L;exact⟨o',(B.2 b (U0 (UY (UF e) I.ok.above))).trans e1⟩
  ·by_cases W:j=i
   ·subst W;rw[hi]at e1;cases e1;rw[Vj U]at e2;cases e2;exact⟨u,r,.inl ⟨hk,by simp⟩⟩
   ·rw[U7 (Vu W)]at e2;obtain⟨S,r',q⟩:=hl j y R e1 e2 e3;refine⟨S,r',?_⟩;rcases q with⟨k,e⟩|⟨k,c,e,z⟩
    ·refine .inl ⟨k,?_⟩;have:y≠x:=λe=>W (uO hN e1 (e ▸ hi));simp[this,e]
    exact .inr ⟨k,c,e,z.sameBut B (cne y c e)⟩
  ·obtain⟨G,z⟩:=I.cell y c e;exact⟨G,z.sameBut B (cne y c e)⟩
  ·obtain⟨e,n,K,nf,d⟩:=I.pin p hp;exact⟨(B.2 p.1 K).trans e,n,K,nf,d⟩
 ·have Y:X.fn x=ah:=by
   rcases hf with z|z
   exact z;rw[z]at hk;cases hk
  obtain⟨c,J⟩:=I.ok.has x (.inl hk);obtain⟨G,z⟩:=I.cell x c J;refine wpAny_storeName_cell I.ok.kind hk J z (λf F B=>?_);obtain⟨oc,l,g⟩:=id z;refine h {s with heap:=f} ⟨I.ok,I.os,I.bare,⟨λb o e n Z L=>?_,λb o e n Z L=>?_,I.base.free,λb o e L=>?_,I.base.tups,I.base.frzs,I.base.tbls⟩,⟨m,hn.sameBut B (Vu (cne x c J)),λj y R e1 e2 e3=>?_⟩,λy P e=>?_,I.free,I.freeC,λp hp=>?_,D ⟨oc,l,I.freeC x c J⟩ B,by simpa using I.len⟩ ⟨c,B,.inr J⟩;exact(B.2 b (U0 (UY (UF e) (I.ok.cab x c Y J)))).trans (I.base.keep b o e n Z L)
  ·obtain⟨T,e1⟩:=I.base.slot b o e n Z L;exact⟨T,(B.2 b (U0 (UY (UF e) (I.ok.cab x c Y J)))).trans e1⟩
  ·obtain⟨o',e1⟩:=I.base.there b o e L;exact⟨o',(B.2 b (U0 (UY (UF e) (I.ok.cab x c Y J)))).trans e1⟩
  ·by_cases W:j=i
   ·subst W;rw[hi]at e1;cases e1;rw[Vj U]at e2;cases e2;exact⟨u,r,.inr ⟨.inl hk,c,J,F⟩⟩
   ·rw[U7 (Vu W)]at e2;obtain⟨S,r',q⟩:=hl j y R e1 e2 e3;refine⟨S,r',?_⟩;rcases q with q|⟨k,P,e,z'⟩
    exact .inl q
    ·refine .inr ⟨k,P,e,z'.sameBut B ?_⟩
     rintro rfl
     exact W (uO hN e1 (I.ok.inj _ _ _ e J ▸ hi))
  ·by_cases C:P=c
   subst C;exact⟨_,F⟩
   ·obtain⟨w2,z2⟩:=I.cell y P e;exact⟨w2,z2.sameBut B C⟩
  ·obtain⟨e,n,K,nf,d⟩:=I.pin p hp;refine⟨(B.2 p.1 ?_).trans e,n,K,nf,d⟩;intro q;rw[q,l]at e;have q':oc=p.2:=UK e;exact d G (by rw[←q'];exact g)
def oV(I:Inv X zt σ H s)(D:X.N.Nodup)(hi:X.N[i]?=aa x)(q:Loc X.env.scope x)(r:RelV v u)
(h:∀s',Inv X zt (σ.set i (aa v)) H s'->Q () s')(B:X.fn x=ah\/X.env.scope.names.lookup x=aa .local:=by first|exact .inl rfl|exact .inr rfl|assumption):av M A (storeName X.env x u) Q E s :=
 rC I D hi q r (λs' J _=>h s' J) B
def Inv.M1(I:Inv X zt σ H s)(D:s'.os=s.os)(u:Un (frs X.stack) ch H H' s.heap s'.heap)(L:HOk X.prog X.w H' s'.heap)(J:Zr s'.gens)
(q:∀b∈ch,(b∈X.ex\/X.s₀.heap.objs.size<=b)/\b≠X.env.locals/\(∀x c,X.env.cells.lookup x=aa c->c≠b)/\∀p∈X.pn++zt,p.1≠b):Inv X zt σ H' s':=by
 obtain⟨M,g',d',t',B⟩:=s';have e:B=s.os:=D;subst e;exact I.call (g':=g') (t':=t') (d':=d') u L J q
end
abbrev XK:=aA->Option az->Hp->Prop
noncomputable abbrev St:=List (Option V)
abbrev VK:=V->Hp->Prop
abbrev TE:=St->Hp->VK->Prop
abbrev TT:=St->Hp->(Bool->Hp->Prop)->Prop
abbrev TA:=St->Hp->(List V->Hp->Prop)->Prop
structure Ends where
 nx:St->Hp->Prop
 rt:VK
 bk:St->Hp->Prop:=λ_ _=>False
 ct:St->Hp->Prop:=λ_ _=>False
abbrev TS:=Ends->St->Hp->Prop
inductive EP(X:Cx)(zt:List (az×ao))(σ:St)(Q:VK)(u:aA)(s':UA):Prop
 |mk(v:V)(H':Hp)(I:Inv X zt σ H' s')(r:RelV v u)(q:Q v H'):EP X zt σ Q u s'
inductive TP(X:Cx)(zt:List (az×ao))(σ:St)(Q:Bool->Hp->Prop)(b:Bool)(s':UA):Prop
 |mk(H':Hp)(I:Inv X zt σ H' s')(q:Q b H'):TP X zt σ Q b s'
inductive AP(X:Cx)(zt:List (az×ao))(σ:St)(Q:List V->Hp->Prop)(us:List aA)(s':UA):Prop
 |mk(vs:List V)(H':Hp)(I:Inv X zt σ H' s')(r:dw vs us)(q:Q vs H'):AP X zt σ Q us s'
def SP(X:Cx)(zt:List (az×ao))(D:Ends)(f:Flow)(s':UA):Prop :=
 match f with
 |.next=>∃q B,Inv X zt q B s'/\D.nx q B|.brk=>∃q B,Inv X zt q B s'/\D.bk q B|.cont=>∃q B,Inv X zt q B s'/\D.ct q B|.ret u=>∃v q B,Inv X zt q B s'/\RelV v u/\D.rt v B
def PE(X:Cx)(e:X7)(t:TE):Prop :=
 ∀(B:List (az×ao)) (s:UA) (q:St) (H:Hp) (Q:VK),Inv X B q H s->t q H Q->av (UT X.prog X.w) X.A (eval e X.env) (EP X B q Q) X.xe s
def PT(X:Cx)(e:X7)(t:TT):Prop :=
 ∀(B:List (az×ao)) (s:UA) (q:St) (H:Hp) (Q:Bool->Hp->Prop),Inv X B q H s->t q H Q->av (UT X.prog X.w) X.A (isTrue e X.env (eval e X.env)) (TP X B q Q) X.xe s
def PW(X:Cx)(e:X7)(t:TT):Prop :=
 ∀(q:Sem aA)(D:List (az×ao)) (s:UA) (B:St) (H:Hp) (Q:Bool->Hp->Prop),Inv X D B H s->t B H Q->av (UT X.prog X.w) X.A (isTrue e X.env q) (TP X D B Q) X.xe s
def PW.pt(h:PW X e t):PT X e t:=h _
def PA(X:Cx)(es:List X7)(t:TA):Prop :=
 ∀(B:Pos)(D:List (az×ao)) (s:UA) (q:St) (H:Hp) (Q:List V->Hp->Prop),Inv X D q H s->t q H Q->av (UT X.prog X.w) X.A (Zd (WA B (U9 es X.env))) (AP X D q Q) X.xe s
def PS(X:Cx)(st:Y4)(t:TS):Prop :=
 ∀(B:List (az×ao)) (s:UA) (q:St) (H:Hp) (D:Ends),Inv X B q H s->t D q H->av (UT X.prog X.w) X.A (exec st X.env) (SP X B D) X.xe s
def PSs(X:Cx)(st:List Y4)(t:TS):Prop :=
 ∀(B:List (az×ao)) (s:UA) (q:St) (H:Hp) (D:Ends),Inv X B q H s->t D q H->av (UT X.prog X.w) X.A (execs st X.env) (SP X B D) X.xe s
def thn{q:Type}{t:Sem q}{Q B:q->UA->Prop}(h:av M A t Q E s)(D:∀a s,Q a s->B a s):av M A t B E s:=V4 h D λ_ _ x=>x
end L2
namespace L2
open PySem PySem.Spec PyProof.Rows
section
variable{X:Cx}
def bin{a b:X7}{ta tb:TE}(c:PE X a ta)(Z:PE X b tb){zt:List (az×ao)}{s:UA}{σ:St}{H:Hp}{R:V->V->Hp->Prop}(I:Inv X zt σ H s)(h:ta σ H λx H1=>tb σ H1 λy H2=>R x y H2)
{J:Type}{Q:J->UA->Prop}{f:aA->aA->Sem J}
(Y:∀v u s2 x y H2,Inv X zt σ H2 s2->RelV x v->RelV y u->R x y H2->av (UT X.prog X.w) X.A (f v u) Q X.xe s2):
 av (UT X.prog X.w) X.A (eval a X.env) (λv B=>av (UT X.prog X.w) X.A (eval b X.env) (λu q=>av (UT X.prog X.w) X.A (f v u) Q X.xe q) X.xe B) X.xe s:=by
 refine thn (c zt s σ H _ I h) λv L D=>?_;obtain⟨x,H1,e,O,W⟩:=D;refine thn (Z zt L σ H1 _ e W) λu s2 D=>?_;obtain⟨y,H2,d,M,U⟩:=D;exact Y v u s2 x y H2 d O M U
def QJ(i:Nat):TE:=fun q H Q=>∃v,q[i]?=aa (aa v)/\Q v H
def tC(v:V):TE:=λ_ H Q=>Q v H
def Bj(V:X.N[i]?=aa x)(M:Vis X.env.scope x)(B:(x==("__debug__":ay))=ai:=by decide)(D:(x==("__classdict__":ay))=ai:=by decide):PE X (.Name x pos) (QJ i):=by
 intro L s J H Q I h;obtain⟨v,e,h⟩:=h;obtain⟨m,hn,U⟩:=I.loc;obtain⟨u,r,l⟩:=U i x v V e M;have fin:EP X L J Q u s:=⟨v,H,I,r,h⟩;rcases l with⟨q,O⟩|⟨q,c,hc,hcell⟩
 exact wpAny_Name (wpAny_loadName_local I.ok.kind q hn O fin) B
 ·rcases q with q|q
  exact wpAny_Name (wpAny_loadName_cell I.ok.kind q hc hcell fin) B;exact wpAny_Name (wpAny_loadName_free I.ok.kind q hc hcell fin D) B
def wG{i j pos}:PE X (.Constant (.int i) j pos) (tC (.int i)):=λ_ _ _ H _ I h=>wpAny_Constant_int ⟨.int i,H,I.tok _,⟨_,rfl⟩,h⟩
def M3{b j pos}:PE X (.Constant (.bool b) j pos) (tC (.bl b)):=λ_ _ _ H _ I h=>Constant_bool ⟨.bl b,H,I,rfl,h⟩
def Jk{j pos}:PE X (.Constant .none j pos) (tC .aD):=λ_ _ _ H _ I h=>Constant_none ⟨.aD,H,I,rfl,h⟩
def Jl{x j pos}:PE X (.Constant (.str x) j pos) (tC (.str x)):=λ_ _ _ H _ I h=>Calls.Constant_str ⟨.str x,H,I.tok _,⟨_,rfl⟩,h⟩
def Gl(X:Cx)(x:ay):Prop:=X.env.kindOf x=aa .globalImplicit
def lH(I:Inv X zt σ H s)(B:Gl X x)(q:X.mg x=aa u)(h:Q u s)
(D:(x==("__debug__":ay))=ai:=by decide):av (UT X.prog X.w) X.A (eval (.Name x pos) X.env) Q E s :=
 Zb I.ok.kind B (Calls.loadGlobal_global (by rw[I.ok.glob];exact I.mod.glob.keeps I.bk) q h) D
def ja(I:Inv X zt σ H s)(D:Gl X x)(B:X.mg x=af)(q:XA x=aa u)(h:Q u s)
(hn:x≠"__name__":=by decide)(J:(x==("__debug__":ay))=ai:=by decide):av (UT X.prog X.w) X.A (eval (.Name x pos) X.env) Q E s:=by
 obtain⟨O,M,L⟩:=I.mod.blt;exact Zb I.ok.kind D (Calls.loadGlobal_builtin (by rw[I.ok.glob];exact I.mod.glob.keeps I.bk) B (by rw[I.ok.blt];exact M.keeps I.bk) ((L x hn).trans q) h) J
def yo(B:Gl X x)(q:X.mg x=aa u)(r:RelV v u)(D:(x==("__debug__":ay))=ai:=by decide):PE X (.Name x pos) (tC v) :=
 λ_ _ _ H _ I h=>lH I B q ⟨v,H,I,r,h⟩ D
def oq(D:Gl X x)(B:X.mg x=af)(q:XA x=aa u)(r:RelV v u)(hn:x≠"__name__":=by decide)(J:(x==("__debug__":ay))=ai:=by decide):PE X (.Name x pos) (tC v) :=
 λ_ _ _ H _ I h=>ja I D B q ⟨v,H,I,r,h⟩ hn J
variable{a b:X7}{ta tb:TE}{pos:Pos}
def tB(t:TE):TT:=fun q H Q=>t q H λx B=>∃c,x=.bl c/\Q c B
def Jm(h:PE X e t)(L:∀B,isTrue e X.env B=(do let v ←B;ZP e.pos;XX [v] (truthy v)):=by intro _;rfl):PT X e (tB t):=by intro J s D H Q I hw;refine isTrue_plain (thn (h J s D H _ I hw) λv s1 ⟨x,H1,I1,r1,q1⟩=>?_) (L _);obtain⟨d,rfl,q⟩:=q1;cases r1;exact VM ⟨H1,I1,q⟩
variable{tA tB':TT}{rest:List X7}
def M4(t u:TT):TT:=fun q H Q=>t q H λc B=>if c=ah then u q B Q else Q ai B
def tOr(t u:TT):TT:=fun q H Q=>t q H λc B=>if c=ah then Q ah B else u q B Q
def M5(t:TT):TT:=fun q H Q=>t q H λc B=>Q (!c) B
def Fb(D:PT X a tA):PW X (.BoolOp .And [a] pos) tA:=by
 intro J B s q H Q I h;refine isTrue_and (thn (D B s q H Q I h) λc L e=>?_);cases c with
 |true=>exact isTrue_and_nil e|false=>exact e
def Jo(D:PT X a tA):PW X (.BoolOp .Or [a] pos) tA:=by
 intro J B s q H Q I h;refine isTrue_or (thn (D B s q H Q I h) λc L e=>?_);cases c with
 |false=>exact isTrue_or_nil e|true=>exact e
def Bk(W:PT X a tA)(V:PW X (.BoolOp .And (b::rest) pos) tB'):PW X (.BoolOp .And (a::b::rest) pos) (M4 tA tB'):=by
 intro O B s q H Q I h;refine isTrue_and (thn (W B s q H _ I h) λc U M=>?_);obtain⟨L,J,D⟩:=M;cases c with
 |true=>exact V O B U q L Q J D|false=>exact⟨L,J,D⟩
def Iu(W:PT X a tA)(V:PW X (.BoolOp .Or (b::rest) pos) tB'):PW X (.BoolOp .Or (a::b::rest) pos) (tOr tA tB'):=by
 intro O B s q H Q I h;refine isTrue_or (thn (W B s q H _ I h) λc U M=>?_);obtain⟨L,J,D⟩:=M;cases c with
 |true=>exact⟨L,J,D⟩|false=>exact V O B U q L Q J D
def Jp(L:PT X a tA):PT X (.UnaryOp .Not a pos) (M5 tA):=by intro J s D H Q I h;exact isTrue_not (thn (L J s D H (λc B=>Q (!c) B) I h) λc O z=>by obtain⟨B,M,q⟩:=z;exact⟨B,M,q⟩)
def Iw(ta tb:TE):TE:=fun q H Q=>ta q H λx B=>∃c,x=.bl c/\if c=ah then tb q B Q else Q (.bl ai) B
def M6(ta tb:TE):TE:=fun q H Q=>ta q H λx B=>∃c,x=.bl c/\if c=ah then Q (.bl ah) B else tb q B Q
def Iz(ta:TE):TE:=fun q H Q=>ta q H λx B=>∃c,x=.bl c/\Q (.bl (!c)) B
def Bl{op}(h:PE X a t):PE X (.BoolOp op [a] pos) t:=λB s q H Q I hw=>BoolOp_one (h B s q H Q I hw)
def Bm(W:PE X a ta)(V:PE X (.BoolOp .And (b::rest) pos) tb):PE X (.BoolOp .And (a::b::rest) pos) (Iw ta tb):=by
 intro D s B H Q I h;refine BoolOp_and (thn (W D s B H _ I h) λv O M=>?_);obtain⟨x,L,J,U,q⟩:=M;obtain⟨c,rfl,q⟩:=q;cases U;refine VM ?_;cases c with
 |true=>exact V D O B L Q J q|false=>exact⟨.bl ai,L,J,rfl,q⟩
def IA(W:PE X a ta)(V:PE X (.BoolOp .Or (b::rest) pos) tb):PE X (.BoolOp .Or (a::b::rest) pos) (M6 ta tb):=by
 intro D s B H Q I h;refine BoolOp_or (thn (W D s B H _ I h) λv O M=>?_);obtain⟨x,L,J,U,q⟩:=M;obtain⟨c,rfl,q⟩:=q;cases U;refine VM ?_;cases c with
 |false=>exact V D O B L Q J q|true=>exact⟨.bl ah,L,J,rfl,q⟩
def Jq(M:PE X a ta):PE X (.UnaryOp .Not a pos) (Iz ta):=by intro D s B H Q I h;refine UnaryOp_ (thn (M D s B H _ I h) λv V J=>?_);obtain⟨x,U,O,L,q⟩:=J;obtain⟨c,rfl,q⟩:=q;cases L;exact not_of (VM ⟨.bl (!c),U,O,rfl,q⟩)
def tIf(t:TT)(ta tb:TE):TE:=fun q H Q=>t q H λc B=>if c=ah then ta q B Q else tb q B Q
def Bo(U:PT X c tA)(W:PE X a ta)(V:PE X b tb):PE X (.IfExp c a b pos) (tIf tA ta tb):=by
 intro B s q H Q I h;refine wpAny_IfExp (thn (U B s q H _ I h) λd D O=>?_);obtain⟨M,L,J⟩:=O;cases d with
 |true=>exact W B D q M Q L J|false=>exact V B D q M Q L J
end
end L2
namespace L2
open PySem PySem.Spec PyProof.Rows
def SqL(K:Uv)(H:Hp)(a:az)(xs:List V):Prop :=
 Rd H a (.aB xs) ∨
  ∃(o:ao) (q:Array aA) (n:Nat),K.lookup a=aa o/\o.cls=.type "list"/\o.dict=af/\o.data=.seq q n/\q.size<=aj/\dw xs q.toList
def SqT(K:Uv)(H:Hp)(a:az)(xs:List V):Prop :=
 Rd H a (.aC xs) ∨
  ∃(o:ao) (q:Array aA) (n:Nat),K.lookup a=aa o/\o.cls=.type "tuple"/\o.data=.seq q n/\q.size<=aj/\dw xs q.toList
noncomputable def QK:aA->Option V
 |.none=>aa .aD|.bool b=>aa (.bl b)|.int i _=>aa (.int i)|.str x _=>aa (.str x)|.bytes b _=>aa (.byt b)|.float b _=>aa (.flt b)|.ref a=>aa (.ref a)|.type n=>aa (.ty n)|_=>af
def RelV.abs(r:RelV x u):QK u=aa x:=by
 cases x with
 |aD=>cases r;rfl|bl _=>cases r;rfl|ref _=>cases r;rfl|ty _=>cases r;rfl|_=>obtain⟨t,rfl⟩:=r;rfl
def RelV.inj(r:RelV x u)(q:RelV y u):x=y:=UK (r.abs.symm.trans q.abs)
theorem dw.inj:∀{xs ys:List V}{us:List aA},dw xs us->dw ys us->xs=ys
 |_,_,_,.nil,.nil=>rfl
 |_,_,_,.cons r t,.cons r' t'=>by rw[r.inj r',dw.inj t t']
section
variable{X:Cx}{zt:List (az×ao)}{σ:St}{H:Hp}{s:UA}{a:az}{xs ys:List V}
def Inv.list(I:Inv X zt σ H s)(h:SqL X.K H a xs):∃q:List aA,dw xs q/\PlainL s.heap a q.toArray/\xs.length<=aj:=by
 rcases h with h|⟨o,q,n,hk,hc,hd,hs,hz,r⟩
 ·obtain⟨z,q,n,r,e⟩:=h.ok I.aJ;exact⟨q,r,⟨_,n,e,rfl,rfl,rfl⟩,z⟩
 ·refine⟨q.toList,r,⟨o,n,I.kIn a o hk,hc,hd,by simpa using hs⟩,?_⟩;have e:=r.length;simp only[UV]at e;lia
def Inv.tuple(I:Inv X zt σ H s)(h:SqT X.K H a xs):∃q:List aA,dw xs q/\IsTup s.heap a q.toArray/\xs.length<=aj:=by
 rcases h with h|⟨o,q,n,hk,hc,hs,hz,r⟩
 ·obtain⟨z,q,r,p⟩:=h.ok I.aJ;exact⟨q,r,p,z⟩
 ·refine⟨q.toList,r,⟨o,I.kIn a o hk,hc,n,by simpa using hs⟩,?_⟩;have e:=r.length;simp only[UV]at e;lia
def Inv.uP(I:Inv X zt σ H s)(h:SqL X.K H a xs)(h':SqL X.K H a ys):xs=ys:=by
 obtain⟨B,r,⟨o,n,e,_,_,d⟩,_⟩:=I.list h;obtain⟨q,L,⟨M,O,D,_,_,J⟩,_⟩:=I.list h';rw[e]at D;cases D;rw[d]at J
 injection J with d1 _
 have:B=q:=by simpa using bR Z1 d1
 subst this;exact r.inj L
def Inv.zT(I:Inv X zt σ H s)(h:SqT X.K H a xs)(h':SqT X.K H a ys):xs=ys:=by
 obtain⟨B,r,⟨o,e,_,n,d⟩,_⟩:=I.tuple h;obtain⟨q,L,⟨M,D,_,O,J⟩,_⟩:=I.tuple h';rw[e]at D;cases D;rw[d]at J
 injection J with d1 _
 have:B=q:=by simpa using bR Z1 d1
 subst this;exact r.inj L
end
noncomputable abbrev Cx.qM(X:Cx)(E:aA->UA->Prop):Cx:={X with xe:=E}
noncomputable abbrev Cx.nox(X:Cx):Cx:=X.qM λ_ _=>False
def Cx.Ok.qM{X:Cx}(ok:X.Ok)(E:aA->UA->Prop):(X.qM E).Ok :=
 ⟨ok.mod,ok.kind,ok.glob,ok.blt,ok.above,ok.inj,ok.has,ok.cab,ok.hd,ok.frames,ok.stk,ok.exf,ok.bs,ok.bsz,ok.noex,ok.exfs,ok.kR,ok.frf⟩
def Cx.Ok.jO{X:Cx}{E:aA->UA->Prop}(ok:(X.qM E).Ok):X.Ok :=
 ⟨ok.mod,ok.kind,ok.glob,ok.blt,ok.above,ok.inj,ok.has,ok.cab,ok.hd,ok.frames,ok.stk,ok.exf,ok.bs,ok.bsz,ok.noex,ok.exfs,ok.kR,ok.frf⟩
section
variable{X:Cx}{zt:List (az×ao)}{σ:St}{H:Hp}{s:UA}{E:aA->UA->Prop}
def Inv.qM(I:Inv X zt σ H s)(E:aA->UA->Prop):Inv (X.qM E) zt σ H s:=⟨I.ok.qM E,I.os,I.bare,I.base,I.loc,I.cell,I.free,I.freeC,I.pin,I.aJ,I.len⟩
def Inv.jO(I:Inv (X.qM E) zt σ H s):Inv X zt σ H s:=⟨I.ok.jO,I.os,I.bare,I.base,I.loc,I.cell,I.free,I.freeC,I.pin,I.aJ,I.len⟩
def SP.jO(h:SP (X.qM E) zt D f s'):SP X zt D f s':=by
 cases f with
 |ret u=>obtain⟨v,B,J,I,r,q⟩:=h;exact⟨v,B,J,I.jO,r,q⟩|_=>obtain⟨B,J,I,q⟩:=h;exact⟨B,J,I.jO,q⟩
def PSs.nox{st:List Y4}{t:TS}(h:PSs X.nox st t):PSs X st t:=λJ s B H D I hw =>
 V4 (h J s B H D (I.qM _) hw) (λ_ _ q=>q.jO) λ_ _ z=>Vo z
end
section
variable{X:Cx}{st:Y4}{rest:List Y4}{t u:TS}{e:X7}{te:TE}{pos:Pos}
def M7:TS:=λD q H=>D.nx q H
def M8(t u:TS):TS:=λD q H=>t {D with nx:=u D} q H
def Fc:PSs X [] M7:=λ_ _ q H _ I h=>Yj ⟨q,H,I,h⟩
def uQ(h1:PS X st t)(h2:PSs X rest u):PSs X (st::rest) (M8 t u):=by
 intro J s L H D I h;refine wpAny_execs_cons (thn (h1 J s L H {D with nx:=u D} I h) λf M q=>?_);cases f with
 |next =>
  obtain⟨B,U,O,q⟩:=q;exact h2 J M B U D O q
 |_=>exact q
def sJ(h1:PS X st t):PSs X [st] t:=by
 intro J s B H D I h;refine wpAny_execs_cons (thn (h1 J s B H D I h) λf L q=>?_);cases f with
 |next=>exact Yj q|_=>exact q
def QL:TS:=λD q H=>D.bk q H
def TU:TS:=λD q H=>D.ct q H
def Inv.quiet(I:Inv X zt σ H s):interactive X.env=ai:=by simp[interactive,I.ok.kind]
def M9(te:TE):TS:=λD q H=>te q H λ_ B=>D.nx q B
def Fd(L:PE X e te)(J:Xn e af pos.line X.env=pure ai:=by rfl):PS X (.Expr e pos) (M9 te):=by intro B s q H D I h;exact wpAny_Expr_any (thn (L B s q H _ I h) λv s1 ⟨x,H1,I1,r1,q1⟩=>⟨q,H1,I1,q1⟩) I.quiet J
def QM(te:TE):TS:=λD q H=>te q H D.rt
def wH(J:PE X e te):PS X (.Return (aa e) pos) (QM te):=by intro B s q H D I h;exact wpAny_Return_some (thn (J B s q H _ I h) λv s1 ⟨x,H1,I1,r1,q1⟩=>⟨x,q,H1,I1,r1,q1⟩)
def QN(c:TT)(t u:TS):TS:=λD q H=>c q H λb B=>if b=ah then t D q B else u D q B
def Na(V:PT X c tc)(Y:PSs X a t)(W:PSs X b u):PS X (.If c a b pos) (QN tc t u):=by
 intro B s q H D I h;refine wpAny_If (thn (V B s q H _ I h) λd J U=>?_);obtain⟨O,M,L⟩:=U;cases d with
 |true=>exact Y B J q O D M L|false=>exact W B J q O D M L
end
abbrev TG:=V->St->Hp->(St->Hp->Prop)->Prop
abbrev TGs:=List V->St->Hp->(St->Hp->Prop)->Prop
def PG(X:Cx)(target:X7)(t:TG):Prop :=
 ∀(D:List (az×ao)) (s:UA) (B:St) (H:Hp) (v:V) (u:aA) (Q:St->Hp->Prop),Inv X D B H s->RelV v u->t v B H Q →
  av (UT X.prog X.w) X.A (Zs target X.env u) (λ_ L=>∃q J,Inv X D q J L/\Q q J) X.xe s
def PGs(X:Cx)(ts:List X7)(t:TGs):Prop :=
 ∀(D:List (az×ao)) (s:UA) (B:St) (H:Hp) (J:List V) (L:List aA) (Q:St->Hp->Prop),Inv X D B H s->dw J L->t J B H Q →
  av (UT X.prog X.w) X.A (assignInOrder ((WC ts X.env).map (·.2)) L) (λ_ O=>∃q M,Inv X D q M O/\Q q M) X.xe s
abbrev Nb:=V->V->V->Hp->(Hp->Prop)->Prop
def Jr(X:Cx)(t:Nb):Prop :=
 ∀(B:List (az×ao)) (s:UA) (q:St) (H:Hp) (o i v:V) (D J u:aA) (Q:Hp->Prop),Inv X B q H s->RelV o D->RelV i J->RelV v u->t o i v H Q →
  av (UT X.prog X.w) X.A (setItem D J u) (λ_ M=>∃L,Inv X B q L M/\Q L) X.xe s
abbrev TIp:=V->V->Hp->VK->Prop
def PIp(X:Cx)(D:X4)(t:TIp):Prop :=
 ∀(B:List (az×ao)) (s:UA) (q:St) (H:Hp) (x y:V) (v u:aA) (Q:VK),Inv X B q H s->RelV x v->RelV y u->t x y H Q →
  av (UT X.prog X.w) X.A (inplaceOp D v u) (EP X B q Q) X.xe s
section
variable{X:Cx}{pos:Pos}
def yp(i:Nat):TG:=λv q H Q=>Q (q.set i (aa v)) H
def yq(D:X.N.Nodup)(hi:X.N[i]?=aa x)(q:Loc X.env.scope x)(B:X.fn x=ah\/X.env.scope.names.lookup x=aa .local:=by first|exact .inl rfl|exact .inr rfl|assumption):PG X (.Name x pos) (yp i):=by intro M s L H v u Q I r h;exact wpAny_assign_Name (oV I D hi q r (λO J=>⟨_,H,J,h⟩) B)
def Nc:TGs:=λB q H Q=>B=[]/\Q q H
def Nd(t:TG)(u:TGs):TGs:=λD B H Q=>∃v r,D=v::r/\t v B H fun q J=>u r q J Q
def Fe:PGs X [] Nc:=by intro B s q H D J Q I r h;obtain⟨e,h⟩:=h;subst e;cases r;exact assignInOrder_nil ⟨q,H,I,h⟩
def Bp(h1:PG X e t)(h2:PGs X es u)
(U:(WC (e::es) X.env).map (·.2)=Zs e X.env::(WC es X.env).map (·.2):=by rfl):PGs X (e::es) (Nd t u):=by
 intro B s D H Y a Q I r h;obtain⟨v,Z,e1,h⟩:=h;subst e1;cases r with
 |cons r M =>
  rw[U];refine assignInOrder_cons (thn (h1 B s D H _ _ _ I r h) λ_ L J=>?_);obtain⟨q,W,V,O⟩:=J;exact h2 B L q W _ _ Q V M O
def QO(K:Uv)(n:Nat)(t:TGs):TG:=λv B H Q=>∃a q,v=.ref a/\SqT K H a q/\q.length=n/\t q B H Q
def Js(Y:X.calm=ah)(h:PGs X es t)
(hn:(WC es X.env).length=n:=by rfl)(q:(WC es X.env).findIdx? (·.1)=af:=by rfl):PG X (.Tuple es k pos) (QO X.K n t):=by
 intro D s B H v u Q I r hw;obtain⟨a,L,e1,V,W,hw⟩:=hw;subst e1;cases r;obtain⟨M,J,U,d⟩:=I.tuple V;refine assign_Tuple_tuple (I.ok.hd Y) U (by simp[hn,←W,J.length]) q λZ O=>?_;have c:Inv X D B H {s with heap:=Z}:=I.aH (t':=s.toks) λb o e=>O b o (U0 (UF e)) e;exact h D _ B H L _ Q c (by simpa using J) hw
def Jt(to B:TE)(t:Nb):TG:=λv q H Q=>to q H λo L=>B q L λi J=>t o i v J λD=>Q q D
def Bq(b:PE X o to)(hi:PE X i ti)(a:Jr X t)
(c:∀ v,Zs (.Subscript o i pos) X.env v=(do
  let q ←XX [v] (eval o X.env)
  let D ←XX [v,q] (eval i X.env)
  ZP pos
  XX [v,q,D] (setItem q D v)
  release [v,q,D] []):=by intro _;rfl):PG X (.Subscript o i pos) (Jt to ti t):=by
 intro L s J H v u Q I r h;rw[c];refine Uw (Vw (thn (b L s J H _ I h) λq O B=>?_));obtain⟨x,k,f,V,Z⟩:=B;refine Uw (Vw (thn (hi L O J k _ f Z) λD M B=>?_));obtain⟨y,j,e,U,Y⟩:=B;refine Uw (XW (Uw (Vw (thn (a L M J j x y v q D u _ e V U r Y) λ_ l B=>?_))));obtain⟨g,d,W⟩:=B;exact wpAny_release ⟨J,g,d,W⟩
def zU(te:TE)(g:TG):TS:=λD q H=>te q H λx B=>g x q B D.nx
def wI(O:PE X e te)(M:PG X tg g)(L:swapsWithSole [tg] e pos.line X.env=pure ai:=by rfl)(hw:swappedStores [tg] e X.env=pure af:=by rfl)
(h1:(WC [tg] X.env).map (·.2)=[Zs tg X.env]:=by rfl):PS X (.Assign [tg] e pos) (zU te g):=by
 intro J s B H D I h;refine wpAny_Assign_stores (thn (O J s B H _ I h) λv s1 ⟨x,H1,I1,r1,q1⟩=>?_) L hw;rw[h1];exact thn (M J s1 B H1 x v _ I1 r1 q1) λ_ U q=>q
def wJ(U:X.N.Nodup)(hi:X.N[i]?=aa x)(J:Loc X.env.scope x)(O:PE X e te)(L:Xn e (aa (.Name x pos')) pos.line X.env=pure ai:=by rfl)(M:X.fn x=ah\/X.env.scope.names.lookup x=aa .local:=by first|exact .inl rfl|exact .inr rfl|assumption):
 PS X (.Assign [.Name x pos'] e pos) (zU te (yp i)):=by
 intro B s q H D I h;refine wpAny_Assign_Name (thn (O B s q H _ I h) λv s1 ⟨y,H1,I1,r1,q1⟩=>?_) L;exact oV I1 U hi J r1 (λW V=>⟨_,H1,V,q1⟩) M
def Nf(i:Nat)(te:TE)(B:TIp):TS:=λD q H=>∃x,q[i]?=aa (aa x)/\te q H λy L=>B x y L λz J=>D.nx (q.set i (aa z)) J
def Ju(p:X.N.Nodup)(hi:X.N[i]?=aa x)(U:Loc X.env.scope x)(o:PE X e te)(f:PIp X op ti)(n:X.fn x=ah\/X.env.scope.names.lookup x=aa .local:=by first|exact .inl rfl|exact .inr rfl|assumption):
 PS X (.AugAssign (.Name x pos') op e pos) (Nf i te ti):=by
 intro L s V H D I h;obtain⟨v,e1,h⟩:=h;obtain⟨m,hn,j⟩:=I.loc;have O:Vis X.env.scope x:=by rcases U with k|k;exact .inl k;exact .inr (.inl k)
 obtain⟨u,r,l⟩:=j i x v hi e1 O;refine wpAny_AugAssign_Name ?_;have W:av (UT X.prog X.w) X.A (eval e X.env) (λw J=>av (UT X.prog X.w) X.A (inplaceOp op u w) (λr B=>av (UT X.prog X.w) X.A (storeName X.env x r) (λ_=>SP X L D .next) X.xe B) X.xe J) X.xe s:=by refine thn (o L s V H _ I h) λw Y M=>?_;obtain⟨y,G,E,a,d⟩:=M;refine thn (f L Y V G v y u w _ E r a d) λz Q M=>?_;obtain⟨K,F,C,Z,b⟩:=M;exact oV C p hi U Z (λP t=>⟨_,F,t,b⟩) n
 rcases l with⟨q,g⟩|⟨q,c,hc,hcell⟩
 exact wpAny_loadName_local I.ok.kind q hn g W
 ·rcases q with q|q
  exact wpAny_loadName_cell I.ok.kind q hc hcell W
  ·rcases U with k|k
   ·have:X.env.scope.names.lookup x=aa .free:=q;rw[k]at this;cases this
   ·have:X.env.scope.names.lookup x=aa .free:=q;rw[k]at this;cases this
end
section
variable{X:Cx}{pos:Pos}
def Br(c:TT)(tb:TS):TS:=λD q H=>∃W:Nat->St->Hp->Prop,(∃m,W m q H)/\∀m q H,W m q H →
 c q H λb L=>if b=ah then ∃N:St->Hp->Prop,(∀B M,N B M->∃J,J<m/\W J B M)/\tb {D with nx:=N,ct:=N,bk:=D.nx} q L else D.nx q L
def Bs(d:ZX (UT X.prog X.w) X.A X.env X.xe)(t:PT X c tc)(u:PSs X body tb):PS X (.While c body [] pos) (Br tc tb):=by
 intro M s k H D I h;obtain⟨W,⟨r,m⟩,turn⟩:=h;refine wpAny_While (codeAny_whileLoop (λn p=>∃B j,Inv X M B j p/\W n B j) ?_ r ⟨k,H,I,m⟩)
 rintro n s1 ⟨σ1,H1,I1,w1⟩
 refine Wy d (thn (t M s1 σ1 H1 _ I1 (turn n σ1 H1 w1)) λb o l=>?_);obtain⟨i,g,L⟩:=l;cases b with
 |true =>
  obtain⟨N,e,L⟩:=L;rw[bJ rfl];refine Wy d (thn (u M o σ1 i _ g L) λf v U=>?_);cases f with
  |next =>
   obtain⟨q,J,a,V⟩:=U;obtain⟨Y,Z,O⟩:=e q J V;exact⟨Y,Z,q,J,a,O⟩
  |cont =>
   obtain⟨q,J,a,V⟩:=U;obtain⟨Y,Z,O⟩:=e q J V;exact⟨Y,Z,q,J,a,O⟩
  |_=>exact U
 |false =>
  rw[bK Vh];exact Yj ⟨σ1,i,g,L⟩
end
structure It where
 go:Nat->Hp->Prop
 yld:Nat->Hp->V->Hp->Prop
 stop:Nat->Hp->Prop
def sL(X:Cx)(zt:List (az×ao))(H:Hp)(b:az):Prop :=
 H b=af/\b≠X.env.locals/\b∉X.fs/\(b∈X.ex\/X.s₀.heap.objs.size<=b)/\(∀x c,X.env.cells.lookup x=aa c->c≠b)/\∀p∈X.pn++zt,p.1≠b
def Inv.Bt(I:Inv X zt σ H s)(B:s.heap.objs.size<=b)(hn:H' b=af):sL X zt H' b:=by
 refine⟨hn,Wt (UY I.lt B),I.QI B,.inr (U3 I.sz B),λx c e z=>?_,λp D z=>?_⟩
 ·obtain⟨v,q⟩:=I.cell x c e;exact bL (UY q.lt (by rw[z];exact B)) (VD _)
 exact bL (UY (UF (I.pin p D).1) (by rw[z];exact B)) (VD _)
structure Turn(P:UM)(w:U6)(K:Uv)(tg:X7)(J:It)(fp:List az)(it:az)(tn:Nat->aq->Prop):Prop where
 mem:it∈fp
 obj:∀i h,tn i h->∀b∈fp,∃o,h.get? b=aa o/\∀v,o.data≠.cell v
 keep:∀i h h',tn i h->(∀b∈fp,∀o,h.get? b=aa o->h'.get? b=aa o)->tn i h'
 item:∀(X:Cx),X.prog=P->X.w=w->X.K=K->X.calm=ah->∀(i:Nat)(zt:List (az×ao)) (s:UA) (σ:St) (H:Hp) (E:aA->UA->Prop),Inv X zt σ H s->(∀b∈fp,sL X zt H b)->tn i s.heap->J.go i H →
  av (UT P w) X.A (YO (.ref it)) (λr s1=>∃ u,r=aa u ∧
   av (UT P w) X.A (Yk tg (.ref it) u) (λ_ s2=>∃ x H',Inv X zt σ H' s2/\RelV x u/\J.yld i H x H'/\tn (i+1) s2.heap/\∀ b∈fp,H' b=af) E s1) E s
 done:∀(X:Cx),X.prog=P->X.w=w->X.K=K->X.calm=ah->∀(i:Nat)(zt:List (az×ao)) (s:UA) (σ:St) (H:Hp) (E:aA->UA->Prop),Inv X zt σ H s->(∀b∈fp,sL X zt H b)->tn i s.heap->J.stop i H →
  av (UT P w) X.A (YO (.ref it)) (λr s1=>r=af/\Inv X zt σ H s1) E s
 self:∀(A:VE)(i:Nat)(s:UA)(Q:aA->UA->Prop) (E:aA->UA->Prop),tn i s.heap->Q (.ref it) s->av (UT P w) A (pyIter (.ref it)) Q E s
abbrev TI:=St->Hp->(It->Hp->Prop)->Prop
def PIE(X:Cx)(zt:List (az×ao))(σ:St)(tg:X7)(R:It->Hp->Prop)(q:aA)(s2:UA):Prop :=
 ∃(L:az) (M:List az) (D:Nat->aq->Prop) (J:It) (B:Hp),q=.ref L/\Inv X zt σ B s2/\Turn X.prog X.w X.K tg J M L D/\D 0 s2.heap/\(∀b∈M,sL X zt B b)/\R J B
def PI(X:Cx)(tg iter:X7)(D:TI):Prop :=
 ∀(B:List (az×ao)) (s:UA) (q:St) (H:Hp) (R:It->Hp->Prop),Inv X B q H s->D q H R →
  av (UT X.prog X.w) X.A (eval iter X.env) (λv J=>av (UT X.prog X.w) X.A (pyIter v) (PIE X B q tg R) X.xe J) X.xe s
def uR(B:s.heap.get? it=aa o)(J:o.cls=.type n)(D:o.data=.fields vs)
(hn:["enumerate","zip","dict_itemiterator","dict_reverseitemiterator","odict_iterator","itertools.zip_longest","itertools.pairwise"].contains n=ai)(q:Q () s):av M A (Yk tg (.ref it) u) Q E s:=by
 unfold Yk;cases tg<;>first
  |exact au q
  | (cases u<;>first
   |exact au q
   | (refine Uw (wpAny_load B ?_)
      rw[J,D];show av M A (if (["enumerate","zip","dict_itemiterator","dict_reverseitemiterator","odict_iterator","itertools.zip_longest","itertools.pairwise"].contains n&&vs[0]?==aa (Wj _))=ah then _ else _) Q E s;rw[bK (by intro h;rw[hn,Bool.false_and] at h;cases h)];exact au q))
noncomputable def Itl(K:Uv)(a:az):It :=
 ⟨λi H=>∃q x,SqL K H a q/\q[i]?=aa x,λi H x B=>B=H/\∀q,SqL K H a q->q[i]?=aa x,λi H=>∃q,SqL K H a q/\q.length<=i⟩
noncomputable def Itt(K:Uv)(a:az):It :=
 ⟨λi H=>∃q x,SqT K H a q/\q[i]?=aa x,λi H x B=>B=H/\∀q,SqT K H a q->q[i]?=aa x,λi H=>∃q,SqT K H a q/\q.length<=i⟩
noncomputable def Itr(lo:Int)(n:Nat):It:=⟨λi _=>i<n,λi H x q=>q=H/\x=.int (lo+i),λi _=>n<=i⟩
theorem zV{P:UM}{w:U6}{K:Uv}{tg:X7}(a q:az):Turn P w K tg (Itl K a) [q] q (λi h=>h.IsListIter q a i) where
 mem:=by simp
 obj:=λi h st b B=>by
  have e:b=q:=by simpa using B
  subst e;obtain⟨o,e,c,d⟩:=st;exact⟨o,e,λv z=>by rw[d]at z;cases z⟩
 keep:=λi h M st k=>st.at λo e=>k q (by simp) o e
 item:=by intro X Y hw Z t i r s n H E I L st W;subst Y hw Z;obtain⟨y,x,J,V⟩:=W;obtain⟨U,O,p,F⟩:=I.list J;obtain⟨u,N,C⟩:=O.get V;obtain⟨m,l,Q,j,g,f⟩:=L q (by simp);refine wpAny_pyNext_list_item st p.isList (x:=u) (by simpa using N) λM D A=>?_;have S:Inv X r n H {s with heap:=M}:=I.turned (t':=s.toks) (λb o B e=>(A.2 b B).trans e) m l j g f;obtain⟨o,e,c,d⟩:=id D;exact⟨u,rfl,uR (s:={s with heap:=M}) e c d (by decide) ⟨x,H,S,C,⟨rfl,λT G=>by rw[I.uP G J];exact V⟩,D,λb B=>(L b B).1⟩⟩
 done:=by intro X Y hw Z t i r s n H E I L st W;subst Y hw Z;obtain⟨y,J,V⟩:=W;obtain⟨U,O,p,F⟩:=I.list J;obtain⟨m,l,Q,j,g,f⟩:=L q (by simp);have hl:=O.length;exact wpAny_pyNext_list_end (I.ok.hd t) st p.isList (by simp;lia) λM R=>⟨rfl,I.turned (t':=s.toks) (λb o B e=>R b o B e) m l j g f⟩
 self:=λ_ _ _ _ _ st h=>wpAny_pyIter_listiter st h
theorem wK{P:UM}{w:U6}{K:Uv}{tg:X7}(a B:az):Turn P w K tg (Itt K a) [B] B (λi h=>h.IsTupleIter B a i) where
 mem:=by simp
 obj:=λi h st b D=>by
  have e:b=B:=by simpa using D
  subst e;obtain⟨o,e,c,d⟩:=st;exact⟨o,e,λv z=>by rw[d]at z;cases z⟩
 keep:=λi h O st k=>st.at λo e=>k B (by simp) o e
 item:=by intro X Y hw Z t i r s n H E I M st W;subst Y hw Z;obtain⟨y,x,L,V⟩:=W;obtain⟨q,U,p,F⟩:=I.tuple L;obtain⟨u,N,C⟩:=U.get V;obtain⟨m,l,Q,j,g,f⟩:=M B (by simp);refine wpAny_pyNext_tuple_item st (show s.heap.IsTuple a q.toArray from p) (x:=u) (by simpa using N) λO J A=>?_;have S:Inv X r n H {s with heap:=O}:=I.turned (t':=s.toks) (λb o D e=>(A.2 b D).trans e) m l j g f;obtain⟨o,e,c,d⟩:=id J;exact⟨u,rfl,uR (s:={s with heap:=O}) e c d (by decide) ⟨x,H,S,C,⟨rfl,λT G=>by rw[I.zT G L];exact V⟩,J,λb D=>(M b D).1⟩⟩
 done:=by intro X Y hw Z t i r s n H E I M st W;subst Y hw Z;obtain⟨y,L,V⟩:=W;obtain⟨q,U,p,F⟩:=I.tuple L;obtain⟨m,l,Q,j,g,f⟩:=M B (by simp);have hl:=U.length;exact wpAny_pyNext_tuple_end (I.ok.hd t) st (show s.heap.IsTuple a q.toArray from p) (by simp;lia) λO R=>⟨rfl,I.turned (t':=s.toks) (λb o D e=>R b o D e) m l j g f⟩
 self:=λ_ _ _ _ _ st h=>wpAny_pyIter_tupleiter st h
theorem wL{P:UM}{w:U6}{K:Uv}{tg:X7}(q:az)(lo:Int)(n:Nat):Turn P w K tg (Itr lo n) [q] q (λi h=>Z0 h q (lo+(i:Nat)*1) ((n:Int)-(i:Nat)) 1) where
 mem:=by simp
 obj:=λi h st b B=>by
  have e:b=q:=by simpa using B
  subst e;exact⟨_,st,λv z=>by have l:Data.fields _=Data.cell v:=z;cases l⟩
 keep:=λi h L st k=>k q (by simp) _ st
 item:=by intro X U hw V O i g s f H E I J st M;subst U hw V;obtain⟨d,c,r,a,Z,Y⟩:=J q (by simp);have W:=Walks.range (prog:=X.prog) (w:=X.w) (I.ok.hd O) q lo 1 n;refine W.item i s _ _ M st λv L j p D m=>?_;obtain⟨t,rfl⟩:=p;have x:Inv X g f H {s with heap:=L,toks:=j}:=I.turned (λb o B e=>m b o (by simpa using B) e) d c a Z Y;refine⟨_,rfl,uR (s:={s with heap:=L,toks:=j}) (n:="range_iterator") D rfl rfl (by decide) ⟨.int (lo+i),H,x,⟨t,?_⟩,⟨rfl,rfl⟩,D,λb B=>(J b B).1⟩⟩;rw[Int.mul_one]
 done:=by intro X U hw V O i g s f H E I J st M;subst U hw V;obtain⟨d,c,r,a,Z,Y⟩:=J q (by simp);exact wpAny_pyNext_range_end (I.ok.hd O) st (by have:n<=i:=M;lia) λL u=>⟨rfl,I.turned (t':=s.toks) (λb o B e=>u b o B e) d c a Z Y⟩
 self:=λ_ _ _ _ _ st h=>wpAny_pyIter_rangeiter st h
end L2
namespace L2
open PySem PySem.Spec PyProof.Rows
section
variable{X:Cx}{tg:X7}
def Ng(K:Uv)(tl:TE):TI:=fun B H R=>tl B H λx q=>∃a,x=.ref a/\(∃D,SqL K q a D)/\R (Itl K a) q
def QS(K:Uv)(tl:TE):TI:=fun B H R=>tl B H λx q=>∃a,x=.ref a/\(∃D,SqT K q a D)/\R (Itt K a) q
def yr{l:X7}{tl:TE}(Y:PE X l tl):PI X tg l (Ng X.K tl):=by
 intro L s J H R I h;refine thn (Y L s J H _ I h) λv B M=>?_;obtain⟨x,c,D,O,U⟩:=M;obtain⟨a,e,⟨d,W⟩,q⟩:=U;subst e;cases O;obtain⟨V,f,p,g⟩:=D.list W;refine wpAny_pyIter_list p.isList ?_;refine⟨B.heap.objs.size,[B.heap.objs.size],_,_,c,rfl,D.aH (t':=B.toks) λb o e=>Ux _ e,zV a _,⟨_,UG _ rfl,rfl,rfl⟩,λb Z=>?_,q⟩;have e:b=B.heap.objs.size:=by simpa using Z
 subst e;exact D.Bt (UE _) (D.aJ.fresh (UE _))
def Jv{l:X7}{tl:TE}(Y:PE X l tl):PI X tg l (QS X.K tl):=by
 intro M s L H R I h;refine thn (Y M s L H _ I h) λv B O=>?_;obtain⟨x,c,D,U,V⟩:=O;obtain⟨a,e,⟨d,W⟩,q⟩:=V;subst e;cases U;obtain⟨J,f,p,g⟩:=D.tuple W;refine wpAny_pyIter_tuple (show B.heap.IsTuple a J.toArray from p) ?_;refine⟨B.heap.objs.size,[B.heap.objs.size],_,_,c,rfl,D.aH (t':=B.toks) λb o e=>Ux _ e,wK a _,⟨_,UG _ rfl,rfl,rfl⟩,λb Z=>?_,q⟩;have e:b=B.heap.objs.size:=by simpa using Z
 subst e;exact D.Bt (UE _) (D.aJ.fresh (UE _))
def uS{lo hi:Int}{tk:Nat}(I:Inv X zt σ H s)(h1:-(2^62)<=lo)(h2:lo<2^62)(L:-(2^62)<=hi)(J:hi<2^62)
(q:R (Itr lo (hi-lo).toNat) H):av (UT X.prog X.w) X.A (pyIter (.ref s.heap.objs.size)) (PIE X zt σ tg R) E {s with heap:=s.heap.push {cls:=.type "range",data:=.fields #[.int lo t,.int hi u,.int 1 v]},toks:=tk}:=by
 refine wpAny_pyIter_range (IsRange.new ..) (small_one h1 h2 L J) ?_;have B:Inv X zt σ H { s with heap:=s.heap.push { cls:=.type "range",data:=.fields #[.int lo t,.int hi u,.int 1 v] },toks:=tk }:=I.aH λb o e=>Ux _ e;refine ⟨(s.heap.push { cls:=.type "range",data:=.fields #[.int lo t,.int hi u,.int 1 v] }).objs.size,[(s.heap.push { cls:=.type "range",data:=.fields #[.int lo t,.int hi u,.int 1 v] }).objs.size],_,_,H,rfl,
  B.aH (t':=tk) λb o e=>Ux _ e,wL _ lo (hi - lo).toNat,?_,λb D=>?_,q⟩
 ·have e1:lo+((0:Nat):Int)*1=lo:=by simp
  have e2:(((hi-lo).toNat:Nat):Int)-((0:Nat):Int)=Yw lo hi 1:=by rw[rangeSize_one];split<;>lia
  show Z0 _ _ (lo+((0:Nat):Int)*1) ((((hi-lo).toNat:Nat):Int)-((0:Nat):Int)) 1;rw[e1,e2];exact UG _ rfl
 ·have e:b=(s.heap.push {cls:=.type "range",data:=.fields #[.int lo t,.int hi u,.int 1 v]}).objs.size:=by simpa using D
  subst e;exact B.Bt (UE _) (B.aJ.fresh (UE _))
def Nh(ta:TA):TI:=fun q H R=>ta q H λB D=>∃j:Int,B=[.int j]/\-(2^62)<=j/\j<2^62/\R (Itr 0 j.toNat) D
def Ni(ta:TA):TI:=fun q H R=>ta q H λB D=>∃i j:Int,B=[.int i,.int j]/\(-(2^62)<=i/\i<2^62/\-(2^62)<=j/\j<2^62)/\R (Itr i (j-i).toNat) D
def zW(V:Gl X "range")(U:X.mg "range"=af)(W:PA X [a] ta)(O:U9 [a] X.env=[(ai,eval a X.env)]:=by rfl):PI X tg (.Call (.Name "range" p) [a] [] pos) (Nh ta):=by
 intro J s D H R I h;refine Call_ (ja I V U boot_range (VB (thn (W pos J s D H _ I h) λus s1 ⟨vs,H1,I1,r1,B⟩=>?_) O rfl));obtain⟨j,e,B,M,q⟩:=B;subst e;cases r1 with
 |cons r L =>
  cases L;obtain⟨t,rfl⟩:=r;exact call_range_1 (uS I1 (by lia) (by lia) B M (by simpa using q))
def zX(c:Gl X "range")(Z:X.mg "range"=af)(d:PA X [a,b] ta)(Y:U9 [a,b] X.env=[(ai,eval a X.env),(ai,eval b X.env)]:=by rfl)(B:U9 [b] X.env=[(ai,eval b X.env)]:=by rfl):
 PI X tg (.Call (.Name "range" p) [a,b] [] pos) (Ni ta):=by
 intro M s L H R I h;refine Call_ (ja I c Z boot_range (VB (thn (d pos M s L H _ I h) λus s1 ⟨vs,H1,I1,r1,J⟩=>?_) (by rw[Y,B]) (by rw[B];rfl)));obtain⟨i,j,e,⟨J,W,V,U⟩,q⟩:=J;subst e;cases r1 with
 |cons r D =>
  cases D with
  |cons O D =>
   cases D;obtain⟨t,rfl⟩:=r;obtain⟨f,rfl⟩:=O;exact call_range_2 (uS I1 J W V U q)
def Nj(U:TI)(g:TG)(tb:TS):TS:=λD q H=>U q H λJ Y=>∃W:Nat->Nat->St->Hp->Prop,(∃m,W 0 m q Y)/\∀i m q H,W i m q H →
 (J.stop i H/\D.nx q H)\/(J.go i H/\∃N:St->Hp->Prop,(∀B L,N B L->∃O,O<m/\W (i+1) O B L)/\∀x L,J.yld i H x L->g x q L fun M V=>tb {D with nx:=N,ct:=N,bk:=D.nx} M V)
noncomputable def mT(fp:List az)(h:aq):List (az×ao):=fp.filterMap λb=>(h.get? b).map λo=>(b,o)
def jl(q:b∈fp)(e:h.get? b=aa o):(b,o)∈mT fp h:=List.mem_filterMap.mpr ⟨b,q,by rw[e];rfl⟩
def zY(B:p∈mT fp h):p.1∈fp/\h.get? p.1=aa p.2:=by
 obtain⟨b,D,e⟩:=List.mem_filterMap.mp B;cases q:h.get? b with
 |none=>rw[q]at e;cases e
 |some o =>
  rw[q]at e;have J:(b,o)=p:=UK e;subst J;exact⟨D,q⟩
def Inv.pinned(I:Inv X zt σ H s)(L:∀b∈fp,sL X zt H b)(J:∀b∈fp,∃o,s.heap.get? b=aa o/\∀v,o.data≠.cell v):Inv X (zt++mT fp s.heap) σ H s :=
 I.om λp D=>(List.mem_append.mp D).elim (λz=>I.pin p (UW _ z)) λz=>by obtain⟨q,e⟩:=zY z;obtain⟨U,O,M,_⟩:=L p.1 q;obtain⟨o,B,d⟩:=J p.1 q;rw[e]at B;cases B;exact⟨e,U,O,M,d⟩
def Inv.lI(I:Inv X (zt++pl) σ H s):Inv X zt σ H s:=I.om λp q=>I.pin p (UW _ (Vl _ q))
def Jw(j:ZX (UT X.prog X.w) X.A X.env X.xe)(Q:X.calm=ah)(hi:PI X tg iter wi)(hg:PG X tg g)(M:PSs X body tb)
(hs:∀x,foldedSetIterable iter X.env x=pure x:=by intro _;rfl):PS X (.For tg iter body [] pos) (Nj wi g tb):=by
 intro Y s F H D I h;refine wpAny_For (thn (hi Y s F H _ I h) λv s1 h1=>thn h1 λitv s2 h2=>?_) hs;obtain⟨it,k,G,J,H2,e,I2,T,p,R,W,⟨m0,w0⟩,turn⟩:=h2;subst e;have L:∀{U:Hp},(∀b∈k,U b=af)->∀b∈k,sL X Y U b:=λhn b M=>⟨hn b M,(R b M).2⟩;refine codeAny_forLoop_any (λn P=>∃i B U,Inv X Y B U P/\G i P.heap/\(∀b∈k,U b=af)/\W i n B U) ?_ m0 ⟨0,F,H2,I2,p,λb M=>(R b M).1,w0⟩
 rintro n s3 ⟨i,σ3,H3,I3,st3,fr3,w3⟩
 rcases turn i n σ3 H3 w3 with⟨stop,qn⟩|⟨go,N,hN,step⟩
 ·refine Wy j (thn (T.done X rfl rfl rfl Q i Y s3 σ3 H3 X.xe I3 (L fr3) st3 stop) λr s4 Z=>?_);obtain⟨z,I4⟩:=Z;subst z;exact Yj ⟨σ3,H3,I4,qn⟩
 ·refine Wy j (thn (T.item X rfl rfl rfl Q i Y s3 σ3 H3 X.xe I3 (L fr3) st3 go) λr s4 Z=>?_);obtain⟨u,z,h4⟩:=Z;subst z;refine Wy j (thn h4 λ_ K Z=>?_);obtain⟨x,S,I5,r5,y5,a,C⟩:=Z;have E:=I5.pinned (L C) (T.obj _ _ a);refine Wy j (thn (hg _ K σ3 S x u _ E r5 (step x S y5)) λ_ s6 Z=>?_);obtain⟨l,H6,I6,q6⟩:=Z;refine Wy j (thn (M _ s6 l H6 _ I6 q6) λf t c=>?_);have again:∀{q:St}{O:Hp},Inv X (Y++mT k K.heap) q O t->N q O->∃m,m<n/\∃i B U,Inv X Y B U t/\G i t.heap/\(∀b∈k,U b=af)/\W i m B U:=λ{q O} V y=>by obtain⟨m',hm,w7⟩:=hN q O y;refine⟨m',hm,i+1,q,O,V.lI,T.keep _ _ _ a λb M o e=>(V.pin (b,o) (UW _ (UW _ (jl M e)))).1,λb M=>?_,w7⟩;obtain⟨o,e,d⟩:=T.obj _ _ a b M;exact(V.pin (b,o) (UW _ (UW _ (jl M e)))).2.1
  cases f with
  |brk=>obtain⟨q,O,V,c⟩:=c;exact⟨q,O,V.lI,c⟩|ret v=>obtain⟨x7,q,O,V,r7,c⟩:=c;exact⟨x7,q,O,V.lI,r7,c⟩|_=>obtain⟨q,O,V,y⟩:=c;exact again V y
end
end L2
namespace L2
open PySem PySem.Spec PyProof.Rows
abbrev R2:=V->V->Hp->VK->Prop
def OpR(X:Cx)(f:aA->aA->Sem aA)(r:R2):Prop :=
 ∀(B:List (az×ao)) (s:UA) (q:St) (H:Hp) (x y:V) (v u:aA) (Q:VK),Inv X B q H s->RelV x v->RelV y u->r x y H Q →
  av (UT X.prog X.w) X.A (f v u) (EP X B q Q) X.xe s
def UnR(X:Cx)(f:aA->Sem aA)(r:V->Hp->VK->Prop):Prop :=
 ∀(B:List (az×ao)) (s:UA) (q:St) (H:Hp) (x:V) (v:aA) (Q:VK),Inv X B q H s->RelV x v->r x H Q →
  av (UT X.prog X.w) X.A (f v) (EP X B q Q) X.xe s
def fy(X:Cx)(f:aA)(r:List V->Hp->VK->Prop):Prop :=
 ∀(B:List (az×ao)) (s:UA) (q:St) (H:Hp) (D:List V) (J:List aA) (Q:VK),Inv X B q H s->dw D J->r D H Q →
  av (UT X.prog X.w) X.A (call f J) (EP X B q Q) X.xe s
def tOp(r:R2)(ta tb:TE):TE:=fun q H Q=>ta q H λx D=>tb q D λy B=>r x y B Q
def tUn(r:V->Hp->VK->Prop)(ta:TE):TE:=fun q H Q=>ta q H λx B=>r x B Q
def rI(C:Int->Int->Prop)(g:Int->Int->V):R2:=λx y H Q=>∃i j,x=.int i/\y=.int j/\C i j/\Q (g i j) H
def rI0(g:Int->Int->V):R2:=λx y H Q=>∃i j,x=.int i/\y=.int j/\Q (g i j) H
def rU(g:Int->V):V->Hp->VK->Prop:=λx H Q=>∃i,x=.int i/\Q (g i) H
section
variable{X:Cx}{a b c:X7}{ta tb tc:TE}{pos:Pos}
def Jx(Z:PE X a ta)(Y:PE X b tb){zt:List (az×ao)}{s:UA}{σ:St}{H:Hp}{R:V->V->Hp->Prop}(I:Inv X zt σ H s)
(h:ta σ H λx H1=>tb σ H1 λy H2=>R x y H2){Q:aA->UA->Prop}{f:aA->aA->Sem aA}
(W:∀v u s2 x y H2,Inv X zt σ H2 s2->RelV x v->RelV y u->R x y H2->av (UT X.prog X.w) X.A (f v u) Q X.xe s2):
 av (UT X.prog X.w) X.A (eval a X.env) (λv B=>av (UT X.prog X.w) X.A (eval b X.env) (λu q=>av (UT X.prog X.w) X.A (f v u) Q X.xe q) X.xe B) X.xe s:=by
 refine thn (Z zt s σ H _ I h) λv J D=>?_;obtain⟨x,H1,d,M,U⟩:=D;refine thn (Y zt J σ H1 _ d U) λu s2 D=>?_;obtain⟨y,H2,c,L,O⟩:=D;exact W v u s2 x y H2 c M L O
def Nk{B:X4}{r:R2}(U:OpR X (V6 B) r)(W:PE X a ta)(V:PE X b tb):PE X (.BinOp a B b pos) (tOp r ta tb):=by intro J s D H Q I h;exact wpAny_BinOp (Jx W V I h λv u L x y Z Y O M q=>U J L D Z x y v u Q Y O M q)
def IB(D:UnR X (unaryOp op) r)(J:PE X a ta):PE X (.UnaryOp op a pos) (tUn r ta):=by intro B s q H Q I h;exact UnaryOp_ (thn (J B s q H _ I h) λv s1 ⟨x,H1,I1,r1,q1⟩=>D B s1 q H1 x v Q I1 r1 q1)
def opI{f:aA->aA->Sem aA}{C:Int->Int->Prop}{g:Int->Int->Int}
(rule:∀(i j:Int)(t u:Tok)(s:UA)(Q:aA->UA->Prop) (E:aA->UA->Prop),C i j->Q (.int (g i j) s.toks) {s with toks:=s.toks+1}->av (UT X.prog X.w) X.A (f (.int i t) (.int j u)) Q E s):
 OpR X f (rI C λi j=>.int (g i j)):=by
 intro O s M H x y v u Q I J D h;obtain⟨i,j,rfl,rfl,L,q⟩:=h;obtain⟨t,rfl⟩:=J;obtain⟨B,rfl⟩:=D;exact rule i j t B s _ _ L ⟨.int (g i j),H,I.tok _,⟨_,rfl⟩,q⟩
def Nl{f:aA->aA->Sem aA}{g:Int->Int->Int}
(rule:∀(i j:Int)(t u:Tok)(s:UA)(Q:aA->UA->Prop) (E:aA->UA->Prop),Q (.int (g i j) s.toks) {s with toks:=s.toks+1}->av (UT X.prog X.w) X.A (f (.int i t) (.int j u)) Q E s):
 OpR X f (rI0 λi j=>.int (g i j)):=by
 intro M s L H x y v u Q I J D h;obtain⟨i,j,rfl,rfl,q⟩:=h;obtain⟨t,rfl⟩:=J;obtain⟨B,rfl⟩:=D;exact rule i j t B s _ _ ⟨.int (g i j),H,I.tok _,⟨_,rfl⟩,q⟩
def Ff{f:aA->aA->Sem aA}{g:Int->Int->Bool}
(rule:∀(i j:Int)(t u:Tok)(s:UA)(Q:aA->UA->Prop) (E:aA->UA->Prop),Q (.bool (g i j)) s->av (UT X.prog X.w) X.A (f (.int i t) (.int j u)) Q E s):
 OpR X f (rI0 λi j=>.bl (g i j)):=by
 intro M s L H x y v u Q I J D h;obtain⟨i,j,rfl,rfl,q⟩:=h;obtain⟨t,rfl⟩:=J;obtain⟨B,rfl⟩:=D;exact rule i j t B s _ _ ⟨.bl (g i j),H,I,rfl,q⟩
def QT(i j:Int):Prop:=0<j/\j<1073741824
def Fg(i j:Int):Prop:=(-(2^64)<i/\i<2^64)\/(-(2^64)<j/\j<2^64)
def Fg.ok(h:Fg i j):IntMulOk i j:=by
 rcases h with⟨B,q⟩|⟨B,q⟩
 exact .of_left (intBits_le_64 B q);exact .of_right (intBits_le_64 B q)
def Jy:OpR X (V6 .Add) (rI0 λi j=>.int (i+j)):=Nl λ_ _ _ _ _ _ _ q=>add_int q
def Jz:OpR X (V6 .Sub) (rI0 λi j=>.int (i-j)):=Nl λ_ _ _ _ _ _ _ q=>sub_int q
def JA:OpR X (V6 .Mult) (rI Fg λi j=>.int (i*j)):=opI λ_ _ _ _ _ _ _ B q=>mul_int q B.ok
def Fi:OpR X (V6 .FloorDiv) (rI QT λi j=>.int (i/j)):=opI λi j _ _ _ _ _ B q=>by have J:(0:Int)<j:=B.1;have D:j<1073741824:=B.2;exact floordiv_int (by lia) (by rw[Int.fdiv_eq_ediv_of_nonneg i (by lia)];exact q) (.inl (Zu (by lia)))
def JB:OpR X (V6 .Mod) (rI (λ_ j=>0<j) λi j=>.int (i%j)):=opI λi j _ _ _ _ _ B q=>by have D:(0:Int)<j:=B;exact mod_int' (by lia) (by rw[Int.fmod_eq_emod_of_nonneg i (by lia)];exact q)
def unI{f:aA->Sem aA}{g:Int->Int}
(rule:∀(i:Int)(t:Tok)(s:UA)(Q:aA->UA->Prop) (E:aA->UA->Prop),Q (.int (g i) s.toks) {s with toks:=s.toks+1}->av (UT X.prog X.w) X.A (f (.int i t)) Q E s):
 UnR X f (rU λi=>.int (g i)):=by
 intro J s D H x v Q I B h;obtain⟨i,rfl,q⟩:=h;obtain⟨t,rfl⟩:=B;exact rule i t s _ _ ⟨.int (g i),H,I.tok _,⟨_,rfl⟩,q⟩
def Bu:UnR X (unaryOp .USub) (rU λi=>.int (-i)):=unI λ_ _ _ _ _ q=>neg_int q
end
section
variable{X:Cx}{a b c:X7}{ta tb tc:TE}{pos:Pos}
def Bv(I:Inv X zt σ H s)(q:Q (.bl k) H)(e:k=k'):EP X zt σ Q (.bool k') s:=by subst e;exact⟨.bl k,H,I,rfl,q⟩
def Nn:OpR X (Vt .Lt) (rI0 λi j=>.bl (decide (i<j))):=Ff λ_ _ _ _ _ _ _ q=>lt_int q
def Np:OpR X (Vt .LtE) (rI0 λi j=>.bl (decide (i<=j))):=Ff λ_ _ _ _ _ _ _ q=>le_int q
def Nq:OpR X (Vt .Gt) (rI0 λi j=>.bl (decide (j<i))):=Ff λ_ _ _ _ _ _ _ q=>gt_int q
def Nr:OpR X (Vt .GtE) (rI0 λi j=>.bl (decide (j<=i))):=Ff λ_ _ _ _ _ _ _ q=>ge_int q
def JC:OpR X (Vt .Is) (λx y H Q=>y=.aD/\Q (.bl (decide (x=.aD))) H):=by
 intro L s J H x y v u Q I B D h;obtain⟨rfl,q⟩:=h;cases D;refine is_none_gen (Bv I q ?_);cases x<;>first
  |(cases B;rfl)
  |(obtain⟨t,rfl⟩:=B;rfl)
def Fj:OpR X (Vt .IsNot) (λx y H Q=>y=.aD/\Q (.bl (!decide (x=.aD))) H):=by
 intro L s J H x y v u Q I B D h;obtain⟨rfl,q⟩:=h;cases D;refine isnot_none_gen (Bv I q ?_);cases x<;>first
  |(cases B;rfl)
  |(obtain⟨t,rfl⟩:=B;rfl)
def yt(O:OpR X (Vt op) r)(W:PE X a ta)(V:PE X b tb)(U:YQ op b=ai):PE X (.Compare a [op] [b] pos) (tOp r ta tb):=by intro D s B H Q I h;exact wpAny_Compare1 (Jx W V I h λv u J x y Z Y M L q=>O D J B Z x y v u Q Y M L q) U
def Bw(t:TE):TT:=fun q H Q=>t q H λx B=>∃k,x=.bl k/\Q k B
def yu(D:OpR X (Vt op) r)(M:PE X a ta)(L:PE X b tb)(J:YQ op b=ai):PT X (.Compare a [op] [b] pos) (Bw (tOp r ta tb)):=by
 intro B s q H Q I h;refine wpAny_isTrue_Compare1 (thn (M B s q H _ I h) λv s1 ⟨x,H1,I1,r1,q1⟩=>thn (L B s1 q H1 _ I1 q1) λu s2 ⟨y,H2,I2,r2,q2⟩ =>
  thn (D B s2 q H2 x y v u _ I2 r1 r2 q2) λc s3 ⟨z,H3,I3,r3,k,e,q3⟩=>?_) J
 subst e;cases r3;exact VM ⟨H3,I3,q3⟩
def wM(r J:R2)(ta tb tc:TE):TE:=fun q H Q=>ta q H λx O=>tb q O λy M=>r x y M λz B=>∃k,z=.bl k ∧
 (if k=ah then tc q B λD L=>J y D L Q else Q (.bl ai) B)
def Bx(J:OpR X (Vt op) r)(D:OpR X (Vt op') r')(U:PE X a ta)(O:PE X b tb)(M:PE X c tc)
(L:lastMarks [op,op'] [b,c]=ai:=by with_unfolding_all rfl):PE X (.Compare a [op,op'] [b,c] pos) (wM r r' ta tb tc):=by
 intro B s q H Q I h;refine Compare_chain (thn (U B s q H _ I h) λv s1 ⟨x,H1,I1,r1,q1⟩=>chain_link (thn (O B s1 q H1 _ I1 q1) λu s2 ⟨y,H2,I2,r2,q2⟩ =>
  thn (J B s2 q H2 x y v u _ I2 r1 r2 q2) λd s3 ⟨z,H3,I3,r3,k,e,q3⟩=>?_)) L
 subst e;cases r3;refine VM ?_;cases k with
 |false=>exact ite_ff ⟨.bl ai,H3,I3,rfl,q3⟩|true=>exact ite_tt (chain_last (thn (M B s3 q H3 _ I3 q3) λw' s4 ⟨z',H4,I4,r4,q4⟩=>D B s4 q H4 y z' u w' Q I4 r2 r4 q4))
def By(U:OpR X (Vt op) r)(D:OpR X (Vt op') r')(Z:PE X a ta)(Y:PE X b tb)(W:PE X c tc)
(V:lastMarks [op,op'] [b,c]=ai:=by with_unfolding_all rfl):PT X (.Compare a [op,op'] [b,c] pos) (Bw (wM r r' ta tb tc)):=by
 intro B s q H Q I h;refine isTrue_chain (thn (Z B s q H _ I h) λv s1 ⟨x,H1,I1,r1,q1⟩=>test_link (thn (Y B s1 q H1 _ I1 q1) λu s2 ⟨y,H2,I2,r2,q2⟩ =>
  thn (U B s2 q H2 x y v u _ I2 r1 r2 q2) λd s3 ⟨z,H3,I3,r3,k,e,q3⟩=>?_)) V
 subst e;cases r3;refine VM ?_;cases k with
 |false =>
  obtain⟨m,f,O⟩:=q3;cases f;exact ite_ff ⟨H3,I3,O⟩
 |true =>
  refine ite_tt (test_last (thn (W B s3 q H3 _ I3 q3) λw' s4 ⟨z',H4,I4,r4,q4⟩=>thn (D B s4 q H4 y z' u w' _ I4 r2 r4 q4) λn l J=>?_));obtain⟨j,i,g,L,k2,e2,M⟩:=J;subst e2;cases L;exact VM ⟨i,g,M⟩
def mU:(aj:Nat)<2^63:=by rw[Wz];decide
def wN:OpR X (V6 .Add) (λx y H Q=>∃i j,x=.str i/\y=.str j/\i.length+j.length<=aj/\Q (.str (i++j)) H):=by intro O s M H x y v u Q I J D h;obtain⟨i,j,rfl,rfl,L,q⟩:=h;obtain⟨t,rfl⟩:=J;obtain⟨B,rfl⟩:=D;exact add_str (λB U=>⟨.str (i++j),H,I.tok _,⟨_,rfl⟩,q⟩) L
def vals1(r:dw [x] us):∃u,us=[u]/\RelV x u:=by
 cases r with
 |cons B q=>cases q;exact⟨_,rfl,B⟩
def vals2(r:dw [x,y] us):∃u q,us=[u,q]/\RelV x u/\RelV y q:=by
 cases r with
 |cons L J =>
  cases J with
  |cons D B=>cases B;exact⟨_,_,rfl,L,D⟩
def zZ(D:X.calm=ah):fy X (.builtin "max") (λxs H Q=>∃i j,xs=[.int i,.int j]/\Q (.int (if j>i then j else i)) H):=by
 intro L s J H xs O Q I r h;obtain⟨i,j,rfl,q⟩:=h;obtain⟨u,M,rfl,⟨t,rfl⟩,⟨V,rfl⟩⟩:=vals2 r;refine max_two_ints (I.ok.hd D) λW U k=>⟨_,H,I.aH k,?_,q⟩
 by_cases B:j>i
 rw[bJ B,bJ B];exact⟨_,rfl⟩;rw[bK B,bK B];exact⟨_,rfl⟩
def z4(D:X.calm=ah):fy X (.builtin "min") (λxs H Q=>∃i j,xs=[.int i,.int j]/\Q (.int (if j<i then j else i)) H):=by
 intro L s J H xs O Q I r h;obtain⟨i,j,rfl,q⟩:=h;obtain⟨u,M,rfl,⟨t,rfl⟩,⟨V,rfl⟩⟩:=vals2 r;refine min_two_ints (I.ok.hd D) λW U k=>⟨_,H,I.aH k,?_,q⟩
 by_cases B:j<i
 rw[bJ B,bJ B];exact⟨_,rfl⟩;rw[bK B,bK B];exact⟨_,rfl⟩
def rD:fy X (.type "int") (λxs H Q=>(∃i,xs=[.int i]/\Q (.int i) H)\/∃k,xs=[.bl k]/\Q (.int (if k then 1 else 0)) H):=by
 intro J s D H xs L Q I r h;rcases h with⟨i,rfl,q⟩|⟨k,rfl,q⟩
 ·obtain⟨u,rfl,t,rfl⟩:=vals1 r;exact call_int_int ⟨.int i,H,I,⟨_,rfl⟩,q⟩
 ·obtain⟨u,rfl,B⟩:=vals1 r;cases B;exact call_int_bool ⟨.int (if k then 1 else 0),H,I.tok _,⟨_,rfl⟩,q⟩
end
end L2
namespace L2
open PySem PySem.Spec PyProof.Rows
structure wO(h:aq)(x dx C:az)(mA:ay->Option aA):Prop where
 obj:h.get? x=aa (V3 C dx)
 ns:h.Ns1 dx mA
 ne:dx≠x
def z5{h:aq}{dx:az}{mA:ay->Option aA}(n:h.Ns1 dx mA):∃D,h.get? dx=aa D/\∀name,XQ name D=aa (mA name):=by
 obtain⟨o,J,Y,M,V,U,_,O⟩:=n;refine⟨o,M,λname=>?_⟩;have e:=O name;unfold nsFind findBy at e;rw[←Array.find?_toList]at e;unfold XQ;rw[V];dsimp only;split
 ·rename_i y q;rw[q]at e;exact bR aa e
 ·rename_i q;rw[q]at e;have a:J.toList.any (·.refKey)=ai:=by rw[List.any_eq_false];intro y L;obtain⟨z,t,B⟩:=U y (Array.mem_toList_iff.mp L);simp[DictEntry.refKey,B]
  have W:¬J.toList.any (·.refKey)=ah:=by rw[a];exact Vh
  rw[bK W];exact bR aa e
def wO.look(I:wO h x dx C mA):∃q,PySem.W.InstAt h x (V3 C dx) C (aa q)/\∀name,XQ name q=aa (mA name) :=
 let ⟨q,ho,hl⟩:=z5 I.ns
 ⟨q,⟨I.obj,rfl,rfl,ho⟩,hl⟩
section
variable{prog:UM}{w:U6}{A:VE}{E:aA->UA->Prop}{s:UA}{K:Uv}{x dx C f:az}{mA:ay->Option aA}{name:ay}{v:aA}
def get_map(X:K.In s.heap)(I:wO s.heap x dx C mA)(M:W3 K C name=ah)(L:Wl K C=ah)
(O:Va K (.ref C) name=aa af)(B:mA name=aa v)(q:aam v=ah)(h:Q v {s with toks:=s.toks+1}):
 av (UT prog w) A (getAttr (.ref x) name expr) Q E s:=by
 obtain⟨U,J,D⟩:=I.look;exact PySem.W.get_value X J (XZ M).1 (PySem.W.findObj_own L O rfl (by rw[D,B])) q h
def BA(X:K.In s.heap)(I:wO s.heap x dx C mA)(q:W3 K C name=ah)
(O:Va K (.ref C) name=aa (aa (.ref f)))(L:Yq K (.ref f)=ah)(D:mA name=af)(h:Q (.ref f,[.ref x]) s):
 av (UT prog w) A (ZR (.ref x) name pl) Q E s:=by
 obtain⟨B,J,M⟩:=I.look;exact PySem.W.method_fn X J (XZ q).1 (XZ q).2 O (beq_iff_eq.mp L) (by show(XQ name B).map (·.isSome)=aa ai;rw[M,D];rfl) h
def Fk(X:K.In s.heap)(I:wO s.heap x dx C mA)
(V:Va K (.ref C) "__setattr__"=aa (aa (.builtin "object.__setattr__")))(Y:Yn K C=ah)(U:YF K C name=aa af)(Z:Wl K C=ah)
(hw:ZV mA ns)(hsz:ns.length<=aj)
(h:∀h',wO h' x dx C (λy=>if y=name then aa v else mA y)->VC dx s.heap h'->Q () {s with heap:=h',toks:=s.toks+2}):
 av (UT prog w) A (setAttr (.ref x) name v) Q E s:=by
 obtain⟨f,J,i⟩:=I.look;refine PySem.W.set_plain X J V (PySem.W.osa_open (s:={s with toks:=s.toks+1}) (r:=af) X J Y U λb=>?_);obtain⟨j,c,L⟩:=PySem.W.any_some Z;have O:s.heap.get? x=aa ⟨.ref C,aa dx,.plain,#[]⟩:=I.obj;refine Uw (au (Uw (Uw (wpAny_loadPart O (Uw (PySem.W.Looks.here (s:={s with toks:=s.toks+1}) (PySem.W.looks_clsIn X c) ?_))))));rw[L];refine au (a:=aa dx) (Uw (au (Uw ?_)));refine wpAny_nsSet1 (s:={s with toks:=s.toks+1}) I.ns λh' B q=>?_;obtain⟨g,d,e,D,hdD,M⟩:=B.count (PySem.Within.cons name v hw);refine Uw (wpAny_lookBehind D (by rw[hdD];exact pastItsLine_dict (U3 M (by rw[US];lia))) ?_);exact au (h _ ⟨(q.2 _ (Vu I.ne)).trans I.obj,B,I.ne⟩ q)
def BB(X:K.In s.heap)(B:YG K C=ah)
(hi:Va K (.ref C) "__init__"=aa (aa (.ref f)))(D:PySem.W.typeIn K (.ref f)=aa (.type "function"))
(h:ak (UT prog w) (A.under (.builtin "type.__call__" ⟨.ref C::vs,kw⟩)) (.call (.ref f) ⟨.ref (s.heap.objs.size+1)::vs,kw⟩) (PySem.W.InitBack (s.heap.objs.size+1) R)
  { s with heap:=(s.heap.push VF).push (V3 C s.heap.objs.size) }):
 ak (UT prog w) A (.call (.ref C) ⟨vs,kw⟩) R s:=by
 obtain⟨J,g,d,t,os⟩:=s;exact PySem.W.make_core (PySem.W.makes_of X B) (PySem.W.looks_findIn X hi) (λq=>PySem.W.bind_fn X q D) (.inl rfl) h
end
noncomputable def eH(f:ay)(v:V):List (ay×V)->List (ay×V)
 |[]=>[(f,v)]
 |(g,x)::r=>if g=f then(g,v)::r else(g,x)::eH f v r
theorem nE(f g:ay)(v:V):∀fs:List (ay×V),(eH f v fs).lookup g=if g=f then aa v else fs.lookup g
 |[]=>by
  show WH g [(f,v)]=_
  by_cases h:g=f
  ·have q:(g==f)=ah:=beq_iff_eq.mpr h;simp only[WH,q,bJ h]
  ·have q:(g==f)=ai:=beq_eq_false_iff_ne.mpr h;simp only[WH,q,bK h]
 |(k,x)::r=>by
  have D:=nE f g v r;rw[show eH f v ((k,x)::r)=(if k=f then(k,v)::r else(k,x)::eH f v r) from rfl]
  by_cases B:k=f
  ·rw[bJ B]
   by_cases h:g=k
   ·have q:(g==k)=ah:=beq_iff_eq.mpr h;simp only[WH,q,bJ (h.trans B)]
   ·have q:(g==k)=ai:=beq_eq_false_iff_ne.mpr h;simp only[WH,q,bK (λe:g=f=>h (e.trans B.symm))]
  ·rw[bK B]
   by_cases h:g=k
   ·have q:(g==k)=ah:=beq_iff_eq.mpr h;simp only[WH,q,bK (λe:g=f=>B (h.symm.trans e))]
   ·have q:(g==k)=ai:=beq_eq_false_iff_ne.mpr h;simp only[WH,q];exact D
theorem mV(f:ay)(v:V):∀fs:List (ay×V),f∈(eH f v fs).map (·.1)/\∀g,g∈fs.map (·.1)->g∈(eH f v fs).map (·.1)
 |[]=>⟨by simp[eH],λg h=>by simp at h⟩
 |(k,x)::r=>by
  obtain⟨D,B⟩:=mV f v r;rw[show eH f v ((k,x)::r)=(if k=f then(k,v)::r else(k,x)::eH f v r) from rfl]
  by_cases q:k=f
  ·rw[bJ q];subst q;exact⟨by simp,λg h=>by simpa using h⟩
  ·rw[bK q];refine⟨?_,λg h=>?_⟩
   ·rw[UQ];exact UC _ D
   ·rw[UQ]at h⊢;rcases List.mem_cons.mp h with e|e
    exact List.mem_cons.mpr (.inl e);exact UC _ (B g e)
theorem nF(f:ay)(v:V):∀fs:List (ay×V),(eH f v fs).length<=fs.length+1
 |[]=>by simp[eH]
 |(k,x)::r=>by
  have B:=nF f v r;rw[show eH f v ((k,x)::r)=(if k=f then(k,v)::r else(k,x)::eH f v r) from rfl]
  by_cases q:k=f
  rw[bJ q,US,US];lia;rw[bK q,US,US];lia
def oR.some_of(r:oR (aa v) o):∃u,o=aa u/\RelV v u:=by
 cases o with
 |none=>exact(show False from r).elim|some u=>exact⟨u,rfl,r⟩
def oR.none_of(r:oR af o):o=af:=by
 cases o with
 |none=>rfl|some u=>exact(show False from r).elim
def z6(r:RelV v u):aam u=ah:=by
 cases v with
 |aD=>cases (show u=WX from r);rfl|bl b=>cases (show u=aaC b from r);rfl|int i=>obtain⟨t,e⟩:=(show ∃t,u=Xf i t from r);cases e;rfl|str x=>obtain⟨t,e⟩:=(show ∃t,u=ZT x t from r);cases e;rfl|byt b=>obtain⟨t,e⟩:=(show ∃t,u=Value.bytes b t from r);cases e;rfl|flt b=>obtain⟨t,e⟩:=(show ∃t,u=Value.float b t from r);cases e;rfl|ref a=>cases (show u=Vz a from r);rfl|ty n=>cases (show u=Xr n from r);rfl
section
variable{P:UM}{w:U6}{H H':Hp}{h h':aq}{a C dx:az}{fs fs':List (ay×V)}
def lJ(D:HOk P w H h)(e:H a=aa (.ins C dx fs)):∃mA,wO h a dx C mA/\(∀f,oR (fs.lookup f) (mA f))/\ZV mA (fs.map (·.1))/\fs.length<=1000/\H dx=aa (.own a):=by obtain⟨d,z,B,ob,mA,n,r,q⟩:=(show fZ P w H h a (.ins C dx fs) from D a _ e);exact⟨mA,⟨ob,n,B⟩,r,q,z,d⟩
end
structure Cls(K:Uv)(C:az):Prop where
 pg:W3 K C Str.empty=ah
 hd:Wl K C=ah
 po:Yn K C=ah
 sa:Va K (.ref C) "__setattr__"=aa (aa (.builtin "object.__setattr__"))
def Cls.get{K:Uv}{C:az}(c:Cls K C)(f:ay):W3 K C f=ah:=c.pg
def jP(K:Uv)(C:az)(f:ay):Prop:=Va K (.ref C) f=aa af
def jP.Nt{K:Uv}{C:az}{f:ay}(n:jP K C f):YF K C f=aa af:=by unfold YF;rw[show Va K (.ref C) f=aa af from n];rfl
structure z7(K:Uv)(C:az)(m:ay)(f:az):Prop where
 at_:Va K (.ref C) m=aa (aa (.ref f))
 fn:Yq K (.ref f)=ah
 kp:VH K (.ref f)=ah
section
variable{X:Cx}{zt:List (az×ao)}{σ:St}{H:Hp}{s:UA}{a C dx:az}{fs:List (ay×V)}{f:ay}{v:V}{A:VE}{E:aA->UA->Prop}
def oW(I:Inv X zt σ H s)(e:H a=aa (.ins C dx fs))(c:Cls X.K C)(n:jP X.K C f)(l:fs.lookup f=aa v)
(h:∀u s',Inv X zt σ H s'->RelV v u->Q u s'):av (UT X.prog X.w) A (getAttr (.ref a) f b) Q E s:=by
 obtain⟨B,O,r,_,_,_⟩:=lJ I.aJ e;obtain⟨u,D,q⟩:=oR.some_of (v:=v) (o:=B f) (by rw[←l];exact r f);exact get_map I.kIn O (c.get f) c.hd n D (z6 q) (h u _ (I.tok _) q)
def k9(I:Inv X zt σ H s)(e:H a=aa (.ins C dx fs))(c:Cls X.K C)(k:z7 X.K C m g)(l:fs.lookup m=af)
(h:Q (.ref g,[.ref a]) s):av (UT X.prog X.w) A (ZR (.ref a) m pl) Q E s:=by
 obtain⟨q,O,r,_,_,_⟩:=lJ I.aJ e;have hn:q m=af:=oR.none_of (by rw[←l];exact r m);exact BA I.kIn O (c.get m) k.at_ k.fn hn h
def oX(I:Inv X zt σ H s)(e:H a=aa (.ins C dx fs))(c:Cls X.K C)(n:jP X.K C f)(d:fs.length<1000)(U:RelV y u)
(h:∀s',Inv X zt σ (upd H a (.ins C dx (eH f y fs))) s'->Q () s'):av (UT X.prog X.w) A (setAttr (.ref a) f u) Q E s:=by
 obtain⟨J,O,r,D,_,L⟩:=lJ I.aJ e;have V:(fs.map (·.1)).length<=aj:=by rw[UI,Wz];lia
 refine Fk I.kIn O c.sa c.po n.Nt c.hd D V λZ B M=>h _ ?_;have hd:∃o,Z.get? dx=aa o:=let ⟨o,_,_,e',_⟩:=B.ns;⟨o,e'⟩;refine I.write (x:=a) (e:=dx) (by rw[e];exact V9) (.inr L) (λb q Y z=>(M.2 b Y).trans z) hd ?_;refine⟨by rw[dj O.ne];exact L,?_,O.ne,B.obj,_,B.ns,λg=>?_,λg W=>?_⟩;have:=nF f y fs;lia
 ·show oR ((eH f y fs).lookup g) (if g=f then aa u else J g);rw[nE]
  by_cases q:g=f
  rw[bJ q,bJ q];exact U;rw[bK q,bK q];exact r g
 ·by_cases q:g=f
  rw[q];exact(mV f y fs).1
  ·refine(mV f y fs).2 g (D g λz=>W ?_);show(if g=f then aa u else J g)=af;rw[bK q];exact z
def Inv.made(I:Inv X zt σ H s):Inv X zt σ (upd (upd H s.heap.objs.size (.own (s.heap.objs.size+1))) (s.heap.objs.size+1) (.ins C s.heap.objs.size []))
 {s with heap:=(s.heap.push VF).push (V3 C s.heap.objs.size)}:=by
 have e1:(s.heap.push VF).get? s.heap.objs.size=aa VF:=UG s.heap rfl;have e2:((s.heap.push VF).push (V3 C s.heap.objs.size)).get? (s.heap.objs.size+1)=aa (V3 C s.heap.objs.size):=by
  have:=UG (s.heap.push VF) (o:=V3 C s.heap.objs.size) rfl
  rwa [VP]at this
 have L:(s.heap.push VF).Ns s.heap.objs.size (λ_=>af):=⟨VF,#[],_,e1,rfl,(λe J=>bL J (by simp)),λ_=>rfl⟩;have M:=I.laid (a:=s.heap.objs.size) (o:=.own (s.heap.objs.size+1)) (h':=s.heap.push VF) (t':=s.toks) (λb u q=>Ux _ q) (UE _) ⟨_,e1⟩;refine M.laid (a:=s.heap.objs.size+1) (o:=.ins C s.heap.objs.size []) (t':=s.toks) (λb u q=>Ux _ q) (Nat.le_of_eq (VP _ _)) ?_;have B:s.heap.objs.size≠s.heap.objs.size+1:=U0 (Wd _);refine⟨by rw[dj B,dG],Vx _,B,e2,λ_=>af,(Heap.Ns1.of_empty L).at λo q=>Ux _ q,λ_=>V9,λy D=>bL rfl D⟩
def Fo(B:XY e f env (eval e env)=eval e env)
(h:av (UT prog w) A (eval e env) (λo q=>av (UT prog w) A (getAttr o f ah) Q E q) E s):av (UT prog w) A (eval (.Attribute e f pos) env) Q E s :=
 Attribute_any_ h (by rw[arm_eval_Attribute,B])
end
def QU(K:Uv)(ta:TE)(f:ay):TE:=fun B H Q=>ta B H λx q=>∃a C D fs v,x=.ref a/\q a=aa (.ins C D fs)/\Cls K C/\jP K C f/\fs.lookup f=aa v/\Q v q
def Nu(K:Uv)(ta tv:TE)(f:ay):TS:=λD q H=>tv q H λy L=>ta q L λx J=>∃a C B fs,x=.ref a/\J a=aa (.ins C B fs)/\Cls K C/\jP K C f/\fs.length<1000 ∧
 D.nx q (upd J a (.ins C B (eH f y fs)))
def QV(X:Cx)(D:X4)(rd:V->V->Hp->VK->Prop):Prop :=
 ∀(B:List (az×ao)) (s:UA) (q:St) (H:Hp) (x y:V) (u v:aA) (Q:VK),Inv X B q H s->RelV x u->RelV y v->rd x y H Q->av (UT X.prog X.w) X.A (inplaceOp D u v) (EP X B q Q) X.xe s
def yv(K:Uv)(ta tv:TE)(rd:V->V->Hp->VK->Prop)(f:ay):TS:=λD J H=>ta J H λx M=>∃a C O fs v,x=.ref a/\M a=aa (.ins C O fs)/\Cls K C/\jP K C f/\fs.lookup f=aa v ∧
 tv J M λy U=>rd v y U λz L=>∃B q,L a=aa (.ins C B q)/\q.length<1000/\D.nx J (upd L a (.ins C B (eH f z q)))
section
variable{X:Cx}{o e value:X7}{f:ay}{pos pos' tpos:Pos}{ta tv:TE}
def JD(O:PE X e ta)(U:XY e f X.env (eval e X.env)=eval e X.env):PE X (.Attribute e f pos) (QU X.K ta f):=by intro D s B H Q I h;refine Fo U (thn (O D s B H _ I h) λu g J=>?_);obtain⟨x,Z,Y,L,a,C,i,fs,v,ex,V,c,n,l,q⟩:=J;subst ex;obtain rfl:u=Vz a:=L;exact oW Y V c n l λb d W M=>⟨v,Z,W,M,q⟩
def JE(O:PE X o ta)(L:PE X value tv)(M:Xn value (aa (.Attribute o f pos')) pos.line X.env=pure ai):PS X (.Assign [.Attribute o f pos'] value pos) (Nu X.K ta tv f):=by intro J s B H D I h;refine plainObj_wpAny_Assign_Attribute (thn (L J s B H _ I h) λu s1 ⟨y,H1,I1,ry,q⟩=>thn (O J s1 B H1 _ I1 q) λov s2 ⟨x,H2,I2,rx,a,C,dx,fs,ex,ea,c,n,l,q2⟩=>?_) M;subst ex;obtain rfl:ov=Vz a:=rx;exact oX I2 ea c n l ry λV U=>⟨B,_,U,q2⟩
def z8(g:PE X o ta)(e:PE X value tv)(M:QV X op rd):PS X (.AugAssign (.Attribute o f tpos) op value pos) (yv X.K ta tv rd f):=by intro J s B H D I h;refine wpAny_AugAssign_AttributeAny (thn (g J s B H _ I h) λb G L=>?_);obtain⟨x,w,t,W,a,C,N,fs,v,ex,j,c,n,l,q⟩:=L;subst ex;obtain rfl:b=Vz a:=W;refine oW t j c n l λu U r Y=>thn (e J U B w _ r q) λw3 s3 ⟨y,H2,I3,ry,q3⟩=>thn (M J s3 B H2 v y u w3 _ I3 Y ry q3) λA F L=>?_;obtain⟨z,P,p,V,k,i,O,d,Z⟩:=L;exact oX p O c n d V λE m=>⟨B,_,m,Z⟩
end
section
variable{X:Cx}{zt:List (az×ao)}{σ:St}{H:Hp}{s:UA}{A:VE}{E:aA->UA->Prop}{Q:aA->UA->Prop}{c:aA}{b:Bool}
end
end L2
namespace L2
open PySem PySem.Spec PyProof.Rows
structure fG(k:Nat)(A:VE):Prop where
 hd:A.handled=af
 dp:A.depth+3*k+5<recursionLimit
 un:A.units+16*k+200<cLine
def fG.mono(r:fG k A)(h:j<=k):fG j A:=⟨r.hd,by have:=r.dp;lia,by have:=r.un;lia⟩
def fG.deeper(r:fG (k+1) A)(env:Env):fG k (A.deeper env) :=
 ⟨r.hd,by have:=r.dp;show A.depth+1+3*k+5<_;lia,by have:=r.un;show A.units+3+16*k+200<_;lia⟩
def wQ{A:VE}{C:az}{us:List aA}{kw:List (ay×aA)}:(A.under (.builtin "type.__call__" ⟨.ref C::us,kw⟩)).depth=A.depth+1:=by first|rfl|simp[ZN,Code.weight,Code.isCreation,Code.isGuard,Code.isCaller,Code.frames,Z7,guardIds]
def wR{A:VE}{C:az}{us:List aA}{kw:List (ay×aA)}:(A.under (.builtin "type.__call__" ⟨.ref C::us,kw⟩)).units=A.units+1:=by first|rfl|simp[ZN,Code.cUnits,Code.frames,Z7]
def fG.make(r:fG (k+1) A)(C:az)(us:List aA)(kw:List (ay×aA)):fG k (A.under (.builtin "type.__call__" ⟨.ref C::us,kw⟩)) :=
 ⟨r.hd,by have:=r.dp;rw[wQ];lia,by have:=r.un;rw[wR];lia⟩
def fG.depth(r:fG k A):A.depth<recursionLimit:=by have:=r.dp;lia
def BD:TA:=λ_ H Q=>Q [] H
def IC(ta:TE)(tr:TA):TA:=fun q H Q=>ta q H λx J=>tr q J λB D=>Q (x::B) D
section
variable{X:Cx}{e:X7}{es:List X7}{te:TE}{t:TA}{pos:Pos}
def sM:PA X [] BD:=λ_ _ _ _ H Q I h=>WZ ⟨[],H,I,.nil,h⟩
def jm(W:PE X e te)(V:PA X es t)(U:U9 (e::es) X.env=(ai,eval e X.env)::U9 es X.env:=by rfl):PA X (e::es) (IC te t):=by intro q D s B H Q I h;rw[U];show av _ _ (Zd ((ai,eval e X.env)::WA q (U9 es X.env))) _ _ s;refine Wf (thn (W D s B H _ I h) λu L J=>?_);obtain⟨x,Z,Y,M,O⟩:=J;exact thn (V q D L B Z _ Y O) λus s2 ⟨xs,H2,I2,r2,q2⟩=>⟨x::xs,H2,I2,.cons M r2,q2⟩
def JF(t:TA):TE:=fun D H Q=>t D H λq B=>q.length<=aj/\∀p,B p=af->Q (.ref p) (upd B p (.aC q))
def Nv(t:TA):TE:=fun D H Q=>t D H λq B=>q.length<=aj/\∀p,B p=af->Q (.ref p) (upd B p (.aB q))
def BE{x1}(h:PA X es t):PE X (.Tuple es x1 pos) (JF t):=by intro D s B H Q I J;refine wpAny_Tuple_spliced (thn (h pos D s B H _ I J) λus s1 ⟨xs,H1,I1,r,z,q⟩=>⟨by rw[←r.length];exact z,?_⟩);have L:H1 s1.heap.objs.size=af:=I1.aJ.fresh (UE _);refine⟨.ref s1.heap.objs.size,upd H1 s1.heap.objs.size (.aC xs),I1.laid (t':=s1.toks) (λb u e=>Ux _ e) (UE _) ?_,rfl,q _ L⟩;exact⟨z,us,r,⟨_,UG _ rfl,rfl,_,rfl⟩⟩
def JG(h:PA X es t):PE X (.List es pos) (Nv t):=by intro D s B H Q I J;refine wpAny_List_spliced (thn (h pos D s B H _ I J) λus s1 ⟨xs,H1,I1,r,z,q⟩=>⟨by rw[←r.length];exact z,?_⟩);have L:H1 s1.heap.objs.size=af:=I1.aJ.fresh (UE _);refine⟨.ref s1.heap.objs.size,upd H1 s1.heap.objs.size (.aB xs),I1.laid (t':=s1.toks) (λb u e=>Ux _ e) (UE _) ?_,rfl,q _ L⟩;exact⟨z,us,0,r,UG _ rfl⟩
end
abbrev Sp:=List V->Hp->VK->XK->Prop
abbrev CXT:=List Env->Hp->UA->XK->aA->UA->Prop
structure oY(P:UM)(w:U6)(K:Uv)(mg:ay->Option aA)(base:aq)(A:VE)(outer:List Env)(s:UA)(H:Hp):Prop where
 frames:A.frames=aa outer
 mod:Mod K mg base
 bs:∀b o,base.get? b=aa o->s.heap.get? b=aa o/\H b=af
 bsz:base.objs.size<=s.heap.objs.size
 kR:s.heap.FunFrames base outer
 frf:∀b∈frs outer,H b=af
 aJ:HOk P w H s.heap
 bare:Zr s.gens
inductive CE(outer:List Env)(P:UM)(w:U6)(H:Hp)(s:UA)(Q:VK)(u:aA)(s':UA):Prop
 |mk(v:V)(H':Hp)(os:s'.os=s.os)(b:Zr s'.gens)(un:Un (frs outer) [] H H' s.heap s'.heap)(B:HOk P w H' s'.heap)(r:RelV v u)(q:Q v H'):CE outer P w H s Q u s'
def CR(CX:CXT)(outer:List Env)(P:UM)(w:U6)(H:Hp)(s:UA)(Q:VK)(E:XK)(r:ZU)(s':UA):Prop :=
 match r with
 |.ok (.ret u)=>CE outer P w H s Q u s'|.ok _=>False|.error e=>CX outer H s E e s'
structure jn(P:UM)(w:U6)(K:Uv)(mg:ay->Option aA)(base:aq)(CX:CXT)(k:Nat)(f:az)(fd:V8)(ps:List ay)(sp:Sp):Prop where
 len:∀vs H Q E,sp vs H Q E->vs.length=ps.length
 run:∀(A:VE)(outer:List Env)(s:UA)(H:Hp) (args:Args) (us:List aA) (vs:List V) (Q:VK) (E:XK),fG k A->oY P w K mg base A outer s H->BindsTo s fd args (ps.zip us)->dw vs us->sp vs H Q E →
  ak (UT P w) A (.call (.ref f) args) (CR CX outer P w H s Q E) s
def oY.make{P:UM}{w:U6}{K:Uv}{mg:ay->Option aA}{base:aq}{A:VE}{outer:List Env}{s:UA}{H:Hp}(e:oY P w K mg base A outer s H)(C:az)(us:List aA)(kw:List (ay×aA)):
 oY P w K mg base (A.under (.builtin "type.__call__" ⟨.ref C::us,kw⟩)) outer s H:=⟨by first|exact e.frames|(simpa [ZN,Code.envs,Z7,pushEnvs]using e.frames),e.mod,e.bs,e.bsz,e.kR,e.frf,e.aJ,e.bare⟩
section
variable{X:Cx}{zt:List (az×ao)}{σ:St}{H:Hp}{s s':UA}
def Inv.JH(I:Inv X zt σ H s):oY X.prog X.w X.K X.mg X.base X.A X.stack s H :=
 ⟨I.ok.frames,I.ok.mod,I.bs,U3 I.ok.bsz I.sz,I.stack,I.sI,I.aJ,I.bare⟩
def Inv.after(I:Inv X zt σ H s)(h:CE X.stack X.prog X.w H s Q u s'):EP X zt σ Q u s':=by obtain⟨v,M,os,B,un,L,r,q⟩:=h;obtain⟨J,g,d,t,D⟩:=s';obtain rfl:D=s.os:=os;exact⟨v,M,I.call (h':=J) (g':=g) (d':=d) (t':=t) (ch:=[]) un L B (λb z=>bL z (by simp)),r,q⟩
end
def BH(sp:Sp)(dvs:List V)(E:XK)(t:TA):TE:=fun q H Q=>t q H λB D=>sp (B++dvs) D Q E
def BI(C:az)(m:ay)(sp:Sp)(dvs:List V)(E:XK)(ta:TE)(t:TA):TE:=fun q H Q=>ta q H λx B=>∃a J fs,x=.ref a/\B a=aa (.ins C J fs)/\fs.lookup m=af ∧
 t q B λD L=>sp (x::(D++dvs)) L Q E
def BJ(C:az)(sp:Sp)(dvs:List V)(E:XK)(t:TA):TE:=fun D H Q=>t D H λJ B=>∀x q,B x=af->B q=af->q≠x →
 sp (.ref x::(J++dvs)) (upd (upd B q (.own x)) x (.ins C q [])) (λv L=>v=.aD/\Q (.ref x) L) E
def Binds(K:Uv)(fd:V8)(ps:List ay)(ds:List aA):Prop :=
 ∀(s:UA)(q:List aA),K.In s.heap->(q++ds).length=ps.length->BindsTo s fd ⟨q,[]⟩ (ps.zip (q++ds))
def Binds.all{K:Uv}{fd:V8}{ps:List ay}(h:∀us:List aA,us.length=ps.length->ZG fd ⟨us,[]⟩=pure (ps.zip us)):Binds K fd ps []:=λs us _ q=>by rw[U8]at q⊢;exact .of_eq (h us q)
def jo(CX:CXT)(X:Cx)(E:XK):Prop:=∀(D:List (az×ao)) (B:St) (H:Hp) (s:UA) (e:aA) (q:UA),Inv X D B H s->CX X.stack H s E e q->X.xe e q
section
variable{X:Cx}{CX:CXT}{k:Nat}{f C:az}{fd:V8}{ps:List ay}{sp:Sp}{dvs:List V}{ds:List aA}{E:XK}{x m:ay}{p pos apos:Pos}{e o:X7}{es:List X7}{ta:TE}{t:TA}
def oZ(F:jn X.prog X.w X.K X.mg X.base CX k f fd ps sp)(L:fG k X.A)(U:Binds X.K fd ps ds)(O:dw dvs ds)(J:jo CX X E)
(I:Inv X zt σ H s)(r:dw vs us)(h:sp (vs++dvs) H Q E):av (UT X.prog X.w) X.A (call (.ref f) us) (EP X zt σ Q) X.xe s:=by
 have B:dw (vs++dvs) (us++ds):=r.append O;have M:(us++ds).length=ps.length:=by rw[←B.length];exact F.len _ _ _ _ h
 refine XM (codeAny_mono (F.run X.A X.stack s H ⟨us,[]⟩ (us++ds) (vs++dvs) Q E L I.JH (U s us I.kIn M) B h) λr D q=>?_);cases r with
 |error e=>exact J zt σ H s e D I q
 |ok V =>
  cases V with
  |ret u=>exact I.after q|_=>exact Vo q
def Fp(F:jn X.prog X.w X.K X.mg X.base CX k f fd ps sp)(O:fG k X.A)(W:Gl X x)(U:X.mg x=aa (.ref f))(V:VH X.K (.ref f)=ah)(a:Binds X.K fd ps ds)(Z:dw dvs ds)(M:jo CX X E)
(b:PA X (e::es) t)(D:(x==("__debug__":ay))=ai:=by decide)(Y:U9 (e::es) X.env=(ai,eval e X.env)::U9 es X.env:=by rfl)(B:(WA pos (U9 es X.env)).any (·.1)=ai:=by rfl):
 PE X (.Call (.Name x p) (e::es) [] pos) (BH sp dvs E t):=by
 intro L s J H Q I h;refine VO (lH I W U ?_ D);refine WK (h₀:=X.base) I.ok.mod.kin V (thn (b pos L s J H _ I h) λus s1 ⟨vs,H1,I1,r,q⟩=>⟨I1.kIn,?_⟩) Y B;exact oZ F O a Z M I1 r q
def BK(F:jn X.prog X.w X.K X.mg X.base CX k f fd ps sp)(D:fG k X.A)(M:Gl X x)(J:X.mg x=aa (.ref f))(L:VH X.K (.ref f)=ah)(U:Binds X.K fd ps ds)(O:dw dvs ds)(B:jo CX X E)
(q:(x==("__debug__":ay))=ai:=by decide):PE X (.Call (.Name x p) [] [] pos) (BH sp dvs E BD):=by
 intro W s V H Q I h;refine VO (lH I M J ?_ q);exact X0 I.kIn L (oZ (us:=[]) F D U O B I .nil h)
def Fq(W:PE X o ta)(c:Cls X.K C)(M:z7 X.K C m f)(F:jn X.prog X.w X.K X.mg X.base CX k f fd ps sp)(V:fG k X.A)(Z:Binds X.K fd ps ds)(Y:dw dvs ds)(O:jo CX X E)(b:PA X (e::es) t)
(B:U9 (e::es) X.env=(ai,eval e X.env)::U9 es X.env:=by rfl)(D:(WA pos (U9 es X.env)).any (·.1)=ai:=by rfl)
(U:eval (.Call (.Attribute o m apos) (e::es) [] pos) X.env=(do
  let ov ←eval o X.env
  ZP apos.atName
  let (f,first) ←XX [ov] (ZR ov m pl)
  callWith pos f first (WA pos (U9 (e::es) X.env)) (YR pos (Xp [] X.env))):=by rfl):
 PE X (.Call (.Attribute o m apos) (e::es) [] pos) (BI C m sp dvs E ta t):=by
 intro L s J H Q I h;refine XD (pl:=pl) (thn (W L s J H _ I h) λu s1 ⟨x,H1,I1,rx,a,dx,fs,ex,ea,l,q⟩=>?_) U;subst ex;obtain rfl:u=Vz a:=rx;refine k9 I1 ea c M l ?_;refine WK (first:=[.ref a]) (h₀:=X.base) I.ok.mod.kin M.kp (thn (b pos L s1 J H1 _ I1 q) λus s2 ⟨vs,H2,I2,r,q2⟩=>⟨I2.kIn,?_⟩) B D;exact oZ (us:=.ref a::us) (vs:=.ref a::vs) F V Z Y O I2 (.cons rfl r) q2
def BN(U:PE X o ta)(c:Cls X.K C)(B:z7 X.K C m f)(F:jn X.prog X.w X.K X.mg X.base CX k f fd ps sp)(O:fG k X.A)(W:Binds X.K fd ps ds)(V:dw dvs ds)(L:jo CX X E)
(M:eval (.Call (.Attribute o m apos) [] [] pos) X.env=(do
  let ov ←eval o X.env
  ZP apos.atName
  let (f,first) ←XX [ov] (ZR ov m pl)
  callWith pos f first (WA pos (U9 [] X.env)) (YR pos (Xp [] X.env))):=by rfl):
 PE X (.Call (.Attribute o m apos) [] [] pos) (BI C m sp dvs E ta BD):=by
 intro J s D H Q I h;refine XD (pl:=pl) (thn (U J s D H _ I h) λu s1 ⟨x,H1,I1,rx,a,dx,fs,ex,ea,l,q⟩=>?_) M;subst ex;obtain rfl:u=Vz a:=rx;refine k9 I1 ea c B l ?_;exact X0 (first:=[.ref a]) I1.kIn B.kp (oZ (us:=[.ref a]) (vs:=[.ref a]) F O W V L I1 (.cons rfl .nil) q)
structure Mk(K:Uv)(C f:az):Prop where
 makes:YG K C=ah
 init:Va K (.ref C) "__init__"=aa (aa (.ref f))
 fn:Yq K (.ref f)=ah
 kp:VH K (.ref C)=ah
def uT(M:Mk X.K C f)(F:jn X.prog X.w X.K X.mg X.base CX k f fd ps sp)(Y:fG (k+1) X.A)(b:Binds X.K fd ps ds)(a:dw dvs ds)
(W:jo CX X E)(I:Inv X zt σ H s)(r:dw vs us)
(h:∀x dx,H x=af->H dx=af->dx≠x->sp (.ref x::(vs++dvs)) (upd (upd H dx (.own x)) x (.ins C dx [])) (λv H2=>v=.aD/\Q (.ref x) H2) E):
 av (UT X.prog X.w) X.A (call (.ref C) us) (EP X zt σ Q) X.xe s:=by
 have J:=h (s.heap.objs.size+1) s.heap.objs.size (I.aJ.fresh (VJ _)) (I.aJ.fresh (UE _)) (U0 (Wd _));have B:=Inv.made (C:=C) I;have D:dw (V.ref (s.heap.objs.size+1)::(vs++dvs)) (Vz (s.heap.objs.size+1)::(us++ds)):=.cons rfl (r.append a);have Z:(Vz (s.heap.objs.size+1)::us++ds).length=ps.length:=by have e:=D.length;rw[F.len _ _ _ _ J]at e;exact e.symm
 refine XM (BB (f:=f) I.kIn M.makes M.init (beq_iff_eq.mp M.fn) (codeAny_mono (F.run _ X.stack _ _ ⟨Vz (s.heap.objs.size+1)::us,[]⟩ (Vz (s.heap.objs.size+1)::(us++ds)) _ _ E (Y.make C us [])
  (B.JH.make C us []) (b _ (Vz (s.heap.objs.size+1)::us) B.kIn Z) D J) λr L q=>?_))
 cases r with
 |error e=>exact W zt σ _ _ e L B q
 |ok c =>
  cases c with
  |ret u =>
   obtain⟨v,g,d,O,ev,U⟩:=B.after q;subst ev;exact⟨O,⟨V.ref (s.heap.objs.size+1),g,d,rfl,U⟩⟩
  |_=>exact Vo q
def Ft(M:Mk X.K C f)(F:jn X.prog X.w X.K X.mg X.base CX k f fd ps sp)(U:fG (k+1) X.A)(W:Gl X x)(V:X.mg x=aa (.ref C))(a:Binds X.K fd ps ds)(Z:dw dvs ds)(O:jo CX X E)
(b:PA X (e::es) t)(D:(x==("__debug__":ay))=ai:=by decide)(Y:U9 (e::es) X.env=(ai,eval e X.env)::U9 es X.env:=by rfl)(B:(WA pos (U9 es X.env)).any (·.1)=ai:=by rfl):
 PE X (.Call (.Name x p) (e::es) [] pos) (BJ C sp dvs E t):=by
 intro L s J H Q I h;refine VO (lH I W V ?_ D);refine WK (h₀:=X.base) I.ok.mod.kin M.kp (thn (b pos L s J H _ I h) λus s1 ⟨vs,H1,I1,r,q⟩=>⟨I1.kIn,?_⟩) Y B;exact uT M F U a Z O I1 r q
def BO(M:Mk X.K C f)(F:jn X.prog X.w X.K X.mg X.base CX k f fd ps sp)(D:fG (k+1) X.A)(L:Gl X x)(J:X.mg x=aa (.ref C))(U:Binds X.K fd ps ds)(O:dw dvs ds)(B:jo CX X E)
(q:(x==("__debug__":ay))=ai:=by decide):PE X (.Call (.Name x p) [] [] pos) (BJ C sp dvs E BD):=by
 intro W s V H Q I h;refine VO (lH I L J ?_ q);exact X0 I.kIn M.kp (uT (us:=[]) M F D U O B I .nil h)
end
section
variable{X:Cx}{CX:CXT}{k:Nat}{f C:az}{fd:V8}{ps ks:List ay}{sp:Sp}{E:XK}{x m:ay}{p pos apos kpos:Pos}{e o:X7}{es:List X7}{kws:List XI}{te ta:TE}{t tk:TA}{nm:Option ay}
variable{g:List aA->List aA->List aA}{gV:List V->List V->List V}
end
structure gf(N P:List ay)(sc:Vf):Prop where
 kind:sc.kind=.function
 co:sc.isCoroutine=ai
 gen:sc.isGenerator=ai
 nd:N.Nodup
 pre:N.take P.length=P
 par:∀x∈P,sc.names.lookup x=aa .local\/sc.names.lookup x=aa .cell
 nofree:∀y∈sc.names,y.2≠.free
theorem rE{kindOf:ay->Option WD}{x:ay}:∀{binds:List (ay×aA)}{m:ay->Option aA},(∀v,(x,v)∉binds)->bindL kindOf binds m x=m x
 |[],_,_=>rfl
 |(n,v)::r,m,h=>by
  unfold bindL;rw[rE λw hw=>h w (UC _ hw)];split
  ·have:x≠n:=by rintro rfl;exact h v UH
   simp[this]
  rfl
theorem rF{kindOf:ay->Option WD}{x:ay}:∀{binds:List (ay×aA)}{m:ay->Option aA},(∀v,(x,v)∉binds)->bindC kindOf binds m x=m x
 |[],_,_=>rfl
 |(n,v)::r,m,h=>by
  unfold bindC;rw[rF λw hw=>h w (UC _ hw)];split;rfl
  ·have:x≠n:=by rintro rfl;exact h v UH
   simp[this]
theorem rG{kindOf:ay->Option WD}{x:ay}{v:aA}:∀{P:List ay}{vs:List aA}{i:Nat}{m:ay->Option aA},P.Nodup->P[i]?=aa x->vs[i]?=aa v->kindOf x=aa .local →
 bindL kindOf (P.zip vs) m x=aa v
 |[],_,_,_,_,h,_,_=>by simp at h
 |_::_,[],_,_,_,_,h,_=>by simp at h
 |p::P,w::vs,0,m,nd,h1,h2,hk=>by simp at h1 h2;subst h1;subst h2;show bindL kindOf ((p,w)::P.zip vs) m p=_;unfold bindL;rw[rE λv q=>(List.nodup_cons.mp nd).1 (XS q).1,bJ hk];simp
 |p::P,w::vs,i+1,m,nd,h1,h2,hk=>by show bindL kindOf ((p,w)::P.zip vs) m x=_;unfold bindL;exact rG (i:=i) (List.nodup_cons.mp nd).2 (by simpa using h1) (by simpa using h2) hk
theorem rH{kindOf:ay->Option WD}{x:ay}{v:aA}:∀{P:List ay}{vs:List aA}{i:Nat}{m:ay->Option aA},P.Nodup->P[i]?=aa x->vs[i]?=aa v->kindOf x≠aa .local →
 bindC kindOf (P.zip vs) m x=aa v
 |[],_,_,_,_,h,_,_=>by simp at h
 |_::_,[],_,_,_,_,h,_=>by simp at h
 |p::P,w::vs,0,m,nd,h1,h2,hk=>by simp at h1 h2;subst h1;subst h2;show bindC kindOf ((p,w)::P.zip vs) m p=_;unfold bindC;rw[rF λv q=>(List.nodup_cons.mp nd).1 (XS q).1,bK hk];simp
 |p::P,w::vs,i+1,m,nd,h1,h2,hk=>by show bindC kindOf ((p,w)::P.zip vs) m x=_;unfold bindC;exact rH (i:=i) (List.nodup_cons.mp nd).2 (by simpa using h1) (by simpa using h2) hk
noncomputable def start(N:List ay)(vs:List V):St:=vs.map aa++UU (N.length-vs.length) af
noncomputable def wU(CX:CXT)(P:UM)(w:U6)(K:Uv)(mg:ay->Option aA)(base:aq)(N:List ay)(qual:ay)(q:Vf)(f:az)(D:aA)(A:VE)(outer:List Env)(s:UA)(H:Hp)(E:XK):Cx where
 prog:=P
 w:=w
 K:=K
 mg:=mg
 base:=base
 A:=A.deeper (ZS qual q s.heap.objs.size f D)
 N:=N
 s₀:=s
 H₀:=H
 env:=ZS qual q s.heap.objs.size f D
 outer:=outer
 stack:=ZS qual q s.heap.objs.size f D::outer
 ex:=[]
 calm:=ah
 fn:=λ_=>ah
 pn:=[]
 xe:=λe J=>av (UT P w) (A.deeper (ZS qual q s.heap.objs.size f D)) (leaving (ZS qual q s.heap.objs.size f D) e) (λ_ B=>CX outer H s E e B) (λL B=>CX outer H s E L B) J
def uU{sc:Vf}{n:Nat}{x:ay}(h:sc.names.lookup x=aa .cell):∃c,(cellsFrom n sc.names []).lookup x=aa c:=by have q:=Zt sc.names n [] (.inl h);exact Option.isSome_iff_exists.mp q
def z9{CX:CXT}{P:UM}{w:U6}{K:Uv}{mg:ay->Option aA}{base:aq}{N ps:List ay}{qual:ay}{B:Vf}{f:az}{Z:aA}{A:VE}{outer:List Env}{s d:UA}{H:Hp}{E:XK}{us:List aA}{vs:List V}
(S:gf N ps B)(o:A.handled=af)(J:oY P w K mg base A outer s H)(F:vs.length=ps.length)(r:dw vs us)
(x:InCallC s s.heap.objs.size (bindL (ZS qual B s.heap.objs.size f Z).kindOf (ps.zip us) λ_=>af) (cellsFrom (s.heap.objs.size+1) B.names []) (bindC (ZS qual B s.heap.objs.size f Z).kindOf (ps.zip us) λ_=>af) d):
 Inv (wU CX P w K mg base N qual B f Z A outer s H E) [] (start N vs) H d:=by
 have m:ps.length<=N.length:=by have:=bR Y9 S.pre;rw[XG]at this;lia
 obtain ⟨Y,C,rfl,j⟩:=x.done;have L:∀ b:az,b∉(wU CX P w K mg base N qual B f Z A outer s H E).ex:=λb z=>bL (show b∈([]:List az) from z) (by simp);refine ⟨⟨J.mod,S.kind,rfl,rfl,UE _,λy z c Y D=>?_,λy M=>?_,λy c _ h=>?_,λ_=>o,Z3 J.frames,.inr ⟨rfl,rfl⟩,λb z=>bL z (L b),J.bs,J.bsz,λb _ _=>L b,λb z=>bL z (L b),J.kR,J.frf⟩,
  rfl,J.bare,Un.aH j,⟨_,x.toInCall.ns,λi y v Y D G=>?_⟩,λy c h=>⟨_,x.cell y c h⟩,J.aJ.fresh (UE _),λy c h=>?_,λp U=>bL (show p∈([]:List (az×ao)) from U) (by simp),J.aJ.aH j,?_⟩
 exact name_of_addr x.apart (VR Y) (VR D)
 ·have M:B.names.lookup y=aa .cell\/B.names.lookup y=aa .free:=M;rcases M with M|M
  exact uU M;exact bL rfl (S.nofree _ (VR M))
 exact VQ (x.above y c (VR h))
 ·have W:i<vs.length:=by
   unfold start at D
   by_cases W:i<vs.length
   exact W
   ·rw[U4 (by simpa using W)]at D;rw[WT]at D;split at D<;>cases D
  have t:vs[i]?=aa v:=by
   unfold start at D;rw[UD (by simpa using W),U1]at D;cases e:vs[i]? with
   |none=>rw[e]at D;cases D|some a=>rw[e]at D;cases D;rfl
  obtain⟨u,g,l⟩:=r.get t;have U:ps[i]?=aa y:=by rw[←S.pre,WM (by lia)];exact Y
  have O:ps.Nodup:=by rw[←S.pre];exact S.nd.sublist (List.take_sublist _ _)
  refine⟨u,l,?_⟩;rcases S.par y (UJ U)with k|k
  exact .inl ⟨k,rG O U g k⟩
  ·obtain⟨c,e⟩:=uU (n:=s.heap.objs.size+1) k;refine .inr ⟨.inl k,c,e,?_⟩;have q:=x.cell y c e;rw[rH O U g (by show B.names.lookup y≠_;rw[k];decide)]at q;exact q
 exact J.aJ.fresh (VQ (x.above y c (VR h)))
 ·unfold start;show _=N.length;rw[UR,UI,W4];lia
def Nx{CX:CXT}{P:UM}{w:U6}{K:Uv}{mg:ay->Option aA}{base:aq}{k:Nat}{f:az}{name qual:ay}{D:Wm}{L:List Y4}{B:Vf}{j kV doc pm cdv ct C:aA}{an z:Option az}
{osl:Array (Option aA)}{N ps:List ay}{sp:Sp}(F:K.lookup f=aa ⟨C,z,.func (VW name qual D L B j kV doc pm an cdv ct),osl⟩)(h:XR K cdv qual=ah)(S:gf N ps B)
(len:∀vs H Q E,sp vs H Q E->vs.length=ps.length)
(U:∀ (A:VE) (outer:List Env) (s:UA) (H:Hp) (vs:List V) (Q:VK) (E:XK),fG k (A.deeper (ZS qual B s.heap.objs.size f cdv))->sp vs H Q E →
  ∃ t,PSs (wU CX P w K mg base N qual B f cdv A outer s H E) L t/\t { nx:=λ_ H'=>Q .aD H',rt:=Q } (start N vs) H):
 jn P w K mg base CX (k+1) f (VW name qual D L B j kV doc pm an cdv ct) ps sp:=by
 refine⟨len,λA outer s H l p vs Q E g a hb r Z=>?_⟩;have T:=len _ _ _ _ Z;have m:K.In s.heap:=a.mod.kin.keeps λb o e=>(a.bs b o e).1;have lim:s.heap.NoLimit:=a.mod.nolimit.keeps λb o e=>(a.bs b o e).1;have O:∀y∈ps.zip p,B.names.lookup y.1=aa .local\/(B.names.lookup y.1=aa .cell/\((cellsFrom (s.heap.objs.size+1) B.names []).lookup y.1).isSome=ah):=λ⟨n,v⟩ hy=>by
  rcases S.par n (XS hy).1 with q|q
  exact .inl q;exact .inr ⟨q,Zt _ _ _ (.inl q)⟩
 refine codeAny_call_function g.depth (m _ _ F) rfl S.co S.gen rfl (PySem.W.codeRec_of m h) (hb _ _ _ _ ?_);refine wpAny_newFunctionEnv_cells S.kind O λenv X i x=>?_;subst X;refine⟨lim.keeps x.toInCall.keep,codeAny_func ?_⟩;obtain⟨t,G,R⟩:=U A outer s H vs Q E (g.deeper _) Z;have I:Inv (wU CX P w K mg base N qual B f cdv A outer s H E) [] (start N vs) H i:=z9 S g.hd a T r x;refine V4 (G [] i (start N vs) H _ I R) (λfl c Y=>?_) λe c Y=>Y;have fin:∀{M:St}{H':Hp}{v:V}{u:aA},Inv (wU CX P w K mg base N qual B f cdv A outer s H E) [] M H' c->RelV v u->Q v H'->CE outer P w H s Q u c :=
  λ{M H' v u} J d q=>⟨v,H',J.os,J.bare,J.base,J.aJ,d,q⟩
 cases fl with
 |ret u =>
  obtain⟨v,M,H',J,d,q⟩:=Y;exact fin J d q
 |next =>
  obtain⟨M,H',J,q⟩:=Y;exact fin (v:=V.aD) (u:=WX) J rfl q
 |brk =>
  obtain⟨_,_,_,q⟩:=Y;exact Vo q
 |cont =>
  obtain⟨_,_,_,q⟩:=Y;exact Vo q
end L2
namespace L2
open PySem PySem.Spec PyProof.Rows
section
variable{X:Cx}{x:ay}{p pos:Pos}{e:X7}{es:List X7}{t:TA}{id T:String}{r:List V->Hp->VK->Prop}
def tCB(r:List V->Hp->VK->Prop)(t:TA):TE:=fun q H Q=>t q H λB D=>r B D Q
def gM(V:fy X (.builtin id) r)(O:Gl X x)(M:X.mg x=af)(L:XA x=aa (.builtin id))(W:PA X (e::es) t)(hn:x≠"__name__":=by decide)(B:(x==("__debug__":ay))=ai:=by decide)
(U:U9 (e::es) X.env=(ai,eval e X.env)::U9 es X.env:=by rfl)(q:(WA pos (U9 es X.env)).any (·.1)=ai:=by rfl):PE X (.Call (.Name x p) (e::es) [] pos) (tCB r t):=by
 intro J s D H Q I h;refine VO (ja I O M L ?_ hn B);exact X3 (thn (W pos J s D H _ I h) λus s1 ⟨vs,H1,I1,r1,q1⟩=>V J s1 D H1 vs us Q I1 r1 q1) U q
def kB(V:fy X (.type T) r)(O:Gl X x)(M:X.mg x=af)(L:XA x=aa (.type T))(W:PA X (e::es) t)(hn:x≠"__name__":=by decide)(B:(x==("__debug__":ay))=ai:=by decide)
(U:U9 (e::es) X.env=(ai,eval e X.env)::U9 es X.env:=by rfl)(q:(WA pos (U9 es X.env)).any (·.1)=ai:=by rfl):PE X (.Call (.Name x p) (e::es) [] pos) (tCB r t):=by
 intro J s D H Q I h;refine VO (ja I O M L ?_ hn B);exact VB (thn (W pos J s D H _ I h) λus s1 ⟨vs,H1,I1,r1,q1⟩=>V J s1 D H1 vs us Q I1 r1 q1) U q
end
end L2
namespace HT
open PySem PyProof.Rows
section
open PySem.SeqAt
open PySem.AutoSeq1 (wpAny_loadPart')
open PySem.MeetsSeq PySem.MeetsSeq2 PySem.MeetsSeq3
end
section
variable{prog:UM}{w:U6}{A:VE}{E:aA->UA->Prop}{s:UA}
def Fv(a:IsTup s.heap t vs.toArray)(c:IsTup s.heap b ws.toArray)(V:vs≠[])
(h1:ws=[]->Q (.ref t) s)(h2:ws≠[]->Q (.ref s.heap.objs.size) {s with heap:=s.heap.push {cls:=.type "tuple",data:=.seq (vs++ws).toArray} })
(hsz:vs.length+ws.length<=aj):av (UT prog w) A (V6 .Add (.ref t) (.ref b)) Q E s:=by
 obtain⟨⟨cls,dd,data,O⟩,M,Y,n,W⟩:=id a;obtain⟨⟨Z,L,data2,B⟩,q,J,U,D⟩:=id c;simp only at Y W J D;subst Y W J D;have e:vs.toArray++ws.toArray=(vs++ws).toArray:=by simp
 by_cases hw:ws=[]
 ·exact concat_meets ⟨_,M,rfl⟩ ⟨_,q,rfl⟩ Zy aau Xy Xs (Xi _ _)
   (tuple_addW1 t b vs.toArray ws.toArray n U dd L O B (by simpa using V) (by simp[hw])) ⟨M,q,h1 hw⟩
 ·refine concat_meets ⟨_,M,rfl⟩ ⟨_,q,rfl⟩ Zy aau Xy Xs (Xi _ _)
   (tuple_addW2 t b vs.toArray ws.toArray n U dd L O B (by simpa using V) (by simpa using hw) (by rw[UB,UB];exact hsz)) ⟨M,q,?_⟩
  rw[e];exact h2 hw
noncomputable def sIx(n d:Nat):Option Int->Nat
 |none=>d
 |some v=>if v<0 then(v+(n:Int)).toNat else min v.toNat n
def JI(n d:Nat)(B:d<=n)(o:Option Int):sIx n d o<=n:=by
 cases o with
 |none=>exact B
 |some v =>
  show(if v<0 then(v+(n:Int)).toNat else min v.toNat n)<=n
  by_cases q:v<0
  rw[bJ q];lia;rw[bK q];exact Nat.min_le_right _ _
def yw(v:Int)(n d:Nat):(if v<0 then max (v+(n:Int)) 0 else min v (n:Int))=((sIx n d (aa v):Nat):Int):=by
 show(if v<0 then max (v+(n:Int)) 0 else min v (n:Int))=(((if v<0 then(v+(n:Int)).toNat else min v.toNat n):Nat):Int)
 by_cases q:v<0
 simp only[bJ q];lia;simp only[bK q];lia
def wV(lo hi:Option Int)(n:Nat):W5 lo hi 1 (n:Int)=(((sIx n 0 lo:Nat):Int),((sIx n n hi:Nat):Int)):=by
 have q:¬((1:Int)<0):=by lia
 unfold W5;simp only[q,if_false];refine Prod.ext ?_ ?_
 ·cases lo with
  |none=>rfl|some v=>exact yw v n 0
 ·cases hi with
  |none=>rfl|some v=>exact yw v n n
def wW(i j:Nat):Wh (i:Int) (j:Int) 1=j-i:=by
 unfold Wh;have q:(1:Int)>0:=by lia
 simp only[q,if_true,Int.ediv_one];split<;>lia
def o4(p:Zx v o)(h:Q o s):av (UT prog w) A (Builtin.Slice.slicePartIndex v) Q E s:=by
 cases p with
 |none=>exact slicePart_none h|int i t=>exact slicePart_int h
def je{J:az}{D B:aA}{lo hi:Option Int}{n:Nat}{Q:Int×Int×Nat->UA->Prop}(M:s.heap.IsSliceOf J D B .none)(pl:Zx D lo)(L:Zx B hi)
(h:Q (((sIx n 0 lo:Nat):Int),1,sIx n n hi-sIx n 0 lo) s):av (UT prog w) A (Yg (.ref J) (pure (n:Int))) Q E s:=by
 obtain⟨os,q,O,hds⟩:=id M;unfold Yg Builtin.Slice.sliceFields;refine Uw (Uw (wpAny_field q hds (x:=D) rfl (Uw (wpAny_field q hds (x:=B) rfl (Uw (wpAny_field q hds (x:=.none) rfl (au ?_)))))));refine Uw (slicePart_none ?_);show av _ _ (if((1:Int)==0)=ah then _ else _) _ _ s;rw[bK (by decide)];refine Uw (o4 pl (Uw (o4 L (Uw (au ?_)))));show av _ _ (match W5 lo hi 1 (n:Int)with|(lo,hi)=>pure (lo,(1:Int),Wh lo hi 1)) _ _ s;rw[wV lo hi n];show av _ _ (pure (((sIx n 0 lo:Nat):Int),(1:Int),Wh ((sIx n 0 lo:Nat):Int) ((sIx n n hi:Nat):Int) 1)) _ _ s;rw[wW];exact au h
def BP(xs:Array aA)(i k:Nat):((UZ k).filterMap λ(m:Nat)=>xs[((i:Int)+(m:Int)*1).toNat]?).toArray=((xs.toList.drop i).take k).toArray:=by
 have e:(λ(m:Nat)=>xs[((i:Int)+(m:Int)*1).toNat]?)=λm=>xs[i+m]?:=by
  funext m;have:((i:Int)+(m:Int)*1).toNat=i+m:=by lia
  rw[this]
 rw[e];have:=pick_run xs i k;rw[List.filterMap_map]at this;have e2:((λx=>xs[x]?) ∘ λx=>i+x)=λm=>xs[i+m]?:=rfl;rw[e2]at this;rw[this]
def lK{t J:az}{items:Array aA}{W V:aA}{lo hi:Option Int}{Q:aA->UA->Prop}(D:IsTup s.heap t items)(Y:s.heap.IsSliceOf J W V .none)(pl:Zx W lo)(Z:Zx V hi)
(hw:¬(sIx items.size 0 lo=0/\sIx items.size items.size hi=items.size))
(h:Q (.ref s.heap.objs.size) {s with heap:=s.heap.push {cls:=.type "tuple",data:=.seq ((items.toList.drop (sIx items.size 0 lo)).take (sIx items.size items.size hi-sIx items.size 0 lo)).toArray} })
(hsz:items.size<=aj):av (UT prog w) A (Ze (.ref t) (.ref J)) Q E s:=by
 have B:sizeOk (.seq ((items.toList.drop (sIx items.size 0 lo)).take (sIx items.size items.size hi-sIx items.size 0 lo)).toArray):=by show((items.toList.drop (sIx items.size 0 lo)).take (sIx items.size items.size hi-sIx items.size 0 lo)).toArray.size<=aj;rw[UB,XG,W6,UV];lia
 have c:sIx items.size items.size hi<=items.size:=JI _ _ (UE _) hi;obtain⟨os,L,O,hds⟩:=id Y;have U:s.TypeIs (.ref J) "slice":=⟨os,L,O⟩;unfold Ze
 try with_reducible refine Vw ?_
 first|refine Uw (au ?_)|skip
 refine Uw (wpAny_sequenceKey D.typeIs (by decide) ?_);refine Uw (Wg (name:=UN "__getitem__") D.typeIs VX
  (WQ VX D.typeIs entry_tuple_getitem ?_ (args_tuple_getitem _ _)))
 show av _ _ (Ye (.ref t) >>= _) _ _ s;refine Uw (tupleItemsOf_ D ?_);refine Uw (Xd U ?_);rw[bJ (by decide)];refine Uw (je Y pl Z ?_);have M:¬((((sIx items.size 0 lo:Nat):Int)==0&&(1:Int)==1&&(sIx items.size items.size hi-sIx items.size 0 lo)==items.size)=ah):=by intro q;rw[Uz,Uz]at q;have b:((sIx items.size 0 lo:Nat):Int)=0:=bQ q.1.1;have a:sIx items.size items.size hi-sIx items.size 0 lo=items.size:=bQ q.2;exact hw ⟨by lia,by lia⟩
 show av _ _ (if(((sIx items.size 0 lo:Nat):Int)==0&&(1:Int)==1&&(sIx items.size items.size hi-sIx items.size 0 lo)==items.size)=ah then _ else _) _ _ s;rw[bK M,BP]
 first
  |exact Uw (m:=Wq _) (Vm (au ⟨_,rfl,au h⟩) B)
  |exact Uw (m:=Wq _) (Vm (Uw (au (au ⟨_,rfl,au h⟩))) B)
  |exact Uw (Uw (m:=Wq _) (Vm (au (au ⟨_,rfl,au h⟩)) B))
  |exact Uw (Uw (m:=Wq _) (Vm (au ⟨_,rfl,au h⟩) B))
end
end HT
namespace L2
open PySem PySem.Spec PyProof.Rows
abbrev TO:=St->Hp->(Option Int->Hp->Prop)->Prop
def PO(X:Cx)(e:Option X7)(t:TO):Prop :=
 ∀(B:List (az×ao)) (s:UA) (q:St) (H:Hp) (Q:Option Int->Hp->Prop),Inv X B q H s->t q H Q →
  av (UT X.prog X.w) X.A (evalPart e X.env) (λu J=>∃o D,Inv X B q D J/\Zx u o/\Q o D) X.xe s
def Fw:TO:=λ_ H Q=>Q af H
def Ny(t:TE):TO:=fun q H Q=>t q H λx B=>∃i,x=.int i/\Q (aa i) B
def intsAre_of:∀{us:List aA},dw (ns.map V.int) us->Xu us ns:=by
 induction ns with
 |nil=>intro us r;rw[V2]at r;cases r;exact .nil
 |cons n ns D =>
  intro us r;rw[UQ]at r;cases r with
  |cons B q =>
   obtain⟨t,e⟩:=B;subst e;exact .cons n t (D q)
section
variable{X:Cx}{e:X7}{te:TE}{lo hi:Option X7}{tl th:TO}{pos p2:Pos}
def Fx:PO X af Fw:=by intro B s q H Q I h;rw[aay];exact au ⟨af,H,I,.none,h⟩
def Fy(h:PE X e te):PO X (aa e) (Ny te):=by intro D s B H Q I hw;rw[evalPart_some];refine thn (h D s B H _ I hw) λu V J=>?_;obtain⟨x,U,O,L,M⟩:=J;obtain⟨i,rfl,q⟩:=M;obtain⟨t,rfl⟩:=L;exact⟨aa i,U,O,.int i t,q⟩
def SlR(X:Cx)(r:V->Option Int->Option Int->Hp->VK->Prop):Prop :=
 ∀(B:List (az×ao)) (s:UA) (q:St) (H:Hp) (x:V) (v J D:aA) (lo M:Option Int) (L:az) (Q:VK),Inv X B q H s->RelV x v->s.heap.IsSliceOf L J D .none->Zx J lo->Zx D M->r x lo M H Q →
  ∃T id,typeLookup (.type T) "__getitem__"=pure (aa (.builtin id))/\s.TypeIs v T/\av (UT X.prog X.w) X.A (Ze v (.ref L)) (EP X B q Q) X.xe s
def tSl(r:V->Option Int->Option Int->Hp->VK->Prop)(te:TE)(tl th:TO):TE:=fun q H Q=>te q H λx J=>tl q J λl D=>th q D λu B=>r x l u B Q
def BQ(d:SlR X r)(i:PE X e te)(f:PO X lo tl)(a:PO X hi th):PE X (.Subscript e (.Slice lo hi af p2) pos) (tSl r te tl th):=by intro J s D H Q I h;refine Subscript_ (thn (i J s D H _ I h) λv U M=>?_);obtain⟨x,o,n,V,Y⟩:=M;refine wpAny_Slice (thn (f J U D o _ n Y) λvl s2 ⟨l,H2,I2,pl,q2⟩=>thn (a J s2 D H2 _ I2 q2) λL B M=>?_);obtain⟨u,O,m,Z,W⟩:=M;rw[aay];refine au ?_;have k:Inv X J D O {B with heap:=B.heap.push {cls:=.type "slice",data:=.fields #[vl,L,.none]} }:=m.aH (t':=B.toks) λb ob q=>Ux _ q;obtain⟨T,id,j,c,g⟩:=d J {B with heap:=B.heap.push {cls:=.type "slice",data:=.fields #[vl,L,.none]} } D O x v vl L l u B.heap.objs.size Q k V (YY ..) pl Z W;show av (UT X.prog X.w) X.A (aat e (.Slice lo hi af p2) v (.ref B.heap.objs.size)) (EP X J D Q) X.xe {B with heap:=B.heap.push {cls:=.type "slice",data:=.fields #[vl,L,.none]} };exact aas (ops:=[.ref B.heap.objs.size,v]) c j g (by with_unfolding_all rfl)
def uV(xs:List V)(lo hi:Option Int):List V:=(xs.drop (HT.sIx xs.length 0 lo)).take (HT.sIx xs.length xs.length hi-HT.sIx xs.length 0 lo)
def nG(xs:List V)(lo hi:Option Int):(uV xs lo hi).length<=xs.length:=by unfold uV;rw[XG,W6];lia
def QW(K:Uv):V->Option Int->Option Int->Hp->VK->Prop:=λx lo B H Q=>∃a q,x=.ref a/\SqT K H a q ∧
 ¬(HT.sIx q.length 0 lo=0/\HT.sIx q.length q.length B=q.length)/\∀p,H p=af->Q (.ref p) (upd H p (.aC (uV q lo B)))
def JJ:SlR X (QW X.K):=by
 intro d s c H x v f e lo L g Q I U Z W V h;obtain⟨a,D,rfl,Y,hw,q⟩:=h;cases U;obtain⟨J,r,O,M⟩:=I.tuple Y;have B:J.toArray.size=D.length:=by rw[UB];exact r.length.symm
 refine⟨"tuple",_,PyProof.Rows.slot_tuple_getitem.lookup,O.typeIs,?_⟩;refine HT.lK O Z W V (by rw[B];exact hw) ?_ (by rw[B];exact M);rw[B];refine⟨.ref s.heap.objs.size,_,I.laid (t':=s.toks) (o:=.aC (uV D lo L)) (λb ob q=>Ux _ q) (UE _) ?_,rfl,q _ (I.aJ.fresh (UE _))⟩;exact⟨U3 (nG D lo L) M,_,(r.drop (HT.sIx D.length 0 lo)).take (HT.sIx D.length D.length L-HT.sIx D.length 0 lo),IsTup.new _ _⟩
def Nz(K:Uv):R2:=λx y H Q=>∃a b B q,x=.ref a/\y=.ref b/\SqT K H a B/\SqT K H b q/\B≠[]/\B.length+q.length<=aj ∧
 (q=[]->Q (.ref a) H)/\(q≠[]->∀p,H p=af->Q (.ref p) (upd H p (.aC (B++q))))
def dw.lM(r:dw xs us):us=[]↔xs=[]:=by
 cases r with
 |_=>simp
def Fz:OpR X (V6 .Add) (Nz X.K):=by intro i s g H x y v u Q I V U h;obtain⟨a,b,O,M,rfl,rfl,f,e,d,L,Y,W⟩:=h;cases V;cases U;obtain⟨c,D,Z,_⟩:=I.tuple f;obtain⟨J,B,p2,_⟩:=I.tuple e;refine HT.Fv Z p2 (λz=>d (D.lM.mp z)) (λz=>⟨.ref a,H,I,rfl,Y (B.lM.mp z)⟩) (λz=>?_) (by rw[←D.length,←B.length];exact L);refine⟨.ref s.heap.objs.size,_,I.laid (t':=s.toks) (o:=.aC (O++M)) (λb ob q=>Ux _ q) (UE _) ?_,rfl,W (λw=>z (B.lM.mpr w)) _ (I.aJ.fresh (UE _))⟩;exact⟨by rw[UR];exact L,_,D.append B,IsTup.new _ _⟩
end
end L2
namespace L2
open PySem PySem.Spec PyProof.Rows
noncomputable def ixN(n:Nat)(i:Int):Option Nat:=if 0<=i then(if i<n then aa i.toNat else af)else if -(n:Int)<=i then aa (i+n).toNat else af
def atI{q:Type}(xs:List q)(i:Int):Option q:=(ixN xs.length i).bind λj=>xs[j]?
def yx(h:ixN n i=aa j):seqIndex? i n=aa j/\j<n/\-(n:Int)<=i/\i<n:=by
 unfold ixN at h
 by_cases B:0<=i
 ·rw[bJ B]at h
  by_cases q:i<n
  ·rw[bJ q]at h;have e:i.toNat=j:=UK h;exact⟨by rw[seqIndex_of B q,e],by lia,by lia,q⟩
  rw[bK q]at h;cases h
 ·rw[bK B]at h
  by_cases q:-(n:Int)<=i
  ·rw[bJ q]at h;have e:(i+n).toNat=j:=UK h;exact⟨by rw[seqIndex_neg (by lia) q,e],by lia,q,by lia⟩
  rw[bK q]at h;cases h
def sN{q:Type}{xs:List q}{v:q}(h:atI xs i=aa v):∃j,seqIndex? i xs.length=aa j/\xs[j]?=aa v/\j<xs.length/\-(xs.length:Int)<=i/\i<xs.length:=by
 unfold atI at h;cases e:ixN xs.length i with
 |none=>rw[e]at h;cases h
 |some j =>
  rw[e]at h;obtain⟨L,J,D,B⟩:=yx e;exact⟨j,L,h,J,D,B⟩
def yy(b:X7):Prop:=∀o i,subscripted b ai o i=operate [o,i] (Ze o i)
def IxR(X:Cx)(r:R2):Prop :=
 ∀(q slice:X7)(D:List (az×ao)) (s:UA) (B:St) (H:Hp) (x y:V) (v u:aA) (Q:VK),Inv X D B H s->RelV x v->RelV y u->r x y H Q →
  subscripted slice ai v u=operate [v,u] (Ze v u)->av (UT X.prog X.w) X.A (aat q slice v u) (EP X D B Q) X.xe s
def MtR(X:Cx)(id:String)(r:V->List V->Hp->VK->Prop):Prop :=
 ∀(B:List (az×ao)) (s:UA) (q:St) (H:Hp) (x:V) (D:List V) (v:aA) (J:List aA) (Q:VK),Inv X B q H s->RelV x v->dw D J->r x D H Q →
  av (UT X.prog X.w) X.A (call (.builtin id) (v::J)) (EP X B q Q) X.xe s
section
variable{X:Cx}{a b:X7}{ta tb:TE}{pos:Pos}
def ID(U:IxR X r)(W:PE X a ta)(V:PE X b tb)(O:yy b):PE X (.Subscript a b pos) (tOp r ta tb):=by intro D s B H Q I h;exact Subscript_ (Jx W V I h λv u J x y Z Y M L q=>U a b D J B Z x y v u Q Y M L q (O _ _))
def QX(K:Uv):R2:=λx y H Q=>∃p q i v,x=.ref p/\y=.int i/\SqL K H p q/\atI q i=aa v/\Q v H
def QY(K:Uv):R2:=λx y H Q=>∃p q i v,x=.ref p/\y=.int i/\SqT K H p q/\atI q i=aa v/\Q v H
def QZ:R2:=λx y H Q=>∃z i c,x=.str z/\y=.int i/\z.length<=aj/\atI z.cps.toList i=aa c/\Q (.str ⟨#[c]⟩) H
def yz:IxR X (QX X.K):=by
 intro D slice V s U H x y v u Q I c b h W;obtain⟨p,m,i,z,rfl,rfl,d,f,q⟩:=h;cases c;obtain⟨t,rfl⟩:=b;obtain⟨M,r,L,n⟩:=I.list d;obtain⟨j,B,l,o,k,g⟩:=sN f;obtain⟨w,Z,J⟩:=r.get l;have e:=r.length;have hn:=mU;have fin:EP X V U Q w s:=⟨z,H,I,J,q⟩
 by_cases Y:0<=i
 ·have O:i.toNat=j:=by rw[seqIndex_of Y g]at B;exact UK B
  exact item_listR L.isList Y (by lia) (by rw[O];simpa using Z) fin W
 ·have O:(i+(M.toArray.size:Int)).toNat=j:=by rw[seqIndex_neg (by lia) k]at B;rw[UB,←e];exact UK B
  exact subscriptTail_builtinR (x:=w) L.isList.typeIs slot_list_getitem.lookup
   (wpAny_getItem_list_neg (Q:=λr a=>r=w/\EP X V U Q r a) L.isList (by lia) (by rw[UB]<;>lia) (by lia) (by rw[O];simpa using Z) ⟨rfl,fin⟩) W
def wX:IxR X (QY X.K):=by
 intro B slice L s J H x y v u Q I V U h Y;obtain⟨p,f,i,z,rfl,rfl,Z,b,q⟩:=h;cases V;obtain⟨t,rfl⟩:=U;obtain⟨W,r,M,g⟩:=I.tuple Z;obtain⟨j,d,c,m,l,k⟩:=sN b;obtain⟨w,e,D⟩:=r.get c;have a:=r.length;have hn:=mU;have fin:EP X L J Q w s:=⟨z,H,I,D,q⟩;exact subscriptTail_builtinR (x:=w) M.typeIs slot_tuple_getitem.lookup
  (getItem_tuple (j:=j) (Q:=λr O=>r=w/\EP X L J Q r O) M (by lia) (by lia) (by rw[UB,←a];exact d) (by simpa using e) ⟨rfl,fin⟩) Y
def JK:IxR X QZ:=by
 intro B slice a s Z H x y v u Q I L J h M;obtain⟨z,i,c,rfl,rfl,d,U,q⟩:=h;obtain⟨t,rfl⟩:=L;obtain⟨b,rfl⟩:=J;obtain⟨j,D,Y,e,W,V⟩:=sN U;have O:z.cps.toList.length=z.length:=by simp[Str.length]
 rw[O] at D W V;have hn:=mU;exact aas (typeIs_str s z t) slot_str_getitem.lookup (getItem_str (c:=c) (by
  have e1:decide (i < -(2 ^ 63:Int))=ai:=bN (by lia);have e2:decide (i ≥ 2 ^ 63)=ai:=bN (by lia);rw[e1,e2,Ys]) (by rw[D];simpa using Y) ⟨.str ⟨#[c]⟩,H,I.tok _,⟨_,rfl⟩,q⟩) M
def wY(q:List aA)(n j:Nat)(u:aA):Ww (·.setIfInBounds j u) {cls:=.type "list",data:=.seq q.toArray n}={cls:=.type "list",data:=.seq (q.set j u).toArray n}:=by simp[Ww]
def Inv.aB{zt:List (az×ao)}{σ:St}{H:Hp}{s:UA}{p:az}{xs:List V}(I:Inv X zt σ H s)(h:H p=aa (.aB xs)):
 ∃(q:List aA) (n:Nat),dw xs q/\s.heap.get? p=aa {cls:=.type "list",data:=.seq q.toArray n}/\xs.length<=aj:=by
 obtain⟨z,q,n,r,e⟩:=I.aJ p _ h;exact⟨q,n,r,e,z⟩
def Inv.JL{zt:List (az×ao)}{σ:St}{H:Hp}{s:UA}{p:az}{xs ys:List V}{B its':List aA}{n D:Nat}{f:ao->ao}(I:Inv X zt σ H s)(h:H p=aa (.aB xs))
(L:s.heap.get? p=aa {cls:=.type "list",data:=.seq B.toArray n})(J:f {cls:=.type "list",data:=.seq B.toArray n}={cls:=.type "list",data:=.seq its'.toArray D})(r:dw ys its')(hz:ys.length<=aj)(t:Nat):
 Inv X zt σ (upd H p (.aB ys)) {s with heap:=s.heap.update p f,toks:=t}:=by
 have e:(s.heap.update p f).get? p=aa {cls:=.type "list",data:=.seq its'.toArray D}:=by rw[Vb f L (by rw[J]<;>rfl),J]
 refine I.write (x:=p) (e:=p) (by rw[h];trivial) (.inl rfl) (λb u M q=>(Vk _ _ (Vu M)).trans q) ⟨_,e⟩ ?_;exact⟨hz,its',D,r,e⟩
def IE:V->V->V->Hp->(Hp->Prop)->Prop:=λo i v H Q=>∃p q k j,o=.ref p/\i=.int k/\H p=aa (.aB q)/\ixN q.length k=aa j/\Q (upd H p (.aB (q.set j v)))
def set_list:Jr X IE:=by
 intro b s a H o i v m w u Q I e f d h;obtain⟨p,c,k,j,rfl,rfl,O,l,q⟩:=h;cases e;obtain⟨t,rfl⟩:=f;obtain⟨B,n,r,J,g⟩:=I.aB O;obtain⟨D,x,V,U⟩:=yx l;have L:=r.length;have hn:=mU;have Z:Inv X b a (upd H p (.aB (c.set j v))) {s with heap:=s.heap.update p (Ww (·.setIfInBounds j u))} :=
  I.JL O J (wY B n j u) (r.set d j) (by rw[List.length_set];exact g) s.toks
 by_cases Y:0<=k
 ·have M:k.toNat=j:=by rw[seqIndex_of Y U]at D;exact UK D
  exact PySem.W.ki_setAt J Y (by lia) (by rw[UB,←L];exact U) (by rw[M];exact⟨_,Z,q⟩)
 ·have M:(k+(B.toArray.size:Int)).toNat=j:=by rw[seqIndex_neg (by lia) V]at D;rw[UB,←L];exact UK D
  exact PySem.W.ki_setBack J (by lia) (by rw[UB,←L];exact V) (by lia) (by rw[M];exact⟨_,Z,q⟩)
def sO(lo hi:Option Int)(n:Nat):(Vc lo hi af n).1=((HT.sIx n 0 lo:Nat):Int)/\(Vc lo hi af n).2.1=((HT.sIx n n hi:Nat):Int)/\(Vc lo hi af n).2.2=1:=by
 refine⟨?_,?_,rfl⟩
 ·cases lo with
  |none=>simp[Vc,HT.sIx]
  |some i =>
   simp only[Vc,HT.sIx,aaH,show(1:Int)>0 by decide,if_true]
   by_cases h:i<0
   simp only[h,if_true]<;>lia;simp only[h,if_false]<;>lia
 ·cases hi with
  |none=>simp[Vc,HT.sIx]
  |some i =>
   simp only[Vc,HT.sIx,aaH,show(1:Int)>0 by decide,if_true]
   by_cases h:i<0
   simp only[h,if_true]<;>lia;simp only[h,if_false]<;>lia
def qN(q:List aA)(lo hi:Option Int):slicePick q.toArray lo hi af=((q.drop (HT.sIx q.length 0 lo)).take (HT.sIx q.length q.length hi-HT.sIx q.length 0 lo)).toArray:=by obtain⟨J,D,B⟩:=sO lo hi q.toArray.size;unfold slicePick;rw[J,D,B];simp only[sliceRange_one,pick_run,UB]<;>rfl
def Q0(K:Uv):V->Option Int->Option Int->Hp->VK->Prop:=λx lo B H Q=>∃a q,x=.ref a/\SqL K H a q/\∀p,H p=af->Q (.ref p) (upd H p (.aB (uV q lo B)))
def FA:SlR X (Q0 X.K):=by intro d s c H x v f e lo J g Q I M Z U O h;obtain⟨a,B,rfl,Y,q⟩:=h;cases M;obtain⟨V,r,L,W⟩:=I.list Y;have D:=r.length;refine⟨"list",_,slot_list_getitem.lookup,L.isList.typeIs,?_⟩;refine aai L.isList Z U O .none (by simp) ?_ (by rw[UB]<;>lia);rw[qN,←D];refine⟨.ref s.heap.objs.size,_,I.laid (t':=s.toks) (o:=.aB (uV B lo J)) (λb ob q=>Ux _ q) (UE _) ?_,rfl,q _ (I.aJ.fresh (UE _))⟩;exact⟨U3 (nG B lo J) W,_,0,(r.drop (HT.sIx B.length 0 lo)).take (HT.sIx B.length B.length J-HT.sIx B.length 0 lo),UG _ rfl⟩
def lO:fy X (.builtin "len") (λxs H Q=>∃p ys,xs=[.ref p]/\(SqL X.K H p ys\/SqT X.K H p ys)/\Q (.int ys.length) H):=by
 intro W s V H xs Y Q I r h;obtain⟨p,ys,rfl,D,q⟩:=h;obtain⟨u,rfl,O⟩:=vals1 r;cases O;have hn:=mU;rcases D with D|D
 ·obtain⟨M,J,L,U⟩:=I.list D;have B:=J.length;exact Calls.call_len_list L.isList (by simp only[UB]<;>lia) ⟨.int ys.length,H,I.tok _,⟨s.toks+1,by rw[UB,B]⟩,q⟩
 ·obtain⟨M,J,L,U⟩:=I.tuple D;have B:=J.length;exact len_tuple L (by simp only[UB]<;>lia) ⟨.int ys.length,H,I.tok _,⟨s.toks+1,by rw[UB,B]⟩,q⟩
def sP:fy X (.builtin "len") (λxs H Q=>∃z,xs=[.str z]/\z.length<=aj/\Q (.int z.length) H):=by intro D s B H xs J Q I r h;obtain⟨z,rfl,L,q⟩:=h;obtain⟨u,rfl,t,rfl⟩:=vals1 r;have hn:=mU;exact len_str (by lia) ⟨.int z.length,H,I.tok _,⟨_,rfl⟩,q⟩
def lP:fy X (.type "list") (λxs H Q=>∃p ys,xs=[.ref p]/\(SqL X.K H p ys\/SqT X.K H p ys)/\∀l,H l=af->Q (.ref l) (upd H l (.aB ys))):=by
 intro f s d H xs i Q I r h;obtain⟨p,ys,rfl,U,q⟩:=h;obtain⟨u,rfl,g⟩:=vals1 r;cases g;have fin:∀(B:List aA),dw ys B->ys.length<=aj->∀(D:aq)(L:Nat),(∀b c,s.heap.get? b=aa c->D.get? b=aa c) →
  D.get? s.heap.objs.size=aa {cls:=.type "list",dict:=af,data:=.seq B.toArray L,slots:=#[]}->EP X f d Q (.ref s.heap.objs.size) {s with heap:=D}:=λB J O D L M e =>
  ⟨.ref s.heap.objs.size,_,I.laid (t':=s.toks) M (UE _) (show fZ X.prog X.w _ D _ (.aB ys) from⟨O,B,L,J,e⟩),rfl,q _ (I.aJ.fresh (UE _))⟩
 rcases U with U|U
 ·obtain⟨B,J,W,O⟩:=I.list U;have V:=J.length;obtain⟨o,Y,a,n,Z⟩:=W.isList;exact call_list_seq p (.inl rfl) Y a Z (λD L M e=>fin B J O D L M e) (by simp only[UB]<;>lia)
 ·obtain⟨B,J,W,O⟩:=I.tuple U;have V:=J.length;obtain⟨o,Y,a,n,Z⟩:=W;exact call_list_seq p (.inr rfl) Y a Z (λD L M e=>fin B J O D L M e) (by simp only[UB]<;>lia)
def kT:fy X (.type "tuple") (λxs H Q=>∃p ys,xs=[.ref p]/\((SqL X.K H p ys/\∀l,H l=af->Q (.ref l) (upd H l (.aC ys)))\/(SqT X.K H p ys/\Q (.ref p) H))):=by
 intro U s O H xs d Q I r h;obtain⟨p,ys,rfl,h⟩:=h;obtain⟨u,rfl,Z⟩:=vals1 r;cases Z;rcases h with⟨M,q⟩|⟨M,q⟩
 ·obtain⟨B,J,L,V⟩:=I.list M;have W:=J.length;refine call_tuple_list L.isList (λD a=>?_) (by simp only[UB]<;>lia);have Y:Inv X U O H {s with heap:=D}:=I.aH (t':=s.toks) a;have c:Inv X U O (upd H D.objs.size (.aC ys)) {s with heap:=D.push {cls:=.type "tuple",data:=.seq B.toArray} } :=
   Y.laid (t':=s.toks) (λb o e=>Ux _ e) (UE _) (show fZ X.prog X.w _ _ _ (.aC ys) from⟨V,B,J,IsTup.new _ _⟩)
  exact⟨.ref D.objs.size,_,c,rfl,q _ (Y.aJ.fresh (UE _))⟩
 ·obtain⟨B,J,L,V⟩:=I.tuple M;exact call_tuple_same L ⟨.ref p,H,I,rfl,q⟩
def tyV(K:Uv)(T:String)(x:V)(H:Hp):Prop:=match x with
 |.str _=>T="str"|.int _=>T="int"|.ref p=>(T="list"/\∃B,SqL K H p B)\/(T="tuple"/\∃o,K.lookup p=aa o/\o.cls=.type "tuple"/\o.dict=af) ∨
  (T="dict"/\((∃q,H p=aa (.dK q))\/∃q,H p=aa (.dT q)))\/(T="set"/\∃S n,H p=aa (.set S n))
 |_=>False
def BU(I:Inv X zt σ H s)(r:RelV x v)(ty:tyV X.K T x H):
 s.TypeIs v T/\∀a,v=.ref a->∃ob,s.heap.get? a=aa ob/\ob.dict=af:=by
 cases x with
 |str z =>
  obtain⟨t,rfl⟩:=r;cases (show T="str" from ty);exact⟨typeIs_str s z t,λ_ e=>nomatch e⟩
 |int i =>
  obtain⟨t,rfl⟩:=r;cases (show T="int" from ty);exact⟨typeIs_int s i t,λ_ e=>nomatch e⟩
 |ref p =>
  cases r;rcases ty with⟨rfl,O,M⟩|⟨rfl,o,q,hc,D⟩|⟨rfl,q⟩|⟨rfl,S,n,q⟩
  ·obtain⟨L,_,J,_⟩:=I.list M;refine⟨J.isList.typeIs,λa e=>?_⟩;cases e;obtain⟨o,n,e,c,D,_⟩:=J;exact⟨o,e,D⟩
  ·refine⟨⟨o,I.kIn p o q,hc⟩,λa e=>?_⟩;cases e;exact⟨o,I.kIn _ o q,D⟩
  ·have z:∃o,s.heap.get? p=aa o/\o.ExactDict:=by
    rcases q with⟨B,q⟩|⟨B,q⟩
    ·obtain⟨_,_,_,_,o,_,_,e,ex,_⟩:=I.aJ p _ q;exact⟨o,e,ex⟩
    ·obtain⟨_,_,_,_,o,_,_,e,ex,_⟩:=I.aJ p _ q;exact⟨o,e,ex⟩
   obtain⟨o,e,ex⟩:=z;refine⟨⟨o,e,ex.1⟩,λa e2=>?_⟩;cases e2;exact⟨o,e,ex.2.1⟩
  ·obtain⟨o,_,_,_,e,ex,_⟩:=I.aJ p _ q;refine⟨⟨o,e,ex.1⟩,λa e2=>?_⟩;cases e2;exact⟨o,e,ex.2.1⟩
 |_=>exact Vo ty
def Q2(K:Uv)(T:String)(r:V->List V->Hp->VK->Prop)(to:TE):TE:=fun B H Q=>to B H λx q=>tyV K T x q/\r x [] q Q
def tBM(K:Uv)(T:String)(r:V->List V->Hp->VK->Prop)(to:TE)(t:TA):TE:=fun q H Q=>to q H λx B=>tyV K T x B/\t q B λD J=>r x D J Q
variable{o e:X7}{es:List X7}{to:TE}{t:TA}{name:ay}{apos cpos:Pos}{T id:String}{r:V->List V->Hp->VK->Prop}
def JM(Z:PlainAttrs T)(D:Slot T name id)(J:typeOf (.builtin id)=pure (.type "method_descriptor"))(b:MtR X id r)(a:PE X o to)
(B:XY o name X.env (eval o X.env)=eval o X.env:=by rfl)(q:(apos.endLine==cpos.line)=ah:=by rfl):PE X (.Call (.Attribute o name apos) [] [] cpos) (Q2 X.K T r to):=by
 intro M s L H Q I h;refine wpAny_Call_method0_late B q (thn (a M s L H _ I h) λv W V=>?_);obtain⟨x,e,U,O,ty,Y⟩:=V;obtain⟨d,c⟩:=BU U O ty;exact⟨T,id,Z,D,J,d,c,ZL rfl (PySem.evalArgs_none (b M W L e x [] v [] Q U O .nil Y))⟩
def uW(d:PlainAttrs T)(J:Slot T name id)(U:typeOf (.builtin id)=pure (.type "method_descriptor"))(i:MtR X id r)(g:PE X o to)(j:PA X (e::es) t)
(D:XY o name X.env (eval o X.env)=eval o X.env:=by rfl)
(L:((WA cpos (U9 (e::es) X.env)).all (λx=>!x.1)&&(YR cpos (Xp [] X.env)).all (λx=>x.1.isSome)
 &&decide ((e::es).length+([]:List XI).length+(if ([]:List XI).isEmpty then 0 else 1) < 30))=ah:=by rfl)
(B:(apos.endLine==cpos.line)=ah:=by rfl)(f:U9 (e::es) X.env=(ai,eval e X.env)::U9 es X.env:=by rfl)(q:(WA cpos (U9 es X.env)).any (·.1)=ai:=by rfl):
 PE X (.Call (.Attribute o name apos) (e::es) [] cpos) (tBM X.K T r to t):=by
 intro O s M H Q I h;refine wpAny_Call_method_late D L B rfl (thn (g O s M H _ I h) λv b Z=>?_);obtain⟨x,m,Y,V,ty,c⟩:=Z;obtain⟨l,k⟩:=BU Y V ty;refine⟨T,id,d,J,U,l,k,?_⟩;have W:=j cpos O b M m _ Y c;rw[f]at W⊢;refine ZL (by show(ai||(WA cpos (U9 es X.env)).any (·.1))=ai;rw[q]<;>rfl) (Calls.evalArgs_plain ?_);exact thn W λus s2 ⟨vs,H2,I2,r2,q2⟩=>i O s2 M H2 x vs v us Q I2 V r2 q2
/- xs.append(e),list.index on a module's tuple .. are MtR facts of 06m -/
end
end L2
namespace L2
open PySem PySem.Spec PyProof.Rows
def MtM(X:Cx)(id:String)(r:V->List V->Hp->VK->Prop):Prop :=
 ∀(B:List (az×ao)) (s:UA) (q:St) (H:Hp) (x:V) (D:List V) (v:aA) (J:List aA) (Q:VK),Inv X B q H s->RelV x v->dw D J->r x D H Q →
  av (UT X.prog X.w) X.A (call (.builtin id) (v::J)) (EP X B q Q) X.xe s
def dw.one{x:V}{us:List aA}(h:dw [x] us):∃u,us=[u]/\RelV x u:=by cases h with|cons r t=>cases t;exact⟨_,rfl,r⟩
def dw.two{x y:V}{us:List aA}(h:dw [x,y] us):∃u v,us=[u,v]/\RelV x u/\RelV y v:=by cases h with|cons r t=>obtain⟨v,rfl,q⟩:=dw.one t;exact⟨_,v,rfl,r,q⟩
theorem dw.zero:∀{us:List aA},dw [] us->us=[]
 |_,.nil=>rfl
def dw.dropLast(h:dw xs us):dw xs.dropLast us.dropLast:=by
 induction h with
 |nil=>exact .nil
 |cons r t B =>
  cases t with
  |nil=>exact .nil|cons q D=>exact .cons r B
theorem dw.rep(h:dw xs us):∀k:Nat,dw (UU k xs).flatten (UU k us).flatten
 |0=>.nil
 |k+1=>by rw[VT,VT,Wu,Wu];exact dw.append h (dw.rep h k)
def wZ(l:List α):l.eraseIdx (l.length-1)=l.dropLast:=by
 induction l with
 |nil=>rfl
 |cons a r q =>
  cases r with
  |nil=>rfl
  |cons b r =>
   have e:(a::b::r).length-1=((b::r).length-1)+1:=by have D:(a::b::r).length=r.length+2:=rfl;have B:(b::r).length=r.length+1:=rfl;lia
   rw[e,List.eraseIdx_cons_succ,q]
   all_goals rfl
theorem foldl_rep(q:List aA):∀(k:Nat)(B:List aA),
 ZD (λJ D=>J++D) B.toArray (UU k q.toArray)=(B++(UU k q).flatten).toArray
 |0,B=>by simp
 |k+1,B=>by
  have e:B.toArray++q.toArray=(B++q).toArray:=by simp
  have e2:(B++q)++(UU k q).flatten=B++(UU (k+1) q).flatten:=by rw[VT,Wu,Ve]
  rw[←e2,←foldl_rep q k (B++q),←e,VT,Wp]
section
variable{X:Cx}{zt:List (az×ao)}{σ:St}{H:Hp}{s:UA}{l b:az}{xs ys zs:List V}
def Inv.FD{B its':List aA}{n:Nat}{f:Array aA->Array aA}{t':Nat}(I:Inv X zt σ H s)(O:H l=aa (.aB xs))
(e:s.heap.get? l=aa {cls:=.type "list",data:=.seq B.toArray n})(L:f B.toArray=its'.toArray)(D:dw ys its')(hz:ys.length<=aj):
 Inv X zt σ (upd H l (.aB ys)) {s with heap:=s.heap.update l (Ww f),toks:=t'}:=by
 have q:=PySem.IsL.update e f;rw[L]at q;refine I.write (x:=l) (e:=l) (by rw[O];exact trivial) (.inl rfl) (λU u M J=>(Vk s.heap (Ww f) (Vu M)).trans J) ⟨_,q⟩ ?_;exact⟨hz,its',_,D,q⟩
def Inv.NB(I:Inv X zt σ H s)(B:dw ys its)(hz:ys.length<=aj):
 Inv X zt σ (upd H s.heap.objs.size (.aB ys)) {s with heap:=s.heap.push {cls:=.type "list",data:=.seq its.toArray},toks:=t'} :=
 I.laid (λ_ _ q=>Ux _ q) (UE _) ⟨hz,its,0,B,UG _ rfl⟩
def Inv.fresh(I:Inv X zt σ H s):H s.heap.objs.size=af:=I.aJ.fresh (UE _)
def Inv.FE(I:Inv X zt σ H s)(B:H l=aa (.aB xs)):xs.length<=aj/\∃(q:List aA) (n:Nat),dw xs q/\xs.length=q.length/\s.heap.get? l=aa {cls:=.type "list",data:=.seq q.toArray n}:=by obtain⟨z,q,n,r,e⟩:=I.aJ l _ B;exact⟨z,q,n,r,r.length,e⟩
def o5(h:n<=aj):VI n=ai:=by unfold VI;exact bN (by lia)
end
section
variable{X:Cx}
def FF:V->List V->Hp->VK->Prop:=λx B H Q=>∃l q y,x=.ref l/\B=[y]/\H l=aa (.aB q)/\q.length<aj/\Q .aD (upd H l (.aB (q++[y])))
def rJ:MtM X "list.append" FF:=by intro U s O H x W v Y Q I J L h;obtain⟨l,V,y,rfl,rfl,D,Z,q⟩:=h;cases J;obtain⟨u,rfl,M⟩:=L.one;obtain⟨z,B,n,r,a,e⟩:=I.FE D;refine WW F.slot_list_append ⟨_,e,rfl⟩ F.entry_list_append (F.args_list_append_2 _ _) (PySem.list_append l B.toArray n u (by rw[UB];lia)) ⟨e,?_⟩;refine⟨.aD,_,I.FD (its':=B++[u]) D e (by simp) (r.append (.cons M .nil)) ?_,rfl,q⟩;rw[UR,Vn];lia
def Q3:V->List V->Hp->VK->Prop:=λx B H Q=>∃l q y,x=.ref l/\B=[]/\H l=aa (.aB q)/\q[q.length-1]?=aa y/\Q y (upd H l (.aB q.dropLast))
def JN:MtM X "list.pop" Q3:=by
 intro a s Z H x c v d Q I M O h;obtain⟨l,b,y,rfl,rfl,L,V,q⟩:=h;cases M;have J:=O.zero;subst J;obtain⟨z,B,n,r,Y,e⟩:=I.FE L;obtain⟨u,W,U⟩:=r.get V;have D:B.toArray[B.toArray.size-1]?=aa u:=by show B.toArray[B.length-1]?=aa u;rw[←Z2,←Y];exact W
 refine WW F.slot_list_pop ⟨_,e,rfl⟩ F.entry_list_pop (F.args_list_pop_1 _) (MeetsSeq.list_pop_last l B.toArray n u D (by rw[UB];lia)) ⟨e,?_⟩;refine⟨y,_,I.FD (its':=B.dropLast) L e ?_ r.dropLast ?_,U,q⟩
 ·show B.toArray.eraseIdxIfInBounds (B.toArray.size-1)=B.dropLast.toArray;rw[UB,List.eraseIdxIfInBounds_toArray,wZ]
 ·rw[X6];lia
def len_rep(xs:List α)(k:Nat):(UU k xs).flatten.length=k*xs.length:=by
 induction k with
 |zero=>simp|succ k q=>rw[VT,Wu,UR,q,Nat.succ_mul,Nat.add_comm]
end
section
variable{prog:UM}{w:U6}{A:VE}{E:aA->UA->Prop}{s:UA}
set_option maxRecDepth 100000 in
end
section
variable{X:Cx}
end
end L2
namespace Att
open PySem PySem.W PySem.Calls PyProof.Rows
def nX:∀(ns:List Int)(vs:List aA),WellAll P h vs (ns.map WData.int)->Xu vs ns:=by
 intro ns
 induction ns with
 |nil =>
  intro vs w;rw[V2]at w;cases w;exact .nil
 |cons n ns q =>
  intro vs w;rw[UQ]at w;cases w with
  |cons a b =>
   cases a;exact .cons _ _ (q _ b)
def Aa{l:OpenLaw}{n:Nat}(hn:l.most=aa n){P:Params}{h:aq}{args:List WData}{vals:List aA}
(B:l.row.toRowW.claim.pre args=ah)(O:WellAll P h vals args):
 ∃a vs ns,vals=[Vz a]/\args=[WData.list (ns.map WData.int)]/\h.get? a=aa {cls:=.type "list",data:=.seq vs.toArray}/\Xu vs ns/\ns.length<=n:=by
 have U:WShape.hasAll [] args [.list .int]=ah:=(pre_splitW B).1;have V:l.pre.holds [] {args:=args}=ah:=(pre_splitW B).2;obtain⟨d,r,rfl,f,e⟩:=hasAllW_cons U;obtain rfl:=hasAllW_nil e;obtain⟨g,rfl,c⟩:=hasW_list f;obtain⟨ns,rfl⟩:=items_int c;have D:ns.length<=n:=by
  unfold OpenLaw.pre at V;have M:(WTm.not (.lt (.lit (.int (n:Int))) (.len (.arg 0)))).holds [] {args:=[.list (ns.map .int)]}=ah:=by have M:=(holds_andW V).1;rw[hn]at M;exact M
  have L:=condW_of M (w_not (w_lt w_lit (w_len_list (w_arg rfl))));rw[UI]at L;refine Nat.le_of_not_lt λq=>?_;have Z:(n:Int)<((ns.length:Nat):Int):=by lia
  first
   |(rw[bO Z]at L;exact bL L (by decide))
   |(simp at L;lia)
 cases O with
 |cons Y W =>
  cases W;cases Y with
  |list b J=>exact⟨_,_,ns,rfl,rfl,b,nX ns _ J,D⟩
def Ab(l:OpenLaw)(args:List WData):l.row.toRowW.claim.post args (.bool ah) args=ah :=
 postW_of (r:=l.row.toRowW) (X:=(ah==ah))
  (show WShape.has [] (.bool ah) .bool=ah by first|rfl|decide|simp[WShape.has,WShape.arms,WShape.armsAll])
  (show(WTm.eq .res (.lit (.bool ah))).value [] {args:=args,res:=aa (.bool ah),after:=args}=aa (.bool (ah==ah)) from w_eq_bool (w_res rfl) w_lit) rfl
def uX{l:OpenLaw}{n:Nat}{q:UM}{loose:List ay}{XP:(ay->Option aA)->aq->Prop}{YP:U6->aq->Prop}{d:DefRec}
(hn:l.most=aa n)(b:d.params.defaults=[])
(call:∀ (w:U6) (s₀ B:UA) (mg V:ay->Option aA) (O:az) (o:ao) (pm U doc:aA) (a:az) (vs:List aA) (ns:List Int),
  Ground q loose [] XP w s₀ mg V B.heap->YP w B.heap →
  B.heap.get? O=aa o->o.data=.func (docDef d.name d.params d.body d.scope pm U doc)->B.heap.CodeRec U d.name->mg d.name=aa (.ref O) →
  B.heap.get? a=aa {cls:=.type "list",data:=.seq vs.toArray}->Xu vs ns->ns.length<=n->B.gens=#[] →
  ak (UT l.prog w) aaA (.call (.ref O) ⟨[.ref a],[]⟩) (λr s'=>r=.ok (.ret (.bool ah))/\OldK B.heap s'.heap/\s'.os=B.os/\Zr s'.gens) B):
 WalkO q loose XP YP l.row.toRowW d [] (λf vs=>aaD f vs):=by
 intro w s₀ B mg V G Y O o pm U doc y kV k t c g Z s h vals z J e i W p;obtain rfl:y=.none:=Dflts.none g b;obtain rfl:kV=.none:=Dflts.noKw g;obtain⟨a,vs,ns,rfl,rfl,L,D,M⟩:=Aa hn J W;refine enter_call (codeAny_mono (call w s₀ B mg V O o pm U doc a vs ns G Y k (fd_plain t) c Z L D M s) λr s' j=>?_);obtain⟨rfl,x,v,u⟩:=j;exact⟨.inl ⟨.bool ah,.bool ah,[],rfl,λ_=>rfl,.bool ah,Ab l _,λ_=>⟨List.Pairwise.nil,λ_ m=>(nomatch m)⟩⟩,x,v,u⟩
section
variable{prog:UM}{w:U6}{A:VE}{E:aA->UA->Prop}{s:UA}{K:Frag}
noncomputable def ledger(h:aq)(L d:az):List (az×ao):=(UZ h.objs.size).filterMap λa=>if a=L\/a=d then af else(h.get? a).map λo=>(a,o)
end
end Att
namespace L2
open PySem PySem.Spec PyProof.Rows
theorem kC:∀{vs:List aA}{ns:List Int},Xu vs ns->dw (ns.map V.int) vs
 |_,_,.nil=>.nil|_,_,.cons n t h=>.cons ⟨t,rfl⟩ (kC h)
end L2
namespace L2
open PySem PySem.Spec PyProof.Rows
noncomputable abbrev KOf{K:Uv}{h:aq}(_:K.In h):Uv:=K
end L2
/- THE LAST THEOREM (shape;LID,My.* are yours):
 My.Adr: a structure of the addresses that your layer names (classes,functions);My.Txt K t: a structure (Prop) of the equations over K;
 My.txt_mk:{K}{implicit addresses ..} (e1:nsIn K UP "law"=aa (aa (.ref f))) (e2:K.lookup f=aa ⟨oc,od,.func (fnOf "law" "law" params body scope dV kV doc pm an cdv ct),sl⟩) (e3:codeIn K cdv "law"=ah) ..:∃t,My.Txt K t
set_option maxRecDepth 100000 in
set_option maxHeartbeats 0 in
def PySem.Challenge.FG:PySem.Challenge.rw_LID.Holds:=by
 w_on;o_law;k_head;(case hw=>w_witness2)
 k_fill
 refine L2.walk_of (l:=PySem.Challenge.rw_LID) (n:=63) (k:=40) (x:="script") (CX:=λw=>..) (sp:=λ_=>My.ES) rfl (by decide) rfl ⟨rfl,by decide,by decide⟩ (λw h Y=>PySem.W.kIn_of Y) ?F ?S ?C
 case F =>
  intro w c U h O G M;have T:∃t,My.Txt (L2.KOf O) t:=by
   dsimp only[L2.KOf] -- K must stand as «<heap const> w.params» for k_is;refine' My.txt_mk ?e1 ?e2 ?e3 ..
   (case e1=>PySem.W.k_is) -- in q order: a name->its address->its object->its parts
   (case e2=>PySem.W.k_is)
   ..
  obtain⟨t,T⟩:=T;have V:=M.symm.trans (Wk O G T.law);cases V -- U is q law's own address;exact⟨_,λs u=>.of_eq rfl,λB L J=>My.law_fn T L J⟩ -- if «.of_eq rfl» comes too early: refine' ⟨_,?b,λB L J=>My.law_fn T L J⟩;exact λs u=>.of_eq rfl
 case S=>exact λw H a Z d f e=>..
 case C=>exact ..
(q D k_is has no namespace: write k_is) -/
namespace L2
open PySem PySem.Spec PyProof.Rows
abbrev CX0:CXT:=λ_ _ _ _ _ _=>False
abbrev E0:XK:=λ_ _ _=>False
def o6:jo CX0 X E0:=λ_ _ _ _ _ _ _ h=>h.elim
inductive NC(K:Uv)(x qual:ay)(st:Y4)(f:az)(fd:V8):Prop
 |mk(B:aA)(q:Option az)(kV doc pm:aA)(an:Option az)(cdv ct:aA)(osl:Array (Option aA))(h1:fd=VW x qual (f9 st) (dQ st) (dh st) .none kV doc pm an cdv ct)(h2:K.lookup f=aa ⟨B,q,.func fd,osl⟩)(D:XR K cdv qual=ah):NC K x qual st f fd
structure Fun(K:Uv)(x qual:ay)(st:Y4)(f:az)(fd:V8):Prop where
 ex:NC K x qual st f fd
 kp:VH K (.ref f)=ah
section
variable{P:UM}{w:U6}{K:Uv}{mg:ay->Option aA}{base:aq}
def Fun.binds{x qual:ay}{st:Y4}{f:az}{fd:V8}{ps:List ay}(F:Fun K x qual st f fd)
(h:∀(kV doc pm:aA)(an:Option az)(cdv ct:aA)(us:List aA),us.length=ps.length->ZG (VW x qual (f9 st) (dQ st) (dh st) .none kV doc pm an cdv ct) ⟨us,[]⟩=pure (ps.zip us)):Binds K fd ps []:=by
 obtain⟨D,B,kV,doc,pm,an,cdv,ct,osl,rfl,J,q⟩:=F.ex;exact .all (h kV doc pm an cdv ct)
def JO{x qual:ay}{st:Y4}{f:az}{B:aA}{q an:Option az}{osl:Array (Option aA)}{kV doc pm cdv ct:aA}(l:K.lookup f=aa ⟨B,q,.func (VW x qual (f9 st) (dQ st) (dh st) .none kV doc pm an cdv ct),osl⟩)
(c:XR K cdv qual=ah)(k:VH K (.ref f)=ah):Fun K x qual st f (VW x qual (f9 st) (dQ st) (dh st) .none kV doc pm an cdv ct):=⟨⟨B,q,kV,doc,pm,an,cdv,ct,osl,rfl,l,c⟩,k⟩
end
def Ac(h:n<=1000):n<aj:=Xl h (by decide)
section
variable{X:Cx}
end
end L2
end
section
namespace L2
open PySem PySem.Spec PyProof.Rows
section
variable{κ:Type}[DecidableEq κ]
noncomputable def uY(kvs:List (κ×V))(k:κ):Option V:=(kvs.find? λq=>decide (q.1=k)).map (·.2)
noncomputable def putK(kvs:List (κ×V))(k:κ)(v:V):List (κ×V) :=
 if(kvs.any λq=>decide (q.1=k))=ah then kvs.map (λq=>if q.1=k then(q.1,v)else q)else kvs++[(k,v)]
def uZ{p:κ×V}{r:List (κ×V)}{k:κ}(e:p.1=k):uY (p::r) k=aa p.2:=by simp[uY,WU,e]
def u0{p:κ×V}{r:List (κ×V)}{k:κ}(e:¬p.1=k):uY (p::r) k=uY r k:=by simp[uY,WU,e]
def nH(kvs:List (κ×V))(k:κ)(v:V):(putK kvs k v).length<=kvs.length+1:=by unfold putK;split;rw[UI];lia;rw[UR,US,VV];lia
def KV.val{kvs:List (κ×V)}{vs:List (κ×aA)}(r:KV kvs vs)(k:κ):oR (uY kvs k) (valueAt vs k):=by
 unfold KV at r
 induction r with
 |nil=>exact V9
 |@cons p q O B h t L =>
  obtain⟨J,M⟩:=h
  by_cases e:p.1=k
  ·have D:q.1=k:=J.symm.trans e;have b:valueAt (q::B) k=aa q.2:=by simp[valueAt,WU,D]
   rw[uZ e,b];exact M
  ·have D:¬q.1=k:=λz=>e (J.trans z);have b:valueAt (q::B) k=valueAt B k:=by simp[valueAt,WU,D]
   rw[u0 e,b];exact L
def KV.any(r:KV kvs vs)(k:κ):(kvs.any λq=>decide (q.1=k))=vs.any λq=>decide (q.1=k):=by
 unfold KV at r
 induction r with
 |nil=>rfl|cons h t B=>rw[Xc,Xc,B,h.1]
def KV.repl(r:KV kvs vs)(k:κ)(J:RelV y u):
 KV (kvs.map λB=>if B.1=k then(B.1,y)else B) (vs.map λB=>if B.1=k then(B.1,u)else B):=by
 unfold KV at r⊢
 induction r with
 |nil=>exact .nil
 |@cons p q U O h t L =>
  rw[UQ,UQ];refine .cons ?_ L;obtain⟨D,M⟩:=h
  by_cases e:p.1=k
  rw[bJ e,bJ (D.symm.trans e)];exact⟨D,J⟩;rw[bK e,bK (λz=>e (D.trans z))];exact⟨D,M⟩
def KV.put(r:KV kvs vs)(k:κ)(q:RelV y u):KV (putK kvs k y) (stored vs k u):=by
 unfold putK stored;rw[r.any k]
 by_cases e:(vs.any λB=>decide (B.1=k))=ah
 rw[bJ e,bJ e];exact r.repl k q;rw[bK e,bK e];exact Paired.snoc r ⟨rfl,q⟩
def KV.length(r:KV kvs vs):kvs.length=vs.length:=Paired.length r
end
def o7(r:RelV (kV k) u):(dD P w).is k u=ah:=by
 cases k with
 |inl i=>obtain⟨t,e⟩:=(show ∃t,u=Xf i t from r);subst e;exact uL P w i t|inr x=>obtain⟨t,e⟩:=(show ∃t,u=ZT x t from r);subst e;exact iU P w x t
section
variable{P:UM}{w:U6}{H:Hp}{h:aq}{a:az}
def ND(ok:HOk P w H h)(e:Rd H a u):fZ P w H h a u:=e.ok ok
def BV(ok:HOk P w H h)(e:Rd H a (.dK kvs)):kvs.length<=aj/\(a==Wb)=ai/\∃vs,KV kvs vs/\h.DictOf (dD P w) a vs :=
 show fZ P w H h a (.dK kvs) from ND ok e
def yC(ok:HOk P w H h)(e:H a=aa (.dK kvs)):kvs.length<=aj/\(a==Wb)=ai/\∃vs,KV kvs vs/\h.DictOf (dD P w) a vs:=BV ok (.inl e)
end
section
variable{X:Cx}{zt:List (az×ao)}{σ:St}{H:Hp}{s:UA}{a:az}{y v:V}{u r:aA}{o:Option V}{A:VE}{E:aA->UA->Prop}
def Inv.big(I:Inv X zt σ H s):Wb<s.heap.objs.size:=by have h:UP<s.heap.objs.size:=(I.mod.glob.keeps I.bk).lt;exact YL (by decide) h
def sR(I:Inv X zt σ H s)(mu:Mut (H a))(B:VC a s.heap h')(D:∃q,h'.get? a=aa q)(new:fZ X.prog X.w (upd H a ob) h' a ob):
 Inv X zt σ (upd H a ob) {s with heap:=h',toks:=t'} :=
 I.write (x:=a) (e:=a) mu (.inl rfl) (λb q J z=>(B.2 b J).trans z) D new
def w5(z:kvs.length<=aj)(B:(a==Wb)=ai)(q:KV kvs vs)(dd:h'.DictOf (dD P w) a vs):
 fZ P w H' h' a (.dK kvs):=⟨z,B,vs,q,dd⟩
end
def BW(h:aq)(q:Wb<h.objs.size):fZ P w H (h.push {cls:=.type "dict",data:=.dict #[]}) h.objs.size (.dK []) :=
 ⟨Vx _,beq_eq_false_iff_ne.mpr (Vu (U0 q)),[],.nil,Heap.DictOf.new h⟩
end L2
end
section
namespace BT
open PySem PySem.W PyProof.Rows
noncomputable def Ends{q:Type}(n:Nat)(P:q->Prop):KasT q->Prop
 |.ret a=>P a|.ask i j k=>i<n/\j<n/\∀b,Ends n P (k b)
end BT
end
section
namespace BS
open PySem PySem.W PySem.Spec PyProof.Rows
section
variable{E:aA->UA->Prop}
end
end BS
end
section
namespace BX
open PySem PyProof.Rows
def Ri(xs:Array Nat):Prop:=∀i j a b:Nat,i<j->xs[i]?=aa a->xs[j]?=aa b->a<b
def BY(h:Ri xs)(j:Nat):∀(q lo hi:Nat),lo<=hi->hi<=xs.size->hi-lo<=q->(∀i a,i<lo->xs[i]?=aa a->a<j)->(∀i a,hi<=i->xs[i]?=aa a->j<=a) →
 (∀i a,i<SetTable.below.go xs j q lo hi->xs[i]?=aa a->a<j)/\(∀i a,SetTable.below.go xs j q lo hi<=i->xs[i]?=aa a->j<=a)/\SetTable.below.go xs j q lo hi<=xs.size:=by
 intro q
 induction q with
 |zero =>
  intro lo hi Y L W J D;have:lo=hi:=by lia
  subst this;exact⟨J,D,L⟩
 |succ q U =>
  intro lo hi Y L W J D
  by_cases c:lo<hi
  ·have V:(lo+hi)/2<xs.size:=by lia
   have M:xs[(lo+hi)/2]?=aa xs[(lo+hi)/2]:=Vi V;have Z:xs.getD ((lo+hi)/2) j=xs[(lo+hi)/2]:=by simp[Array.getD,V]
   have e:SetTable.below.go xs j (q+1) lo hi=if xs.getD ((lo+hi)/2) j<j then SetTable.below.go xs j q ((lo+hi)/2+1) hi else SetTable.below.go xs j q lo ((lo+hi)/2):=by show(if lo<hi then _ else lo)=_;rw[bJ c]
   rw[e,Z]
   by_cases d:xs[(lo+hi)/2]<j
   ·rw[bJ d];refine U _ _ (by lia) L (by lia) (λi a O B=>?_) D;rcases UX i ((lo+hi)/2)with z|z
    have:=h i _ a _ z B M;lia
    ·have:i=(lo+hi)/2:=by lia
     subst this;rw[M]at B;cases B;exact d
   ·rw[bK d];refine U _ _ (by lia) (by lia) (by lia) J (λi a O B=>?_);rcases UX ((lo+hi)/2) i with z|z
    have:=h _ i _ a z M B;lia
    ·have:i=(lo+hi)/2:=by lia
     subst this;rw[M]at B;cases B;lia
  ·have e:SetTable.below.go xs j (q+1) lo hi=lo:=by show(if lo<hi then _ else lo)=_;rw[bK c]
   have:lo=hi:=by lia
   subst this;rw[e];exact⟨J,D,L⟩
def lg(h:Ri xs)(j:Nat):(∀i a,i<SetTable.below xs j->xs[i]?=aa a->a<j)/\(∀i a,SetTable.below xs j<=i->xs[i]?=aa a->j<=a)/\SetTable.below xs j<=xs.size :=
 BY h j xs.size 0 xs.size (Vx _) (UE _) (by lia) (λi a z=>bL z (Zl _)) (λi a z e=>by have:xs[i]?=af:=VG z;rw[this]at e;cases e)
def lJ(xs:Array α)(B:p<=xs.size)(x:α)(i:Nat):(SetTable.insertAt xs p x)[i]?=if i<p then xs[i]? else if i=p then aa x else xs[i-1]?:=by
 unfold SetTable.insertAt;have q:((xs.extract 0 p).push x).size=p+1:=by simp;lia
 by_cases c:i<p
 ·rw[bJ c,Zc (by lia),aah,bK (by simp;lia),ZM];simp;lia
 ·rw[bK c]
  by_cases d:i=p
  ·subst d;rw[bJ rfl,Zc (by lia),aah,bJ (by simp;lia)]
  ·rw[bK d,Array.getElem?_append_right (by lia),q,ZM];simp;split;congr 1;lia
   ·rename_i z
    symm
    exact VG (by lia)
def JP(h:Ri xs)(hn:xs[SetTable.below xs j]?≠aa j):Ri (SetTable.insertAt xs (SetTable.below xs j) j):=by
 obtain⟨Y,W,f⟩:=lg h j;intro i k a b L B D;rw[lJ xs f]at B D;generalize SetTable.below xs j=p at *;have d:∀i a,p<=i->xs[i]?=aa a->j<a:=λi a Z e=>by
  have:=W i a Z e;rcases UX j a with z|z
  exact z
  ·have:a=j:=by lia
   subst this;rcases UX p i with q|q
   ·cases J:xs[p]? with
    |none =>
     have:xs.size<=p:=by
      rcases UX p xs.size with w|w
      rw[Vi w]at J;cases J;exact w
     rw[VG (by lia)]at e;cases e
    |some y =>
     have l:=h p i y a q J e;have g:=W p y (UE _) J;lia
   ·have:i=p:=by lia
    subst this;exact bL e hn
 by_cases V:k<p
 ·rw[bJ V]at D;rw[bJ (by lia)]at B;exact h i k a b L B D
 ·rw[bK V]at D
  by_cases U:k=p
  ·rw[bJ U]at D;cases D;rw[bJ (by lia)]at B;exact Y i a (by lia) B
  ·rw[bK U]at D;have c:=d (k-1) b (by lia) D
   by_cases M:i<p
   ·rw[bJ M]at B;have:=Y i a M B;lia
   ·rw[bK M]at B
    by_cases O:i=p
    rw[bJ O]at B;cases B;exact c
    ·rw[bK O]at B;exact h (i-1) (k-1) a b (by lia) B D
def BZ(n:Nat):Ri (Array.range n):=by
 intro i j a b D B q;rw[Array.getElem?_range]at B q;split at B
 ·split at q;cases B;cases q;exact D;cases q
 cases B
def FH{l:List Nat}(h:l.Pairwise (· < ·)):Ri l.toArray:=by intro i j a b q D B;simp only[Z6]at D B;obtain⟨L,rfl⟩:=List.getElem?_eq_some_iff.mp D;obtain⟨J,rfl⟩:=List.getElem?_eq_some_iff.mp B;exact List.pairwise_iff_getElem.mp h i j L J q
structure Tb(bt:Bool)(t:SetTable):Prop where
 led:t.led=!bt
 ri:Ri t.place
def B0(bt:Bool):Tb bt (SetTable.fresh 0 0 (!bt)):=⟨rfl,λi j a b _ e=>by simp[SetTable.fresh]at e⟩
def lQ(h:Tb bt t)(n:Nat):Tb bt (SetTable.standIn t n):=⟨h.led,BZ n⟩
def Fre(t:SetTable)(j:Nat):Prop:=t.place[SetTable.below t.place j]?≠aa j
def u5(h:t.slot j=.empty\/t.slot j=.dummy):Fre t j:=by
 intro z;have e:t.slot j=.live (SetTable.below t.place j):=by unfold SetTable.slot;simp[z]
 rw[e]at h;rcases h with h|h<;>cases h
def B3(t:SetTable)(g:Nat->Int)(h:Int):∀(B:Nat)(p:SetTable.Probe)(j:Nat)(d:Option Nat),(∀x,p.dummy=aa x->Fre t x)->SetTable.probe.go t g h B p=aa (.empty j d)->Fre t j/\∀x,d=aa x->Fre t x:=by
 intro B
 induction B with
 |zero=>intro p j d _ e;cases e
 |succ B L =>
  intro p j d M e;have O:SetTable.probe.go t g h (B+1) p=(match t.slot p.j with
   |.empty=>aa (.empty p.j p.dummy)|.dummy=>SetTable.probe.go t g h B (SetTable.advance t {p with dummy:=aa p.j})
   | .live i=>if (g i==h)=ah then aa (.candidate p.j i (SetTable.advance t p)) else SetTable.probe.go t g h B (SetTable.advance t p)):=rfl
  rw[O]at e;have J:∀q:SetTable.Probe,(SetTable.advance t q).dummy=q.dummy:=λq=>by unfold SetTable.advance;split<;>rfl
  cases s:t.slot p.j with
  |empty =>
   rw[s]at e;cases e;exact⟨u5 (.inl s),M⟩
  |dummy =>
   rw[s]at e;exact L _ j d (λx D=>by rw[J]at D;cases D;exact u5 (.inr s)) e
  |live i =>
   rw[s]at e;simp only at e;split at e;cases e;exact L _ j d (λx D=>by rw[J]at D;exact M x D) e
def B4(e:SetTable.freeSlot t h=aa (j,b)):Fre t j:=by
 unfold SetTable.freeSlot at e;split at e
 ·rename_i q d D;cases e;obtain⟨L,J⟩:=B3 t _ h _ _ q d (λx B=>by simp[SetTable.probeStart]at B) D;cases d with
  |none=>exact L|some x=>exact J x rfl
 cases e
def JQ(h:Tb bt t)(es:Array (Int×aA))(k:Int)(x:aA):Tb bt (layNew t es k x).2.1:=by
 unfold layNew;split
 ·rename_i q J e;have D:=B4 e;have B:Tb bt (SetTable.put t q).1:=⟨h.led,JP h.ri D⟩;simp only;show Tb bt (SetTable.orStandIn _ _);unfold SetTable.orStandIn;split;exact B;exact lQ B _
 exact lQ h _
def B5{bt:Bool}(h:Tb bt t)(es:Array (Int×aA))(n:Nat):Tb bt (relayAll t es n).2.1:=by
 unfold relayAll;split
 ·rename_i J B e;have O:Tb bt J:=by
   unfold SetTable.relaid SetTable.laid at e;cases g:SetTable.layClean (SetTable.sizeAbove n-1) (es.map λx=>x.1)with
   |none=>rw[g]at e;cases e
   |some q =>
    rw[g]at e;cases e;refine⟨h.led,FH ?_⟩;rw[List.pairwise_map];refine List.Pairwise.filterMap _ (λa b D x M y L=>?_) ZZ;obtain⟨_,_,rfl⟩:=Option.map_eq_some_iff.mp M;obtain⟨_,_,rfl⟩:=Option.map_eq_some_iff.mp L;exact D
  simp only;split;exact O;exact lQ h _
 exact lQ h _
section
variable{prog:UM}{w:U6}{A:VE}{E:aA->UA->Prop}{s:UA}
def qO(prog:UM)(w:U6)(bt:Bool)(h:aq)(a:az)(S:Int->Bool)(n:Nat):Prop :=
 ∃o q B t,h.get? a=aa o/\o.ExactSet/\o.data=.set q B t/\ElemsOf (intKind prog w) q.toList/\(∀k,S k=ah↔∃e∈q.toList,(intKind prog w).is k e.2=ah)/\q.size<Xe/\t.fits q.size=ah/\q.size=n/\Tb bt t
def Ul{g:Bool->Sem Unit}(D:∀(b:Bool)(q:UA)(Q:Unit->UA->Prop),Q () q->av (UT prog w) A (g b) Q E q){b:Bool}{B:Type}{f:Unit->Sem B}{Q:B->UA->Prop}(h:av (UT prog w) A (f ()) Q E s):av (UT prog w) A (g b >>= f) Q E s :=
 Uw (D b s _ h)
def add_int{S:Int->Bool}(hs:qO prog w bt s.heap a S n)(hn:n+1<Xe)
(H:∀b h',VC a s.heap h'->qO prog w bt h' a (λM=>S M||decide (M=k)) (if S k=ah then n else n+1)->Q b {s with heap:=h'}):
 av (UT prog w) A (setAddHashed a (.int k tk) ((intKind prog w).hash k)) Q E s:=by
 obtain⟨o,U,ep,t,l,O,m,G,C,hb,T,rfl,ht⟩:=hs;have R:=intKind_is prog w k tk;unfold setAddHashed;refine Vw ?_;rw[setAddHashedIn.eq_def];show av _ _ (setState a >>= _) _ _ s;refine Uw (Wa l m T ?_);simp only;rw[bJ (byScan_of (knd:=intKind prog w) rfl hb G)];refine Uw ?_;unfold setAddByScan;refine Uw (Yp ?_);refine Uw ?_;show av _ _ (setScanFrom a (.int k tk) ((intKind prog w).hash k) ah U.toList 0) _ _ s;refine wpAny_setScanFrom_of (knd:=intKind prog w) R l m T U.toList 0 G ?_;cases g:U.toList.findIdx? λe=>(intKind prog w).is k e.2 with
 |some j =>
  have F:S k=ah:=by obtain⟨hj,Z,_⟩:=List.findIdx?_eq_some_iff_getElem.mp g;exact(C k).mpr ⟨_,XH hj,Z⟩
  refine au (au (H _ _ (XU _ _) ?_));rw[bJ F];refine⟨o,U,ep,t,l,O,m,G,λM=>?_,hb,T,rfl,ht⟩;rw[←C M]
  by_cases c:M=k
  subst c;simp[F];simp[c]
 |none =>
  have F:¬S k=ah:=λz=>by obtain⟨e,Z,p⟩:=(C k).mp z;have:=List.findIdx?_eq_none_iff.mp g e Z;rw[p]at this;cases this
  rw[bK F]at H;have x:=layNew_fits t U ((intKind prog w).hash k) (.int k tk);have I:=layNew_perm t U ((intKind prog w).hash k) (.int k tk);have v:=JQ ht U ((intKind prog w).hash k) (.int k tk);dsimp only;generalize layNew t U ((intKind prog w).hash k) (.int k tk)=r at x I v⊢;obtain⟨q,B,u,gv⟩:=r;simp only at x I v⊢;have Y:q.toList.Perm (U.toList++[((intKind prog w).hash k,.int k tk)]):=by simpa using I
  have sz:q.size=U.size+1:=by have:=Y.length_eq;simpa using this
  have e1:=(G.push R rfl).perm Y;have P:=mem_push_iff R C Y;have X:q.size<Xe:=by lia
  have fin:av (UT prog w) A (YN a q B >>= λ_=>if(!u&&B.tooFull)=ah then(match relayAll B q (SetTable.grown q.size)with|(J,W,L)=>(match L with|true=>rule "set.scan.the-table-gave-way" |false=>pure ()) >>= λ_=>YN a J W >>= λ_=>pure (aa ah))else pure (aa ah))
   (λV i=>av (UT prog w) A (match V with|some D=>pure D|none=>Z9 a (.int k tk) ((intKind prog w).hash k) 99999) Q E i) E s:=by
   obtain⟨ob,_⟩:=SetOf_store l O m e1 P X x;refine Uw (wpAny_storeSet_of l m ?_ (by rw[sz];exact W8 hn))
   by_cases c:(!u&&B.tooFull)=ah
   ·rw[bJ c];have y:=relayAll_fits B q (SetTable.grown q.size);have p2:=relayAll_perm B q (SetTable.grown q.size);have K:=B5 v q (SetTable.grown q.size);generalize relayAll B q (SetTable.grown q.size)=r at y p2 K⊢;obtain⟨J,W,L⟩:=r;simp only at y p2 K⊢;have f:J.size=U.size+1:=by have:=p2.length_eq;simp at this;lia
    have e2:=e1.perm p2;have m2:∀M,(S M||decide (M=k))=ah↔∃e∈J.toList,(intKind prog w).is M e.2=ah:=λM=>(P M).trans ⟨λ⟨e,Z,p⟩=>⟨e,p2.mem_iff.mpr Z,p⟩,λ⟨e,Z,p⟩=>⟨e,p2.mem_iff.mp Z,p⟩⟩;have nx:av (UT prog w) A (YN a J W >>= λ_=>pure (aa ah)) (λV i=>av (UT prog w) A (match V with|some D=>pure D|none=>Z9 a (.int k tk) ((intKind prog w).hash k) 99999) Q E i) E {s with heap:=s.heap.update a (Obj.putSet q B)}:=by obtain⟨N,_⟩:=SetOf_store (h:=s.heap.update a (Obj.putSet q B)) ob ⟨O.1,O.2.1,O.2.2⟩ rfl e2 m2 (by lia) y;refine Uw (wpAny_storeSet_of (s:={s with heap:=s.heap.update a (Obj.putSet q B)}) ob rfl ?_ (by rw[f];exact W8 hn));refine au (au (H ah _ ((Vq ..).trans (Vq ..)) ?_));exact⟨_,J,_,W,N,⟨O.1,O.2.1,O.2.2⟩,rfl,e2,m2,by lia,y,f,K⟩
    refine Uw ?_;cases L with
    |true=>exact Yp nx|false=>exact au nx
   ·rw[bK c];refine au (au (H ah _ (Vq ..) ?_));exact⟨_,q,_,B,ob,⟨O.1,O.2.1,O.2.2⟩,rfl,e1,P,X,x,sz,v⟩
  refine Uw ?_;have nx:av (UT prog w) A (if B.plain=ah then hashByValue 8 (.int k tk) >>= λd=>YN a q (if d=ah then B else { B with plain:=ai }) >>= λ_=>if (!u&&(if d=ah then B else { B with plain:=ai }).tooFull)=ah then (match relayAll (if d=ah then B else { B with plain:=ai }) q (SetTable.grown q.size) with | (J,W,L)=>(match L with | true=>rule "set.scan.the-table-gave-way" | false=>pure ()) >>= λ_=>YN a J W >>= λ_=>pure (aa ah)) else pure (aa ah) else
   (pure ah >>= λd=>YN a q (if d=ah then B else { B with plain:=ai }) >>= λ_=>if (!u&&(if d=ah then B else { B with plain:=ai }).tooFull)=ah then (match relayAll (if d=ah then B else { B with plain:=ai }) q (SetTable.grown q.size) with | (J,W,L)=>(match L with | true=>rule "set.scan.the-table-gave-way" | false=>pure ()) >>= λ_=>YN a J W >>= λ_=>pure (aa ah)) else pure (aa ah)))
   (λV i=>av (UT prog w) A (match V with|some D=>pure D|none=>Z9 a (.int k tk) ((intKind prog w).hash k) 99999) Q E i) E s:=by
   by_cases c:B.plain=ah
   ·rw[bJ c];refine Uw ?_;rw[hashByValue.eq_def];exact au fin
   ·rw[bK c];exact Uw (au fin)
  cases gv with
  |true=>refine Yp ?_;exact nx|false=>refine au ?_;exact nx
end
section
variable{prog:UM}{w:U6}{A:VE}{E:aA->UA->Prop}{R:ZU->UA->Prop}
def B6(E:A.handled=af){S:az}(hi:Xu items.toList ns)(B:S≠it)(h:S≠l)(f:it≠l)(H:items.size+1<Xe):
 ∀(k i:Nat)(s:UA),items.size-i=k->i<=items.size->s.heap.IsListIter it l i->s.heap.IsList l items->qO prog w bt s.heap S (λq=>(V5 (λi=>ns.getD i 0) i).any (·==q)) (V5 (λi=>ns.getD i 0) i).length →
  (∀h' tk,(∀b o,b≠S->b≠it->s.heap.get? b=aa o->h'.get? b=aa o)->qO prog w bt h' S (λq=>(V5 (λi=>ns.getD i 0) items.size).any (·==q)) (V5 (λi=>ns.getD i 0) items.size).length->R (.ok (.ret .none)) {s with heap:=h',toks:=tk}) →
  ak (UT prog w) A (.builtin "set.update.loop" ⟨[.ref S,.ref it],[]⟩) R s:=by
 intro k
 induction k with
 |zero =>
  intro i s C g p V n m;have:i=items.size:=by lia
  subst this;refine codeAny_builtin F.entry_set_update_loop ?_;rw[Vp F.plain_set_update_loop _];show av _ A.in1 (YO (.ref it) >>= _) _ _ _;refine Uw (wpAny_pyNext_list_end (A:=A.in1) E p V (VG (UE _)) λh' M=>?_);refine au (m h' s.toks (λb o _ J e=>M b o J e) ?_);obtain⟨o,v,x,t,u,W⟩:=n;exact⟨o,v,x,t,M S o B u,W⟩
 |succ k z =>
  intro i s C g p V n m;have O:i<items.size:=by lia
  have M:items[i]?=aa items[i]:=Vi O;obtain⟨tk,ex⟩:=hi.int_at i items[i] (by simpa using M);refine codeAny_builtin F.entry_set_update_loop ?_;rw[Vp F.plain_set_update_loop _];show av _ A.in1 (YO (.ref it) >>= _) _ _ _;refine Uw (wpAny_pyNext_list_item p V M λh' u W=>?_);rw[ex];have j:qO prog w bt h' S (λq=>(V5 (λi=>ns.getD i 0) i).any (·==q)) (V5 (λi=>ns.getD i 0) i).length:=by obtain⟨o,v,x,t,a,Z⟩:=n;exact⟨o,v,x,t,(W.2 S B).trans a,Z⟩
  have G:(V5 (λi=>ns.getD i 0) i).length<=i:=firstMet_length_le _ _;refine Uw (Vw ?_);unfold setAdd;refine Vw (Uw (wpAny_pyHash_int ?_));refine add_int (bt:=bt) (s:={s with heap:=h',toks:=s.toks+1}) j (by lia) λb D y k2=>?_;have d:qO prog w bt D S (λq=>(V5 (λi=>ns.getD i 0) (i+1)).any (·==q)) (V5 (λi=>ns.getD i 0) (i+1)).length:=by
   have e1:(λq=>(V5 (λi=>ns.getD i 0) (i+1)).any (·==q))=λq=>(V5 (λi=>ns.getD i 0) i).any (·==q)||decide (q=ns.getD i 0):=by funext q;rw[firstMet_succ,step_any]
   rw[e1,firstMet_succ,step_length];exact k2
  have L:∀c o,c≠S->c≠it->s.heap.get? c=aa o->D.get? c=aa o:=λc o U J e=>(y.2 c U).trans ((W.2 c J).trans e);refine au ⟨plainId_quiet F.plain_set_update_loop _,z (i+1) {s with heap:=D,toks:=s.toks+1} (by lia) O ?_ ?_ d λr Y a Z=>?_⟩
  ·obtain⟨o,e1,e2⟩:=u;exact⟨o,(y.2 it (Vu B)).trans e1,e2⟩
  ·obtain⟨o,e1,e2⟩:=V;exact⟨o,L l o (Vu h) (Vu f) e1,e2⟩
  exact m r Y (λc o U J e=>a c o U J (L c o U J e)) Z
end
section
variable{prog:UM}{w:U6}{A:VE}{E:aA->UA->Prop}{s:UA}
def lR(h:Q (w.params.followText "set-order") s):av (UT prog w) A setsByText Q E s:=by unfold setsByText;exact Uw (wpAny_askSetting (au h))
def B7{S:az}(Z:A.handled=af)(q:s.heap.IsList l items)(hi:Xu items.toList ns)(a:items.size+1<Xe)(L:S≠l)
(B:s.heap.get? S=aa {cls:=.type "set",data:=.set #[] 0 (SetTable.fresh 0 0 (!w.params.followText "set-order"))})
(d:∀h' tk,(∀b o,b≠S->s.heap.get? b=aa o->h'.get? b=aa o)->qO prog w (w.params.followText "set-order") h' S (λY=>(V5 (λi=>ns.getD i 0) items.size).any (·==Y)) (V5 (λi=>ns.getD i 0) items.size).length->R (.ok (.ret .none)) {s with heap:=h',toks:=tk}):
 av (UT prog w) A.in1 (Builtin.«set.__init__» ⟨[.ref S,.ref l],[]⟩)
  (λfin s'=>match fin with|.done f=>R (.ok f) s'|.again c'=>c'.quiet=ah/\ak (UT prog w) A c' R s') (λe s'=>R (.error e) s') s:=by
 have c:s.TypeIs (.ref S) "set":=⟨_,B,rfl⟩;unfold Builtin.«set.__init__»;refine Uw (au ?_);dsimp only;refine Uw ?_;unfold typeNameOfCut shownTypeOf;refine Uw ?_;refine Uw (Xd c ?_);rw[bK (by decide)];refine au ?_;show av _ _ (typeName (.type "set")) _ _ s;refine au ?_;refine Uw (au ?_);refine Uw (au ?_);refine Uw ?_;unfold setUsed;refine Uw (Wa B rfl rfl (au ?_));rw[bK (show ¬((SetTable.fresh 0 0 (!w.params.followText "set-order")).fill != 0)=ah from Vh)];refine Uw ?_;unfold Builtin.Frozenset.updateFrom;refine Uw ?_;have M:s.TypeIs (.ref l) "list":=q.typeIs;unfold Builtin.Frozenset.isAnySet;refine Uw (Xh (b:=ai) M (isSubtype_of_subB (by decide +kernel)) ?_);show av _ _ (isInstance (.ref l) (.type "frozenset")) _ _ s;refine Xh (b:=ai) M (isSubtype_of_subB (by decide +kernel)) ?_;rw[bK Vh];refine Uw (Xd M ?_);rw[bK (by decide)];refine Uw (wpAny_pyIter_list q ?_);refine Uw (wpAny_runValue ?_);have V:S<s.heap.objs.size:=UF B;have U:l<s.heap.objs.size:=by obtain⟨o,e,_⟩:=q;exact UF e
 have D:∀b o,s.heap.get? b=aa o->(s.heap.push {cls:=.type "list_iterator",data:=.fields #[.ref l,.int 0 0]}).get? b=aa o:=λb o e=>Ux _ e;refine B6 (bt:=w.params.followText "set-order") (A:=A.in1) Z hi (U0 V) L (Wt U) a items.size 0 _ rfl (Vx _) ⟨_,UG _ rfl,rfl,rfl⟩ ?_ ?_ λh' tk W k2=>?_
 ·obtain⟨o,e,r⟩:=q;exact⟨o,D _ _ e,r⟩
 refine⟨_,#[],0,_,D _ _ B,⟨rfl,rfl,rfl⟩,rfl,λe J=>(by simp at J),λk=>⟨λz=>by simp[firstMet_zero]at z,λ⟨e,J,_⟩=>by simp at J⟩,by decide,rfl,by simp[firstMet_zero],B0 _⟩;refine au (au (d h' tk (λb o O e=>W b o O (U0 (UF e)) (D b o e)) k2))
def FI(v:aA)(h:Q₁ (.ref s.heap.objs.size) {s with heap:=s.heap.push {cls:=.type "set",data:=.set #[] 0 (SetTable.fresh 0 0 (!w.params.followText "set-order"))} }):
 ak (UT prog w) A (.call (.builtin "set.__new__") {pos:=[.type "set",v]}) (wants Q₁ E) s:=by
 refine codeAny_call_builtin (by decide +kernel) PySem.F.entry_set_new ?_;rw[PySem.F.newCall_set_1];refine au ?_;unfold Builtin.«set.__new__»;refine Uw (au ?_);refine Uw ?_;unfold newSet;refine Uw (lR ?_);refine Vm ?_ (by size_fits);exact au h
def B8(Z:A.handled=af)(O:s.heap.IsList l items)(hi:Xu items.toList ns)(a:items.size+1<Xe)
(f:∀h' tk,qO prog w (w.params.followText "set-order") h' s.heap.objs.size (λJ=>(V5 (λi=>ns.getD i 0) items.size).any (·==J)) (V5 (λi=>ns.getD i 0) items.size).length->(∀b o,s.heap.get? b=aa o->h'.get? b=aa o)->Q (.ref s.heap.objs.size) {s with heap:=h',toks:=tk}):
 av (UT prog w) A (call (.type "set") [.ref l]) Q E s:=by
 have V:l<s.heap.objs.size:=by obtain⟨o,e,_⟩:=O;exact UF e
 have M:∀b o,s.heap.get? b=aa o->(s.heap.push {cls:=.type "set",data:=.set #[] 0 (SetTable.fresh 0 0 (!w.params.followText "set-order"))}).get? b=aa o:=λb o e=>Ux _ e;have U:(s.heap.push {cls:=.type "set",data:=.set #[] 0 (SetTable.fresh 0 0 (!w.params.followText "set-order"))}).get? s.heap.objs.size=aa {cls:=.type "set",data:=.set #[] 0 (SetTable.fresh 0 0 (!w.params.followText "set-order"))}:=UG _ rfl;refine XM (codeAny_of_tree ?_);show av _ _ (pure (Fin.again (.builtin "type.__call__" ⟨[.type "set",.ref l],[]⟩))) _ _ s;refine au ⟨Code.quiet_builtin _ (by decide +kernel),codeAny_builtin PySem.F.entry_type_call ?_⟩;rw[Around.under_plain (weight_type_call_type "set" [.ref l] []) rfl];unfold Builtin.«type.__call__»;dsimp only;rw[bK (by rw[PySem.F.called_set.notType];exact Vh)];rw[bK (by rw[PySem.F.called_set.canCreate];exact Vh)];rw[PySem.F.typeCall_set_1];refine Uw (au ?_);obtain⟨c,tl,Y⟩:=PySem.F.called_set.mro;rw[Y];refine Uw (au ?_);rw[bK (by simp)];rw[PySem.F.called_set.made];refine Uw (au ?_);refine Uw (au ?_);refine Uw (Vw (XM ?_));refine codeAny_mono (FI (E:=E) (Q₁:=λB q=>B=.ref s.heap.objs.size/\q={s with heap:=s.heap.push {cls:=.type "set",data:=.set #[] 0 (SetTable.fresh 0 0 (!w.params.followText "set-order"))} }) _ ⟨rfl,rfl⟩) λr j h=>?_;cases r with
 |error e=>exact h
 |ok g =>
  cases g with
  |ret v =>
   obtain⟨rfl,rfl⟩:=(show _/\_ from h);have L:({s with heap:=s.heap.push {cls:=.type "set",data:=.set #[] 0 (SetTable.fresh 0 0 (!w.params.followText "set-order"))} }:UA).TypeIs (.ref s.heap.objs.size) "set":=⟨_,U,rfl⟩;refine Uw (Xh (b:=ah) L PySem.F.called_set.sub ?_);rw[bK (by decide)];refine Uw (Vw (Wg L PySem.F.slot_set_init (XM ?_)));have D:∀R:ZU->UA->Prop,(∀h' tk,(∀b o,b≠s.heap.objs.size->(s.heap.push {cls:=.type "set",data:=.set #[] 0 (SetTable.fresh 0 0 (!w.params.followText "set-order"))}).get? b=aa o->h'.get? b=aa o)->qO prog w (w.params.followText "set-order") h' s.heap.objs.size (λJ=>(V5 (λi=>ns.getD i 0) items.size).any (·==J)) (V5 (λi=>ns.getD i 0) items.size).length->R (.ok (.ret .none)) {s with heap:=h',toks:=tk}) →
    ak (UT prog w) A.in1 (.call (.builtin "set.__init__") ⟨[.ref s.heap.objs.size,.ref l],[]⟩) R {s with heap:=s.heap.push {cls:=.type "set",data:=.set #[] 0 (SetTable.fresh 0 0 (!w.params.followText "set-order"))} }:=λR d =>
    codeAny_call_builtin (by decide +kernel) PySem.F.entry_set_init (check_set_init_1 L (B7 (prog:=prog) (w:=w) (s:={s with heap:=s.heap.push {cls:=.type "set",data:=.set #[] 0 (SetTable.fresh 0 0 (!w.params.followText "set-order"))} }) (A:=A.in1) Z (let ⟨o,e,r⟩:=O;⟨o,M _ _ e,r⟩) hi a (Wt V) U d))
   refine D _ λh' tk W k2=>?_;show av _ _ (if(WX != WX)=ah then _ else PySem.ret (.ref s.heap.objs.size)) _ _ _;rw[bK (by decide)];exact au (f h' tk k2 λb o e=>W b o (U0 (UF e)) (M b o e))
  |_=>exact h
end
def lT:Slot "set_iterator" (UN "__next__") "set_iterator.__next__":=Slot.of (owner:="set_iterator") (n:="__next__") (by rw[typeLookup_type,builtinLookup_eq_fast];kernel_rfl) (by kernel_rfl) (by kernel_rfl) (by kernel_rfl) (.inl (by kernel_rfl)) (by rw[isSubtype_type];kernel_rfl) (by decide +kernel)
def u6:entryFor table "set_iterator.__next__"=aa Builtin.«set_iterator.__next__»:=by kernel_rfl
def w6:entryFor table "set.__iter__"=aa Builtin.«frozenset.__iter__»:=by kernel_rfl
def yD(a:aA):argsOk "set_iterator.__next__" {pos:=[a]}:=by kernel_rfl
noncomputable def itO(first:aA)(i n ep:Nat)(a:az):ao:={cls:=.type "set_iterator",data:=.fields #[first,.int i 0,.ref a,.int n 0,.int ep 0]}
noncomputable def slotAt(pl:Array Nat):Nat->Nat
 |0=>0
 |i+1=>match pl[i]? with
  |some j=>j+1|none=>0
inductive Md(w:U6)(h:aq)(a:az)(es:Array (Int×aA))(ep:Nat)(t:SetTable):aA->List aA->Nat->Prop
 |A{z:Int}{i:Nat}(q:w.params.followText "set-order"=ah):Md w h a es ep t (.int z 0) ((Xo (w.params.setOrder a ep) es).toList.map (·.2)) i
 |B{T:az}{pl:List Nat}{i:Nat}(D:h.IsTuple T (pl.map λ(p:Nat)=>Xf p 0).toArray)(q:∀p∈pl,p<es.size):Md w h a es ep t (.ref T) (pl.filterMap λp=>es[p]?.map (·.2)) i
 |C{i:Nat}(B:w.params.followText "set-order"=ai)(D:(!t.plain&&decide (es.size>1))=ai)(q:Tb ai t):Md w h a es ep t (.int (slotAt t.place i) 0) (es.toList.map (·.2)) i
structure NX(w:U6)(h:aq)(it a:az)(ord:List aA)(i:Nat):Prop where
 ex:∃o es ep t first,h.get? a=aa o/\o.data=.set es ep t/\t.fits es.size=ah/\h.get? it=aa (itO first i es.size ep a)/\Md w h a es ep t first ord i
def Md.at(m:Md w h a es ep t first ord i)(k:∀b o,(∃xs n,o.data=.seq xs n)->h.get? b=aa o->h'.get? b=aa o):Md w h' a es ep t first ord i:=by
 cases m with
 |A q=>exact .A q
 |B M J =>
  obtain⟨o,e,c,n,d⟩:=M;exact .B ⟨o,k _ o ⟨_,n,d⟩ e,c,n,d⟩ J
 |C q L D=>exact .C q L D
theorem fh(f:α->Option β):∀(l:List α),(∀x∈l,(f x).isSome=ah)->∀i:Nat,(l.filterMap f)[i]?=(l[i]?).bind f
 |[],_,i=>by simp
 |x::l,h,i=>by
  obtain⟨y,q⟩:=Option.isSome_iff_exists.mp (h x UH);rw[U5,q];cases i with
  |zero=>simp[q]|succ i=>simpa using fh f l (λz B=>h z (UC _ B)) i
section
variable{prog:UM}{w:U6}{A:VE}{E:aA->UA->Prop}{s:UA}
def u9{t:SetTable}{n i:Nat}(h:Ri t.place)(hn:t.place.size=n)(hi:i<n):SetTable.below t.place (slotAt t.place i)=i/\∃j,t.place[i]?=aa j/\slotAt t.place (i+1)=j+1:=by
 obtain⟨L,J,V⟩:=lg h (slotAt t.place i);have B:t.place[i]?=aa t.place[i]:=Vi (by lia);refine⟨?_,t.place[i],B,by show(match t.place[i]? with|some j=>j+1|none=>0)=_;rw[B]⟩;have lo:∀k v,k<i->t.place[k]?=aa v->v<slotAt t.place i:=λk v M ev=>by
  cases i with
  |zero=>lia
  |succ i =>
   have q:t.place[i]?=aa t.place[i]:=Vi (by lia);have e:slotAt t.place (i+1)=t.place[i]+1:=by show(match t.place[i]? with|some j=>j+1|none=>0)=_;rw[q]
   rw[e];rcases UX k i with z|z
   have:=h k i v _ z ev q;lia
   ·have:k=i:=by lia
    subst this;rw[q]at ev;cases ev;lia
 have D:slotAt t.place i<=t.place[i]:=by
  cases i with
  |zero=>exact Vx _
  |succ i =>
   have q:t.place[i]?=aa t.place[i]:=Vi (by lia);have e:slotAt t.place (i+1)=t.place[i]+1:=by show(match t.place[i]? with|some j=>j+1|none=>0)=_;rw[q]
   rw[e];have:=h i (i+1) _ _ (Wd _) q B;lia
 rcases Nat.lt_trichotomy (SetTable.below t.place (slotAt t.place i)) i with z|z|z
 ·have q:t.place[SetTable.below t.place (slotAt t.place i)]?=aa t.place[SetTable.below t.place (slotAt t.place i)]:=Vi (by lia);have U:=lo _ _ z q;have O:=J _ _ (UE _) q;lia
 exact z
 ·have:=L i _ z B;lia
def B9{t:SetTable}{n:Nat}(h:Ri t.place)(hn:t.place.size=n):n<=SetTable.below t.place (slotAt t.place n):=by
 obtain⟨D,B,J⟩:=lg h (slotAt t.place n);cases n with
 |zero=>exact Vx _
 |succ n =>
  have q:t.place[n]?=aa t.place[n]:=Vi (by lia);have e:slotAt t.place (n+1)=t.place[n]+1:=by show(match t.place[n]? with|some j=>j+1|none=>0)=_;rw[q]
  rw[e]at D B⊢;rcases UX n (SetTable.below t.place (t.place[n]+1))with z|z
  exact z
  ·have:=B n _ z q;lia
def Ca{h:aq}{q:az}{first B:aA}{i n ep:Nat}{a:az}(e:h.get? q=aa (itO first i n ep a)):((h.update q (VL λx=>x.setIfInBounds 0 B)).update q (VL λx=>x.setIfInBounds 1 (.int ((i:Int)+1) 0))).get? q=aa (itO B (i+1) n ep a):=by have e1:=Vb (VL λx=>x.setIfInBounds 0 B) e rfl;have e2:=Vb (VL λx=>x.setIfInBounds 1 (.int ((i:Int)+1) 0)) e1 rfl;rw[e2];rfl
def FJ{h:aq}{q:az}{first:aA}{i n ep:Nat}{a:az}(e:h.get? q=aa (itO first i n ep a)):(h.update q (VL λx=>x.setIfInBounds 1 (.int ((i:Int)+1) 0))).get? q=aa (itO first (i+1) n ep a):=by have e2:=Vb (VL λx=>x.setIfInBounds 1 (.int ((i:Int)+1) 0)) e rfl;rw[e2];rfl
def Cb(q:s.heap.get? a=aa o)(D:o.data=.set es ep t)(B:t.fits es.size=ah)(J:w.params.followText "set-order"=ah)
(h:Q ((Xo (w.params.setOrder a ep) es)[g]?.map λe=>(e.2,sl)) s):av (UT prog w) A (setNext a sl g ep) Q E s:=by
 unfold setNext;refine Uw (Wa q D B ?_);dsimp only;refine Uw (lR ?_);rw[bJ J,bK (by simp)];refine Uw ?_;unfold setWalk;refine Uw (Wa q D B ?_);dsimp only;refine Uw (lR ?_);rw[bJ J];refine Uw (wpAny_askSetting (au (au ?_)));exact h
def Cd(D:s.heap.get? a=aa o)(L:o.data=.set es ep t)(J:t.fits es.size=ah)(M:w.params.followText "set-order"=ai)
(q:(!t.plain&&decide (es.size>1))=ai)(B:Tb ai t)(h:Q (match es[SetTable.below t.place sl]?,t.place[SetTable.below t.place sl]? with|some (_,x),aa j=>aa (x,j+1)|_,_=>af) s):av (UT prog w) A (setNext a sl g ep) Q E s:=by
 unfold setNext;refine Uw (Wa D L J ?_);dsimp only;refine Uw (lR ?_);rw[M,bK Vh];show av _ _ (if(!t.plain&&decide (es.size>1))=ah then _ else _) _ _ s;rw[q,bK Vh];refine Uw ?_;show av _ _ (if(!t.led&&!es.isEmpty)=ah then unsupported "set:maker-not-led" else pure ()) _ _ s;rw[B.led];show av _ _ (if(!(!ai)&&!es.isEmpty)=ah then unsupported "set:maker-not-led" else pure ()) _ _ s;rw[bK (by simp)];exact au (au h)
def JR(q:s.heap.get? a=aa o)(J:o.data=.set es ep t)(B:t.fits es.size=ah)(D:es[p]?=aa e)(h:Q e.2 s):av (UT prog w) A (setNextDrawn a p ep) Q E s:=by unfold setNextDrawn;refine Uw (Wa q J B ?_);dsimp only;rw[bK (by simp),D];exact au h
def FL{D a:az}{ord:List aA}{i:Nat}{x:aA}{Q:PySem.Fin->UA->Prop}(N:NX w s.heap D a ord i)(W:D≠a)(Z:ord[i]?=aa x)(r:∀h',NX w h' D a ord (i+1)->VC D s.heap h'->Q (.done (.ret x)) {s with heap:=h'}):
 av (UT prog w) A (Builtin.«set_iterator.__next__» {pos:=[.ref D]}) Q E s:=by
 obtain⟨o,L,c,t,first,V,Y,U,O,m⟩:=N.ex;have keep:∀{h':aq},VC D s.heap h'->∀b o,(∃u n,o.data=Data.seq u n)->s.heap.get? b=aa o->h'.get? b=aa o:=λ{h'} J b ob d e=>(J.2 b (λz=>by subst z;rw[O]at e;cases e;obtain⟨u,n,d⟩:=d;cases d)).trans e
 unfold Builtin.«set_iterator.__next__»;refine Uw (au ?_);refine Uw (wpAny_fieldsOf O rfl ?_);dsimp only;refine Uw (YD V Y U ?_);rw[bK (by simp)];cases m with
 |@A z _ g =>
  have K:(Xo (w.params.setOrder a c) L)[i]?.map (λe=>(e.2,z.toNat))=aa (x,z.toNat):=by
   rw[U1]at Z;obtain⟨e,e1,e2⟩:=Option.map_eq_some_iff.mp Z;have M:(Xo (w.params.setOrder a c) L)[i]?=aa e:=by simpa using e1
   rw[M,←e2];rfl
  refine Uw (Cb V Y U g ?_);show av _ _ (match (Xo (w.params.setOrder a c) L)[i]?.map (λe=>(e.2,z.toNat))with|some (x,next)=>_|none=>_) _ _ s;rw[K];refine Uw (WO O rfl (by simp) ?_);refine Uw (WO (Vb _ O rfl) rfl (by simp) ?_);have J:VC D s.heap ((s.heap.update D (VL λy=>y.setIfInBounds 0 (.int (z.toNat:Int) 0))).update D (VL λy=>y.setIfInBounds 1 (.int ((i:Int)+1) 0))):=(Vq ..).trans (Vq ..);exact au (r _ ⟨⟨o,L,c,t,_,(J.2 a (Vu W)).trans V,Y,U,Ca O,.A g⟩⟩ J)
 |@B T h _ F v =>
  have d:∀p∈h,((λp:Nat=>L[p]?.map (·.2)) p).isSome=ah:=λp I=>by have:=v p I;simp[this]
  rw[fh _ h d]at Z;obtain⟨p,e1,e2⟩:=Option.bind_eq_some_iff.mp Z;obtain⟨e,e3,X⟩:=Option.map_eq_some_iff.mp e2;subst X;obtain⟨oT,R,g2,nT,P⟩:=id F;show av _ _ (seqItems? (.ref T) >>= _) _ _ s;refine Uw (W9 R P ?_);have S:((h.map λ(p:Nat)=>Xf p 0).toArray)[i]?=aa (.int p 0):=by simp[e1]
  dsimp only;rw[VS,S];dsimp only;refine Uw (JR V Y U (by rw[VS];exact e3) ?_);refine Uw (WO O rfl (by simp) ?_);have J:VC D s.heap (s.heap.update D (VL λy=>y.setIfInBounds 1 (.int ((i:Int)+1) 0))):=Vq ..;refine au (r _ ⟨⟨o,L,c,t,_,(J.2 a (Vu W)).trans V,Y,U,FJ O,?_⟩⟩ J);exact(Md.B (i:=i+1) F v).at (keep J)
 |C g f k =>
  have hn:t.place.size=L.size:=by unfold SetTable.fits at U;simp only[Uz,bS]at U;exact U.1
  rw[U1]at Z;obtain⟨e,e1,e2⟩:=Option.map_eq_some_iff.mp Z;have M:L[i]?=aa e:=by simpa using e1
  have l:i<L.size:=by
   rcases UX i L.size with q|q
   exact q;rw[VG q]at M;cases M
  obtain⟨H,j,p2,G⟩:=u9 k.ri hn l;subst e2;refine Uw (Cd V Y U g f k ?_);rw[VS,H,M,p2];refine Uw (WO O rfl (by simp) ?_);refine Uw (WO (Vb _ O rfl) rfl (by simp) ?_);have J:VC D s.heap ((s.heap.update D (VL λy=>y.setIfInBounds 0 (.int ((j+1:Nat):Int) 0))).update D (VL λy=>y.setIfInBounds 1 (.int ((i:Int)+1) 0))):=(Vq ..).trans (Vq ..);refine au (r _ ⟨⟨o,L,c,t,_,(J.2 a (Vu W)).trans V,Y,U,Ca O,?_⟩⟩ J);rw[←G];exact .C g f k
def sU{first:aA}{i n ep:Nat}{a:az}(D:A.handled=af)(q:VC it h0 s.heap)(hi:∃o vs,s.heap.get? it=aa o/\o.data=.fields vs/\vs.size=5)(O:f<5)
(L:∀h' e,Za it h0 h'->(∃o,h'.get? e=aa o/\o.cls=.type "StopIteration")->E (.ref e) {s with heap:=h'}):
 av (UT prog w) A (setField (.ref it) f .none >>= λ_=>newExc (.type "StopIteration") [] >>= λe=>(raiseNew e:Sem PySem.Fin)) Q E s:=by
 obtain⟨o,vs,B,J,M⟩:=hi;refine Uw (WO B J (by lia) ?_);refine Uw ?_;simp only[newExc,newTuple];refine Uw (Vm ?_ (by size_fits));refine Uw (m:=firstArgMember _ _) (wpAny_of_eq (a:=WX) (by first|rfl|(simp only[firstArgMember];rfl)) ?_);refine Vm ?_ (by size_fits);simp only[raiseNew];refine Uw (wpAny_handled ?_);rw[D];refine wpAny_throw ?_;exact L _ _ (((q.trans (Vq ..)).extBut.push _).push _) ⟨_,UG _ rfl,rfl⟩
def JS{M a:az}{ord:List aA}{i:Nat}{Q:PySem.Fin->UA->Prop}(b:A.handled=af)(N:NX w s.heap M a ord i)(V:i=ord.length)(hn:∀o es ep t,s.heap.get? a=aa o->o.data=.set es ep t->ord.length=es.size)
(g:∀h' e,Za M s.heap h'->(∃o,h'.get? e=aa o/\o.cls=.type "StopIteration")->E (.ref e) {s with heap:=h'}):
 av (UT prog w) A (Builtin.«set_iterator.__next__» {pos:=[.ref M]}) Q E s:=by
 obtain⟨o,es,ep,t,first,O,U,J,L,m⟩:=N.ex;have l:=hn o es ep t O U;unfold Builtin.«set_iterator.__next__»;refine Uw (au ?_);refine Uw (wpAny_fieldsOf L rfl ?_);dsimp only;refine Uw (YD O U J ?_);rw[bK (by simp)];cases m with
 |@A z _ f =>
  have v:(Xo (w.params.setOrder a ep) es)[i]?.map (λe=>(e.2,z.toNat))=af:=by rw[V,UI,UV,VG (UE _)];rfl
  refine Uw (Cb O U J f ?_);show av _ _ (match (Xo (w.params.setOrder a ep) es)[i]?.map (λe=>(e.2,z.toNat))with|some (x,next)=>_|none=>_) _ _ s;rw[v];exact sU (first:=.none) (i:=0) (n:=0) (ep:=0) (a:=a) b (XU _ _) ⟨_,_,L,rfl,rfl⟩ (by decide) g
 |@B T D _ F k =>
  have W:∀p∈D,((λp:Nat=>es[p]?.map (·.2)) p).isSome=ah:=λp r=>by have:=k p r;simp[this]
  have u:i=D.length:=by
   have S:=fh _ D W D.length;have R:=List.length_filterMap_le (λp:Nat=>es[p]?.map (·.2)) D;rcases UX i D.length with q|q
   ·have h:=fh _ D W i;rw[V,UO (UE _),UL (by lia)]at h;have:=W D[(List.filterMap (λp:Nat=>es[p]?.map (·.2)) D).length] (XH _);rw[VA]at h;dsimp only at this;rw[←h]at this;cases this
   lia
  obtain⟨K,H,X,P,G⟩:=id F;show av _ _ (seqItems? (.ref T) >>= _) _ _ s;refine Uw (W9 H G ?_);have I:((D.map λ(p:Nat)=>Xf p 0).toArray)[i]?=af:=by simp[u]
  dsimp only;rw[VS,I];dsimp only;refine Uw (WO L rfl (by simp) ?_);exact sU (s:={s with heap:=s.heap.update M (VL λy=>y.setIfInBounds 0 (Wj 0))}) (first:=.none) (i:=0) (n:=0) (ep:=0) (a:=a) b (Vq ..) ⟨_,_,Vb _ L rfl,rfl,rfl⟩ (by decide) g
 |C f c j =>
  have Y:t.place.size=es.size:=by unfold SetTable.fits at J;simp only[Uz,bS]at J;exact J.1
  have Z:i=es.size:=by rw[V,UI,UV]
  have d:=B9 j.ri Y;refine Uw (Cd O U J f c j ?_);have e1:es[SetTable.below t.place (slotAt t.place i)]?=af:=VG (by rw[Z];exact d);rw[VS,e1];exact sU (first:=.none) (i:=0) (n:=0) (ep:=0) (a:=a) b (XU _ _) ⟨_,_,L,rfl,rfl⟩ (by decide) g
def FM(N:NX w s.heap it a ord i)(q:it≠a)(J:ord[i]?=aa x)(M:∀h',NX w h' it a ord (i+1)->VC it s.heap h'->Q (aa x) {s with heap:=h'}):
 av (UT prog w) A (YO (.ref it)) Q E s:=by
 have B:s.TypeIs (.ref it) "set_iterator":=by obtain⟨o,W,Y,t,first,O,V,U,L,m⟩:=N.ex;exact⟨_,L,rfl⟩
 unfold YO;exact Uw (wpAny_attempt (Wg (name:=UN "__next__") B lT (WQ lT B u6 (FL N q J λh' D k2=>⟨x,rfl,au (M h' D k2)⟩) (yD _))))
def JT(M:A.handled=af)(N:NX w s.heap it a ord i)(J:i=ord.length)(hn:∀o es ep t,s.heap.get? a=aa o->o.data=.set es ep t->ord.length=es.size)(U:∀h',Za it s.heap h'->Q af {s with heap:=h'}):
 av (UT prog w) A (YO (.ref it)) Q E s:=by
 have B:s.TypeIs (.ref it) "set_iterator":=by obtain⟨o,es,ep,t,first,q,W,V,L,m⟩:=N.ex;exact⟨_,L,rfl⟩
 unfold YO;refine Uw (wpAny_attempt (Wg (name:=UN "__next__") B lT (WQ lT B u6 (JS (A:=A.in1) M N J hn λh' e D k2=>?_) (yD _))));obtain⟨o,q,O⟩:=k2;refine Uw (Xh (T:="StopIteration") (b:=ah) ⟨o,q,O⟩ isSubtype_stop ?_);exact au (U _ D)
theorem lq:∀{l:List α}{i:Nat}(h:i<l.length),(l[i]::l.eraseIdx i).Perm l
 |x::l,0,_=>.refl _
 |x::l,i+1,h=>by
  have q:i<l.length:=by simpa using h
  have:=lq q;show(l[i]::x::l.eraseIdx i).Perm (x::l);exact(List.Perm.swap _ _ _).trans (this.cons x)
def wp_choose(hn:n≠0)(h:∀i d,i<n->Q i {s with drawn:=d}):av (UT prog w) A (choose src n) Q E s:=by intro q p _;unfold choose;rw[Sem.wp_choose];exact⟨hn,h _ _ (YH _ (by lia))⟩
def Ad:∀(n:Nat)(xs:List α)(s:UA){Q:List α->UA->Prop},xs.length=n->(∀ys d,ys.Perm xs->Q ys {s with drawn:=d})->av (UT prog w) A (drawOrder n xs) Q E s:=by
 intro n
 induction n with
 |zero =>
  intro xs s Q q h;have:=List.length_eq_zero_iff.mp q;subst this;exact au (h [] s.drawn .nil)
 |succ n D =>
  intro xs s Q q h;cases xs with
  |nil=>cases q
  |cons x r =>
   show av _ _ (choose Source.order (x::r).length >>= λi=>match (x::r)[i]? with
    |some y=>drawOrder n ((x::r).eraseIdx i) >>= λl=>pure (y::l)
    | none=>unsupported "internal:drawOrder") _ _ s
   refine Uw (wp_choose (by simp) λi d B=>?_);rw[UL B];dsimp only;refine Uw (D _ _ (by rw[Zo B];lia) λys L J=>?_);refine au (h _ L ?_);exact(J.cons _).trans (lq B)
def FN(next:Nat->Nat):∀(fuel k:Nat)(left:List α)(out:Array α),left.length<=fuel->(Xa next fuel k left out).toList.Perm (out.toList++left):=by
 intro fuel
 induction fuel with
 |zero =>
  intro k left out h;have:=List.length_eq_zero_iff.mp (Nat.le_zero.mp h);subst this;show out.toList.Perm _;rw[U8]
 |succ fuel B =>
  intro k left out h;cases left with
  |nil =>
   have e:Xa next (fuel+1) k ([]:List α) out=out:=by show(match ([]:List α)[next k%0]? with|some x=>Xa next fuel (k+1) (([]:List α).eraseIdx (next k%0)) (out.push x)|none=>out)=out;rfl
   rw[e,U8]
  |cons x r =>
   have q:next k%(x::r).length<(x::r).length:=YH _ (by simp)
   have e:Xa next (fuel+1) k (x::r) out=Xa next fuel (k+1) ((x::r).eraseIdx (next k%(x::r).length)) (out.push (x::r)[next k%(x::r).length]):=by show(match (x::r)[next k%(x::r).length]? with|some y=>Xa next fuel (k+1) ((x::r).eraseIdx (next k%(x::r).length)) (out.push y)|none=>out)=_;rw[UL q]
   rw[e];refine(B _ _ _ (by rw[Zo q];simp at h⊢;lia)).trans ?_;rw[Array.toList_push,Ve];exact(lq q).append_left _
def Ae(next:Nat->Nat)(xs:Array α):(Xo next xs).toList.Perm xs.toList:=by
 have:=FN next xs.size 0 xs.toList #[] (by simp)
 simpa [Xo]using this
def Ce(D:s.heap.get? a=aa o)(k:o.ExactSet)(M:o.data=.set es ep t)(L:t.fits es.size=ah)(m:es.size<Xe)(h:Tb (w.params.followText "set-order") t)
(f:∀h' d V ord,NX w h' V a ord 0->(∀b o,s.heap.get? b=aa o->h'.get? b=aa o)->s.heap.objs.size<=V->s.heap.objs.size<=h'.objs.size->ord.Perm (es.toList.map (·.2))->Q (.ref V) {s with heap:=h',drawn:=d}):
 av (UT prog w) A (pyIter (.ref a)) Q E s:=by
 have j:s.TypeIs (.ref a) "set":=⟨o,D,k.1⟩;refine wpAny_pyIter_slot j ZA (WQ ZA j w6 ?_ (PySem.F.args_set_iter_1 _));unfold Builtin.«frozenset.__iter__» Builtin.Frozenset.slot0;refine Uw (Uw (au (au ?_)));refine Uw ?_;unfold Builtin.Frozenset.sizeOf;refine Uw (YD D M L (au ?_));refine Uw ?_;unfold setDrawn;refine Uw (Wa D M L ?_);dsimp only;refine Uw (lR (au ?_));have g:typeLookup (.type "set_iterator") (UN "__next__")=pure (aa (.builtin "set_iterator.__next__")):=lT.lookup;show av _ _ (if(!w.params.followText "set-order"&&(!t.plain&&decide (es.size>1)))=ah then _ else _) _ _ s;have u:a<s.heap.objs.size:=UF D
 by_cases c:(!w.params.followText "set-order"&&(!t.plain&&decide (es.size>1)))=ah
 ·rw[bJ c];refine Uw (Ad es.size (UZ es.size) s (by simp) λU d W=>?_);refine Uw ?_;simp only[newTuple];have l:U.length=es.size:=by rw[W.length_eq,Xx]
  refine Vm ?_ (by
   have:=W8 m;show (List.map (λ(i:Nat)=>Wj i) U).toArray.size<=aj;rw[UB,UI];lia)
  refine Uw (wpAny_setEpoch_of (Ux _ D) M L ?_);refine Uw ?_;unfold newFields;refine Vm ?_ (by size_fits);refine au ⟨_,rfl,"set_iterator",_,⟨_,UG _ rfl,rfl⟩,g,?_⟩;have J:∀b o,s.heap.get? b=aa o->((s.heap.push {cls:=.type "tuple",data:=.seq (U.map λ(i:Nat)=>Wj i).toArray}).push {cls:=.type "set_iterator",data:=.fields #[.ref s.heap.objs.size,Wj 0,.ref a,Wj es.size,Wj ep]}).get? b=aa o:=λb o e=>Ux _ (Ux _ e);have lt:∀p∈U,p<es.size:=λp Y=>List.mem_range.mp (W.mem_iff.mp Y);refine f _ d _ _ ⟨⟨o,es,ep,t,_,J _ _ D,M,L,UG _ rfl,.B (pl:=U) ⟨_,Ux _ (UG _ rfl),rfl,_,rfl⟩ lt⟩⟩ J (by rw[VP];exact VJ _) (by rw[VP,VP];exact Nat.le_succ_of_le (VJ _)) ?_;have r:=W.filterMap λp=>es[p]?.map (·.2);refine r.trans ?_;have n:(UZ es.size).filterMap (λp=>es[p]?.map (·.2))=es.toList.map (·.2):=by
   refine List.ext_getElem? λi=>?_;rw[fh _ _ (λp Y=>by have:=List.mem_range.mp Y;simp[this])];rcases UX i es.size with q|q
   rw[WI q];simp;rw[UO (by simpa using q),UO (by simpa using q)];rfl
  rw[n]
 ·rw[bK c];refine Uw (au ?_);refine Uw (wpAny_setEpoch_of D M L ?_);refine Uw ?_;unfold newFields;refine Vm ?_ (by size_fits);refine au ⟨_,rfl,"set_iterator",_,⟨_,UG _ rfl,rfl⟩,g,?_⟩;have J:∀b o,s.heap.get? b=aa o->(s.heap.push {cls:=.type "set_iterator",data:=.fields #[Wj 0,Wj 0,.ref a,Wj es.size,Wj ep]}).get? b=aa o:=λb o e=>Ux _ e;cases O:w.params.followText "set-order" with
  |true =>
   refine f _ s.drawn _ _ ⟨⟨o,es,ep,t,_,J _ _ D,M,L,UG _ rfl,.A (z:=0) O⟩⟩ J (UE _) (by rw[VP];exact VJ _) ?_;exact(Ae _ es).map _
  |false =>
   rw[O]at c h;have Z:(!t.plain&&decide (es.size>1))=ai:=by
    cases z:(!t.plain&&decide (es.size>1))with
    |false=>rfl|true=>rw[z]at c;exact bL rfl c
   exact f _ s.drawn _ _ ⟨⟨o,es,ep,t,_,J _ _ D,M,L,UG _ rfl,.C (i:=0) O Z h⟩⟩ J (UE _) (by rw[VP];exact VJ _) (.refl _)
end
end BX
end
section
namespace BX
open PySem PySem.Spec PyProof.Rows
section
variable{prog:UM}{w:U6}{A:VE}{E:aA->UA->Prop}{h:aq}{g:Array GenState}{d:Drawn}{t:Nat}{os:OsState}{a:az}{o:ao}
end
section
variable{prog:UM}{w:U6}{K:Type}[DecidableEq K]{knd:KeyKind prog w K}{A:VE}{E:aA->UA->Prop}{s:UA}
end
end BX
end
section
namespace BT
open PySem
def dP{P:Prop}(h:ai=ah):P:=nomatch h
def w9{P:Prop}(h:ah=ai):P:=nomatch h
def gy{q:Type}{a:q}{P:Prop}(h:(af:Option q)=aa a):P:=nomatch h
inductive D
 |aD|bl(b:Bool)|int(i:Int)|str(x:ay)|aC(xs:List D)|aB(xs:List D)
inductive FK
 |f(x:ay)|m(c x:ay)|l(i:Nat)
 deriving DecidableEq
instance:Coe String FK:=⟨λs=>.f (UN s)⟩
inductive Cp
 |p(d:D)|o(n:Nat)
noncomputable abbrev Ky:=Int ⊕ ay
noncomputable abbrev Pr:=D×List (Ky×D)
inductive Kd
 |t(kvs:List (ay×D))|l(kvs:List (Ky×D))|m(kvs:List (Ky×D))|q(d:D)(kvs:List (Ky×D))|s(ps:List Pr)
inductive W
 |p(d:D)|r(n:Nat)|k(kvs:Kd)|o(n:Nat)|c(f:FK)(q:List Cp)|x(c:ay)
noncomputable def Cp.w:Cp->W
 |.p d=>.p d|.o n=>.o n
@[simp]theorem Cp.w_p(d:D):Cp.w (.p d)=.p d:=rfl
@[simp]theorem Cp.w_o(n:Nat):Cp.w (.o n)=.o n:=rfl
noncomputable def vc:W->Option Cp
 |.p d=>aa (.p d)|.o n=>aa (.o n)|.r _=>af|.k _=>af|.c _ _=>af|.x _=>af
@[simp]theorem PM(d:D):vc (.p d)=aa (.p d):=rfl
@[simp]theorem PN(n:Nat):vc (.o n)=aa (.o n):=rfl
inductive Cl
 |l(xs:List D)|o(c:ay)(fs:List (ay×W))|d(kvs:List (Ky×D))|z|b(ns:List Nat)|s(ps:List Pr)
noncomputable abbrev HH:=List Cl
noncomputable abbrev Sl:=List (Option W)
set_option genInjectivity false in
inductive Bin
 |add|sub|mul|mod|fdiv
set_option genInjectivity false in
inductive Cm
 |eq|ne|lt|le|gt|ge|isN|notN|mem|nmem
set_option genInjectivity false in
inductive Sr
 |seq|rng1|rng2|rev|enu|zip2|rng3|itm|chs|zipG
inductive Bi
 |len|int|str|list|tuple|all|isInt|isBool|isStr|isTuple|min2|max2
 |sorted|max1|sset|maxd|min1
set_option genInjectivity false in
inductive Me
 |append|pop|extend|tindex|sindex|dget|count|lindex
inductive Tx
 |join|split|str|intS|all|inS|ninS|dget|pre
inductive Dk
 |of|ks|so|it
set_option genInjectivity false in
inductive P2
 |aC|y|mem
set_option genInjectivity false in
inductive M2
 |app|pop|upd
set_option genInjectivity false in
mutual
inductive E
 |v(i:Nat)
 |j(d:D)
 |aE(x:ay)
 |bin(o:Bin)(a b:E)
 |neg(a:E)
 |not(a:E)
 |and(a b:E)
 |or(a b:E)
 |z(o:Cm)(a b:E)
 |chain(o o':Cm)(a b c:E)
 |ite(c a b:E)
 |aC(as:Es)
 |aB(mu:Bool)(as:Es)
 |y(a i:E)
 |n(a:E)(lo hi:Es)
 |rvs(a:E)
 |stp(mu:Bool)(k:Int)(a:E)
 |call(f:ay)(as:Es)
 |i(a:E)(f:ay)
 |aF(o:E)(m:ay)(as:Es)
 |make(c:ay)(as:Es)
 |bi(b:Bi)(mu:Bool)(as:Es)
 |lsr(mu:Bool)(sr:Sr)(as:Es)
 |me(m:Me)(o:E)(as:Es)
 |comp(mu:Bool)(sr:Sr)(sa:Es)(tg:List ay)(fv:List (Nat×ay))(cond:Es)(elt:E)
 |callv(i:Nat)(as:Es)
 |methL(o:E)(m:ay)(as:Es)(L:Nat)(fv:List (Nat×ay))
 |dnew
 |frz(a:E)
 |p2(k:P2)(a b:E)
 |m2(k:M2)(o a:E)
inductive Es
 |nil
 |cons(a:E)(as:Es)
end
set_option genInjectivity false in
inductive S
 |nil
 |seq(a b:S)
 |set(i:Nat)(e:E)
 |unp(xs:List (Nat×ay))(e:E)
 |aug(i:Nat)(o:Bin)(e:E)
 |put(i:Nat)(k e:E)
 |putd(i:Nat)(k e:E)
 |setf(o:E)(f:ay)(e:E)
 |augf(o:E)(f:ay)(q:Bin)(e:E)
 |ex(e:E)
 |ret(e:E)
 |v(c:E)(a b:S)
 |j(c:E)(b:S)
 |for(tg:List (Nat×ay))(sr:Sr)(sa:Es)(b:S)
 |brk|cnt
 |bad
 |blk(b:S)
 |rai(c:ay)(e:E)
 |rai2(c:ay)(a e:E)
set_option genInjectivity false in
structure Fn where
 ps:List ay
 ns:List ay
 body:S
noncomputable abbrev cW(a:E):Es:=.cons a .nil
noncomputable abbrev cV(a b:E):Es:=.cons a (.cons b .nil)
noncomputable abbrev cU(a b c:E):Es:=.cons a (.cons b (.cons c .nil))
noncomputable abbrev cT(a b c d:E):Es:=.cons a (.cons b (.cons c (.cons d .nil)))
noncomputable abbrev cS(a b c d e:E):Es:=.cons a (.cons b (.cons c (.cons d (.cons e .nil))))
noncomputable abbrev cR(a b c d e f:E):Es:=.cons a (.cons b (.cons c (.cons d (.cons e (.cons f .nil)))))
noncomputable def bnd{B q:Type}(x:Option (B×HH))(k:B->HH->Option q):Option q :=
 match x with|some (a,h)=>k a h|none=>af
@[simp]theorem dU{q B:Type}(a:q)(h:HH)(k:q->HH->Option B):bnd (aa (a,h)) k=k a h:=rfl
@[simp]theorem NF{B q:Type}(k:B->HH->Option q):bnd af k=af:=rfl
@[simp]noncomputable def lim:Nat:=100000
mutual
@[simp]noncomputable def eqv:D->D->Bool
 |.aD,.aD=>ah|.bl a,.bl b=>a==b|.bl a,.int j=>(if a then(1:Int)else 0)==j|.int i,.bl b=>i==(if b then(1:Int)else 0)|.int i,.int j=>i==j|.str x,.str y=>x==y|.aC xs,.aC ys=>qP xs ys|.aB xs,.aB ys=>qP xs ys|_,_=>ai
@[simp]noncomputable def qP:List D->List D->Bool
 |[],[]=>ah|x::xs,y::ys=>eqv x y&&qP xs ys|_,_=>ai
end
noncomputable def nY:Cl->Option (List D)
 |.l q=>aa q|.o _ _=>af|.d _=>af|.z=>af|.s _=>af|.b _=>af
def o8:Cl->Option (ay×List (ay×W))
 |.l _=>af|.o c fs=>aa (c,fs)|.d _=>af|.z=>af|.s _=>af|.b _=>af
noncomputable def sV:Cl->Option (List (Ky×D))
 |.l _=>af|.o _ _=>af|.d q=>aa q|.z=>af|.s _=>af|.b _=>af
@[simp]theorem Q4(ps:List Pr):nY (.s ps)=af:=rfl
@[simp]theorem Q5(ps:List Pr):o8 (.s ps)=af:=rfl
@[simp]theorem Q6(ps:List Pr):sV (.s ps)=af:=rfl
@[simp]theorem Q7(ns:List Nat):nY (.b ns)=af:=rfl
@[simp]theorem Q8(ns:List Nat):o8 (.b ns)=af:=rfl
@[simp]theorem Q9(ns:List Nat):sV (.b ns)=af:=rfl
@[simp]theorem Rc(kvs:List (Ky×D)):nY (.d kvs)=af:=rfl
@[simp]theorem Re(kvs:List (Ky×D)):o8 (.d kvs)=af:=rfl
@[simp]theorem Rf(kvs:List (Ky×D)):sV (.d kvs)=aa kvs:=rfl
@[simp]theorem Rg:nY .z=af:=rfl
@[simp]theorem Rh:o8 .z=af:=rfl
@[simp]theorem Rj:sV .z=af:=rfl
@[simp]theorem Rk(xs:List D):sV (.l xs)=af:=rfl
@[simp]theorem Rl(c:ay)(fs:List (ay×W)):sV (.o c fs)=af:=rfl
@[simp]theorem Rn(xs:List D):nY (.l xs)=aa xs:=rfl
@[simp]theorem Ro(c:ay)(fs:List (ay×W)):nY (.o c fs)=af:=rfl
@[simp]theorem Rp(xs:List D):o8 (.l xs)=af:=rfl
@[simp]theorem JU(c:ay)(fs:List (ay×W)):o8 (.o c fs)=aa (c,fs):=rfl
def lat(h:HH)(n:Nat):Option (List D):=(h[n]?).bind nY
def oat(h:HH)(n:Nat):Option (ay×List (ay×W)):=(h[n]?).bind o8
def dat(h:HH)(n:Nat):Option (List (Ky×D)):=(h[n]?).bind sV
noncomputable def JV:Cl->Option (List Pr)
 |.s B=>aa B
 |.l q=>if q.isEmpty then aa []else af
 |_=>af
@[simp]theorem Rq(ps:List Pr):JV (.s ps)=aa ps:=rfl
@[simp]theorem NG:JV (.l [])=aa []:=rfl
def pat(h:HH)(n:Nat):Option (List Pr):=(h[n]?).bind JV
noncomputable def Cf:Cl->Option (List Pr)
 |.s q=>aa q|_=>af
@[simp]theorem Rr(ps:List Pr):Cf (.s ps)=aa ps:=rfl
@[simp]theorem Rt(xs:List D):Cf (.l xs)=af:=rfl
@[simp]theorem Ru(c:ay)(fs:List (ay×W)):Cf (.o c fs)=af:=rfl
@[simp]theorem Rv(kvs:List (Ky×D)):Cf (.d kvs)=af:=rfl
def sat(h:HH)(n:Nat):Option (List Pr):=(h[n]?).bind Cf
noncomputable def jq:D->Option Ky
 |.aD=>af|.bl _=>af|.int i=>aa (.inl i)|.str x=>aa (.inr x)|.aC _=>af|.aB _=>af
@[simp]theorem NH(i:Int):jq (.int i)=aa (.inl i):=rfl
@[simp]theorem NI(x:ay):jq (.str x)=aa (.inr x):=rfl
noncomputable def Af:Ky->D
 |.inl i=>.int i|.inr x=>.str x
@[simp]theorem Rx(i:Int):Af (.inl i)=.int i:=rfl
@[simp]theorem Ry(x:ay):Af (.inr x)=.str x:=rfl
noncomputable def dR(kvs:List (Ky×D))(k:Ky):Option D:=(kvs.find? λq=>decide (q.1=k)).map (·.2)
noncomputable def ff(kvs:List (Ky×D))(k:Ky)(v:D):List (Ky×D) :=
 if(kvs.any λq=>decide (q.1=k))=ah then kvs.map (λq=>if q.1=k then(q.1,v)else q)else kvs++[(k,v)]
def rd(w:W)(h:HH):Option D:=match w with
 |.p d=>aa d|.r n=>(lat h n).map D.aB|.k _=>af|.o _=>af|.c _ _=>af|.x _=>af
@[simp]theorem Um(d:D)(h:HH):rd (.p d) h=aa d:=rfl
noncomputable def big(i:Int):Bool:=decide (i.natAbs<2^64)
noncomputable def rep(k:Nat)(xs:List D):List D:=(UU k xs).flatten
def lV:Bin->D->D->Option D
 |.add,.int i,.int j=>aa (.int (i+j))
 |.add,.str x,.str y=>if x.length+y.length<=lim then aa (.str (x++y))else af
 |.add,.aC xs,.aC ys=>if xs.length+ys.length<=lim then aa (.aC (xs++ys))else af
 |.add,.aB xs,.aB ys=>if xs.length+ys.length<=lim then aa (.aB (xs++ys))else af
 |.sub,.int i,.int j=>aa (.int (i-j))
 |.mul,.int i,.int j=>if big i||big j then aa (.int (i*j))else af
 |.mul,.aC xs,.int k=>if 2<=k&&k<=1000&&!xs.isEmpty&&xs.length*k.toNat<=lim then aa (.aC (rep k.toNat xs))else af
 |.mul,.aB xs,.int k=>if -1000<=k&&k<=1000&&xs.length*k.toNat<=lim then aa (.aB (rep k.toNat xs))else af
 |.mod,.int i,.int j=>if 0<j then aa (.int (i%j))else af
 |.fdiv,.int i,.int j=>if 0<j&&j<1073741824 then aa (.int (i/j))else af
 |_,_,_=>af
def o9:Bin->D->D->Option D
 |.add,.int i,.int j=>aa (.int (i+j))|.sub,.int i,.int j=>aa (.int (i-j))
 |.mul,.int i,.int j=>if big i||big j then aa (.int (i*j))else af
 |_,_,_=>af
@[simp]theorem NJ(i j:Int):o9 .add (.int i) (.int j)=aa (.int (i+j)):=rfl
@[simp]theorem NK(i j:Int):o9 .sub (.int i) (.int j)=aa (.int (i-j)):=rfl
@[simp]theorem vd(i j:Int):o9 .mul (.int i) (.int j)=if big i||big j then aa (.int (i*j))else af:=rfl
@[simp]noncomputable def place(n:Nat)(i:Int):Option Nat :=
 if 0<=i then(if i<n then aa i.toNat else af)else if -(n:Int)<=i then aa (i+n).toNat else af
@[simp]def atP{q:Type}(xs:List q)(i:Int):Option q:=(place xs.length i).bind λj=>xs[j]?
@[simp]noncomputable def fz(k:ay):List (ay×D)->Option D
 |[]=>af
 |(x,d)::r=>if k=x then aa d else fz k r
def dJ:D->D->Option D
 |.aC xs,.int i=>atP xs i|.aB xs,.int i=>atP xs i
 |.str x,.int i=>if x.length<=lim then(atP x.cps.toList i).map λc=>.str ⟨#[c]⟩else af
 |_,_=>af
@[simp]noncomputable def clip(n d:Nat):Option Int->Nat
 |none=>d
 |some v=>if v<0 then(v+(n:Int)).toNat else if v<=(n:Int)then v.toNat else n
@[simp]def cut(xs:List D)(lo hi:Option Int):List D:=(xs.drop (clip xs.length 0 lo)).take (clip xs.length xs.length hi-clip xs.length 0 lo)
@[simp]noncomputable def sW:List D->Option (Option Int)
 |[]=>aa af|[.int i]=>aa (aa i)|_=>af
def mW(x:D)(lo hi:Option Int):Option D:=match x with
 |.aC q=>aa (.aC (cut q lo hi))|.aB q=>aa (.aB (cut q lo hi))|_=>af
noncomputable def dok:Nat->D->Bool
 |_,.aD=>ah|_,.bl _=>ah|_,.int _=>ah|_,.str _=>ah|0,.aC _=>ai|0,.aB _=>ai|n+1,.aC xs=>xs.all (dok n)|n+1,.aB xs=>xs.all (dok n)
@[simp]theorem PP(n:Nat):dok n .aD=ah:=by cases n<;>rfl
@[simp]theorem Rz(n:Nat)(b:Bool):dok n (.bl b)=ah:=by cases n<;>rfl
@[simp]theorem PR(n:Nat)(i:Int):dok n (.int i)=ah:=by cases n<;>rfl
@[simp]theorem PU(n:Nat)(x:ay):dok n (.str x)=ah:=by cases n<;>rfl
@[simp]theorem yE(n:Nat)(xs:List D):dok (n+1) (.aC xs)=xs.all (dok n):=rfl
@[simp]theorem yF(n:Nat)(xs:List D):dok (n+1) (.aB xs)=xs.all (dok n):=rfl
def dZ(x y:D):Bool:=dok 100 x||dok 100 y
@[simp]theorem NL(x:D)(y:ay):dZ x (.str y)=ah:=by simp[dZ]
@[simp]theorem NN(x:D)(y:Int):dZ x (.int y)=ah:=by simp[dZ]
@[simp]theorem Mz(x:D)(y:ay):dZ (.str y) x=ah:=by simp[dZ]
@[simp]theorem MA(x:D)(y:Int):dZ (.int y) x=ah:=by simp[dZ]
@[simp]theorem MB(x:D):dZ x (.aC [])=ah:=by simp[dZ,dok]
@[simp]theorem MC(x:D):dZ x (.aB [])=ah:=by simp[dZ,dok]
@[simp]theorem PV(x:D)(b:Bool):dZ x (.bl b)=ah:=by simp[dZ]
def mX{x y:D}(h:dok 100 y=ah):dZ x y=ah:=by simp[dZ,h]
noncomputable def jf:D->Bool
 |.aD=>ah|.bl _=>ai|.int _=>ai|.str _=>ai|.aC _=>ai|.aB _=>ai
@[simp]theorem MD:jf .aD=ah:=rfl
@[simp]theorem NO(z:Bool):jf (.bl z)=ai:=rfl
@[simp]theorem ME(z:Int):jf (.int z)=ai:=rfl
@[simp]theorem MF(z:ay):jf (.str z)=ai:=rfl
@[simp]theorem MG(z:List D):jf (.aC z)=ai:=rfl
@[simp]theorem MH(z:List D):jf (.aB z)=ai:=rfl
noncomputable def sX(b:Bool):D->Bool
 |.aD=>ai|.bl c=>c==b|.int _=>ai|.str _=>ai|.aC _=>ai|.aB _=>ai
@[simp]theorem NP(b:Bool):sX b .aD=ai:=rfl
@[simp]theorem PX(b z:Bool):sX b (.bl z)=(z==b):=rfl
@[simp]theorem NQ(b:Bool)(z:Int):sX b (.int z)=ai:=rfl
@[simp]theorem NR(b:Bool)(z:ay):sX b (.str z)=ai:=rfl
@[simp]theorem NS(b:Bool)(z:List D):sX b (.aC z)=ai:=rfl
@[simp]theorem NT(b:Bool)(z:List D):sX b (.aB z)=ai:=rfl
def gA:Cm->D->D->Option Bool
 |.eq,x,y=>if dZ x y then aa (eqv x y)else af
 |.ne,x,y=>if dZ x y then aa (!eqv x y)else af
 |.lt,.int i,.int j=>aa (decide (i<j))|.le,.int i,.int j=>aa (decide (i<=j))|.gt,.int i,.int j=>aa (decide (j<i))|.ge,.int i,.int j=>aa (decide (j<=i))|.isN,x,.aD=>aa (jf x)|.notN,x,.aD=>aa (!jf x)|.notN,x,.bl b=>aa (!sX b x)
 |.mem,x,.aC ys=>if ys.all λy=>dZ y x then aa (ys.any λy=>eqv y x)else af
 |.mem,x,.aB ys=>if ys.all λy=>dZ y x then aa (ys.any λy=>eqv y x)else af
 |.nmem,x,.aC ys=>if ys.all λy=>dZ y x then aa (!ys.any λy=>eqv y x)else af
 |.nmem,x,.aB ys=>if ys.all λy=>dZ y x then aa (!ys.any λy=>eqv y x)else af
 |_,_,_=>af
@[simp]noncomputable def intsOf:List D->Option (List Int)
 |[]=>aa []|.int i::r=>(intsOf r).map (i :: ·)|_=>af
@[simp]noncomputable def allB:List D->Option Bool
 |[]=>aa ah
 |.bl b::r=>if b then allB r else aa ai
 |_=>af
@[simp]noncomputable def anyB:List D->Option Bool
 |[]=>aa ai
 |.bl b::r=>if b then aa ah else anyB r
 |_=>af
noncomputable def isI:D->Bool
 |.aD=>ai|.bl _=>ah|.int _=>ah|.str _=>ai|.aC _=>ai|.aB _=>ai
@[simp]theorem PY:isI .aD=ai:=rfl
@[simp]theorem RB(z:Bool):isI (.bl z)=ah:=rfl
@[simp]theorem PZ(z:Int):isI (.int z)=ah:=rfl
@[simp]theorem P0(z:ay):isI (.str z)=ai:=rfl
@[simp]theorem P4(z:List D):isI (.aC z)=ai:=rfl
@[simp]theorem P5(z:List D):isI (.aB z)=ai:=rfl
noncomputable def isB:D->Bool
 |.aD=>ai|.bl _=>ah|.int _=>ai|.str _=>ai|.aC _=>ai|.aB _=>ai
@[simp]theorem P6:isB .aD=ai:=rfl
@[simp]theorem RC(z:Bool):isB (.bl z)=ah:=rfl
@[simp]theorem P7(z:Int):isB (.int z)=ai:=rfl
@[simp]theorem P8(z:ay):isB (.str z)=ai:=rfl
@[simp]theorem P9(z:List D):isB (.aC z)=ai:=rfl
@[simp]theorem Qa(z:List D):isB (.aB z)=ai:=rfl
noncomputable def isS:D->Bool
 |.aD=>ai|.bl _=>ai|.int _=>ai|.str _=>ah|.aC _=>ai|.aB _=>ai
@[simp]theorem Qc:isS .aD=ai:=rfl
@[simp]theorem RE(z:Bool):isS (.bl z)=ai:=rfl
@[simp]theorem Qd(z:Int):isS (.int z)=ai:=rfl
@[simp]theorem Qe(z:ay):isS (.str z)=ah:=rfl
@[simp]theorem Qf(z:List D):isS (.aC z)=ai:=rfl
@[simp]theorem Qg(z:List D):isS (.aB z)=ai:=rfl
noncomputable def isT:D->Bool
 |.aD=>ai|.bl _=>ai|.int _=>ai|.str _=>ai|.aC _=>ah|.aB _=>ai
@[simp]theorem Qh:isT .aD=ai:=rfl
@[simp]theorem RG(z:Bool):isT (.bl z)=ai:=rfl
@[simp]theorem Qi(z:Int):isT (.int z)=ai:=rfl
@[simp]theorem Qj(z:ay):isT (.str z)=ai:=rfl
@[simp]theorem Qk(z:List D):isT (.aC z)=ah:=rfl
@[simp]theorem Ql(z:List D):isT (.aB z)=ai:=rfl
noncomputable def isL:D->Bool
 |.aD=>ai|.bl _=>ai|.int _=>ai|.str _=>ai|.aC _=>ai|.aB _=>ah
noncomputable def sortI(ns:List Int):List Int:=ns.mergeSort λa b=>decide (a<=b)
noncomputable def sY:List Int->Option Int
 |[]=>af|n::ns=>aa (ns.foldl max n)
noncomputable def FO:List Int->Option Int
 |[]=>af|n::ns=>aa (ns.foldl min n)
@[simp]noncomputable def FP:List D->List D->List D
 |x::xs,y::ys=>.aC [x,y]::FP xs ys|_,_=>[]
noncomputable def ded(ns:List Int):List Int:=ns.foldl (fun q v=>if q.any (·==v)then q else q++[v]) []
noncomputable def TV(a b c:Int):Nat:=if a<b then((b-a-1)/c+1).toNat else 0
noncomputable def stepI(a c:Int)(n:Nat):List Int:=(UZ n).map λ(k:Nat)=>a+(k:Int)*c
def biD:Bi->List D->Option D
 |.len,[.aC xs]=>aa (.int xs.length)|.len,[.aB xs]=>aa (.int xs.length)
 |.len,[.str x]=>if x.length<=lim then aa (.int x.length)else af
 |.int,[.int i]=>aa (.int i)|.int,[.bl b]=>aa (.int (if b then 1 else 0))
 |.str,[.int i]=>if big i then aa (.str (toString i))else af
 |.tuple,[.aB xs]=>aa (.aC xs)|.tuple,[.aC xs]=>aa (.aC xs)|.list,[.aB xs]=>aa (.aB xs)|.list,[.aC xs]=>aa (.aB xs)|.all,[.aB xs]=>(allB xs).map .bl|.isInt,[x]=>aa (.bl (isI x))|.isBool,[x]=>aa (.bl (isB x))|.isStr,[x]=>aa (.bl (isS x))|.isTuple,[x]=>aa (.bl (isT x))|.min2,[.int i,.int j]=>aa (.int (if j<i then j else i))|.max2,[.int i,.int j]=>aa (.int (if j>i then j else i))
 |.sorted,[.aB xs]=>(intsOf xs).bind λq=>if q.length<64 then aa (.aB ((sortI q).map .int))else af
 |.max1,[.aB xs]=>(intsOf xs).bind λq=>(sY q).map .int
 |.sset,[.aB xs]=>(intsOf xs).bind λq=>if q.length<64 then aa (.aB ((sortI (ded q)).map .int))else af
 |.maxd,[.aB xs,.int d]=>(intsOf xs).map λq=>.int ((sY q).getD d)
 |.min1,[.aB xs]=>(intsOf xs).bind λq=>(FO q).map .int
 |_,_=>af
@[simp]noncomputable def kD:Nat->List D->List D
 |_,[]=>[]|k,x::r=>.aC [.int k,x]::kD (k+1) r
noncomputable def sZ:D->Option (List D)
 |.aC q=>aa q|.aB q=>aa q|_=>af
noncomputable def upto(lo:Int)(n:Nat):List D:=(UZ n).map λ(k:Nat)=>D.int (lo+(k:Int))
noncomputable def down(a:Int)(n:Nat):List D:=(UZ n).map λi=>.int (a-(i:Nat))
noncomputable def JW(x:ay):List D:=x.cps.toList.map λc=>.str ⟨#[c]⟩
def FQ:D->Option (List D)
 |.aC q=>aa q|.aB q=>aa q|.str x=>aa (JW x)|_=>af
def gO:Sr->List D->Option (List D)
 |.seq,[x]=>sZ x
 |.rng1,[.int n]=>if -100000<=n&&n<=100000 then aa (upto 0 n.toNat)else af
 |.rng2,[.int a,.int b]=>if -100000<=a&&a<=100000&&-100000<=b&&b<=100000 then aa (upto a (b-a).toNat)else af
 |.rev,[.aB q]=>aa q.reverse|.enu,[.aB q]=>aa (kD 0 q)|.zip2,[.aB q,.aB ys]=>aa (FP q ys)|.itm,[.aB q]=>aa q|.chs,[.str x]=>aa (JW x)
 |.zipG,[x,y]=>(FQ x).bind λq=>(FQ y).map (FP q)
 |.rng3,[.int a,.int b,.int c]=>if c=-1/\-100000<=a/\a<=100000/\-100000<=b/\b<=100000 then aa (down a (a-b).toNat)else af
 |_,_=>af
@[simp]def jQ(x:D):List D->Nat->Option Nat
 |[],_=>af
 |y::r,k=>if eqv y x then aa k else jQ x r (k+1)
@[simp]noncomputable def NU(c:Nat):List Nat->Nat->Option Nat
 |[],_=>af
 |y::r,k=>if y=c then aa k else NU c r (k+1)
@[simp]noncomputable def dM:List W->Option (List D)
 |[]=>aa []|.p d::r=>(dM r).map (d :: ·)|.r _::_=>af|.k _::_=>af|.o _::_=>af|.c _ _::_=>af|.x _::_=>af
def meD:Me->D->List D->Option D
 |.tindex,.aC xs,[x]=>if xs.all λy=>dZ y x then(jQ x xs 0).map λ(q:Nat)=>D.int (q:Int)else af
 |.sindex,.str x,[.str y]=>match WB x y 0 x.length 1 with
  |i::_=>aa (.int (i:Int))|[]=>af
 |.count,.aB xs,[x]=>if xs.all λy=>dZ y x then aa (.int ((xs.countP λy=>eqv y x:Nat):Int))else af
 |.lindex,.aB xs,[x]=>if xs.all λy=>dZ y x then(jQ x xs 0).map λ(q:Nat)=>D.int (q:Int)else af
 |_,_,_=>af
theorem JX{xs:List D}{x:D}:meD .count (.aB xs) [x]=if xs.all λy=>dZ y x then aa (.int ((xs.countP λy=>eqv y x:Nat):Int))else af:=rfl
theorem Cg{xs:List D}{x:D}:meD .tindex (.aC xs) [x]=if xs.all λy=>dZ y x then(jQ x xs 0).map λ(q:Nat)=>D.int (q:Int)else af:=rfl
theorem Ci{x y:ay}:meD .sindex (.str x) [.str y]=match WB x y 0 x.length 1 with
 |i::_=>aa (.int (i:Int))|[]=>af:=rfl
def meW(m:Me)(o:W)(as:List W)(h:HH):Option (W×HH):=match m,o,as with
 |.append,.r n,[.p d]=>match lat h n with
  |some q=>if q.length<lim then aa (.p .aD,h.set n (.l (q++[d])))else af
  |none=>af
 |.pop,.r n,[]=>match lat h n with
  |some q=>match q.getLast? with
   |some d=>aa (.p d,h.set n (.l q.dropLast))|none=>af
  |none=>af
 |.extend,.r n,[w]=>match lat h n,(rd w h).bind sZ with
  |some q,aa ys=>if q.length+ys.length<=lim then aa (.p .aD,h.set n (.l (q++ys)))else af
  |_,_=>af
 |.dget,.k (.t kvs),[.p (.str x)]=>aa (.p ((fz x kvs).getD .aD),h)|.dget,.k (.t _),[.p .aD]=>aa (.p .aD,h)|.dget,.k (.t kvs),[.p (.str x),.p d]=>aa (.p ((fz x kvs).getD d),h)
 |m,.p d,as=>match dM as with
  |some B=>(meD m d B).map λx=>(.p x,h)
  |none=>af
 |_,_,_=>af
section
variable(n:Nat)(d:D)(h:HH)(kvs:List (ay×D))(x:ay)(as:List W)
@[simp]theorem xg:meW .append (.r n) [.p d] h=match lat h n with
 |some q=>if q.length<lim then aa (.p .aD,h.set n (.l (q++[d])))else af
 |none=>af:=rfl
@[simp]theorem FU:meW .pop (.r n) [] h=match lat h n with
 |some q=>match q.getLast? with
  |some d=>aa (.p d,h.set n (.l q.dropLast))|none=>af
 |none=>af:=rfl
@[simp]theorem xh(w:W):meW .extend (.r n) [w] h=match lat h n,(rd w h).bind sZ with
 |some xs,aa ys=>if xs.length+ys.length<=lim then aa (.p .aD,h.set n (.l (xs++ys)))else af
 |_,_=>af:=rfl
@[simp]theorem pq:meW .tindex (.p d) as h=match dM as with
 |some q=>(meD .tindex d q).map λx=>(.p x,h)
 |none=>af:=rfl
@[simp]theorem Ag:meW .count (.p d) as h=match dM as with
 |some q=>(meD .count d q).map λx=>(.p x,h)
 |none=>af:=rfl
@[simp]theorem JY:meW .lindex (.p d) as h=match dM as with
 |some q=>(meD .lindex d q).map λx=>(.p x,h)
 |none=>af:=rfl
@[simp]theorem pA:meW .sindex (.p d) as h=match dM as with
 |some q=>(meD .sindex d q).map λx=>(.p x,h)
 |none=>af:=rfl
end
noncomputable def new(mu:Bool)(xs:List D)(h:HH):W×HH:=if mu then(.r h.length,h++[.l xs])else(.p (.aB xs),h)
@[simp]theorem TX(xs:List D)(h:HH):new ai xs h=(.p (.aB xs),h):=rfl
@[simp]theorem TY(xs:List D)(h:HH):new ah xs h=(.r h.length,h++[.l xs]):=rfl
@[simp]def rds(ws:List W)(h:HH):Option (List D):=match ws with
 |[]=>aa []
 |w::r=>(rd w h).bind λd=>(rds r h).map (d :: ·)
noncomputable def unpack(n:Nat):D->Option (List D)
 |.aC q=>if q.length=n then aa q else af
 |.aB q=>if q.length=n then aa q else af
 |_=>af
def target(n:Nat)(d:D):Option (List D):=if n=1 then aa [d]else unpack n d
section
variable(i j k a b:Int)(c:Bool)(x y:ay)(xs ys:List D)(kvs:List (ay×D))(d e:D)(lo hi:Option Int)
@[simp]theorem ve:lV .add (.int i) (.int j)=aa (.int (i+j)):=rfl
@[simp]theorem pB:lV .add (.str x) (.str y)=if x.length+y.length<=lim then aa (.str (x++y))else af:=rfl
@[simp]theorem pC:lV .add (.aC xs) (.aC ys)=if xs.length+ys.length<=lim then aa (.aC (xs++ys))else af:=rfl
@[simp]theorem jr:lV .add (.aB xs) (.aB ys)=if xs.length+ys.length<=lim then aa (.aB (xs++ys))else af:=rfl
@[simp]theorem pF:lV .sub (.int i) (.int j)=aa (.int (i-j)):=rfl
@[simp]theorem vf:lV .mul (.int i) (.int j)=if big i||big j then aa (.int (i*j))else af:=rfl
@[simp]theorem pG:lV .mul (.aC xs) (.int k)=if 2<=k&&k<=1000&&!xs.isEmpty&&xs.length*k.toNat<=lim then aa (.aC (rep k.toNat xs))else af:=rfl
@[simp]theorem pH:lV .mul (.aB xs) (.int k)=if -1000<=k&&k<=1000&&xs.length*k.toNat<=lim then aa (.aB (rep k.toNat xs))else af:=rfl
@[simp]theorem pI:lV .mod (.int i) (.int j)=if 0<j then aa (.int (i%j))else af:=rfl
@[simp]theorem mY:lV .fdiv (.int i) (.int j)=if 0<j&&j<1073741824 then aa (.int (i/j))else af:=rfl
@[simp]theorem gY:dJ (.aC xs) (.int i)=atP xs i:=rfl
@[simp]theorem fC:dJ (.aB xs) (.int i)=atP xs i:=rfl
@[simp]theorem jR:dJ (.str x) (.int i)=if x.length<=lim then(atP x.cps.toList i).map λc=>.str ⟨#[c]⟩else af:=rfl
@[simp]theorem xj:mW (.aC xs) lo hi=aa (.aC (cut xs lo hi)):=rfl
@[simp]theorem xm:mW (.aB xs) lo hi=aa (.aB (cut xs lo hi)):=rfl
@[simp]theorem FW:gA .eq d e=if dZ d e then aa (eqv d e)else af:=rfl
@[simp]theorem kE:gA .ne d e=if dZ d e then aa (!eqv d e)else af:=rfl
@[simp]theorem oz:gA .lt (.int i) (.int j)=aa (decide (i<j)):=rfl
@[simp]theorem oA:gA .le (.int i) (.int j)=aa (decide (i<=j)):=rfl
@[simp]theorem oB:gA .gt (.int i) (.int j)=aa (decide (j<i)):=rfl
@[simp]theorem oE:gA .ge (.int i) (.int j)=aa (decide (j<=i)):=rfl
@[simp]theorem lX:gA .isN d .aD=aa (jf d):=rfl
@[simp]theorem kF:gA .notN d .aD=aa (!jf d):=rfl
@[simp]theorem Ah{b:Bool}:gA .notN d (.bl b)=aa (!sX b d):=rfl
@[simp]theorem iG:gA .mem d (.aC ys)=if ys.all λy=>dZ y d then aa (ys.any λy=>eqv y d)else af:=rfl
@[simp]theorem gC:gA .mem d (.aB ys)=if ys.all λy=>dZ y d then aa (ys.any λy=>eqv y d)else af:=rfl
@[simp]theorem iV:gA .nmem d (.aC ys)=if ys.all λy=>dZ y d then aa (!ys.any λy=>eqv y d)else af:=rfl
@[simp]theorem f6:gA .nmem d (.aB ys)=if ys.all λy=>dZ y d then aa (!ys.any λy=>eqv y d)else af:=rfl
@[simp]theorem rK:biD .len [.aC xs]=aa (.int xs.length):=rfl
@[simp]theorem MI:biD .len [.aB xs]=aa (.int xs.length):=rfl
@[simp]theorem Ai:biD .len [.str x]=if x.length<=lim then aa (.int x.length)else af:=rfl
@[simp]theorem Qm:biD .int [.int i]=aa (.int i):=rfl
@[simp]theorem MJ:biD .int [.bl c]=aa (.int (if c then 1 else 0)):=rfl
@[simp]theorem Qn:biD .str [.int i]=if big i then aa (.str (toString i))else af:=rfl
@[simp]theorem IF:biD .tuple [.aB xs]=aa (.aC xs):=rfl
@[simp]theorem IG:biD .tuple [.aC xs]=aa (.aC xs):=rfl
theorem pJ:biD .sorted [.aB xs]=(intsOf xs).bind λns=>if ns.length<64 then aa (.aB ((sortI ns).map .int))else af:=rfl
theorem vg:biD .sset [.aB xs]=(intsOf xs).bind λns=>if ns.length<64 then aa (.aB ((sortI (ded ns)).map .int))else af:=rfl
theorem vh{d:Int}:biD .maxd [.aB xs,.int d]=(intsOf xs).map λns=>.int ((sY ns).getD d):=rfl
theorem vj:biD .min1 [.aB xs]=(intsOf xs).bind λns=>(FO ns).map .int:=rfl
theorem vm:biD .max1 [.aB xs]=(intsOf xs).bind λns=>(sY ns).map .int:=rfl
def sortI_perm(ns:List Int):(sortI ns).Perm ns:=List.mergeSort_perm _ _
def lY(ns:List Int):(sortI ns).Pairwise (·<=·):=by have:=List.pairwise_mergeSort (le:=λ(a b:Int)=>decide (a<=b)) (λa b c B q=>by simp only[bM]at *;lia) (λa b=>by simp only[Ws,bM];lia) ns;exact this.imp λh=>bP h
def foldl_max(l:List Int):∀n:Int,(l.foldl max n=n\/l.foldl max n∈l)/\n<=l.foldl max n/\∀a∈l,a<=l.foldl max n:=by
 induction l with
 |nil=>intro n;exact⟨.inl rfl,Int.le_refl _,λa h=>nomatch h⟩
 |cons x l D =>
  intro n;obtain⟨L,M,J⟩:=D (max n x);rw[Wp];refine⟨?_,by lia,λa B=>?_⟩
  ·rcases L with h|h
   ·rw[h];rcases Int.le_total n x with q|q
    exact .inr (by rw[show max n x=x by lia];exact UH);exact .inl (by lia)
   exact .inr (UC _ h)
  ·rcases List.mem_cons.mp B with rfl|B
   lia;exact J a B
theorem foldl_min:∀(l:List Int)(n:Int),(l.foldl min n=n\/l.foldl min n∈l)/\l.foldl min n<=n/\∀a∈l,l.foldl min n<=a
 |[],n=>⟨.inl rfl,Int.le_refl _,λa h=>bL h (by simp)⟩
 |b::l,n=>by
  obtain⟨J,L,D⟩:=foldl_min l (min n b);rw[Wp];refine⟨?_,by lia,λa B=>?_⟩
  ·rcases J with h|h
   ·rw[h];rcases Int.le_total n b with q|q
    exact .inl (by lia);exact .inr (by rw[show min n b=b by lia];exact UH)
   exact .inr (UC _ h)
  ·rcases List.mem_cons.mp B with rfl|B
   lia;exact D a B
def Aj{ns:List Int}{M:Int}(h:FO ns=aa M):M∈ns/\∀a∈ns,M<=a:=by
 cases ns with
 |nil=>cases h
 |cons n l =>
  cases h;obtain⟨L,J,D⟩:=foldl_min l n;refine⟨?_,λa B=>?_⟩
  ·rcases L with q|q
   rw[q];exact UH;exact UC _ q
  ·rcases List.mem_cons.mp B with rfl|B
   exact J;exact D a B
def kG{ns:List Int}{M:Int}(h:sY ns=aa M):M∈ns/\∀a∈ns,a<=M:=by
 cases ns with
 |nil=>cases h
 |cons n l =>
  cases h;obtain⟨L,J,D⟩:=foldl_max l n;refine⟨?_,λa B=>?_⟩
  ·rcases L with q|q
   rw[q];exact UH;exact UC _ q
  ·rcases List.mem_cons.mp B with rfl|B
   exact J;exact D a B
@[simp]theorem JZ:biD .list [.aB xs]=aa (.aB xs):=rfl
@[simp]theorem J0:biD .list [.aC xs]=aa (.aB xs):=rfl
@[simp]theorem Qo:biD .all [.aB xs]=(allB xs).map .bl:=rfl
@[simp]theorem MK:biD .isInt [d]=aa (.bl (isI d)):=rfl
@[simp]theorem J1:biD .isBool [d]=aa (.bl (isB d)):=rfl
@[simp]theorem ML:biD .isStr [d]=aa (.bl (isS d)):=rfl
@[simp]theorem II:biD .isTuple [d]=aa (.bl (isT d)):=rfl
@[simp]theorem Qp:biD .min2 [.int i,.int j]=aa (.int (if j<i then j else i)):=rfl
@[simp]theorem Qq:biD .max2 [.int i,.int j]=aa (.int (if j>i then j else i)):=rfl
@[simp]theorem RI:sZ (.aC xs)=aa xs:=rfl
@[simp]theorem RJ:sZ (.aB xs)=aa xs:=rfl
@[simp]theorem Cj:gO .seq [d]=sZ d:=rfl
@[simp]theorem jg:gO .rng1 [.int a]=if -100000<=a&&a<=100000 then aa (upto 0 a.toNat)else af:=rfl
@[simp]theorem rL:gO .rng2 [.int a,.int b]=if -100000<=a&&a<=100000&&-100000<=b&&b<=100000 then aa (upto a (b-a).toNat)else af:=rfl
theorem rM{c:Int}:gO .rng3 [.int a,.int b,.int c]=if c=-1/\-100000<=a/\a<=100000/\-100000<=b/\b<=100000 then aa (down a (a-b).toNat)else af:=rfl
@[simp]theorem NV:gO .rev [.aB xs]=aa xs.reverse:=rfl
@[simp]theorem NW{x:ay}:gO .chs [.str x]=aa (JW x):=rfl
@[simp]theorem MM{x y:D}:gO .zipG [x,y]=(FQ x).bind λxs=>(FQ y).map (FP xs):=rfl
@[simp]theorem NY:gO .itm [.aB xs]=aa xs:=rfl
@[simp]theorem J2:meD .tindex (.aC xs) [d]=if xs.all λy=>dZ y d then(jQ d xs 0).map λ(q:Nat)=>D.int (q:Int)else af:=rfl
@[simp]theorem vn(n:Nat):unpack n (.aB xs)=if xs.length=n then aa xs else af:=rfl
@[simp]theorem vo(n:Nat):unpack n (.aC xs)=if xs.length=n then aa xs else af:=rfl
end
@[simp]theorem gi(d:D):target 1 d=aa [d]:=rfl
@[simp]theorem NZ(d:D):target 2 d=unpack 2 d:=rfl
noncomputable def yG(o:Option D)(out:List D)(h:HH):Option (List D×HH):=aa (match o with|some x=>x::out|none=>out,h)
def Ak(r:HH->Option (List D×HH))(o:Option D)(h:HH):Option (List D×HH):=bnd (r h) (yG o)
@[simp]theorem pK(o:Option D)(out:List D)(h:HH):yG o out h=aa (match o with|some x=>x::out|none=>out,h):=rfl
@[simp]theorem tw(r:HH->Option (List D×HH))(o:Option D)(h:HH):Ak r o h=bnd (r h) (yG o):=rfl
def dN(f:List D->HH->Option (Option D×HH))(n:Nat):List D->HH->Option (List D×HH)
 |[],h=>aa ([],h)
 |d::r,h=>match target n d with
  |some q=>bnd (f q h) (Ak (dN f n r))|none=>af
noncomputable def eZ(d:D):Option W:=aa (.p d)
noncomputable abbrev EH:=HH->Option (W×HH)
noncomputable abbrev OpW:=W->W->HH->Option (W×HH)
@[simp]def k2(B:EH)(q:OpW)(x:W)(h:HH):Option (W×HH):=bnd (B h) (q x)
@[simp]def tE(o:Bin)(x y:W)(h:HH):Option (W×HH):=match rd x h,rd y h with
 |some d,aa e=>(lV o d e).map λz=>(.p z,h)
 |_,_=>af
def inT(o:Cm)(x:W)(kvs:List (ay×D)):Option Bool:=match o,x with
 |.mem,.p (.str s)=>aa (fz s kvs).isSome|.mem,.p .aD=>aa ai|.nmem,.p (.str s)=>aa (!(fz s kvs).isSome)|_,_=>af
def inL(o:Cm)(x:W)(kvs:List (Ky×D)):Option Bool:=match o,x with
 |.mem,.p d=>(jq d).map λk=>(dR kvs k).isSome
 |_,_=>af
def inK(o:Cm)(x:W)(q:Kd):Option Bool:=match q with
 |.t B=>inT o x B|.l B=>inL o x B|.m _=>af|.q _ _=>af|.s _=>af
noncomputable def memC:Cm->Bool
 |.mem=>ah|.nmem=>ah|_=>ai
def pL{o:Cm}{x:W}{q:Kd}{b:Bool}(h:memC o=ai):¬inK o x q=aa b:=by intro e;cases o<;>first|exact w9 h|exact gy e|(cases q<;>first|exact gy e|(cases x<;>exact gy e))
@[simp]def lu(o:Cm)(x y:W)(h:HH):Option (W×HH):=match y with
 |.k q=>(inK o x q).map λz=>(.p (.bl z),h)
 |y=>match rd x h,rd y h with
  |some d,aa e=>(gA o d e).map λz=>(.p (.bl z),h)
  |_,_=>af
def atT(kvs:List (ay×D))(y:W):Option D:=match y with
 |.p (.str s)=>fz s kvs|_=>af
def atL(kvs:List (Ky×D))(y:W):Option D:=match y with
 |.p d=>(jq d).bind (dR kvs)|_=>af
def atK(q:Kd)(y:W):Option D:=match q with
 |.t B=>atT B y|.l B=>atL B y|.m _=>af|.q _ _=>af|.s _=>af
@[simp]theorem TZ(kvs:List (ay×D))(x:ay):atK (.t kvs) (.p (.str x))=fz x kvs:=rfl
@[simp]theorem T3(kvs:List (Ky×D))(i:Int):atK (.l kvs) (.p (.int i))=dR kvs (.inl i):=rfl
@[simp]theorem T4(kvs:List (ay×D))(x:ay):inK .mem (.p (.str x)) (.t kvs)=aa (fz x kvs).isSome:=rfl
@[simp]theorem T5(kvs:List (ay×D))(x:ay):inK .nmem (.p (.str x)) (.t kvs)=aa (!(fz x kvs).isSome):=rfl
@[simp]theorem T6(kvs:List (ay×D)):inK .mem (.p .aD) (.t kvs)=aa ai:=rfl
@[simp]theorem T7(kvs:List (Ky×D))(i:Int):inK .mem (.p (.int i)) (.l kvs)=aa (dR kvs (.inl i)).isSome:=rfl
@[simp]def FY(x y:W)(h:HH):Option (W×HH):=match x with
 |.k q=>(atK q y).map λz=>(.p z,h)
 |x=>match rd x h,rd y h with
  |some d,aa e=>(dJ d e).map λz=>(.p z,h)
  |_,_=>af
@[simp]noncomputable def FZ(x:W)(h:HH):Option (W×HH):=match x with|.p (.int i)=>aa (.p (.int (-i)),h)|_=>af
@[simp]noncomputable def F0(x:W)(h:HH):Option (W×HH):=match x with|.p (.bl b)=>aa (.p (.bl (!b)),h)|_=>af
@[simp]noncomputable def F2(q:EH)(x:W)(h:HH):Option (W×HH):=match x with|.p (.bl c)=>if c then q h else aa (.p (.bl ai),h)|_=>af
@[simp]noncomputable def kOr(q:EH)(x:W)(h:HH):Option (W×HH):=match x with|.p (.bl c)=>if c then aa (.p (.bl ah),h)else q h|_=>af
@[simp]noncomputable def F3(B q:EH)(x:W)(h:HH):Option (W×HH):=match x with|.p (.bl c)=>if c then B h else q h|_=>af
@[simp]def N1(o':Cm)(e:D)(z:W)(h:HH):Option (W×HH):=match rd z h with
 |some f=>(gA o' e f).map λr=>(.p (.bl r),h)
 |none=>af
@[simp]def oCh(o o':Cm)(q:EH)(x y:W)(h:HH):Option (W×HH):=match rd x h,y with
 |some d,.p e=>match gA o d e with
  |some ah=>bnd (q h) (N1 o' e)|some ai=>aa (.p (.bl ai),h)|none=>af
 |_,_=>af
@[simp]def J3(ws:List W)(h:HH):Option (W×HH):=match dM ws with|some q=>if q.length<=lim then aa (.p (.aC q),h)else af|none=>af
@[simp]def J4(mu:Bool)(ws:List W)(h:HH):Option (W×HH):=match dM ws with|some q=>if q.length<=lim then aa (new mu q h)else af|none=>af
@[simp]def N2(x:W)(l u:List W)(h:HH):Option (W×HH):=match rd x h,(dM l).bind sW,(dM u).bind sW with
 |some d,aa l',aa u'=>(mW d l' u').map λz=>(.p z,h)
 |_,_,_=>af
@[simp]def N3(q:HH->Option (List W×HH))(x:W)(l:List W)(h:HH):Option (W×HH):=bnd (q h) (N2 x l)
@[simp]def N4(B q:HH->Option (List W×HH))(x:W)(h:HH):Option (W×HH):=bnd (B h) (N3 q x)
@[simp]noncomputable def RK(x:W)(h:HH):Option (W×HH):=match x with
 |.p (.aC xs)=>aa (.p (.aC xs.reverse),h)|_=>af
noncomputable def pM(k:Int)(xs:List D):List D:=(XN (Vc af af (aa k) xs.length).1 (Vc af af (aa k) xs.length).2.1 (Vc af af (aa k) xs.length).2.2).filterMap λi=>xs[i]?
@[simp]def J5(mu:Bool)(k:Int)(x:W)(h:HH):Option (W×HH):=match rd x h with
 |some (.aB xs)=>aa (new mu (pM k xs) h)|_=>af
@[simp]def kBi(b:Bi)(mu:Bool)(ws:List W)(h:HH):Option (W×HH):=match rds ws h with
 |some B=>match biD b B with
  |some d=>if mu then(match d with|.aB q=>aa (new ah q h)|_=>af)else aa (.p d,h)
  |none=>af
 |none=>af
def tF(x:W)(h:HH):Bool:=match x with
 |.r n=>(lat h n).isSome|.k (.t _)=>ah|.k _=>ai|_=>ah
@[simp]theorem RL(n:Nat)(h:HH):tF (.r n) h=(lat h n).isSome:=rfl
@[simp]theorem RM(d:D)(h:HH):tF (.p d) h=ah:=rfl
@[simp]theorem RN(d:List (ay×D))(h:HH):tF (.k (.t d)) h=ah:=rfl
@[simp]def kMe(m:Me)(q:HH->Option (List W×HH))(x:W)(h:HH):Option (W×HH):=if tF x h then bnd (q h) (meW m x)else af
@[simp]def kLs(mu:Bool)(sr:Sr)(ws:List W)(h:HH):Option (W×HH):=match (rds ws h).bind (gO sr)with
 |some q=>if q.length<=lim then aa (new mu q h)else af
 |none=>af
@[simp]def qQ(w:W)(h:HH):Option (Option D×HH):=match w with|.p d=>aa (aa d,h)|_=>af
def yH(q:EH)(B:List W)(h:HH):Option (Option D×HH):=match B with
 |[]=>bnd (q h) qQ|[.p (.bl ah)]=>bnd (q h) qQ|[.p (.bl ai)]=>aa (af,h)|_=>af
@[simp]theorem Qs(q:EH)(h:HH):yH q [] h=bnd (q h) qQ:=rfl
@[simp]theorem Qt(q:EH)(h:HH):yH q [.p (.bl ah)] h=bnd (q h) qQ:=rfl
@[simp]theorem Qu(q:EH)(h:HH):yH q [.p (.bl ai)] h=aa (af,h):=rfl
@[simp]def eV(B:Sl->HH->Option (List W×HH))(q:Sl->EH)(fs:Sl)(xs:List D)(h:HH):Option (Option D×HH) :=
 bnd (B (xs.map eZ++fs) h) (yH (q (xs.map eZ++fs)))
@[simp]def gP(mu:Bool)(out:List D)(h:HH):Option (W×HH):=if out.length<=lim then aa (new mu out h)else af
def eN(f:ay):List (ay×W)->Option W
 |[]=>af
 |(x,w)::r=>if f=x then aa w else eN f r
def eH(f:ay)(w:W):List (ay×W)->List (ay×W)
 |[]=>[(f,w)]
 |(x,u)::r=>if f=x then(f,w)::r else(x,u)::eH f w r
@[simp]theorem N5(f:ay):eN f []=af:=rfl
@[simp]theorem rN(f x:ay)(w:W)(r:List (ay×W)):eN f ((x,w)::r)=if f=x then aa w else eN f r:=rfl
@[simp]theorem N6(f:ay)(w:W):eH f w []=[(f,w)]:=rfl
@[simp]theorem Al(f x:ay)(w u:W)(r:List (ay×W)):eH f w ((x,u)::r)=if f=x then(f,w)::r else(x,u)::eH f w r:=rfl
noncomputable def attrOk:W->Bool
 |.p _=>ah|.r _=>ah|.k _=>ai|.o _=>ah|.c _ _=>ai|.x _=>ai
@[simp]theorem N7(d:D):attrOk (.p d)=ah:=rfl
@[simp]theorem N8(n:Nat):attrOk (.r n)=ah:=rfl
@[simp]theorem N9(n:Nat):attrOk (.o n)=ah:=rfl
def F4(f:ay)(x:W)(h:HH):Option (W×HH):=match x with
 |.o n=>match oat h n with
  |some (_,fs)=>(eN f fs).map λw=>(w,h)
  |none=>af
 |_=>af
@[simp]theorem J6(f:ay)(n:Nat)(h:HH):F4 f (.o n) h=match oat h n with
 |some (_,fs)=>(eN f fs).map λw=>(w,h)
 |none=>af:=rfl
noncomputable def xo(F:FK->List W->HH->Option (W×HH))(q:FK)(n:Nat)(ws:List W)(h:HH):Option (W×HH):=F q (.o n::ws) h
@[simp]theorem MN(F:FK->List W->HH->Option (W×HH))(q:FK)(n:Nat)(ws:List W)(h:HH):xo F q n ws h=F q (.o n::ws) h:=rfl
def Ck(F:FK->List W->HH->Option (W×HH))(m:ay)(q:HH->Option (List W×HH))(x:W)(h:HH):Option (W×HH):=match x with
 |.o n=>match oat h n with
  |some (c,fs)=>if(eN m fs).isNone then bnd (q h) (xo F (.m c m) n)else af
  |none=>af
 |_=>af
@[simp]theorem F5(F:FK->List W->HH->Option (W×HH))(m:ay)(q:HH->Option (List W×HH))(n:Nat)(h:HH):Ck F m q (.o n) h=match oat h n with
 |some (c,fs)=>if(eN m fs).isNone then bnd (q h) (xo F (.m c m) n)else af
 |none=>af:=rfl
noncomputable def yI(n:Nat)(x:W)(h:HH):Option (W×HH):=match x with
 |.p .aD=>aa (.o n,h)|_=>af
@[simp]theorem Qv(n:Nat)(h:HH):yI n (.p .aD) h=aa (.o n,h):=rfl
def IJ(F:FK->List W->HH->Option (W×HH))(c:ay)(ws:List W)(h:HH):Option (W×HH):=bnd (F (.m c "__init__") (.o h.length::ws) (h++[.o c []])) (yI h.length)
@[simp]theorem Cn(F:FK->List W->HH->Option (W×HH))(c:ay)(ws:List W)(h:HH):IJ F c ws h=bnd (F (.m c "__init__") (.o h.length::ws) (h++[.o c []])) (yI h.length):=rfl
noncomputable def iS:List W->Bool
 |[]=>ah|.p _::r=>iS r|_=>ai
open Classical in
def chk(q:Nat)(ds:List D)(f:List D->HH->Option (Option D×HH))(xs:List D)(h:HH):Option (Option D×HH):=match f xs h with
 |some (o,h')=>if lat h' q=aa ds then aa (o,h')else af
 |none=>af
open Classical in
def J7(q:Nat)(ds:List D)(f:List D->HH->Option (Option D×HH))(xs:List D)(h:HH):Option (Option D×HH):=match f xs h with
 |some (o,h')=>if(lat h' q).map (kD 0)=aa ds then aa (o,h')else af
 |none=>af
def tG(mu:Bool)(sr:Sr)(n:Nat)(f:List D->HH->Option (Option D×HH))(ws:List W)(ds:List D)(h:HH):Option (W×HH):=match ws,sr with
 |[.r q],.seq=>bnd (dN (chk q ds f) n ds h) (gP mu)|[.r q],.enu=>bnd (dN (J7 q ds f) n ds h) (gP mu)|_,_=>af
theorem Co(mu:Bool)(n:Nat)(f:List D->HH->Option (Option D×HH))(q:Nat)(ds:List D)(h:HH):tG mu .enu n f [.r q] ds h=bnd (dN (J7 q ds f) n ds h) (gP mu):=rfl
theorem Cq(mu:Bool)(n:Nat)(f:List D->HH->Option (Option D×HH))(q:Nat)(ds:List D)(h:HH):tG mu .seq n f [.r q] ds h=bnd (dN (chk q ds f) n ds h) (gP mu):=rfl
@[simp]def pN(mu:Bool)(sr:Sr)(n:Nat)(fs:Option Sl)(B:Sl->HH->Option (List W×HH))(q:Sl->EH)(ws:List W)(h:HH):Option (W×HH) :=
 match (rds ws h).bind (gO sr),fs with
 |some ds,aa fs=>if iS ws then bnd (dN (eV B q fs) n ds h) (gP mu)else tG mu sr n (eV B q fs) ws ds h
 |_,_=>af
@[simp]def jt(w:W)(ws:List W)(h:HH):Option (List W×HH):=aa (w::ws,h)
@[simp]def kU(q:HH->Option (List W×HH))(w:W)(h:HH):Option (List W×HH):=bnd (q h) (jt w)
@[simp]def frees(s:Sl):List (Nat×ay)->Option Sl
 |[]=>aa []
 |q::r=>match s[q.1]? with
  |some w=>(frees s r).map (w :: ·)|none=>af
def caps(s:Sl):List (Nat×ay)->Option (List Cp)
 |[]=>aa []
 |q::r=>match s[q.1]? with
  |some (aa w)=>(vc w).bind λx=>(caps s r).map (x :: ·)
  |_=>af
@[simp]theorem Oa(s:Sl):caps s []=aa []:=rfl
@[simp]theorem Am(s:Sl)(q:Nat×ay)(r:List (Nat×ay)):caps s (q::r)=match s[q.1]? with
 |some (aa w)=>(vc w).bind λx=>(caps s r).map (x :: ·)
 |_=>af:=rfl
noncomputable def noC:List W->Bool
 |[]=>ah|.p _::r=>noC r|.r _::r=>noC r|.k _::_=>ai|.o _::r=>noC r|.c _ _::_=>ai|.x _::_=>ai
@[simp]theorem Qw:noC []=ah:=rfl
@[simp]theorem T8(d:D)(r:List W):noC (.p d::r)=noC r:=rfl
@[simp]theorem T9(d:Nat)(r:List W):noC (.r d::r)=noC r:=rfl
@[simp]theorem Ua(d:Nat)(r:List W):noC (.o d::r)=noC r:=rfl
def tH(F:FK->List W->HH->Option (W×HH))(o:Option (Option W))(ws:List W)(h:HH):Option (W×HH):=match o with
 |some (aa (.c k cs))=>if noC ws then F k (ws++cs.map Cp.w) h else af
 |_=>af
@[simp]theorem Ob(F:FK->List W->HH->Option (W×HH))(k:FK)(q:List Cp)(ws:List W)(h:HH):tH F (aa (aa (.c k q))) ws h=if noC ws then F k (ws++q.map Cp.w) h else af:=rfl
def xq(w:W)(h:HH):Option (W×HH):=match w with
 |.c _ _=>af|.x _=>af|.k (.s ps)=>aa (.k (.s ps),h)|.k _=>af|w=>aa (w,h)
@[simp]theorem RO(ps:List Pr)(h:HH):xq (.k (.s ps)) h=aa (.k (.s ps),h):=rfl
@[simp]theorem RQ(d:D)(h:HH):xq (.p d) h=aa (.p d,h):=rfl
@[simp]theorem RT(n:Nat)(h:HH):xq (.r n) h=aa (.r n,h):=rfl
@[simp]theorem RU(n:Nat)(h:HH):xq (.o n) h=aa (.o n,h):=rfl
def tK(F:FK->List W->HH->Option (W×HH))(q:FK)(n:Nat)(L:Nat)(B:Option (List Cp))(ws:List W)(h:HH):Option (W×HH):=match B with
 |some B=>bnd (F q (.o n::(ws++[.c (.l L) B])) h) xq|none=>af
@[simp]theorem An(F:FK->List W->HH->Option (W×HH))(q:FK)(n:Nat)(L:Nat)(B:List Cp)(ws:List W)(h:HH):tK F q n L (aa B) ws h=bnd (F q (.o n::(ws++[.c (.l L) B])) h) xq:=rfl
def xr(F:FK->List W->HH->Option (W×HH))(m:ay)(q:HH->Option (List W×HH))(L:Nat)(B:Option (List Cp))(x:W)(h:HH):Option (W×HH):=match x with
 |.o n=>match oat h n with
  |some (c,fs)=>if(eN m fs).isNone then bnd (q h) (tK F (.m c m) n L B)else af
  |none=>af
 |_=>af
@[simp]theorem Cr(F:FK->List W->HH->Option (W×HH))(m:ay)(q:HH->Option (List W×HH))(L:Nat)(B:Option (List Cp))(n:Nat)(h:HH):xr F m q L B (.o n) h=match oat h n with
 |some (c,fs)=>if(eN m fs).isNone then bnd (q h) (tK F (.m c m) n L B)else af
 |none=>af:=rfl
noncomputable def RV(c q:ay):Bool:=q==c||q=="TapeError"||q=="ValueError"
noncomputable def RX(c q:ay):Bool:=!(c=="NoText"&&q=="NoRun")
noncomputable def strsOf:List D->Option (List ay)
 |[]=>aa []|.str x::r=>(strsOf r).map (x :: ·)|_=>af
noncomputable def boolsOf:List D->Option (List Bool)
 |[]=>aa []|.bl b::r=>(boolsOf r).map (b :: ·)|_=>af
def txD:Tx->List D->Option D
 |.join,[.str x,.aB ys]=>(strsOf ys).bind λq=>if q.length<=4000/\x.length<=10/\∀t∈q,t.length<=4000 then aa (.str (Str.join x q))else af
 |.split,[.str x,.str y]=>if y.length=1/\x.length<=lim then aa (.aB ((Txt.split x y).map .str))else af
 |.str,[.int i]=>if big i then aa (.str (toString i))else af
 |.str,[.str x]=>aa (.str x)
 |.intS,[.str x]=>if x.length<=640 then(PySem.intText? x).map .int else af
 |.all,[.aB xs]=>(boolsOf xs).map λbs=>.bl (bs.all id)
 |.inS,[.str x,.str y]=>aa (.bl (Txt.contains y x))|.ninS,[.str x,.str y]=>aa (.bl (!Txt.contains y x))
 |.pre,[.str x,.int i]=>if 0<=i/\x.length<=lim then aa (.str ⟨x.cps.extract 0 i.toNat⟩)else if i=-1/\x.length<=lim then aa (.str ⟨x.cps.extract 0 (x.length-1)⟩)else af
 |_,_=>af
def Cs(kvs:List (ay×D))(as:List W)(h:HH):Option (W×HH):=match as with
 |[.p .aD]=>aa (.p .aD,h)|[.p (.str x)]=>aa (.p ((fz x kvs).getD .aD),h)|[.p (.str x),.p d]=>aa (.p ((fz x kvs).getD d),h)|_=>af
def xu(kvs:List (Ky×D))(as:List W)(h:HH):Option (W×HH):=match as with
 |[.p (.str x)]=>aa (.p ((dR kvs (.inr x)).getD .aD),h)|[.p (.str x),.p d]=>aa (.p ((dR kvs (.inr x)).getD d),h)|_=>af
def kTx(k:Tx)(ws:List W)(h:HH):Option (W×HH):=match k,ws with
 |.dget,.k (.t kvs)::as=>Cs kvs as h|.dget,.k (.l kvs)::as=>xu kvs as h
 |k,ws=>(rds ws h).bind λq=>(txD k q).map λd=>(.p d,h)
open Classical in
def Ct(h:HH)(w:W)(h':HH):Option (W×HH):=match w with
 |.r n=>if n=h.length/\h'.take h.length=h then(dat h' n).map λq=>(.k (.m q),h)else af
 |_=>af
open Classical in
def Cu{h:HH}{kvs:List (Ky×D)}(g:HH):Ct h (.r h.length) (h++.d kvs::g)=aa (.k (.m kvs),h):=by show(if h.length=h.length/\(h++.d kvs::g).take h.length=h then(dat (h++.d kvs::g) h.length).map λkvs=>((.k (.m kvs):W),h)else af)=_;rw[bJ ⟨rfl,by simp⟩];simp[dat]
noncomputable def Oc(x y:W)(h:HH):Option (W×HH):=match x,y with
 |.p d,.k (.m kvs)=>aa (.k (.q d kvs),h)|_,_=>af
def Od(x y:W)(h:HH):Option (W×HH):=match x,y with
 |.k (.s ps),.p (.int i)=>(atP ps i).map λp=>(.k (.q p.1 p.2),h)
 |.k (.q d kvs),.p (.int i)=>if i=0 then aa (.p d,h)else if i=1 then aa (.k (.m kvs),h)else af
 |_,_=>af
def yJ(x y:W)(h:HH):Option (W×HH):=match x,y with
 |.p d,.r n=>(dat h n).bind λq=>match d with
  |.aD=>aa (.p (.bl ai),h)
  |d=>(jq d).map λk=>(.p (.bl (dR q k).isSome),h)
 |_,_=>af
def oP2(k:P2)(x y:W)(h:HH):Option (W×HH):=match k with
 |.aC=>Oc x y h|.y=>Od x y h|.mem=>yJ x y h
noncomputable def kW(kvs:List (Ky×D))(k:Ky):List (Ky×D):=kvs.filter λq=>decide (q.1≠k)
def oM2(k:M2)(n:Nat)(y:W)(h:HH):Option (W×HH):=match k,y with
 |.app,.p d=>(lat h n).bind λD=>if D.length<lim then aa (.p .aD,h.set n (.l (D++[d])))else af
 |.app,.k (.q d B)=>(pat h n).bind λJ=>if J.length<lim then aa (.p .aD,h.set n (.s (J++[(d,B)])))else af
 |.pop,.p d=>(dat h n).bind λB=>(jq d).bind λk=>(dR B k).map λv=>(.p v,h.set n (.d (kW B k)))
 |.upd,.k (.m us)=>(dat h n).bind λB=>if B.length+us.length<=lim then aa (.p .aD,h.set n (.d (us.foldl (λc p=>ff c p.1 p.2) B)))else af
 |_,_=>af
def pO(k:M2)(n:Nat)(h:HH):Bool:=match k with
 |.app=>(lat h n).isSome||(sat h n).isSome
 |_=>(dat h n).isSome
def kM2(k:M2)(q:EH)(x:W)(h:HH):Option (W×HH):=match x with
 |.r n=>if pO k n h then bnd (q h) (oM2 k n)else af
 |_=>af
@[simp]theorem Oe(k:M2)(q:EH)(n:Nat)(h:HH):kM2 k q (.r n) h=if pO k n h then bnd (q h) (oM2 k n)else af:=rfl
@[simp]theorem F6(d:D)(kvs:List (Ky×D))(h:HH):oP2 .aC (.p d) (.k (.m kvs)) h=aa (.k (.q d kvs),h):=rfl
@[simp]theorem J8(ps:List Pr)(i:Int)(h:HH):oP2 .y (.k (.s ps)) (.p (.int i)) h=(atP ps i).map λp=>(.k (.q p.1 p.2),h):=rfl
@[simp]theorem Ub(d:D)(kvs:List (Ky×D))(h:HH):oP2 .y (.k (.q d kvs)) (.p (.int 0)) h=aa (.p d,h):=rfl
@[simp]theorem Uc(d:D)(kvs:List (Ky×D))(h:HH):oP2 .y (.k (.q d kvs)) (.p (.int 1)) h=aa (.k (.m kvs),h):=rfl
@[simp]theorem J9(n:Nat)(h:HH):oP2 .mem (.p .aD) (.r n) h=(dat h n).bind λ_=>aa (.p (.bl ai),h):=rfl
@[simp]theorem Ka(i:Int)(n:Nat)(h:HH):oP2 .mem (.p (.int i)) (.r n) h=(dat h n).bind λkvs=>aa (.p (.bl (dR kvs (.inl i)).isSome),h):=rfl
@[simp]theorem Kc(x:ay)(n:Nat)(h:HH):oP2 .mem (.p (.str x)) (.r n) h=(dat h n).bind λkvs=>aa (.p (.bl (dR kvs (.inr x)).isSome),h):=rfl
@[simp]theorem Ke(n:Nat)(d:D)(h:HH):oM2 .app n (.p d) h=(lat h n).bind λxs=>if xs.length<lim then aa (.p .aD,h.set n (.l (xs++[d])))else af:=rfl
@[simp]theorem Kf(n:Nat)(d:D)(kvs:List (Ky×D))(h:HH):oM2 .app n (.k (.q d kvs)) h=(pat h n).bind λps=>if ps.length<lim then aa (.p .aD,h.set n (.s (ps++[(d,kvs)])))else af:=rfl
@[simp]theorem F7(n:Nat)(d:D)(h:HH):oM2 .pop n (.p d) h=(dat h n).bind λkvs=>(jq d).bind λk=>(dR kvs k).map λv=>(.p v,h.set n (.d (kW kvs k))):=rfl
@[simp]theorem F8(n:Nat)(us:List (Ky×D))(h:HH):oM2 .upd n (.k (.m us)) h=(dat h n).bind λkvs=>if kvs.length+us.length<=lim then aa (.p .aD,h.set n (.d (us.foldl (λc p=>ff c p.1 p.2) kvs)))else af:=rfl
noncomputable def xw(h:HH):Option Cl->Option (W×HH)
 |some (.l xs)=>aa (.p (.aB xs),h)|some (.s ps)=>aa (.k (.s ps),h)|some (.d kvs)=>aa (.r h.length,h++[.d kvs])|_=>af
@[simp]theorem RY(h:HH)(xs:List D):xw h (aa (.l xs))=aa (.p (.aB xs),h):=rfl
@[simp]theorem RZ(h:HH)(ps:List Pr):xw h (aa (.s ps))=aa (.k (.s ps),h):=rfl
@[simp]theorem R0(h:HH)(kvs:List (Ky×D)):xw h (aa (.d kvs))=aa (.r h.length,h++[.d kvs]):=rfl
@[simp]theorem R6(h:HH):xw h af=af:=rfl
open Classical in
def fin(h:HH)(w:W)(h':HH):Option (W×HH) :=
 if h'.length=h.length then aa (w,h')
 else if h'.take h.length=h then (match w with
  |.p d=>aa (.p d,h)
  |.r n=>if n<h.length then aa (.r n,h)else(xw h h'[n]?)
  |.o n=>if n<h.length then aa (.o n,h)else aa (.o n,h')
  |.k (.q d kvs)=>aa (.k (.q d kvs),h)|.k (.s ps)=>aa (.k (.s ps),h)|.k _=>af|.c _ _=>af
  | .x _=>af)
 else aa (w,h')
section
variable(F:FK->List W->HH->Option (W×HH))(G:ay->Option W)
mutual
@[simp]noncomputable def ev:E->Sl->HH->Option (W×HH)
 |.v i,s,h=>match s[i]? with|some (aa w)=>aa (w,h)|_=>af
 |.j d,_,h=>aa (.p d,h)
 |.aE x,_,h=>(G x).map λw=>(w,h)
 |.bin o a b,s,h=>bnd (ev a s h) (k2 (ev b s) (tE o))|.neg a,s,h=>bnd (ev a s h) FZ|.not a,s,h=>bnd (ev a s h) F0|.and a b,s,h=>bnd (ev a s h) (F2 (ev b s))|.or a b,s,h=>bnd (ev a s h) (kOr (ev b s))|.z o a b,s,h=>bnd (ev a s h) (k2 (ev b s) (lu o))|.chain o o' a b c,s,h=>bnd (ev a s h) (k2 (ev b s) (oCh o o' (ev c s)))|.ite c a b,s,h=>bnd (ev c s h) (F3 (ev a s) (ev b s))|.aC as,s,h=>bnd (evs as s h) J3|.aB mu as,s,h=>bnd (evs as s h) (J4 mu)|.y a i,s,h=>bnd (ev a s h) (k2 (ev i s) FY)|.n a lo hi,s,h=>bnd (ev a s h) (N4 (evs lo s) (evs hi s))|.rvs a,s,h=>bnd (ev a s h) RK|.stp mu k a,s,h=>bnd (ev a s h) (J5 mu k)|.call f as,s,h=>bnd (evs as s h) (F (.f f))|.i a f,s,h=>bnd (ev a s h) (F4 f)|.aF o m as,s,h=>bnd (ev o s h) (Ck F m (evs as s))|.make c as,s,h=>bnd (evs as s h) (IJ F c)|.bi b mu as,s,h=>bnd (evs as s h) (kBi b mu)|.lsr mu sr as,s,h=>bnd (evs as s h) (kLs mu sr)|.me m o as,s,h=>bnd (ev o s h) (kMe m (evs as s))|.comp mu sr sa tg fv cond elt,s,h=>bnd (evs sa s h) (pN mu sr tg.length (frees s fv) (evs cond) (ev elt))|.callv i as,s,h=>bnd (evs as s h) (tH F s[i]?)|.methL o m as L fv,s,h=>bnd (ev o s h) (xr F m (evs as s) L (caps s fv))|.dnew,_,h=>aa (.r h.length,h++[.d []])|.frz a,s,h=>bnd (ev a s h) (Ct h)|.p2 k a b,s,h=>bnd (ev a s h) (k2 (ev b s) (oP2 k))|.m2 k o a,s,h=>bnd (ev o s h) (kM2 k (ev a s))
@[simp]noncomputable def evs:Es->Sl->HH->Option (List W×HH)
 |.nil,_,h=>aa ([],h)|.cons a as,s,h=>bnd (ev a s h) (kU (evs as s))
end
inductive Fl
 |nx(s:Sl)(h:HH)|rt(w:W)(h:HH)|bk(s:Sl)(h:HH)|ct(s:Sl)(h:HH)
def F9(h:HH)(x:Option Fl):Option Fl:=match x with
 |some (.rt w h')=>(fin h w h').map λp=>.rt p.1 p.2
 |x=>x
theorem Ga(h:HH)(w:W)(h':HH):F9 h (aa (.rt w h'))=(fin h w h').map λp=>.rt p.1 p.2:=rfl
def Of(k:Bool->HH->Option Fl)(w:W)(h:HH):Option Fl:=match w with|.p (.bl b)=>k b h|_=>af
def tst(x:Option (W×HH))(k:Bool->HH->Option Fl):Option Fl:=bnd x (Of k)
@[simp]theorem pP(b:Bool)(h:HH)(k:Bool->HH->Option Fl):tst (aa (.p (.bl b),h)) k=k b h:=rfl
noncomputable def nJ(x:Option Fl)(k:Sl->HH->Option Fl):Option Fl:=match x with
 |some (.nx s h)=>k s h|y=>y
@[simp]theorem Cv(s:Sl)(h:HH)(k:Sl->HH->Option Fl):nJ (aa (.nx s h)) k=k s h:=rfl
@[simp]theorem Og(w:W)(h:HH)(k:Sl->HH->Option Fl):nJ (aa (.rt w h)) k=aa (.rt w h):=rfl
@[simp]theorem Oh(s:Sl)(h:HH)(k:Sl->HH->Option Fl):nJ (aa (.bk s h)) k=aa (.bk s h):=rfl
@[simp]theorem Oi(s:Sl)(h:HH)(k:Sl->HH->Option Fl):nJ (aa (.ct s h)) k=aa (.ct s h):=rfl
@[simp]theorem Kg(k:Sl->HH->Option Fl):nJ af k=af:=rfl
noncomputable def nK(x:Option Fl)(k:Sl->HH->Option Fl):Option Fl:=match x with
 |some (.nx s h)=>k s h|some (.ct s h)=>k s h|some (.bk s h)=>aa (.nx s h)|y=>y
@[simp]theorem iH(s:Sl)(h:HH)(k:Sl->HH->Option Fl):nK (aa (.nx s h)) k=k s h:=rfl
@[simp]theorem Oj(s:Sl)(h:HH)(k:Sl->HH->Option Fl):nK (aa (.ct s h)) k=k s h:=rfl
@[simp]theorem Ol(s:Sl)(h:HH)(k:Sl->HH->Option Fl):nK (aa (.bk s h)) k=aa (.nx s h):=rfl
@[simp]theorem Om(w:W)(h:HH)(k:Sl->HH->Option Fl):nK (aa (.rt w h)) k=aa (.rt w h):=rfl
@[simp]theorem Kl(k:Sl->HH->Option Fl):nK af k=af:=rfl
@[simp]noncomputable def sets:List (Nat×ay)->List D->Sl->Sl
 |(i,_)::r,d::ds,s=>sets r ds (s.set i (aa (.p d)))|_,_,s=>s
def Km(b:Sl->HH->Option Fl)(again:Sl->HH->Option Fl)(s:Sl)(t:Bool)(h:HH):Option Fl:=if t then nK (b s h) again else aa (.nx s h)
@[simp]theorem xy(b again:Sl->HH->Option Fl)(s:Sl)(h:HH):Km b again s ah h=nK (b s h) again:=rfl
@[simp]theorem tL(b again:Sl->HH->Option Fl)(s:Sl)(h:HH):Km b again s ai h=aa (.nx s h):=rfl
def iI(c:Sl->HH->Option (W×HH))(b:Sl->HH->Option Fl):Nat->Sl->HH->Option Fl
 |0,_,_=>af|n+1,s,h=>tst (c s h) (Km b (iI c b n) s)
@[simp]def d9(b:Sl->HH->Option Fl)(tg:List (Nat×ay)):List D->Sl->HH->Option Fl
 |[],s,h=>aa (.nx s h)
 |d::r,s,h=>match target tg.length d with
  |some q=>nK (b (sets tg q s) h) (d9 b tg r)|none=>af
noncomputable def turns:Nat:=100000
@[simp]def xA(s:Sl)(i:Nat)(w:W)(h:HH):Option Fl:=aa (.nx (s.set i (aa w)) h)
@[simp]def Kn(s:Sl)(xs:List (Nat×ay))(w:W)(h:HH):Option Fl:=match w with
 |.p d=>match unpack xs.length d with|some q=>aa (.nx (sets xs q s) h)|none=>af
 |_=>af
@[simp]def On(s:Sl)(i:Nat)(o:Bin)(w:W)(h:HH):Option Fl:=match s[i]?,w with
 |some (aa (.p d)),.p d'=>(o9 o d d').map λz=>.nx (s.set i (aa (.p z))) h
 |_,_=>af
@[simp]def IK(s:Sl)(n:Nat)(d:D)(q:W)(h:HH):Option Fl:=match q,lat h n with
 |.p (.int j),aa xs=>match place xs.length j with
  |some m=>aa (.nx s (h.set n (.l (xs.set m d))))|none=>af
 |_,_=>af
@[simp]def Ko(q:EH)(s:Sl)(i:Nat)(w:W)(h:HH):Option Fl:=match w,s[i]? with
 |.p d,aa (aa (.r n))=>bnd (q h) (IK s n d)|_,_=>af
def xB(s:Sl)(n:Nat)(d:D)(q:W)(h:HH):Option Fl:=match q with
 |.p k=>(dat h n).bind λB=>(jq k).bind λy=>if B.length<lim then aa (.nx s (h.set n (.d (ff B y d))))else af
 |_=>af
@[simp]theorem Cw(s:Sl)(n:Nat)(d k:D)(h:HH):xB s n d (.p k) h=(dat h n).bind λkvs=>(jq k).bind λy=>if kvs.length<lim then aa (.nx s (h.set n (.d (ff kvs y d))))else af:=rfl
def yK(q:EH)(s:Sl)(i:Nat)(w:W)(h:HH):Option Fl:=match w,s[i]? with
 |.p d,aa (aa (.r n))=>bnd (q h) (xB s n d)|_,_=>af
@[simp]theorem Gb(q:EH)(s:Sl)(i:Nat)(d:D)(h:HH):yK q s i (.p d) h=match s[i]? with
 |some (aa (.r n))=>bnd (q h) (xB s n d)
 |_=>af:=by
 unfold yK;cases s[i]? with
 |none=>rfl
 |some o=>cases o with
  |none=>rfl|some w=>cases w<;>rfl
def tM(s:Sl)(f:ay)(v:W)(x:W)(h:HH):Option Fl:=match x with
 |.o n=>match oat h n with
  |some (c,fs)=>if attrOk v&&fs.length<1000 then aa (.nx s (h.set n (.o c (eH f v fs))))else af
  |none=>af
 |_=>af
@[simp]theorem Cy(s:Sl)(f:ay)(v:W)(n:Nat)(h:HH):tM s f v (.o n) h=match oat h n with
 |some (c,fs)=>if attrOk v&&fs.length<1000 then aa (.nx s (h.set n (.o c (eH f v fs))))else af
 |none=>af:=rfl
def Cz(q:EH)(s:Sl)(f:ay)(v:W)(h:HH):Option Fl:=bnd (q h) (tM s f v)
@[simp]theorem CA(q:EH)(s:Sl)(f:ay)(v:W)(h:HH):Cz q s f v h=bnd (q h) (tM s f v):=rfl
def tN(s:Sl)(f:ay)(q:Bin)(n:Nat)(c:ay)(d:D)(v:W)(h:HH):Option Fl:=match v,oat h n with
 |.p e,aa (c',fs)=>match o9 q d e with
  |some z=>if c'=c/\fs.length<1000 then aa (.nx s (h.set n (.o c' (eH f (.p z) fs))))else af
  |none=>af
 |_,_=>af
@[simp]theorem CB(s:Sl)(f:ay)(q:Bin)(n:Nat)(c:ay)(d e:D)(h:HH):tN s f q n c d (.p e) h=match oat h n with
 |some (c',fs)=>match o9 q d e with
  |some z=>if c'=c/\fs.length<1000 then aa (.nx s (h.set n (.o c' (eH f (.p z) fs))))else af
  |none=>af
 |none=>af:=by unfold tN;cases oat h n<;>rfl
def yL(B:EH)(s:Sl)(f:ay)(q:Bin)(x:W)(h:HH):Option Fl:=match x with
 |.o n=>match oat h n with
  |some (c,fs)=>match eN f fs with
   |some (.p d)=>bnd (B h) (tN s f q n c d)|_=>af
  |none=>af
 |_=>af
@[simp]theorem Gc(B:EH)(s:Sl)(f:ay)(q:Bin)(n:Nat)(h:HH):yL B s f q (.o n) h=match oat h n with
 |some (c,fs)=>match eN f fs with
  |some (.p d)=>bnd (B h) (tN s f q n c d)|_=>af
 |none=>af:=rfl
@[simp]noncomputable def kEx(s:Sl)(_:W)(h:HH):Option Fl:=aa (.nx s h)
@[simp]def qR(w:W)(h:HH):Option Fl:=aa (.rt w h)
@[simp]noncomputable def kIf(B q:HH->Option Fl)(t:Bool)(h:HH):Option Fl:=if t then B h else q h
def kX(sr:Sr)(q:Nat)(h:HH):Option (List D):=(lat h q).bind λB=>gO sr [.aB B]
open Classical in
def Gd(sr:Sr)(q:Nat)(ds:List D)(b:Sl->HH->Option Fl)(s:Sl)(h:HH):Option Fl:=match b s h with
 |some (.nx s h)=>if kX sr q h=aa ds then aa (.nx s h)else af
 |some (.ct s h)=>if kX sr q h=aa ds then aa (.ct s h)else af
 |x=>x
def CD(b:Sl->HH->Option Fl)(tg:List (Nat×ay))(sr:Sr)(s:Sl)(ws:List W)(ds:List D)(h:HH):Option Fl:=match ws,sr with
 |[.r q],.seq=>d9 (Gd .seq q ds b) tg ds s h|[.r q],.enu=>d9 (Gd .enu q ds b) tg ds s h|_,_=>af
@[simp]def kFor(b:Sl->HH->Option Fl)(tg:List (Nat×ay))(sr:Sr)(s:Sl)(ws:List W)(h:HH):Option Fl:=match (rds ws h).bind (gO sr)with
 |some q=>if iS ws then d9 b tg q s h else CD b tg sr s ws q h
 |none=>af
@[simp]def evS:S->Sl->HH->Option Fl
 |.nil,s,h=>aa (.nx s h)|.seq a b,s,h=>nJ (evS a s h) (evS b)|.set i e,s,h=>bnd (ev F G e s h) (xA s i)|.unp xs e,s,h=>bnd (ev F G e s h) (Kn s xs)|.aug i o e,s,h=>bnd (ev F G e s h) (On s i o)|.put i k e,s,h=>bnd (ev F G e s h) (Ko (ev F G k s) s i)|.putd i k e,s,h=>bnd (ev F G e s h) (yK (ev F G k s) s i)|.setf o f e,s,h=>bnd (ev F G e s h) (Cz (ev F G o s) s f)|.augf o f op e,s,h=>bnd (ev F G o s h) (yL (ev F G e s) s f op)|.ex e,s,h=>bnd (ev F G e s h) (kEx s)|.ret e,s,h=>bnd (ev F G e s h) qR|.v c a b,s,h=>tst (ev F G c s h) (kIf (evS a s) (evS b s))|.j c b,s,h=>iI (ev F G c) (evS b) turns s h|.for tg sr sa b,s,h=>bnd (evs F G sa s h) (kFor (evS b) tg sr s)|.brk,s,h=>aa (.bk s h)|.cnt,s,h=>aa (.ct s h)|.bad,_,_=>af|.blk b,s,h=>F9 h (evS b s h)|.rai _ _,_,_=>af|.rai2 _ _ _,_,_=>af
@[simp]noncomputable def iJ(n:Nat)(ws:List W):Sl:=ws.map aa++UU (n-ws.length) af
def mZ(x:Option Fl)(k:W->HH->Option (W×HH)):Option (W×HH):=match x with
 |some (.rt w h)=>k w h|some (.nx _ h)=>k (.p .aD) h|_=>af
@[simp]theorem Qx(w:W)(h:HH)(k:W->HH->Option (W×HH)):mZ (aa (.rt w h)) k=k w h:=rfl
@[simp]theorem Qz(s:Sl)(h:HH)(k:W->HH->Option (W×HH)):mZ (aa (.nx s h)) k=k (.p .aD) h:=rfl
@[simp]theorem MO(k:W->HH->Option (W×HH)):mZ af k=af:=rfl
end
section
variable(T:FK->Option Fn)(G:ay->Option W)
def runN:Nat->FK->List W->HH->Option (W×HH)
 |0,_,_,_=>af
 |k+1,f,ws,h=>match T f with
  |some fn=>if ws.length=fn.ps.length then mZ (evS (runN k) G fn.body (iJ fn.ns.length ws) h) (fin h)else af
  |none=>af
def run_eq{T:FK->Option Fn}{G:ay->Option W}{f:FK}{fn:Fn}{ws:List W}{h:HH}{k:Nat}(B:T f=aa fn)(q:ws.length=fn.ps.length):
 runN T G (k+1) f ws h=mZ (evS (runN T G k) G fn.body (iJ fn.ns.length ws) h) (fin h):=by
 rw[runN,B];exact bJ q
end
def R8:Fn:=⟨["state","thing"],["state","thing"],.ret (.call "worth_in" (cV (.v 0) (.v 1)))⟩
def Sa:Fn:=⟨["state","thing","worth"],["state","thing","worth"],.ret (.z .ne (.call "worth_in" (cV (.v 0) (.v 1))) (.v 2))⟩
def Sd:Fn:=⟨["state","thing","worth"],["state","thing","worth"],.ret (.z .ne (.call "worth_in" (cV (.v 0) (.v 1))) (.v 2))⟩
def Se:Fn:=⟨["state","term"],["state","term"],.ret (.call "reckoned" (cV (.v 1) (.v 0)))⟩
def Sf:Fn:=⟨["state","term"],["state","term"],.ret (.z .ne (.call "reckoned" (cV (.v 1) (.v 0))) (.j (.int 0)))⟩
def Sg:Fn:=⟨["state","term"],["state","term"],.ret (.z .ne (.call "reckoned" (cV (.v 1) (.v 0))) (.j (.int 0)))⟩
noncomputable def Sh:Fn:=⟨["state"],["state"],.ret (.y (.v 0) (.aE "ROW"))⟩
noncomputable def Si:Fn:=⟨["state","row"],["state","row"],.ret (.z .eq (.y (.v 0) (.aE "ROW")) (.v 1))⟩
def Sj:Fn:=⟨["state","number"],["state","number"],.ret (.z .gt (.bi .len ai (cW (.y (.v 0) (.aE "SAID")))) (.v 1))⟩
def Sk:Fn:=⟨["state","bound"],["state","bound"],.ret (.z .le (.call "open_in" (cW (.v 0))) (.v 1))⟩
def Oo:Fn:=⟨["state","bound"],["state","bound"],.ret (.z .le (.call "open_in" (cW (.v 0))) (.v 1))⟩
noncomputable def Oq:Fn:=⟨["state","wanted"],["state","wanted"],.ret (.and (.z .eq (.y (.v 0) (.aE "NAMES")) (.y (.v 1) (.aE "NAMES"))) (.z .eq (.y (.v 0) (.aE "CELLS")) (.y (.v 1) (.aE "CELLS"))))⟩
def Os:Fn:=⟨["state","tape","thing"],["state","tape","thing"],.ret (.z .eq (.call "written_next" (cV (.v 1) (.v 0))) (.v 2))⟩
def yM:Fn:=⟨["row","state"],["row","state"],.ret (.p2 .aC (.call "written_by" (cV (.v 0) (.v 1))) (.frz (.call "read_in" (cV (.v 0) (.v 1)))))⟩
def yN:Fn:=⟨["row","state"],["row","state"],.ret (.n (.v 1) .nil (cW (.aE "SAID")))⟩
def qS(i:Nat):Option Fn:=([R8,Sa,Sd,Se,Sf,Sg,Sh,Si,Sj,Sk,Oo,Oq,Os,yM,yN]:List Fn)[i]?
noncomputable def gF:List ay:=["worths_of","last_change","next_change","moments_so","last_so","next_so","visits","last_visit","when_said","next_within","last_within","first_other","writer_of","judged","remade"]
def yO(i:Nat):ay:=gF.getD i ""
noncomputable def fD(x:ay):ay:="<"++x++">"
end BT
end
open BT renaming HH->aL,W->aM,ev->aN,D->aO,E->aP,rds->aQ,evS->aR,dP->aS,eqv->aT,meW->aU,Es->aV,runN->aW,evs->aX,Sl->aY,rd->aZ,lat->bf,oat->bq,Ky->br,target->bw,dM->bx,Fn->bz,Bin->bA,ded->bB,Cp->bC,gy->bD,fD->bE,bnd->bF,Pr->bG,Sr->bH,lu->bI
section
namespace BS
open PySem PySem.Spec PyProof.Rows L2
variable{K:Uv}
def dB{q:Type}{c:Prop}[Decidable c]{a b:q}(h:(if c then aa a else af)=aa b):c/\a=b:=by
 by_cases z:c
 rw[bJ z]at h;exact⟨z,UK h⟩;rw[bK z]at h;exact nomatch h
def cX{q:Type}{a:q}{P:Prop}(h:(af:Option q)=aa a):P:=nomatch h
noncomputable def attrName(f:ay):Bool:=(["program","asked","gap","most","kept","farthest","front","now","origins","branches","tape","named"]:List ay).contains f
def vp:BT.Bi->Option (String×(aO->Bool))
 |.isInt=>aa ("int",BT.isI)|.isBool=>aa ("bool",BT.isB)|.isStr=>aa ("str",BT.isS)|.isTuple=>aa ("tuple",BT.isT)|_=>af
noncomputable def nL(sc:Vf)(x:ay):Bool:=match sc.names.lookup x with
 |some .local=>ah|some .cell=>ah|some .free=>ah|_=>ai
noncomputable def dW(sc:Vf)(x:ay):Bool:=sc.names.lookup x==aa .globalImplicit
noncomputable def fE(x:ay):Bool:=!(x=="__debug__")&&!(x=="__classdict__")&&!(x=="__name__")
noncomputable def noStar:Uy->Bool
 |.Starred _ _=>ai|_=>ah
noncomputable def kH:Uy->Bool
 |.Slice _ _ _ _=>ai|_=>ah
noncomputable def dO:Uy->Bool
 |.Name _ _=>ah|.Constant _ _ _=>ah|.Subscript _ _ _=>ah|.Attribute _ _ _=>ah|.Call (.Attribute _ _ _) _ _ _=>ah|.Dict _ _ _=>ah|_=>ai
noncomputable def Ot:bA->X4
 |.add=>.Add|.sub=>.Sub|.mul=>.Mult|.mod=>.Mod|.fdiv=>.FloorDiv
def IL(o:bA)(q:X4):Bool:=decide (q=Ot o)
noncomputable def Sn:BT.Cm->CmpOp
 |.eq=>.Eq|.ne=>.NotEq|.lt=>.Lt|.le=>.LtE|.gt=>.Gt|.ge=>.GtE|.isN=>.Is|.notN=>.IsNot|.mem=>.In|.nmem=>.NotIn
def Ge(o:BT.Cm)(q:CmpOp):Bool:=decide (q=Sn o)
noncomputable def IM:aO->Const->Bool
 |.aD,.none=>ah|.bl a,.bool b=>a==b|.int i,.int j=>i==j|.str x,.str y=>x==y&&PyData.strOk x|_,_=>ai
noncomputable def CF:BT.Bi->Bool->Option ay
 |.len,ai=>aa "len"|.int,ai=>aa "int"|.list,_=>aa "list"|.tuple,ai=>aa "tuple"|.sorted,_=>aa "sorted"|.max1,ai=>aa "max"|.min1,ai=>aa "min"|_,_=>af
def IP(b:BT.Bi)(mu:Bool)(x:ay):Bool:=CF b mu==aa x
noncomputable def CG:BT.Bi->ay->Bool
 |.min2,x=>x=="min"|.max2,x=>x=="max"|_,_=>ai
noncomputable def Gf:Uy->Option Const
 |.Constant c _ _=>aa c|_=>af
noncomputable def cInt:Const->Option Int
 |.int j=>aa j|_=>af
noncomputable def unE:Uy->Option Uy
 |.UnaryOp o e _=>if o=.USub then aa e else af
 |_=>af
def tO(k:Int)(e:Uy):Bool:=((Gf e).bind cInt==aa k&&decide (0<k))||(((unE e).bind Gf).bind cInt==aa (-k)&&decide (k<0))
noncomputable def CH:BT.Me->ay
 |.append=>"append"|.pop=>"pop"|.extend=>"extend"|.tindex=>"index"|.sindex=>"index"|.dget=>"get"|.count=>"count"|.lindex=>"index"
noncomputable def xC:aP->Bool
 |.aE _=>ah|_=>ai
def CJ(m:BT.Me)(o:aP):Bool:=match m with
 |.append=>ah|.pop=>ah|.extend=>ah|.sindex=>ah|.tindex=>xC o|.dget=>ai|.count=>ai|.lindex=>ai
noncomputable def IQ(c:ay):Bool:=(["NoMoment","NoThing","NoRun","NoText"]:List ay).contains c
def Ud(q:ay):Bool:=IQ q||q=="ValueError"
noncomputable def gQ(N:List ay):Bool:=!N.contains "_law_flags"
noncomputable def tOK:aP->Bool
 |.ite _ _ _=>ai|.not a=>tOK a|.and a b=>tOK a&&tOK b|.or a b=>tOK a&&tOK b|.aC _=>ai|.aB _ _=>ai|.comp _ _ _ _ _ _ _=>ai|.frz _=>ai|.p2 .aC _ _=>ai|_=>ah
def CK:BT.M2->ay
 |.app=>"append"|.pop=>"pop"|.upd=>"update"
noncomputable def ly:Uy->Bool
 |.Set _ _ _=>ai|_=>ah
noncomputable def vq:bH->Uy->Bool
 |.zip2,.Tuple _ _ _=>ah|.enu,.Tuple _ _ _=>ah|.itm,.Tuple _ _ _=>ah|.zipG,.Tuple _ _ _=>ah|.zip2,_=>ai|.enu,_=>ai|.itm,_=>ai|.zipG,_=>ai|_,_=>ah
noncomputable def d8(q sc:Vf):Vf :=
 {q with names:=q.names.map λ(n,k)=>if(k==.free&&sc.kind==.function&&sc.names.lookup n==aa .cell)then(n,.cell)else(n,k)}
noncomputable def nmE:Uy->Option ay
 |.Name y _=>aa y|_=>af
noncomputable def Kp:Uy->List Uy
 |.Tuple q _ _=>q|_=>[]
def vz(sc:Vf)(tg:List ay)(te:Uy):Bool:=((tg.map aa==[nmE te])||(Nat.ble 2 tg.length&&tg.map aa==(Kp te).map nmE))&&tg.all λx=>sc.names.lookup x==aa .local
noncomputable def lz:List ay->Bool
 |[]=>ah|x::r=>!r.contains x&&lz r
def lA(sc:Vf)(N:List ay)(tg:List ay)(fv:List (Nat×ay))(B:Vf):Bool :=
 B.kind==.function&&sc.kind==.function&&B.names.all (λy=>!(y.2==.cell))&&B.names.all (λy=>!(y.2==.local)||B.names.lookup y.1==aa .local) &&
 B.names.all (λy=>!(y.2==.free)||sc.names.lookup y.1==aa .cell) &&
 fv.all (λq=>N[q.1]?==aa q.2&&B.names.contains (q.2,.free)&&sc.names.lookup q.2==aa .cell&&(d8 B sc).names.lookup q.2==aa .cell)&&lz (tg++fv.map (·.2))
noncomputable def dlQ:aO->PyData
 |.str x=>.str x|.int i=>.int i|_=>.none
noncomputable def Ou:aO->Bool
 |.str x=>PyData.strOk x|.int _=>ah|_=>ai
def dlD(kvs:List (ay×aO)):List (PyData×PyData):=kvs.map λp=>(.str p.1,dlQ p.2)
def dlV:List (ay×aO)->Bool
 |[]=>ah|p::r=>PyData.strOk p.1&&Ou p.2&&dlV r
def dlB(kvs:List (ay×aO))(q:List (Option Uy))(B:List Uy):Bool:=dlV kvs&&(q.all λx=>x.isSome)&&decide (q.length=B.length)&&!q.isEmpty&&decide (q.length<=15)&&decide (kvs.length<=15)
inductive Tq
 |e(a:aP)(x:Uy)|es(as:aV)(xs:List Uy)|o(as:aV)(x:Option Uy)|c(as:aV)(xs:List Uy)|i(sr:bH)(sa:aV)(x:Uy)
set_option autoImplicit true in
class inductive CQ:Vf->List ay->Tq->Prop where
 |v(h1:N[i]?=aa x)(h2:nL sc x=ah)(q:fE x=ah):CQ sc N (.e (.v i) (.Name x p))
 |j(h:IM d c=ah):CQ sc N (.e (.j d) (.Constant c k p))
 |aE(h2:dW sc x=ah)(q:fE x=ah):CQ sc N (.e (.aE x) (.Name x p))
 |bin(h:IL o op=ah)(q:CQ sc N (.e a l))(B:CQ sc N (.e b r)):CQ sc N (.e (.bin o a b) (.BinOp l op r p))
 |neg(q:CQ sc N (.e a x)):CQ sc N (.e (.neg a) (.UnaryOp .USub x p))
 |not(q:CQ sc N (.e a x)):CQ sc N (.e (.not a) (.UnaryOp .Not x p))
 |and2(q:CQ sc N (.e a x))(B:CQ sc N (.e b y)):CQ sc N (.e (.and a b) (.BoolOp .And [x,y] p))
 |and3(q:CQ sc N (.e a x))(B:CQ sc N (.e b (.BoolOp .And (y::z::r) p))):CQ sc N (.e (.and a b) (.BoolOp .And (x::y::z::r) p))
 |or2(q:CQ sc N (.e a x))(B:CQ sc N (.e b y)):CQ sc N (.e (.or a b) (.BoolOp .Or [x,y] p))
 |or3(q:CQ sc N (.e a x))(B:CQ sc N (.e b (.BoolOp .Or (y::z::r) p))):CQ sc N (.e (.or a b) (.BoolOp .Or (x::y::z::r) p))
 |z(h:Ge o op=ah)(B:CQ sc N (.e a l))(D:CQ sc N (.e b r))(q:YQ op r=ai):CQ sc N (.e (.z o a b) (.Compare l [op] [r] p))
 |chain(h:Ge o op=ah)(h':Ge o' op'=ah)(J:CQ sc N (.e a l))(D:CQ sc N (.e b r))(B:CQ sc N (.e c r'))(q:lastMarks [op,op'] [r,r']=ai):CQ sc N (.e (.chain o o' a b c) (.Compare l [op,op'] [r,r'] p))
 |ite(h:tOK c=ah)(q:CQ sc N (.e c t))(D:CQ sc N (.e a x))(B:CQ sc N (.e b y)):CQ sc N (.e (.ite c a b) (.IfExp t x y p))
 |aC(h:CQ sc N (.es as es)):CQ sc N (.e (.aC as) (.Tuple es k p))
 |aB(h:CQ sc N (.es as es)):CQ sc N (.e (.aB mu as) (.List es p))
 |y(B:CQ sc N (.e a x))(hi:CQ sc N (.e i sl))(q:kH sl=ah):CQ sc N (.e (.y a i) (.Subscript x sl p))
 |n{lo:aV}(B:CQ sc N (.e a x))(D:CQ sc N (.o lo l))(q:CQ sc N (.o hi u)):CQ sc N (.e (.n a lo hi) (.Subscript x (.Slice l u af p2) p))
 |call(q:dW sc f=ah)(hn:fE f=ah)(B:CQ sc N (.es as es)):CQ sc N (.e (.call f as) (.Call (.Name f np) es [] p))
 |sset(D:gQ N=ah)(B:dW sc "sorted"=ah)(q:dW sc "set"=ah)(J:noStar e=ah)(h:CQ sc N (.e a e)):
  CQ sc N (.e (.bi .sset ai (.cons a .nil)) (.Call (.Name "sorted" np) [.Call (.Name "set" zp) [e] [] pos] [] p))
 |bi(q:gQ N=ah)(L:IP b mu x=ah)(D:dW sc x=ah)(B:noStar e=ah)(J:CQ sc N (.e a e)):CQ sc N (.e (.bi b mu (.cons a .nil)) (.Call (.Name x np) [e] [] p))
 |inst(L:vp b=aa (c,f))(D:dW sc "isinstance"=ah)(q:dW sc (UN c)=ah)(B:noStar e=ah)(J:CQ sc N (.e a e)):
  CQ sc N (.e (.bi b ai (.cons a .nil)) (.Call (.Name "isinstance" np) [e,.Name (UN c) p2] [] p))
 |me(h1:CJ m o=ah)(h2:name=CH m)(D:dO oe=ah)(q:(apos.endLine==cpos.line)=ah)(L:es.length<20)(B:CQ sc N (.e o oe))(J:CQ sc N (.es as es)):
  CQ sc N (.e (.me m o as) (.Call (.Attribute oe name apos) es [] cpos))
 |comp{cond:aV}
  (q:gQ N=ah) (D:lA sc N tg fv scope=ah) (M:vz (d8 scope sc) tg te=ah) (hz:vq sr te=ah) (B:ly iter=ah) (hi:CQ sc N (.i sr sa iter))
  (J:CQ (d8 scope sc) (tg++fv.map (·.2)) (.c cond ifs)) (L:CQ (d8 scope sc) (tg++fv.map (·.2)) (.e elt elt')):CQ sc N (.e (.comp mu sr sa tg fv cond elt) (.ListComp elt' [⟨te,iter,ifs,0⟩] scope pos))
 |i(q:dO x=ah)(B:attrName f=ah)(D:CQ sc N (.e a x)):CQ sc N (.e (.i a f) (.Attribute x f p))
 |aF(D:dO oe=ah)(q:(apos.endLine==cpos.line)=ah)(L:es.length<20)(B:CQ sc N (.e o oe))(J:CQ sc N (.es as es)):
  CQ sc N (.e (.aF o m as) (.Call (.Attribute oe m apos) es [] cpos))
 |stp(q:tO k se=ah)(B:CQ sc N (.e a x)):CQ sc N (.e (.stp mu k a) (.Subscript x (.Slice af af (aa se) p2) p))
 |bi2(D:gQ N=ah)(L:CG b x=ah)(J:dW sc x=ah)(B:noStar e1=ah)(q:noStar e2=ah)(h1:CQ sc N (.e a1 e1))(h2:CQ sc N (.e a2 e2)):
  CQ sc N (.e (.bi b ai (.cons a1 (.cons a2 .nil))) (.Call (.Name x np) [e1,e2] [] p))
 |make(q:dW sc c=ah)(hn:fE c=ah)(B:CQ sc N (.es as es)):CQ sc N (.e (.make c as) (.Call (.Name c np) es [] p))
 |callv(h1:N[i]?=aa x)(h2:nL sc x=ah)(q:fE x=ah)(B:CQ sc N (.es as (e::es))):CQ sc N (.e (.callv i as) (.Call (.Name x np) (e::es) [] p))
 |dnew:CQ sc N (.e .dnew (.Dict [] [] p))
 |maxd(q:gQ N=ah)(D:dW sc "max"=ah)(B:noStar e=ah)(L:CQ sc N (.e a e))(J:CQ sc N (.e d de)):CQ sc N (.e (.bi .maxd ai (.cons a (.cons d .nil))) (.Call (.Name "max" np) [e] [⟨aa "default",de,kp⟩] p))
 |frz(q:CQ sc N (.e a e)):CQ sc N (.e (.frz a) e)
 |ptup(B:noStar x=ah)(q:noStar y=ah)(J:CQ sc N (.e a x))(D:CQ sc N (.e b y)):CQ sc N (.e (.p2 .aC a b) (.Tuple [x,y] k p))
 |pidx(B:CQ sc N (.e a x))(hi:CQ sc N (.e i sl))(q:kH sl=ah):CQ sc N (.e (.p2 .y a i) (.Subscript x sl p))
 |pmem(B:CQ sc N (.e a l))(D:CQ sc N (.e b r))(q:YQ .In r=ai):CQ sc N (.e (.p2 .mem a b) (.Compare l [.In] [r] p))
 |m2(h2:name=CK q)(L:dO oe=ah)(B:(apos.endLine==cpos.line)=ah)(D:noStar e=ah)(J:CQ sc N (.e o oe))(M:CQ sc N (.e a e)):CQ sc N (.e (.m2 q o a) (.Call (.Attribute oe name apos) [e] [] cpos))
 |es_nil:CQ sc N (.es .nil [])
 |es_cons(B:noStar e=ah)(D:CQ sc N (.e a e))(q:CQ sc N (.es as es)):CQ sc N (.es (.cons a as) (e::es))
 |o_nil:CQ sc N (.o .nil af)
 |o_one(q:CQ sc N (.e a e)):CQ sc N (.o (.cons a .nil) (aa e))
 |c_nil:CQ sc N (.c .nil [])
 |c_one(q:tOK a=ah)(B:CQ sc N (.e a e)):CQ sc N (.c (.cons a .nil) [e])
 |rng1(q:dW sc "range"=ah)(B:noStar e=ah)(h:CQ sc N (.e a e)):CQ sc N (.i .rng1 (.cons a .nil) (.Call (.Name "range" p) [e] [] pos))
 |rng2(D:dW sc "range"=ah)(B:noStar x=ah)(q:noStar y=ah)(J:CQ sc N (.e a x))(L:CQ sc N (.e b y)):CQ sc N (.i .rng2 (.cons a (.cons b .nil)) (.Call (.Name "range" p) [x,y] [] pos))
 |rng3(L:dW sc "range"=ah)(D:noStar x=ah)(q:noStar y=ah)(B:noStar z=ah)(M:CQ sc N (.e a x))(O:CQ sc N (.e b y))(J:CQ sc N (.e c z)):CQ sc N (.i .rng3 (.cons a (.cons b (.cons c .nil))) (.Call (.Name "range" p) [x,y,z] [] pos))
 |rev(q:dW sc "reversed"=ah)(B:noStar e=ah)(h:CQ sc N (.e a e)):CQ sc N (.i .rev (.cons a .nil) (.Call (.Name "reversed" p) [e] [] pos))
 |seq(h:CQ sc N (.e a x)):CQ sc N (.i .seq (.cons a .nil) x)
noncomputable abbrev CE'(sc:Vf)(N:List ay)(a:aP)(x:Uy):Prop:=CQ sc N (.e a x)
noncomputable abbrev CEs(sc:Vf)(N:List ay)(as:aV)(xs:List Uy):Prop:=CQ sc N (.es as xs)
noncomputable abbrev CC(sc:Vf)(N:List ay)(as:aV)(xs:List Uy):Prop:=CQ sc N (.c as xs)
noncomputable abbrev CI(sc:Vf)(N:List ay)(sr:bH)(sa:aV)(x:Uy):Prop:=CQ sc N (.i sr sa x)
inductive LPa:Wm->List ay->Prop
 |one{p:Pos}:LPa ⟨[],[⟨"state",af,p⟩],af,[],[],af,[]⟩ ["state"]
 |two{p q:Pos}:LPa ⟨[],[⟨"row",af,p⟩,⟨"state",af,q⟩],af,[],[],af,[]⟩ ["row","state"]
def pQ(ps fs:List ay)(sc:Vf):Bool :=
 sc.kind==.function&&!sc.isCoroutine&&!sc.isGenerator&&sc.names.all (λy=>!(y.2==.cell))&&ps.all (λx=>sc.names.lookup x==aa .local) &&
 fs.all (λx=>sc.names.lookup x==aa .free&&sc.names.contains (x,.free))&&sc.names.all (λy=>!(y.2==.free)||fs.contains y.1)&&lz (ps++fs)
noncomputable def Ao(sc:Vf)(N:List ay)(fv:List (Nat×ay)):Bool:=fv.all λq=>N[q.1]?==aa q.2&&sc.names.lookup q.2==aa .cell
inductive CL(sc:Vf)(N:List ay):aP->ay->aV->Nat->List (Nat×ay)->Uy->Prop
 |zero{o bt:aP}{m:ay}{L:Nat}{fv:List (Nat×ay)}{B be:Uy}{apos cpos lp:Pos}{D:Wm}{q:Vf}{ns ps:List ay}(hl:BT.qS L=aa ⟨ns,ns,.ret bt⟩)(J:LPa D ps)(hn:ns=ps++fv.map (·.2))(M:pQ ps (fv.map (·.2)) q=ah)(O:Ao sc N fv=ah)
  (V:N.contains (bE (BT.yO L))=ah) (Y:CE' q ns bt be) (Z:dO B=ah) (W:(apos.endLine==cpos.line)=ah) (U:CE' sc N o B):CL sc N o m .nil L fv (.Call (.Attribute B m apos) [.Lambda D be q lp] [] cpos)
 |one{o bt a:aP}{m:ay}{L:Nat}{fv:List (Nat×ay)}{B be e:Uy}{apos cpos lp:Pos}{D:Wm}{q:Vf}{ns ps:List ay}(hl:BT.qS L=aa ⟨ns,ns,.ret bt⟩)(J:LPa D ps)(hn:ns=ps++fv.map (·.2))(O:pQ ps (fv.map (·.2)) q=ah)(U:Ao sc N fv=ah)
  (W:N.contains (bE (BT.yO L))=ah) (hc:CE' q ns bt be) (h3:dO B=ah) (Z:(apos.endLine==cpos.line)=ah) (V:CE' sc N o B) (M:noStar e=ah) (Y:CE' sc N a e):CL sc N o m (.cons a .nil) L fv (.Call (.Attribute B m apos) [e,.Lambda D be q lp] [] cpos)
def KT(K:Uv)(a:az)(xs:List V):Prop :=
 ∃(o:ao) (q:Array aA) (n:Nat),(K.lookup a=aa o/\o.cls=.type "tuple"/\o.data=.seq q n/\q.size<=aj/\dw xs q.toList)/\o.dict=af
def KL(K:Uv)(a:az)(xs:List V):Prop:=∃(q:List aA) (n:Nat),K.lookup a=aa {cls:=.type "list",data:=.seq q.toArray n}/\q.length<=aj/\dw xs q
def LL(K:Uv)(H:Hp)(a:az)(xs:List V):Prop:=Rd H a (.aB xs)\/KL K a xs
def LL.sq{H:Hp}{a:az}{xs:List V}(h:LL K H a xs):SqL K H a xs:=by
 rcases h with h|⟨its,n,h1,h2,h3⟩
 exact .inl h;exact .inr ⟨_,its.toArray,n,h1,rfl,rfl,rfl,by simpa using h2,by simpa using h3⟩
def KD(P:UM)(w:U6)(K:Uv)(a:az)(es:List (ay×V)):Prop :=
 (a==Wb)=ai/\∃B:List (Key×aA),KV (es.map λq=>(Sum.inr q.1,q.2)) B/\∀h:aq,K.In h->h.DictOf (dD P w) a B
mutual
inductive RD(K:Uv)(m:List az)(H:Hp):V->aO->Prop
 |aD:RD K m H .aD .aD
 |bl(b:Bool):RD K m H (.bl b) (.bl b)
 |int(i:Int):RD K m H (.int i) (.int i)
 |str(x:ay)(h:PyData.strOk x=ah):RD K m H (.str x) (.str x)
 |aC{a:az}{vs:List V}{ds:List aO}(h:(Rd H a (.aC vs)/\a∉m)\/KT K a vs)(r:RDs K m H vs ds):RD K m H (.ref a) (.aC ds)
 |aB{a:az}{vs:List V}{ds:List aO}(h:(Rd H a (.aB vs)/\a∉m)\/KL K a vs)(r:RDs K m H vs ds):RD K m H (.ref a) (.aB ds)
inductive RDs(K:Uv)(m:List az)(H:Hp):List V->List aO->Prop
 |nil:RDs K m H [] []
 |cons{v:V}{d:aO}{vs:List V}{ds:List aO}(r:RD K m H v d)(t:RDs K m H vs ds):RDs K m H (v::vs) (d::ds)
end
inductive RDk(K:Uv):List (ay×V)->List (ay×aO)->Prop
 |nil:RDk K [] []
 |cons{x:ay}{v:V}{d:aO}{es:List (ay×V)}{kvs:List (ay×aO)}(r:∀m H,RD K m H v d)(t:RDk K es kvs):RDk K ((x,v)::es) ((x,d)::kvs)
inductive RA(K:Uv)(m:List az)(H:Hp):V->aM->Prop
 |p{v:V}{d:aO}(r:RD K m H v d):RA K m H v (.p d)
 |r{a:az}{n:Nat}(h:m[n]?=aa a):RA K m H (.ref a) (.r n)
 |o{a:az}{n:Nat}(h:m[n]?=aa a):RA K m H (.ref a) (.o n)
def Tr(m:List az)(H:Hp)(a:az)(o:ao):Prop:=H a=aa (.frz o (.own 0))/\a∉m
noncomputable def Aq(x:ay):ay:=x++".<locals>."++"<lambda>"
inductive jN(m:List az)(H:Hp)(cl:List (ay×az)):List ay->List V->Prop
 |nil:jN m H cl [] []
 |cons{x:ay}{c:az}{o:ao}{u:aA}{v:V}{xs:List ay}{vs:List V}(h1:cl.lookup x=aa c)(h2:Tr m H c o)(q:o.data=.cell (aa u))(r:RelV v u)(t:jN m H cl xs vs):jN m H cl (x::xs) (v::vs)
inductive jK(m:List az)(H:Hp)(f:az)(L:Nat)(vs:List V):Prop
 |mk(bt:_)(ps:_)(fs:_)(J:_)(be:_)(sc:_)(cl:_)(pm:_)(B:_)(c':_)(D:_)(os:_)(t:_)(q:_)(h1:BT.qS L=aa ⟨ps++fs,ps++fs,.ret bt⟩)(h2:LPa J ps)(h3:pQ ps fs sc=ah)(W:CE' sc (ps++fs) bt be)(U:(∀x y c,cl.lookup x=aa c->cl.lookup y=aa c->x=y))(Z:(∀x c,cl.lookup x=aa c->x∈fs))(h7:Tr m H f (XF "<lambda>" q J be sc cl pm c' B))(Y:Tr m H c' D)(h9:D.data=.fields os)(M:os[1]?=aa (.str q t))(O:jN m H cl fs vs):jK m H f L vs
inductive RCs(K:Uv)(m:List az)(H:Hp):List V->List bC->Prop
 |nil:RCs K m H [] []
 |cons{v:V}{x:bC}{vs:List V}{xs:List bC}(r:RA K m H v x.w)(t:RCs K m H vs xs):RCs K m H (v::vs) (x::xs)
def TB(K:Uv)(H:Hp):Prop:=∀x∈BT.gF,∀c P,Vs K x=aa (c,P)->∃q,H P=aa (.tbl q)/\TriplesOk q.toList ∧
 ∀B v,Xq B q.toList=aa v->∃J D os t,v=.ref J/\H J=aa (.frz D (.own 0))/\D.data=.fields os/\os[1]?=aa (.str (Aq x) t)
def TB.mono{H H':Hp}(h:TB K H)(h1:∀P ps,H P=aa (.tbl ps)->H' P=aa (.tbl ps))(h2:∀a o vs,o.data=.fields vs->H a=aa (.frz o (.own 0))->H' a=aa (.frz o (.own 0))):TB K H':=λx O c P e=>by obtain⟨ps,e1,e2,U⟩:=h x O c P e;refine⟨ps,h1 _ _ e1,e2,λB v q=>?_⟩;obtain⟨V,M,os,t,L,J,D⟩:=U B v q;exact⟨V,M,os,t,L,h2 _ _ _ D.1 J,D⟩
def CN(K:Uv)(c:ay)(C:az):Prop:=Vd K UP c=aa (aa (.ref C))
structure XT(K:Uv)(c:ay)(C:az):Prop where
 ga:Va K (.ref C) "__getattribute__"=aa (aa (.builtin "BaseException.__getattribute__"))
 nga:Va K (.ref C) "__getattr__"=aa af
 mrb:X8 K C (.type "BaseException")=aa ah
 dct:Wl K C=ah
 fnd:Va K (.ref C) "__class__"=aa (aa (.builtin "object.__class__"))
 spc:aab K (.builtin "object.__class__") "__get__"=aa (aa (.builtin "getset_descriptor.__get__"))
 tak:aaE K (.builtin "object.__class__")=aa ah
 mro:X8 K C (.type "object")=aa ah
 own:∀cn,IQ cn=ah->BT.RX c cn=ah->∃D,CN K cn D/\VY K (.ref C) (.ref D)=aa (BT.RV c cn)
 val:VY K (.ref C) (.type "ValueError")=aa ah
def excAt(K:Uv)(c:ay)(a:az):aq->Prop:=λh=>∃o C,CN K c C/\XT K c C/\h.get? a=aa o/\o.cls=.ref C
inductive RKs(K:Uv)(m:List az)(H:Hp):List (Key×V)->List (br×aO)->Prop
 |nil:RKs K m H [] []
 |cons{k:Key}{v:V}{d:aO}{vs:List (Key×V)}{kvs:List (br×aO)}(q:RD K m H (kV k) (BT.Af k))(r:RD K m H v d)(t:RKs K m H vs kvs):RKs K m H ((k,v)::vs) ((k,d)::kvs)
inductive RP(K:Uv)(m:List az)(H:Hp):V->aO->List (br×aO)->Prop
 |mk{t b:az}{v:V}{d:aO}{ws:List (Key×V)}{kvs:List (br×aO)}(h:Rd H t (.aC [v,.ref b])/\t∉m)(r:RD K m H v d)(g:Rd H b (.dK ws)/\b∉m)(q:RKs K m H ws kvs):RP K m H (.ref t) d kvs
inductive RPs(K:Uv)(m:List az)(H:Hp):List V->List bG->Prop
 |nil:RPs K m H [] []
 |cons{v:V}{d:aO}{kvs:List (br×aO)}{vs:List V}{ps:List bG}(r:RP K m H v d kvs)(t:RPs K m H vs ps):RPs K m H (v::vs) ((d,kvs)::ps)
inductive RW(P:UM)(w:U6)(K:Uv)(m:List az)(H:Hp):V->aM->Prop
 |p{v:V}{d:aO}(r:RD K m H v d):RW P w K m H v (.p d)
 |r{a:az}{n:Nat}(h:m[n]?=aa a):RW P w K m H (.ref a) (.r n)
 |k{a:az}{es:List (ay×V)}{kvs:List (ay×aO)}(h:KD P w K a es)(r:RDk K es kvs):RW P w K m H (.ref a) (.k (.t kvs))
 |kl{a:az}{o:ao}{vs:List (Key×V)}{kvs:List (br×aO)}(h:H a=aa (.frz o (.dK vs))/\a∉m)(r:RKs K m H vs kvs):RW P w K m H (.ref a) (.k (.l kvs))
 |km{a:az}{vs:List (Key×V)}{kvs:List (br×aO)}(h:Rd H a (.dK vs)/\a∉m)(r:RKs K m H vs kvs):RW P w K m H (.ref a) (.k (.m kvs))
 |kq{v:V}{d:aO}{kvs:List (br×aO)}(r:RP K m H v d kvs):RW P w K m H v (.k (.q d kvs))
 |ks{a:az}{vs:List V}{ps:List bG}(h:Rd H a (.aB vs)/\a∉m)(r:RPs K m H vs ps):RW P w K m H (.ref a) (.k (.s ps))
 |o{a:az}{n:Nat}(h:m[n]?=aa a):RW P w K m H (.ref a) (.o n)
 |c{f:az}{L:Nat}{vs:List V}{q:List bC}(h:jK m H f L vs)(r:RCs K m H vs q):RW P w K m H (.ref f) (.c (.l L) q)
 |x{a:az}{c:ay}(h:H a=aa (.ext (excAt K c a)))(n:a∉m)(q:∃C,XT K c C):RW P w K m H (.ref a) (.x c)
 |g{f:az}{x:ay}(h:Vd K UP x=aa (aa (.ref f)))(r:VH K (.ref f)=ah):RW P w K m H (.ref f) (.c (.f x) [])
inductive RFs(K:Uv)(m:List az)(H:Hp):List (ay×V)->List (ay×aM)->Prop
 |nil:RFs K m H [] []
 |cons{f:ay}{v:V}{x:aM}{vs:List (ay×V)}{fs:List (ay×aM)}(r:RA K m H v x)(t:RFs K m H vs fs):RFs K m H ((f,v)::vs) ((f,x)::fs)
def CN.inj{c:ay}{C q:az}(h:CN K c C)(h':CN K c q):C=q:=by have e:=h.symm.trans h';simpa using e
structure nM(K:Uv)(c:ay)(C:az):Prop where
 cn:CN K c C
 cls:Cls K C
 no:∀f,attrName f=ah->jP K C f
 rd:aaF K C (.type "type")=ah
inductive RBs(m:List az):List V->List Nat->Prop
 |nil:RBs m [] []
 |cons{n:Nat}{a:az}{vs:List V}{ns:List Nat}(h:m[n]?=aa a)(t:RBs m vs ns):RBs m (.ref a::vs) (n::ns)
def ju(K:Uv)(m:List az)(H:Hp)(a:az):BT.Cl->Prop
 |.l D=>∃q,H a=aa (.aB q)/\RDs K m H q D|.o c fs=>∃C M q,H a=aa (.ins C M q)/\nM K c C/\RFs K m H q fs|.d B=>∃q,H a=aa (.dK q)/\RKs K m H q B|.z=>∃ob q,H a=aa (.frz ob (.dK q))|.b L=>∃q,H a=aa (.aB q)/\RBs m q L|.s J=>∃q,H a=aa (.aB q)/\RPs K m H q J
inductive RWs(P:UM)(w:U6)(K:Uv)(m:List az)(H:Hp):List V->List aM->Prop
 |nil:RWs P w K m H [] []
 |cons{v:V}{x:aM}{vs:List V}{xs:List aM}(r:RW P w K m H v x)(t:RWs P w K m H vs xs):RWs P w K m H (v::vs) (x::xs)
structure RH(K:Uv)(m:List az)(H:Hp)(h:aL):Prop where
 nd:m.Nodup
 len:m.length=h.length
 cl:∀(i:Nat)(a:az)(c:BT.Cl),m[i]?=aa a->h[i]?=aa c->ju K m H a c
 tb:TB K H
def CM{h:aL}{n:Nat}{xs:List aO}(e:bf h n=aa xs):h[n]?=aa (.l xs):=by
 unfold bf at e;cases g:h[n]? with
 |none=>rw[g]at e;exact cX e|some c=>rw[g]at e;cases c<;>simp[BT.nY]at e;rw[e]
def CO{h:aL}{n:Nat}{c:ay}{fs:List (ay×aM)}(e:bq h n=aa (c,fs)):h[n]?=aa (.o c fs):=by
 unfold bq at e;cases g:h[n]? with
 |none=>rw[g]at e;exact cX e|some c=>rw[g]at e;cases c<;>simp[BT.o8]at e;rw[e.1,e.2]
def CU{h:aL}{n:Nat}{kvs:List (br×aO)}(e:BT.dat h n=aa kvs):h[n]?=aa (.d kvs):=by
 unfold BT.dat at e;cases g:h[n]? with
 |none=>rw[g]at e;exact cX e|some c=>rw[g]at e;cases c<;>simp[BT.sV]at e;rw[e]
def RH.pR{m:List az}{H:Hp}{h:aL}(R:RH K m H h)(i:Nat)(a:az)(kvs:List (br×aO))(e:m[i]?=aa a)(g:BT.dat h i=aa kvs):∃vs,H a=aa (.dK vs)/\RKs K m H vs kvs:=R.cl i a _ e (CU g)
def RH.cell{m:List az}{H:Hp}{h:aL}(R:RH K m H h)(i:Nat)(a:az)(xs:List aO)(e:m[i]?=aa a)(g:bf h i=aa xs):∃vs,H a=aa (.aB vs)/\RDs K m H vs xs:=R.cl i a _ e (CM g)
inductive OC(K:Uv)(m:List az)(H:Hp)(a:az)(c:ay)(fs:List (ay×aM)):Prop
 |mk(C:az)(dx:_)(vs:_)(h1:H a=aa (.ins C dx vs))(h2:nM K c C)(q:RFs K m H vs fs):OC K m H a c fs
def RH.rO{m:List az}{H:Hp}{h:aL}(R:RH K m H h)(i:Nat)(a:az)(c:ay)(fs:List (ay×aM))(e:m[i]?=aa a)(g:bq h i=aa (c,fs)):OC K m H a c fs:=by obtain⟨C,L,q,J,D,B⟩:=R.cl i a _ e (CO g);exact⟨C,L,q,J,D,B⟩
structure RS(P:UM)(w:U6)(K:Uv)(m:List az)(H:Hp)(σ:L2.St)(s:aY):Prop where
 len:σ.length=s.length
 get:∀(i:Nat)(x:aM),s[i]?=aa (aa x)->∃v,σ[i]?=aa (aa v)/\RW P w K m H v x
noncomputable def CV:HO->Bool
 |.tbl _=>ah|_=>ai
structure Ext(m:List az)(H:Hp)(m':List az)(H':Hp):Prop where
 pre:∃e,m'=m++e/\∀a∈e,H a=af
 keep:∀a o,H a=aa o->a∉m->CV o=ai->H' a=aa o
 live:∀a,H' a=af->H a=af
 frz:∀a ob vs,H a=aa (.frz ob (.dK vs))->H' a=aa (.frz ob (.dK vs))
def Ext.refl(m:List az)(H:Hp):Ext m H m H:=⟨⟨[],by simp,by simp⟩,λ_ _ h _ _=>h,λ_ h=>h,λ_ _ _ h=>h⟩
def Ext.iK{m m':List az}{H H':Hp}(x:Ext m H m' H'){a:az}{o:HO}(h:H a=aa o)(n:a∉m):a∉m':=by
 obtain⟨e,rfl,B⟩:=x.pre;intro q;rcases List.mem_append.mp q with q|q
 exact n q;rw[B a q]at h;exact cX h
def Ext.trans{m J m2:List az}{H H1 H2:Hp}(x:Ext m H J H1)(y:Ext J H1 m2 H2):Ext m H m2 H2:=by
 obtain⟨e,rfl,L⟩:=x.pre;obtain⟨O,rfl,B⟩:=y.pre;refine⟨⟨e++O,by rw[Ve],λa M=>?_⟩,λa o h n t=>y.keep a o (x.keep a o h n t) (x.iK h n) t,λa h=>x.live a (y.live a h),λa ob D h=>y.frz a ob D (x.frz a ob D h)⟩;rcases List.mem_append.mp M with q|q
 exact L a q;exact x.live a (B a q)
def Rd.ext{m m':List az}{H H':Hp}(x:Ext m H m' H'){a:az}{u:HO}(h:Rd H a u)(n:a∉m)(t:CV u=ai:=by rfl):Rd H' a u/\a∉m':=by
 rcases h with h|⟨o,h⟩
 exact⟨.inl (x.keep _ _ h n t),x.iK h n⟩;exact⟨.inr ⟨o,x.keep _ _ h n rfl⟩,x.iK h n⟩
def Tr.ext{m m':List az}{H H':Hp}(x:Ext m H m' H'){a:az}{o:ao}(h:Tr m H a o):Tr m' H' a o:=⟨x.keep _ _ h.1 h.2 rfl,x.iK h.1 h.2⟩
def jN.ext{m m':List az}{H H':Hp}(x:Ext m H m' H'){cl:List (ay×az)}{xs:List ay}{vs:List V}(r:jN m H cl xs vs):jN m' H' cl xs vs:=by
 induction r with
 |nil=>exact .nil|cons J D B r t q=>exact .cons J (D.ext x) B r q
def jK.ext{m m':List az}{H H':Hp}(x:Ext m H m' H'){f:az}{L:Nat}{vs:List V}(h:jK m H f L vs):jK m' H' f L vs:=by obtain⟨l,M,fs,U,n,J,cl,O,D,k,W,os,t,q,j,i,g,e,d,c,b,a,Z,Y,B⟩:=h;exact⟨l,M,fs,U,n,J,cl,O,D,k,W,os,t,q,j,i,g,e,d,c,b.ext x,a.ext x,Z,Y,B.ext x⟩
section
variable{P:UM}{w:U6}{K:Uv}{m m':List az}{H H':Hp}
mutual
theorem RD.ext(x:Ext m H m' H'):∀{v:V}{d:aO},RD K m H v d->RD K m' H' v d
 |_,_,.aD=>.aD|_,_,.bl b=>.bl b|_,_,.int i=>.int i|_,_,.str y h=>.str y h|_,_,.aC h r=>.aC (h.elim (λq=>.inl (Rd.ext x q.1 q.2)) .inr) (RDs.ext x r)|_,_,.aB h r=>.aB (h.elim (λq=>.inl (Rd.ext x q.1 q.2)) .inr) (RDs.ext x r)
theorem RDs.ext(x:Ext m H m' H'):∀{vs:List V}{ds:List aO},RDs K m H vs ds->RDs K m' H' vs ds
 |_,_,.nil=>.nil|_,_,.cons r t=>.cons (RD.ext x r) (RDs.ext x t)
end
def RA.rw{v:V}{d:aM}(r:RA K m H v d):RW P w K m H v d:=by
 cases r with
 |p r=>exact .p r|r h=>exact .r h|o h=>exact .o h
def RW.ra{v:V}{d:aM}(r:RW P w K m H v d)(q:BT.attrOk d=ah):RA K m H v d:=by
 cases r with
 |p r=>exact .p r|r h=>exact .r h|o h=>exact .o h|_=>exact aS q
def Ext.ix(x:Ext m H m' H'){n:Nat}{a:az}(h:m[n]?=aa a):m'[n]?=aa a:=by obtain⟨e,rfl,_⟩:=x.pre;rw[UD (by rcases UX _ m.length with q|q;exact q;rw[UO q]at h;exact cX h)];exact h
def RA.ext(x:Ext m H m' H'){v:V}{d:aM}(r:RA K m H v d):RA K m' H' v d:=by
 cases r with
 |p r=>exact .p (r.ext x)|r h=>exact .r (x.ix h)|o h=>exact .o (x.ix h)
def RCs.ext(x:Ext m H m' H'){vs:List V}{q:List bC}(r:RCs K m H vs q):RCs K m' H' vs q:=by
 induction r with
 |nil=>exact .nil|cons r t B=>exact .cons (r.ext x) B
def RKs.ext(x:Ext m H m' H'){vs:List (Key×V)}{kvs:List (br×aO)}(r:RKs K m H vs kvs):RKs K m' H' vs kvs:=by
 induction r with
 |nil=>exact .nil|cons B r t q=>exact .cons (B.ext x) (r.ext x) q
def RP.ext(x:Ext m H m' H'){v:V}{d:aO}{kvs:List (br×aO)}(r:RP K m H v d kvs):RP K m' H' v d kvs:=by
 cases r with
 |mk h r g q=>exact .mk (Rd.ext x h.1 h.2) (r.ext x) (Rd.ext x g.1 g.2) (q.ext x)
def RPs.ext(x:Ext m H m' H'){vs:List V}{ps:List bG}(r:RPs K m H vs ps):RPs K m' H' vs ps:=by
 induction r with
 |nil=>exact .nil|cons r t q=>exact .cons (r.ext x) q
def RPs.length{vs:List V}{ps:List bG}(r:RPs K m H vs ps):vs.length=ps.length:=by
 induction r with
 |nil=>rfl|cons r t q=>rw[US,US,q]
def RPs.append{vs us:List V}{ps q:List bG}(r:RPs K m H vs ps)(t:RPs K m H us q):RPs K m H (vs++us) (ps++q):=by
 induction r with
 |nil=>exact t|cons r _ B=>exact .cons r B
def RPs.get{vs:List V}{ps:List bG}(r:RPs K m H vs ps):∀{i:Nat}{p:bG},ps[i]?=aa p->∃v,vs[i]?=aa v/\RP K m H v p.1 p.2:=by
 induction r with
 |nil=>intro i p e;simp at e
 |cons r t q =>
  intro i p e;cases i with
  |zero=>simp at e;subst e;exact⟨_,rfl,r⟩|succ i=>simpa using q (by simpa using e)
def RW.ext(x:Ext m H m' H'){v:V}{d:aM}(r:RW P w K m H v d):RW P w K m' H' v d:=by
 cases r with
 |p r=>exact .p (r.ext x)
 |r h =>
  obtain⟨e,rfl,_⟩:=x.pre;refine .r ?_;rw[UD (by rcases UX _ m.length with q|q;exact q;rw[UO q]at h;exact cX h)];exact h
 |k h r=>exact .k h r|kl h r=>exact .kl ⟨x.keep _ _ h.1 h.2 rfl,x.iK h.1 h.2⟩ (r.ext x)|km h r=>exact .km (Rd.ext x h.1 h.2) (r.ext x)|kq r=>exact .kq (r.ext x)|ks h r=>exact .ks (Rd.ext x h.1 h.2) (r.ext x)|c h r=>exact .c (h.ext x) (r.ext x)|g h r=>exact .g h r|x h n B=>exact .x (x.keep _ _ h n rfl) (x.iK h n) B
 |o h =>
  obtain⟨e,rfl,_⟩:=x.pre;refine .o ?_;rw[UD (by rcases UX _ m.length with q|q;exact q;rw[UO q]at h;exact cX h)];exact h
def RFs.ext(x:Ext m H m' H'){vs:List (ay×V)}{fs:List (ay×aM)}(r:RFs K m H vs fs):RFs K m' H' vs fs:=by
 induction r with
 |nil=>exact .nil|cons r t q=>exact .cons (r.ext x) q
def RBs.ext(x:Ext m H m' H'){vs:List V}{ns:List Nat}(r:RBs m vs ns):RBs m' vs ns:=by
 induction r with
 |nil=>exact .nil|cons h t q=>exact .cons (x.ix h) q
def ju.ext(x:Ext m H m' H'){a:az}(e:H' a=H a){c:BT.Cl}(r:ju K m H a c):ju K m' H' a c:=by
 cases c with
 |o c fs=>obtain⟨C,L,q,B,D,J⟩:=r;exact⟨C,L,q,e.trans B,D,J.ext x⟩|z=>obtain⟨ob,q,B⟩:=r;exact⟨ob,q,e.trans B⟩|_=>obtain⟨q,B,D⟩:=r;exact⟨q,e.trans B,D.ext x⟩
def ju.some{a:az}{c:BT.Cl}(r:ju K m H a c):∃o,H a=aa o:=by
 cases c with
 |o c fs=>obtain⟨C,L,B,q,D,J⟩:=r;exact⟨_,q⟩|z=>obtain⟨ob,B,q⟩:=r;exact⟨_,q⟩|_=>obtain⟨B,q,D⟩:=r;exact⟨_,q⟩
def RWs.ext(x:Ext m H m' H'){vs:List V}{ds:List aM}(r:RWs P w K m H vs ds):RWs P w K m' H' vs ds:=by
 induction r with
 |nil=>exact .nil|cons r t q=>exact .cons (r.ext x) q
def RS.ext(x:Ext m H m' H'){σ:L2.St}{s:aY}(r:RS P w K m H σ s):RS P w K m' H' σ s :=
 ⟨r.len,λi y e=>by obtain⟨v,h,q⟩:=r.get i y e;exact⟨v,h,q.ext x⟩⟩
theorem RDs.length:∀{vs:List V}{ds:List aO},RDs K m H vs ds->vs.length=ds.length
 |_,_,.nil=>rfl
 |_,_,.cons _ t=>by rw[US,US,RDs.length t]
theorem RWs.length:∀{vs:List V}{ds:List aM},RWs P w K m H vs ds->vs.length=ds.length
 |_,_,.nil=>rfl
 |_,_,.cons _ t=>by rw[US,US,RWs.length t]
theorem RDs.get:∀{vs:List V}{ds:List aO}{i:Nat}{d:aO},RDs K m H vs ds->ds[i]?=aa d->∃v,vs[i]?=aa v/\RD K m H v d
 |_,_,_,_,.nil,e=>by simp at e
 |_,_,0,_,.cons r _,e=>by simp at e;subst e;exact⟨_,rfl,r⟩
 |_,_,i+1,d,.cons _ t,e=>by obtain⟨u,B,q⟩:=RDs.get (i:=i) (d:=d) t (by simpa using e);exact⟨u,by simpa using B,q⟩
theorem RDs.append:∀{vs ws:List V}{ds es:List aO},RDs K m H vs ds->RDs K m H ws es->RDs K m H (vs++ws) (ds++es)
 |_,_,_,_,.nil,s=>s|_,_,_,_,.cons r t,s=>.cons r (RDs.append t s)
theorem RDs.take:∀{vs:List V}{ds:List aO}(n:Nat),RDs K m H vs ds->RDs K m H (vs.take n) (ds.take n)
 |_,_,0,_=>.nil|_,_,_+1,.nil=>.nil|_,_,n+1,.cons r t=>.cons r (RDs.take n t)
theorem RDs.drop:∀{vs:List V}{ds:List aO}(n:Nat),RDs K m H vs ds->RDs K m H (vs.drop n) (ds.drop n)
 |_,_,0,r=>r|_,_,_+1,.nil=>.nil|_,_,n+1,.cons _ t=>RDs.drop n t
theorem RDs.set{v:V}{d:aO}(r:RD K m H v d):∀{vs:List V}{ds:List aO}(i:Nat),RDs K m H vs ds->RDs K m H (vs.set i v) (ds.set i d)
 |_,_,_,.nil=>.nil|_,_,0,.cons _ t=>.cons r t|_,_,i+1,.cons q t=>.cons q (RDs.set r i t)
theorem RDs.pick{vs:List V}{ds:List aO}(r:RDs K m H vs ds):∀l:List Nat,RDs K m H (l.filterMap λi=>vs[i]?) (l.filterMap λi=>ds[i]?)
 |[]=>.nil
 |i::l=>by
  rw[U5,U5];cases g:ds[i]? with
  |none =>
   have:vs[i]?=af:=by have h:=r.length;rw[Zv]at g⊢;lia
   rw[this];exact RDs.pick r l
  |some d =>
   obtain⟨v,e,q⟩:=r.get g;rw[e];exact .cons q (RDs.pick r l)
theorem RDs.dropLast:∀{vs:List V}{ds:List aO},RDs K m H vs ds->RDs K m H vs.dropLast ds.dropLast
 |_,_,.nil=>.nil|_,_,.cons _ .nil=>.nil|_,_,.cons r (.cons q t)=>.cons r (RDs.dropLast (.cons q t))
theorem RDs.rep{vs:List V}{ds:List aO}(r:RDs K m H vs ds):∀k:Nat,RDs K m H (UU k vs).flatten (UU k ds).flatten
 |0=>.nil
 |k+1=>by rw[VT,VT,Wu,Wu];exact RDs.append r (RDs.rep r k)
def getD_some{q:Type}{xs:List q}{n:Nat}{a:q}(h:xs[n]?=aa a):n<xs.length:=by
 rcases UX n xs.length with z|z
 exact z;rw[UO z]at h;exact cX h
def rP{N:List az}(D:N.Nodup){i j:Nat}{x:az}(a:N[i]?=aa x)(b:N[j]?=aa x):i=j:=by
 have B:i<N.length:=by
  rcases UX i N.length with z|z
  exact z;rw[UO z]at a;exact cX a
 have q:j<N.length:=by
  rcases UX j N.length with z|z
  exact z;rw[UO z]at b;exact cX b
 rw[UL B]at a;rw[UL q]at b;exact(List.getElem_inj D).mp ((UK a).trans (UK b).symm)
inductive RR(K:Uv)(m:List az)(H:Hp):V->aO->Prop
 |d{v:V}{d:aO}(r:RD K m H v d):RR K m H v d
 |l{a:az}{vs:List V}{ds:List aO}(h:H a=aa (.aB vs))(r:RDs K m H vs ds):RR K m H (.ref a) (.aB ds)
def dX{h:aL}(B:RH K m H h){v:V}{x:aM}{d:aO}(r:RW P w K m H v x)(e:aZ x h=aa d):RR K m H v d:=by
 cases r with
 |p r=>cases e;exact .d r
 |@r a n q =>
  simp only[aZ]at e;cases g:bf h n with
  |none=>rw[g]at e;exact cX e
  |some D =>
   rw[g]at e;cases e;obtain⟨M,L,J⟩:=B.cell n a D q g;exact .l L J
 |_=>exact cX e
inductive RLs(K:Uv)(m:List az)(H:Hp)(v:V)(ds:List aO):Prop
 |mk(a:az)(vs:List V)(e:v=.ref a)(l:LL K H a vs)(r:RDs K m H vs ds):RLs K m H v ds
inductive RTs(K:Uv)(m:List az)(H:Hp)(v:V)(ds:List aO):Prop
 |mk(a:az)(vs:List V)(e:v=.ref a)(l:SqT K H a vs)(r:RDs K m H vs ds):RTs K m H v ds
theorem RR.aB{v:V}{ds:List aO}(r:RR K m H v (.aB ds)):RLs K m H v ds:=by
 cases r with
 |d r=>cases r with|aB h r=>exact⟨_,_,rfl,h.elim (λq=>.inl q.1) .inr,r⟩
 |l h r=>exact⟨_,_,rfl,.inl (.inl h),r⟩
theorem RR.aC{v:V}{ds:List aO}(r:RR K m H v (.aC ds)):RTs K m H v ds:=by
 cases r with
 |d r=>cases r with|aC h r=>exact⟨_,_,rfl,h.elim (λq=>.inl q.1) (λ⟨o,its,n,q,_⟩=>.inr ⟨o,its,n,q⟩),r⟩
def RR.int{v:V}{i:Int}(r:RR K m H v (.int i)):v=.int i:=by cases r with|d r=>cases r;rfl
theorem RR.str{v:V}{x:ay}(r:RR K m H v (.str x)):v=.str x/\PyData.strOk x=ah:=by cases r with|d r=>cases r with|str _ h=>exact⟨rfl,h⟩
def RR.bl{v:V}{b:Bool}(r:RR K m H v (.bl b)):v=.bl b:=by cases r with|d r=>cases r;rfl
def RR.aD{v:V}(r:RR K m H v .aD):v=.aD:=by cases r with|d r=>cases r;rfl
def TB.new{p:az}{o:HO}(q:H p=af)(h:TB K H):TB K (upd H p o) :=
 h.mono (λP B e=>by rw[dj (dF e q)];exact e) λa o _ _ e=>by rw[dj (dF e q)];exact e
def gj{p:az}{o:HO}(B:H p=af):Ext m H m (upd H p o) :=
 ⟨⟨[],by simp,by simp⟩,λa q h _ _=>by rw[dj (dF h B)];exact h,λa h=>by
  by_cases e:a=p
  rw[e];exact B
  ·rw[dj e] at h;exact h,λa ob D h=>by rw[dj (dF h B)];exact h⟩
def RH.iK{h:aL}(R:RH K m H h){p:az}(D:H p=af):p∉m:=by
 intro q;obtain⟨i,B⟩:=V7 q;have J:i<h.length:=by
  rw[←R.len];rcases UX i m.length with z|z
  exact z;rw[UO z]at B;exact cX B
 obtain⟨o,e⟩:=(R.cl i p h[i] B (UL J)).some;rw[e]at D;cases D
def Le(H H':Hp):Prop:=∀a u,H a=aa u->H' a=aa u
def Le.tb(q:Le H H')(t:TB K H):TB K H':=t.mono (λ_ _ e=>q _ _ e) λ_ _ _ _ e=>q _ _ e
def CW{p:az}{o:HO}(q:H p=af):Le H (upd H p o):=λa u e=>by rw[dj (dF e q)];exact e
def RH.ext{h:aL}(R:RH K m H h)(x:Ext m H m H')(k:Le H H'):RH K m H' h :=
 ⟨R.nd,R.len,λi a c e1 e2=>by obtain⟨o,e⟩:=(R.cl i a c e1 e2).some;exact(R.cl i a c e1 e2).ext x (by rw[e];exact k _ _ e),k.tb R.tb⟩
noncomputable def Ow:HO->Bool
 |.aB _=>ah|.ins _ _ _=>ah|.dK _=>ah|_=>ai
noncomputable def Gg:HO->Bool
 |.frz _ (.dK _)=>ah|.aB _=>ah|.ins _ _ _=>ah|.dK _=>ah|_=>ai
def RH.mu{h:aL}(R:RH K m H h){a:az}(L:a∈m):∃o,H a=aa o/\Gg o=ah:=by
 obtain⟨i,B⟩:=V7 L;have J:i<h.length:=by
  rw[←R.len];rcases UX i m.length with z|z
  exact z;rw[UO z]at B;exact cX B
 have z:=R.cl i a h[i] B (UL J);cases g:h[i]with
 |o c fs=>rw[g]at z;obtain⟨C,U,D,q,M,O⟩:=z;exact⟨_,q,rfl⟩|z=>rw[g]at z;obtain⟨ob,D,q⟩:=z;exact⟨_,q,rfl⟩|_=>rw[g]at z;obtain⟨D,q,M⟩:=z;exact⟨_,q,rfl⟩
def RH.nin{h:aL}(R:RH K m H h){a:az}{o:HO}(e:H a=aa o)(n:Gg o=ai):a∉m:=λz=>by obtain⟨u,B,q⟩:=R.mu z;rw[e]at B;cases B;rw[n]at q;cases q
def RH.new{h:aL}(R:RH K m H h){p:az}{o:HO}(q:H p=af):RH K m (upd H p o) h :=
 R.ext (gj q) (CW q)
def jS{p:az}{o:HO}(B:H p=af):Ext m H (m++[p]) (upd H p o) :=
 ⟨⟨[p],rfl,by simpa using B⟩,λa q h _ _=>by rw[dj (dF h B)];exact h,λa h=>by
  by_cases e:a=p
  rw[e];exact B
  ·rw[dj e] at h;exact h,λa ob D h=>by rw[dj (dF h B)];exact h⟩
def RH.Kq{h:aL}(R:RH K m H h){p:az}{o:HO}{c:BT.Cl}(q:H p=af)(r:ju K (m++[p]) (upd H p o) p c):RH K (m++[p]) (upd H p o) (h++[c]):=by
 have B:=R.iK q;have x:Ext m H (m++[p]) (upd H p o):=jS q;refine⟨List.nodup_append.mpr ⟨R.nd,by simp,λa M b D=>by simp at D;subst D;exact λe=>B (e ▸ M)⟩,by simp[R.len],λi a J e1 e2=>?_,R.tb.new q⟩
 by_cases c:i<m.length
 ·rw[UD c]at e1;rw[UD (by rw[←R.len];exact c)]at e2;have L:a≠p:=by intro e;subst e;exact B (UJ e1)
  exact(R.cl i a J e1 e2).ext x (dj L)
 ·have e:i=m.length:=by
   rcases UX i (m++[p]).length with z|z
   simp at z;lia;rw[UO z]at e1;exact cX e1
  subst e;simp at e1;rw[R.len]at e2;simp at e2;subst e1 e2;exact r
def RH.So{h:aL}(R:RH K m H h){p:az}{vs:List V}{xs:List aO}(q:H p=af)(r:RDs K m H vs xs):RH K (m++[p]) (upd H p (.aB vs)) (h++[.l xs]) :=
 R.Kq q ⟨vs,dG,r.ext (jS q)⟩
def TB.set{a:az}{o:HO}(B:∃u,H a=aa u/\Gg u=ah)(h:TB K H):TB K (upd H a o):=by obtain⟨w,hw,q⟩:=B;refine h.mono (λP D e=>?_) λb ob _ _ e=>?_;rw[dj (λz=>by subst z;rw[hw]at e;cases e;exact aS q)];exact e;rw[dj (λz=>by subst z;rw[hw]at e;cases e;exact aS q)];exact e
def jh{a:az}{o:HO}(M:a∈m)(B:∃u,H a=aa u/\Ow u=ah):Ext m H m (upd H a o) :=
 ⟨⟨[],by simp,by simp⟩,λb u q n _=>by
  have D:b≠a:=by intro e;subst e;exact n M
  rw[dj D];exact q,λb q=>by
  by_cases e:b=a
  subst e;rw[dG]at q;cases q
  ·rw[dj e]at q;exact q,λb ob O q=>by
  obtain ⟨u,J,L⟩:=B;rw[dj (λz=>by subst z;rw[J] at q;cases q;exact aS L)];exact q⟩
def gR{a:az}{vs us:List V}(q:a∈m)(h:H a=aa (.aB us)):Ext m H m (upd H a (.aB vs)):=jh q ⟨_,h,rfl⟩
def RH.setC{h:aL}(R:RH K m H h){n:Nat}{a:az}{o:HO}{c:BT.Cl}(hn:m[n]?=aa a)(B:∃u,H a=aa u/\Ow u=ah)(r:ju K m (upd H a o) a c):RH K m (upd H a o) (h.set n c):=by
 have x:Ext m H m (upd H a o):=jh (UJ hn) B;refine⟨R.nd,by simp[R.len],λi b q e1 e2=>?_,R.tb.set (R.mu (UJ hn))⟩
 by_cases c:i=n
 ·subst c;rw[hn]at e1;cases e1;have J:i<h.length:=by
   rw[←R.len];rcases UX i m.length with z|z
   exact z;rw[UO z]at hn;exact cX hn
  rw[Vj J]at e2;cases e2;exact r
 ·rw[U7 (Vu c)]at e2;have D:b≠a:=by intro e;subst e;exact c (rP R.nd e1 hn)
  exact(R.cl i b q e1 e2).ext x (dj D)
def RH.set{h:aL}(R:RH K m H h){n:Nat}{a:az}{vs us:List V}{xs:List aO}(hn:m[n]?=aa a)(q:H a=aa (.aB us))(r:RDs K m H vs xs):RH K m (upd H a (.aB vs)) (h.set n (.l xs)) :=
 R.setC hn ⟨_,q,rfl⟩ ⟨vs,dG,r.ext (gR (UJ hn) q)⟩
end
end BS
end
section
namespace BS
open PySem PySem.Spec PyProof.Rows L2 PySem.SeqAt
def nZ{E:aA->UA->Prop}(f:Nat->β->Sem (ForInStep β))(n:Nat)(I:Nat->β->UA->Prop)(Q:β->UA->Prop)
(turn:∀i b s,i<n->I i b s->av M A (f i b) (λr s'=>match r with|.yield D=>I (i+1) D s'|.done D=>Q D s') E s)
(fin:∀b s,I n b s->Q b s)(b:β)(h:I 0 b s):av M A (forIn [:n] b f) Q E s:=by
 rw[Std.Legacy.Range.forIn_eq_forIn_range'];have e:aaq [:n].start [:n].size [:n].step=aaq 0 (n-0):=by simp[Std.Legacy.Range.size]
 rw[e];refine wpAny_forIn_list f (λrest b s=>∃i,i<=n/\rest=aaq i (n-i)/\I i b s) Q (λx rest b s ⟨i,hi,hr,q⟩=>?_) (λb s ⟨i,hi,hr,q⟩=>?_) _ b ⟨0,Vx _,rfl,h⟩
 ·have B:i<n:=by
   rcases UX i n with z|z
   exact z;rw[show n-i=0 by lia]at hr;simp at hr
  rw[show n-i=(n-(i+1))+1 by lia,List.range'_succ]at hr
  injection hr with e1 e2
  subst e1;refine V4 (turn x b s B q) (λr s' z=>?_) λ_ _ z=>z;cases r with
  |yield D=>exact⟨x+1,B,e2,z⟩|done D=>exact z
 ·have:i=n:=by
   rcases UX i n with z|z
   rw[show n-i=(n-(i+1))+1 by lia,List.range'_succ]at hr;simp at hr;lia
  subst this;exact fin b s q
def qT(l:az)(items:Array aA)(n:Nat)(dd:Option az)(O:Array (Option aA))(x:aA)(e:aA->Bool)(j:Nat)(Z:j<items.size)
(L:e items[j]=ah)(J:∀m (Y:m<items.size),m<j->e items[m]=ai):
 Meets (Builtin.«tuple.index» ⟨[.ref l,x],[]⟩)
  (λA R s=>s.heap.get? l=aa {cls:=.type "tuple",dict:=dd,data:=.seq items n,slots:=O}/\(∀y,y∈items->EqAt A.in1 s y x (e y))/\R (.ok (.ret (.int j s.toks))) {s with toks:=s.toks+1}) :=
 .of_wp λB w A R s h=>by
 obtain⟨U,g,d,M,os⟩:=s;obtain⟨V,W,h⟩:=h
 wp_walk using W2 V,nZ _ _ (λi b D=>i<=j/\b.1=af/\D=⟨U,g,d,M,os⟩) _
 case turn =>
  rintro i b D hi ⟨hij,hb,rfl⟩
  have q:i<items.size:=by lia
  rw[Vi q];refine Uw (W _ (Array.getElem_mem q) B w _ _ ?_)
  by_cases c:i=j
  ·subst c;rw[L]
   wp_walk
   exact⟨_,rfl,h⟩
  ·rw[J i q (by lia)]
   wp_walk
   exact⟨by lia,rfl,rfl⟩
 case fin =>
  rintro b D ⟨hij,_,_⟩
  lia
 case h=>exact⟨Vx _,rfl,rfl⟩
def xD(l:az)(items:Array aA)(n:Nat)(dd:Option az)(U:Array (Option aA))(k:Int)(t:Tok)(h1:-1000<=k)(h2:k<=1000)(D:¬items.isEmpty=ah)(V:k≠1)(i:0<k)(hz:items.size*k.toNat<=aj):
 Meets (Builtin.«tuple.__mul__» ⟨[.ref l,.int k t],[]⟩)
  (λA R s=>s.heap.get? l=aa {cls:=.type "tuple",dict:=dd,data:=.seq items n,slots:=U}/\R (.ok (.ret (.ref s.heap.objs.size))) {s with heap:=s.heap.push {cls:=.type "tuple",data:=.seq ((UU k.toNat items).foldl (λB q=>B++q) #[])} }) :=
 .of_wp λM w A R s h=>by
 obtain⟨e,g,d,b,os⟩:=s;obtain⟨L,h⟩:=h;have f:=aag;have Z:¬(decide (k < -2^63)||decide (k ≥ 2^63))=ah:=by simp;lia
 have o:¬(items.isEmpty||k==1)=ah:=by simp at D⊢;exact⟨D,V⟩
 have m:¬(decide (k<=0)||items.isEmpty)=ah:=by simp at D⊢;exact⟨by lia,D⟩
 have O:(k.toNat:Int)=k:=by lia
 have Y:¬((items.size:Int)*k>(2^63-1)/8):=by
  have z:((items.size*k.toNat:Nat):Int)<=(aj:Nat):=Int.ofNat_le.mpr hz;rw[Int.natCast_mul,O]at z;have a:((aj:Nat):Int)<=(2^63-1)/8:=by decide
  lia
 have j:¬Yd ((items.size:Int)*k)=ah:=by have z:((items.size*k.toNat:Nat):Int)<=(aj:Nat):=Int.ofNat_le.mpr hz;rw[Int.natCast_mul,O]at z;simp only[Yd,bM];lia
 have J:sizeOk (.seq ((UU k.toNat items).foldl (λB q=>B++q) #[])):=by show((UU k.toNat items).foldl (λB q=>B++q) #[]).size<=aj;rw[AutoListH.size_joined,Array.size_empty,WN];lia
 wp_walk using W2 L
 rw[bK Z]
 wp_walk using W2 L
 refine Yi (λc=>bL c ?_) (λ_=>?_);intro c;have W:=Y;simp at W c;lia
 wp_walk using W2 L
 refine wpAny_ite_false (bN (Nat.not_lt.mpr J)) ?_
 wp_walk
 exact⟨_,rfl,h⟩
def m6:fillsNumberSlot (.type "tuple") "mul"=pure ai :=
 PySem.fillsNumberSlot_seq (id:="tuple.__mul__") (r:=aa (.builtin "tuple.__rmul__")) F.slot_tuple_mul.lookup (by decide +kernel) F.slot_tuple_rmul.lookup (by decide +kernel)
def tP:seqRepeat? (.type "tuple")=pure (aa (.builtin "tuple.__mul__")):=by unfold seqRepeat?;rw[PySem.seqSlot_of (T:="tuple") (name:="__mul__") (id:="tuple.__mul__") F.slot_tuple_mul.lookup (by decide +kernel),PySem.seqSlot_of (T:="tuple") (name:="__rmul__") (id:="tuple.__rmul__") F.slot_tuple_rmul.lookup (by decide +kernel)];rfl
def pS(a:Int)(t:Tok)(l:az)(items:Array aA)(n:Nat)(dd:Option az)(B:Array (Option aA)):
 Meets (Builtin.«int.__rmul__» ⟨[.int a t,.ref l],[]⟩) (λ_ R s=>s.heap.get? l=aa {cls:=.type "tuple",dict:=dd,data:=.seq items n,slots:=B}/\R (.ok (.ret Value.notImplemented)) s) :=
 .of_wp λq w A R s h=>by obtain⟨J,g,d,D,os⟩:=s;obtain⟨L,h⟩:=h;wp_walk;exact⟨_,rfl,h⟩
def n8(l:az)(items:Array aA)(n:Nat)(b:az)(q:Array aA)(U:Nat)(dd:Option az)(O:Array (Option aA))(V:¬(!items.isEmpty&&VI (items.size+q.size))=ah)(J:items.size<=aj)(D:items.size+q.size<=aj+1):
 Meets (Builtin.«list.extend» ⟨[.ref l,.ref b],[]⟩) (λ_ R s=>s.heap.get? l=aa {cls:=.type "list",dict:=af,data:=.seq items n,slots:=#[]}/\s.heap.get? b=aa {cls:=.type "tuple",dict:=dd,data:=.seq q U,slots:=O}/\R (.ok (.ret WX)) {s with heap:=s.heap.update l (Ww λx=>x++q),toks:=s.toks}) :=
 .of_wp λL w A R s h=>by
  obtain⟨Z,g,d,Y,os⟩:=s;obtain⟨M,W,h⟩:=h;have i:=aag;have f:=AutoSeq1.sub_tuple_tuple;have e:=AutoSeq1.sub_list_list;have c:=AutoSeq1.sub_tuple_list;have a:=AutoSeq1.sub_list_tuple;have B:(items++q).size<=aj+1:=by rw[Array.size_append];exact D
  wp_walk using (Wx M rfl (hz:=J) (_hz':=B)),W2 M,W2 W;exact⟨_,rfl,h⟩
end BS
end
section
namespace BS
open PySem PySem.Spec PyProof.Rows L2
variable{K:Uv}
inductive Bnd{α β:Type}(x:Option (α×aL))(k:α->aL->Option β)(r:β):Prop
 |mk(a:α)(g:aL)(h1:x=aa (a,g))(h2:k a g=aa r):Bnd x k r
inductive Ox{α β:Type}(x:Option α)(f:α->β)(r:β):Prop
 |mk(a:α)(h1:x=aa a)(h2:f a=r):Ox x f r
inductive Bind(o:bA)(x y:aM)(h:aL)(z:aM)(h':aL):Prop
 |mk(d d' q:aO)(h1:aZ x h=aa d)(h2:aZ y h=aa d')(D:BT.lV o d d'=aa q)(B:z=.p q)(J:h'=h):Bind o x y h z h'
def c6{D B:Type}{x:Option (D×aL)}{k:D->aL->Option B}{r:B}(h:bF x k=aa r):Bnd x k r:=by
 cases x with
 |none=>exact cX h|some q=>exact⟨q.1,q.2,rfl,h⟩
def dz{B q:Type}{x:Option B}{f:B->q}{r:q}(h:x.map f=aa r):Ox x f r:=by
 cases x with
 |none=>exact cX h|some a=>exact⟨a,rfl,UK h⟩
def Post(P:UM)(w:U6)(K:Uv)(m:List az)(H:Hp)(z:aM)(h':aL)(Q:VK):Prop :=
 ∀v q B,Ext m H B q->RH K B q h'->RW P w K B q v z->Q v q
inductive rOp(P:UM)(w:U6)(K:Uv)(f:aM->aM->aL->Option (aM×aL))(v u:V)(H:Hp)(Q:VK):Prop
 |mk(m:List az)(h:aL)(x y z:aM)(h':aL)(R:RH K m H h)(q:RW P w K m H v x)(B:RW P w K m H u y)(e:f x y h=aa (z,h'))(p:Post P w K m H z h' Q):rOp P w K f v u H Q
def lZ{o:bA}{x y:aM}{h:aL}{z:aM}{h':aL}(e:BT.tE o x y h=aa (z,h')):Bind o x y h z h':=by
 unfold BT.tE at e;cases e1:aZ x h with
 |none=>rw[e1]at e;exact cX e
 |some d =>
  cases e2:aZ y h with
  |none=>rw[e1,e2]at e;exact cX e
  |some D =>
   rw[e1,e2]at e;obtain⟨q,eq,B⟩:=dz e;cases B;exact⟨d,D,q,e1,e2,eq,rfl,rfl⟩
section
variable{X:Cx}
def fF:BT.lim<=aj:=by decide
inductive Oz(s:UA)(a:az)(xs:List V):Prop
 |mk(z:xs.length<=aj)(q:List aA)(n:Nat)(r:dw xs q)(l:xs.length=q.length)(e:s.heap.get? a=aa {cls:=.type "list",data:=.seq q.toArray n}):Oz s a xs
def rdL(I:Inv X zt σ H s)(r:LL X.K H a xs):Oz s a xs:=by
 rcases r with r|⟨q,n,h1,h2,h3⟩
 ·obtain⟨z,q,n,r,e⟩:=r.ok I.aJ;exact⟨z,q,n,r,r.length,e⟩
 exact⟨by rw[h3.length];exact h2,q,n,h3,h3.length,I.kIn a _ h1⟩
def CY(I:Inv X zt σ H s)(O:LL X.K H a xs)(M:LL X.K H b ys)(hz:xs.length+ys.length<=aj)
(q:∀p,H p=af->Q (.ref p) (upd H p (.aB (xs++ys)))):av (UT X.prog X.w) X.A (V6 .Add (.ref a) (.ref b)) (EP X zt σ Q) X.xe s:=by
 obtain⟨z,D,n,r,Y,e⟩:=rdL I O;obtain⟨V,B,W,J,L,e2⟩:=rdL I M;refine PySem.P.add_list e e2 ?_ (by rw[UB,UB];lia);have U:D.toArray++B.toArray=(D++B).toArray:=by simp
 rw[U];exact⟨.ref _,_,I.NB (t':=s.toks) (r.append J) (by rw[UR];lia),rfl,q _ I.fresh⟩
def Ar(I:Inv X zt σ H s)(d:SqT X.K H a xs)(Z:SqT X.K H b ys)(hz:xs.length+ys.length<=aj)
(j:xs=[]->Q (.ref b) H)(i:ys=[]->Q (.ref a) H)(q:∀p,H p=af->Q (.ref p) (upd H p (.aC (xs++ys)))):av (UT X.prog X.w) X.A (V6 .Add (.ref a) (.ref b)) (EP X zt σ Q) X.xe s:=by
 by_cases c:xs=[]
 ·obtain⟨D,h,k,_⟩:=I.tuple d;obtain⟨B,o,p2,_⟩:=I.tuple Z;obtain⟨⟨m,dd,e,g⟩,V,Y,n,W⟩:=id k;obtain⟨⟨f,U,data2,O⟩,J,M,l,L⟩:=id p2;simp only at Y W M L;subst Y W M L;have z:D=[]:=h.lM.mpr c;exact concat_meets ⟨_,V,rfl⟩ ⟨_,J,rfl⟩ Zy aau Xy Xs (Xi _ _)
   (tuple_addW0 a b D.toArray B.toArray n l dd U g O (by simp[z])) ⟨V,J,⟨.ref b,H,I,rfl,j c⟩⟩
 exact Fz zt s σ H (.ref a) (.ref b) _ _ Q I rfl rfl ⟨a,b,xs,ys,rfl,rfl,d,Z,c,hz,i,λ_=>q⟩
def mh(R:RH X.K m H h)(q:H p=af)(r:RDs X.K m H vs ds)(B:Post X.prog X.w X.K m H (.p (.aC ds)) h Q):Q (.ref p) (upd H p (.aC vs)) :=
 B _ _ m (gj q) (R.new q) (.p (.aC (.inl ⟨.inl dG,R.iK q⟩) (r.ext (gj q))))
def jv(R:RH X.K m H h)(q:H p=af)(r:RDs X.K m H vs ds)(B:Post X.prog X.w X.K m H (.p (.aB ds)) h Q):Q (.ref p) (upd H p (.aB vs)) :=
 B _ _ m (gj q) (R.new q) (.p (.aB (.inl ⟨.inl dG,R.iK q⟩) (r.ext (gj q))))
def tQ(R:RH X.K m H h)(q:H p=af)(r:RDs X.K m H vs ds)(B:Post X.prog X.w X.K m H (.r h.length) (h++[.l ds]) Q):Q (.ref p) (upd H p (.aB vs)) :=
 B _ _ (m++[p]) (jS q) (R.So q r) (.r (by rw[←R.len];simp))
def tR(R:RH X.K m H h)(B:H p=af)(r:RDs X.K m H vs ds)(q:Post X.prog X.w X.K m H (BT.new mu ds h).1 (BT.new mu ds h).2 Q):Q (.ref p) (upd H p (.aB vs)):=by
 cases mu with
 |false=>exact jv R B r q|true=>exact tQ R B r q
def Post.here(R:RH X.K m H h)(q:Post X.prog X.w X.K m H (.p d) h Q)(r:RD X.K m H v d):Q v H:=q v H m (.refl _ _) R (.p r)
def tS(B:PyData.strOk x=ah)(q:PyData.strOk y=ah):PyData.strOk (x++y)=ah:=by show(x.cps++y.cps).all _=ah;rw[Array.all_append];simp only[PyData.strOk]at B q;rw[B,q];rfl
def Kr:OpR X (V6 .Add) (rOp X.prog X.w X.K (BT.tE .add)):=by
 intro f s Z H v u E F Q I O U h;obtain⟨m,h,x,y,z,G,R,k,j,e,D⟩:=h;obtain⟨d,C,q,e1,e2,B,rfl,rfl⟩:=lZ e;have M:=dX R k e1;have L:=dX R j e2;cases d<;>cases C<;>first|exact cX B|simp only[BT.ve,BT.pB,BT.pC,BT.jr,BT.pF,BT.vf,BT.pG,BT.pH,BT.pI,BT.mY]at B
 ·cases B;cases M.int;cases L.int;exact Jy f s Z H _ _ _ _ Q I O U ⟨_,_,rfl,rfl,D.here R (.int _)⟩
 ·obtain⟨c,B⟩:=dB B;cases B;obtain⟨ev,l⟩:=M.str;obtain⟨A,n⟩:=L.str;subst ev;subst A;have:=fF;exact wN f s Z H _ _ _ _ Q I O U ⟨_,_,rfl,rfl,by lia,D.here R (.str _ (tS l n))⟩
 ·obtain⟨c,B⟩:=dB B;cases B;obtain⟨a,g,rfl,Y,ra⟩:=M.aC;obtain⟨b,i,rfl,W,J⟩:=L.aC;cases O;cases U;have t:=ra.length;have o:=J.length;have:=fF;refine Ar I Y W (by lia) (λz=>?_) (λz=>?_) λp V=>mh R V (ra.append J) D
  ·subst z;cases ra;cases L with|d r=>exact D.here R r
  ·subst z;cases J;rw[U8]at D;cases M with|d r=>exact D.here R r
 ·obtain⟨c,B⟩:=dB B;cases B;obtain⟨a,g,rfl,Y,ra⟩:=M.aB;obtain⟨b,i,rfl,W,J⟩:=L.aB;cases O;cases U;have t:=ra.length;have o:=J.length;have:=fF;exact CY I Y W (by lia) λp V=>jv R V (ra.append J) D
noncomputable def Sq:bA->Bool
 |.add=>ai|.mul=>ai|_=>ah
def tT{o:bA}{d d' z:aO}(q:Sq o=ah)(e:BT.lV o d d'=aa z):∃i j,d=.int i/\d'=.int j:=by cases o<;>first|exact aS q|(cases d<;>first|exact cX e|(cases d'<;>first|exact cX e|exact⟨_,_,rfl,rfl⟩))
def Ks:OpR X (V6 .Sub) (rOp X.prog X.w X.K (BT.tE .sub)):=by intro J s D H v u W Y Q I U V h;obtain⟨m,h,x,y,z,Z,R,O,M,e,L⟩:=h;obtain⟨d,a,q,e1,e2,B,rfl,rfl⟩:=lZ e;obtain⟨i,j,rfl,rfl⟩:=tT rfl B;rw[BT.pF]at B;cases B;cases (dX R O e1).int;cases (dX R M e2).int;exact Jz J s D H _ _ _ _ Q I U V ⟨_,_,rfl,rfl,L.here R (.int _)⟩
def Ku:OpR X (V6 .Mod) (rOp X.prog X.w X.K (BT.tE .mod)):=by intro J s D H v u W Y Q I U V h;obtain⟨m,h,x,y,z,Z,R,O,M,e,L⟩:=h;obtain⟨d,a,q,e1,e2,B,rfl,rfl⟩:=lZ e;obtain⟨i,j,rfl,rfl⟩:=tT rfl B;rw[BT.pI]at B;obtain⟨c,B⟩:=dB B;cases B;cases (dX R O e1).int;cases (dX R M e2).int;exact JB J s D H _ _ _ _ Q I U V ⟨_,_,rfl,rfl,c,L.here R (.int _)⟩
def Gi:OpR X (V6 .FloorDiv) (rOp X.prog X.w X.K (BT.tE .fdiv)):=by intro J s D H v u W Y Q I U V h;obtain⟨m,h,x,y,z,Z,R,O,M,e,L⟩:=h;obtain⟨d,a,q,e1,e2,B,rfl,rfl⟩:=lZ e;obtain⟨i,j,rfl,rfl⟩:=tT rfl B;rw[BT.mY]at B;obtain⟨c,B⟩:=dB B;simp only[Uz,bM]at c;cases B;cases (dX R O e1).int;cases (dX R M e2).int;exact Fi J s D H _ _ _ _ Q I U V ⟨_,_,rfl,rfl,⟨c.1,c.2⟩,L.here R (.int _)⟩
def tU(h:BT.big i=ah):-(2^64)<i/\i<2^64:=by unfold BT.big at h;have:=bP h;lia
def As(I:Inv X zt σ H s)(h:SqT X.K H a xs)(h1:2<=k)(h2:k<=1000)(J:xs≠[])(hz:xs.length*k.toNat<=aj)
(q:∀p,H p=af->Q (.ref p) (upd H p (.aC (UU k.toNat xs).flatten))):av (UT X.prog X.w) X.A (V6 .Mult (.ref a) (.int k t)) (EP X zt σ Q) X.xe s:=by
 obtain⟨B,r,p,_⟩:=I.tuple h;obtain⟨⟨j,dd,V,L⟩,e,O,n,M⟩:=id p;simp only at O M;subst O M;have d:=r.length;have D:B.toArray.size*k.toNat<=aj:=by rw[UB,←d];exact hz
 have i:ZD (λZ Y=>Z++Y) #[] (UU k.toNat B.toArray)=(UU k.toNat B).flatten.toArray:=by have:=foldl_rep B k.toNat [];rw[WR]at this;exact this
 have f:¬B.toArray.isEmpty=ah:=by
  intro z;have W:B=[]:=by simpa using z
  exact J (r.lM.mp W)
 refine Z8 (T:="tuple") (U:="int") (by decide) ⟨_,e,rfl⟩ (λc=>typeIs_int c k t) m6 F.fills_int_mul F.slot_int_rmul tP F.slot_int_index.lookup
  (WW F.slot_int_rmul (typeIs_int s k t) F.entry_int_rmul (F.args_int_rmul_2 _ _) (pS k t a B.toArray n dd L)
   ⟨e,rfl,⟨_,e,rfl⟩,WW F.slot_tuple_mul ⟨_,e,rfl⟩ F.entry_tuple_mul (F.args_tuple_mul_2 _ _) (xD a B.toArray n dd L k t (by lia) h2 f (by lia) (by lia) D) ⟨e,?_⟩⟩)
 rw[i];have g:H s.heap.objs.size=af:=I.aJ.fresh (UE _);refine⟨.ref s.heap.objs.size,_,I.laid (t':=s.toks) (o:=.aC (UU k.toNat xs).flatten) (λb ob q=>Ux _ q) (UE _) ?_,rfl,q _ g⟩;exact⟨by rw[len_rep,WN];exact hz,_,r.rep k.toNat,IsTup.new _ _⟩
def CZ(I:Inv X zt σ H s)(c:LL X.K H l xs)(h1:-(2^63)<=k)(h2:k<=1000)(hz:xs.length*k.toNat<=aj)
(q:∀p,H p=af->Q (.ref p) (upd H p (.aB (UU k.toNat xs).flatten))):av (UT X.prog X.w) X.A (V6 .Mult (.ref l) (.int k t)) (EP X zt σ Q) X.xe s:=by
 have Y:k<2^63:=by lia
 obtain⟨z,B,n,r,b,e⟩:=rdL I c;have L:B.toArray.size*k.toNat<=aj:=by rw[UB,←b];exact hz
 have O:¬B.toArray.size*k.toNat>(2^63-1)/8:=by
  have:(aj:Nat)<=(2^63-1)/8:=by decide
  lia
 have M:¬(!Builtin.List.listFitsIndex k)=ah:=by rw[fitsIndex_both h1 Y];exact Vh
 have D:¬VI (B.toArray.size*k.toNat)=ah:=by rw[o5 L];exact Vh
 have J:ZD (λW V=>W++V) #[] (UU (if B.toArray.isEmpty=ah then 0 else k.toNat) B.toArray)=(UU k.toNat B).flatten.toArray:=by
  have d:∀m:Nat,ZD (λW V=>W++V) #[] (UU m B.toArray)=(UU m B).flatten.toArray:=λm=>by have:=foldl_rep B m [];rw[WR]at this;exact this
  rw[d];cases B with
  |nil=>simp|cons a f=>rw[bK (by simp)]
 refine Z8 (T:="list") (U:="int") (by decide) ⟨_,e,rfl⟩ (λZ=>typeIs_int Z k t) noFill_list_mul F.fills_int_mul F.slot_int_rmul repeat_list F.slot_int_index.lookup
  (WW F.slot_int_rmul (typeIs_int s k t) F.entry_int_rmul (F.args_int_rmul_2 _ _) (int___rmul___int_list k t l B.toArray n)
   ⟨e,rfl,⟨_,e,rfl⟩,WW F.slot_list_mul ⟨_,e,rfl⟩ F.entry_list_mul (F.args_list_mul_2 _ _) (AutoListH.list___mul___list_int_3 l B.toArray n k t M O D) ⟨e,?_⟩⟩)
 rw[J];exact⟨.ref _,_,I.NB (t':=s.toks) (r.rep k.toNat) (by rw[len_rep,WN];exact hz),rfl,q _ I.fresh⟩
def Kv:OpR X (V6 .Mult) (rOp X.prog X.w X.K (BT.tE .mul)):=by
 intro Z s Y H v u j k Q I J L h;obtain⟨m,h,x,y,z,l,R,g,f,e,D⟩:=h;obtain⟨d,i,q,e1,e2,B,rfl,rfl⟩:=lZ e;have O:=dX R g e1;have M:=dX R f e2;cases d<;>cases i<;>first|exact cX B|simp only[BT.ve,BT.pB,BT.pC,BT.jr,BT.pF,BT.vf,BT.pG,BT.pH,BT.pI,BT.mY]at B
 ·obtain⟨c,B⟩:=dB B;cases B;cases O.int;cases M.int;refine JA Z s Y H _ _ _ _ Q I J L ⟨_,_,rfl,rfl,?_,D.here R (.int _)⟩;rcases Ws _ _ ▸ c with c|c
  exact .inl (tU c);exact .inr (tU c)
 ·obtain⟨c,B⟩:=dB B;simp only[Uz,bM]at c;cases B;obtain⟨a,b,rfl,W,ra⟩:=O.aC;cases M.int;obtain⟨t,rfl⟩:=L;cases J;have U:=ra.length;have:=fF;simp only[W1,List.isEmpty_eq_false_iff]at c;refine As I W (by lia) (by lia) (λz=>?_) (by rw[U];lia) λp V=>mh R V (ra.rep _) D;subst z;cases ra;exact c.1.2 rfl
 ·obtain⟨c,B⟩:=dB B;simp only[Uz,bM]at c;cases B;obtain⟨a,b,rfl,W,ra⟩:=O.aB;cases M.int;obtain⟨t,rfl⟩:=L;cases J;have U:=ra.length;have:=fF;refine CZ I W (by lia) (by lia) (by rw[U];lia) λp V=>jv R V (ra.rep _) D
end
mutual
noncomputable def pd:aO->PyData
 |.aD=>.none|.bl b=>.bool b|.int i=>.int i|.str x=>.str x|.aC q=>.tuple (pds q)|.aB q=>.list (pds q)
noncomputable def pds:List aO->List PyData
 |[]=>[]|x::r=>pd x::pds r
end
mutual
theorem pT:∀x y:aO,PyData.eqv (pd x) (pd y)=aT x y
 |.aD,.aD=>rfl|.aD,.bl _=>rfl|.aD,.int _=>rfl|.aD,.str _=>rfl
 |.aD,.aC _=>by simp[pd,PyData.eqv,aT]
 |.aD,.aB _=>by simp[pd,PyData.eqv,aT]
 |.bl _,.aD=>rfl|.bl _,.bl _=>rfl|.bl _,.int _=>rfl|.bl _,.str _=>rfl
 |.bl _,.aC _=>by simp[pd,PyData.eqv,aT]
 |.bl _,.aB _=>by simp[pd,PyData.eqv,aT]
 |.int _,.aD=>rfl|.int _,.bl _=>rfl|.int _,.int _=>rfl|.int _,.str _=>rfl
 |.int _,.aC _=>by simp[pd,PyData.eqv,aT]
 |.int _,.aB _=>by simp[pd,PyData.eqv,aT]
 |.str _,.aD=>rfl|.str _,.bl _=>rfl|.str _,.int _=>rfl|.str _,.str _=>rfl
 |.str _,.aC _=>by simp[pd,PyData.eqv,aT]
 |.str _,.aB _=>by simp[pd,PyData.eqv,aT]
 |.aC _,.aD=>by simp[pd,PyData.eqv,aT]
 |.aC _,.bl _=>by simp[pd,PyData.eqv,aT]
 |.aC _,.int _=>by simp[pd,PyData.eqv,aT]
 |.aC _,.str _=>by simp[pd,PyData.eqv,aT]
 |.aC xs,.aC ys=>by simp only[pd,PyData.eqv,aT];exact tV xs ys
 |.aC _,.aB _=>by simp[pd,PyData.eqv,aT]
 |.aB _,.aD=>by simp[pd,PyData.eqv,aT]
 |.aB _,.bl _=>by simp[pd,PyData.eqv,aT]
 |.aB _,.int _=>by simp[pd,PyData.eqv,aT]
 |.aB _,.str _=>by simp[pd,PyData.eqv,aT]
 |.aB _,.aC _=>by simp[pd,PyData.eqv,aT]
 |.aB xs,.aB ys=>by simp only[pd,PyData.eqv,aT];exact tV xs ys
theorem tV:∀xs ys:List aO,PyData.eqvAll (pds xs) (pds ys)=BT.qP xs ys
 |[],[]=>by simp[pds,PyData.eqvAll,BT.qP]
 |[],_::_=>by simp[pds,PyData.eqvAll,BT.qP]
 |_::_,[]=>by simp[pds,PyData.eqvAll,BT.qP]
 |x::xs,y::ys=>by simp only[pds,PyData.eqvAll,BT.qP];rw[pT x y,tV xs ys]
end
theorem jT:∀{xs:List aO},(∀x∈xs,(pd x).depth<=n)->PyData.depthAll (pds xs)<=n
 |[],_=>by simp[pds,PyData.depthAll]
 |x::xs,h=>by simp only[pds,PyData.depthAll];exact Nat.max_le.mpr ⟨h x UH,jT λy q=>h y (UC _ q)⟩
theorem kI:∀(n:Nat)(d:aO),BT.dok n d=ah->(pd d).depth<=n
 |n,.aD,_=>by simp[pd,PyData.depth]
 |n,.bl _,_=>by simp[pd,PyData.depth]
 |n,.int _,_=>by simp[pd,PyData.depth]
 |n,.str _,_=>by simp[pd,PyData.depth]
 |0,.aC _,h=>by simp[BT.dok]at h
 |0,.aB _,h=>by simp[BT.dok]at h
 |n+1,.aC xs,h=>by simp only[pd,PyData.depth];rw[BT.yE,VN]at h;exact YW (jT λx q=>kI n x (h x q))
 |n+1,.aB xs,h=>by simp only[pd,PyData.depth];rw[BT.yF,VN]at h;exact YW (jT λx q=>kI n x (h x q))
section
variable{K:Uv}
mutual
theorem iC:∀{v:V}{d:aO},RD K m H v d->(pd d).canLay0=ah
 |_,_,.aD=>rfl|_,_,.bl _=>rfl|_,_,.int _=>rfl
 |_,_,.str _ h=>by simpa [pd,PyData.canLay0]using h
 |_,_,.aC _ r=>by simp only[pd,PyData.canLay0];exact jw r
 |_,_,.aB _ r=>by simp only[pd,PyData.canLay0];exact jw r
theorem jw:∀{vs:List V}{ds:List aO},RDs K m H vs ds->PyData.canLayAll0 (pds ds)=ah
 |_,_,.nil=>by simp[pds,PyData.canLayAll0]
 |_,_,.cons r t=>by simp only[pds,PyData.canLayAll0];rw[iC r,jw t];rfl
end
mutual
theorem jU(I:Inv X zt σ H s):∀{v:V}{d:aO}{u:aA},RD X.K m H v d->RelV v u->∃as,Reads s.heap u (pd d) as
 |_,_,_,.aD,r=>by cases r;exact⟨_,.none⟩
 |_,_,_,.bl b,r=>by cases r;exact⟨_,.bool b⟩
 |_,_,_,.int i,r=>by obtain⟨t,rfl⟩:=r;exact⟨_,.int i t⟩
 |_,_,_,.str x _,r=>by obtain⟨t,rfl⟩:=r;exact⟨_,.str x t⟩
 |_,_,_,.aC h r,q=>by cases q;obtain⟨B,D,⟨o,e1,e2,n,J⟩,_⟩:=I.tuple (h.elim (λq=>.inl q.1) (λ⟨o,B,n,q,_⟩=>.inr ⟨o,B,n,q⟩));obtain⟨as,ra⟩:=kJ I r D;exact⟨_,.tuple e1 e2 J (by simpa using ra)⟩
 |_,_,_,.aB h r,q=>by cases q;obtain⟨z,B,n,D,_,e⟩:=rdL I (h.elim (λq=>.inl q.1) .inr);obtain⟨as,ra⟩:=kJ I r D;exact⟨_,.list e rfl rfl (by simpa using ra)⟩
theorem kJ(I:Inv X zt σ H s):∀{vs:List V}{ds:List aO}{us:List aA},RDs X.K m H vs ds->dw vs us->∃as,ReadsAll s.heap us (pds ds) as
 |_,_,_,.nil,q=>by cases q;exact⟨_,.nil⟩
 |_,_,_,.cons r t,q=>by
  cases q with
  |cons J D =>
   obtain⟨as,ra⟩:=jU I r J;obtain⟨bs,B⟩:=kJ I t D;exact⟨_,.cons ra B⟩
end
def jV(I:Inv X zt σ H s)(r:RR X.K m H v d)(q:RelV v u):∃as,Reads s.heap u (pd d) as:=by
 cases r with
 |d r=>exact jU I r q
 |l h r =>
  cases q;obtain⟨z,D,n,B,_,e⟩:=rdL I (.inl (.inl h));obtain⟨as,ra⟩:=kJ I r B;exact⟨_,.list e rfl rfl (by simpa using ra)⟩
def ji(r:RR K m H v d):(pd d).canLay0=ah:=by
 cases r with
 |d r=>exact iC r|l h r=>simp only[pd,PyData.canLay0];exact jw r
def tW(h:BT.dZ x y=ah):min (pd x).depth (pd y).depth<=100:=by
 unfold BT.dZ at h;rcases Ws _ _ ▸ h with h|h
 have:=kI 100 x h;lia;have:=kI 100 y h;lia
def jx(e:bI o x y h=aa (z,h')):
 (∃kvs b,y=.k kvs/\BT.inK o x kvs=aa b/\z=.p (.bl b)/\h'=h)\/∃d d' b,aZ x h=aa d/\aZ y h=aa d'/\BT.gA o d d'=aa b/\z=.p (.bl b)/\h'=h:=by
 unfold bI at e;split at e
 ·rename_i kvs;obtain⟨b,e1,e2⟩:=dz e;cases e2;exact .inl ⟨kvs,b,rfl,e1,rfl,rfl⟩
 ·refine .inr ?_;cases e1:aZ x h with
  |none=>rw[e1]at e;exact cX e
  |some d =>
   cases e2:aZ y h with
   |none=>rw[e1,e2]at e;exact cX e
   |some d' =>
    rw[e1,e2]at e;obtain⟨q,eq,B⟩:=dz e;cases B;exact⟨d,d',q,rfl,rfl,eq,rfl,rfl⟩
def OA(g:X.A.units+150<cLine):OpR X (Vt .Eq) (rOp X.prog X.w X.K (bI .eq)):=by
 intro Z s Y H v u a f Q I O U h;obtain⟨m,h,x,y,z,i,R,M,L,e,J⟩:=h;rcases jx e with⟨W,b,rfl,e1,_,_⟩|⟨d,d',b,e1,e2,q,rfl,rfl⟩
 exact bL e1 (BT.pL rfl)
 ·have D:=dX R M e1;have B:=dX R L e2;rw[BT.FW]at q;obtain⟨c,q⟩:=dB q;cases q;obtain⟨j,ra⟩:=jV I D O;obtain⟨bs,V⟩:=jV I B U;have:=tW c;refine SeqAt.compareEq_reads ra V (ji D) (ji B) (by lia) ?_;rw[pT];exact⟨.bl _,H,I,rfl,J.here R (.bl _)⟩
def OB(g:X.A.units+150<cLine):OpR X (Vt .NotEq) (rOp X.prog X.w X.K (bI .ne)):=by
 intro Z s Y H v u a f Q I O U h;obtain⟨m,h,x,y,z,i,R,M,L,e,J⟩:=h;rcases jx e with⟨W,b,rfl,e1,_,_⟩|⟨d,d',b,e1,e2,q,rfl,rfl⟩
 exact bL e1 (BT.pL rfl)
 ·have D:=dX R M e1;have B:=dX R L e2;rw[BT.kE]at q;obtain⟨c,q⟩:=dB q;cases q;obtain⟨j,ra⟩:=jV I D O;obtain⟨bs,V⟩:=jV I B U;have:=tW c;refine SeqAt.compareNe_reads ra V (ji D) (ji B) (by lia) ?_;rw[pT];exact⟨.bl _,H,I,rfl,J.here R (.bl _)⟩
noncomputable def OD:BT.Cm->Bool
 |.lt=>ah|.le=>ah|.gt=>ah|.ge=>ah|_=>ai
def Gj{o:BT.Cm}{d d':aO}{b:Bool}(q:OD o=ah)(e:BT.gA o d d'=aa b):∃i j,d=.int i/\d'=.int j:=by cases o<;>first|exact aS q|(cases d<;>first|exact cX e|(cases d'<;>first|exact cX e|exact⟨_,_,rfl,rfl⟩))
def tX{o:BT.Cm}{c:CmpOp}{f:Int->Int->Bool}(U:OpR X (Vt c) (rI0 λi j=>.bl (f i j)))(W:OD o=ah)(Y:BT.memC o=ai)(Z:∀i j,BT.gA o (.int i) (.int j)=aa (f i j)):OpR X (Vt c) (rOp X.prog X.w X.K (bI o)):=by
 intro B s q H v u a g Q I M O h;obtain⟨m,h,x,y,z,k,R,L,J,e,D⟩:=h;rcases jx e with⟨V,b,rfl,e1,_,_⟩|⟨d,d',b,e1,e2,e3,rfl,rfl⟩
 exact bL e1 (BT.pL Y)
 ·obtain⟨i,j,rfl,rfl⟩:=Gj W e3;rw[Z]at e3;cases e3;cases (dX R L e1).int;cases (dX R J e2).int;exact U B s q H _ _ _ _ Q I M O ⟨_,_,rfl,rfl,D.here R (.bl _)⟩
def yP(r:RR K m H v d):decide (v=.aD)=BT.jf d:=by
 cases r with
 |d r=>cases r<;>rfl|l h r=>rfl
def Gk{v:V}{d:aO}{u:aA}{b:Bool}(r:RR K m H v d)(q:RelV v u):isSame u (.bool b)=pure (BT.sX b d):=by
 cases r with
 |d r=>cases r<;>first|(cases q;cases b<;>first|rfl|(rename_i c;cases c<;>rfl))|(obtain⟨t,rfl⟩:=q;cases b<;>rfl)
 |l h r=>cases q;rfl
def Kw:OpR X (Vt .Is) (rOp X.prog X.w X.K (bI .isN)):=by
 intro B s q H v u Y Z Q I M O h;obtain⟨m,h,x,y,z,a,R,L,J,e,D⟩:=h;rcases jx e with⟨W,b,rfl,e1,_,_⟩|⟨d,d',b,e1,e2,e3,rfl,rfl⟩
 exact bL e1 (BT.pL rfl)
 ·have V:=dX R L e1;have U:=dX R J e2;cases d'<;>first|exact cX e3|simp only[BT.oz,BT.oA,BT.oB,BT.oE,BT.lX,BT.kF,BT.iG,BT.gC,BT.iV,BT.f6]at e3
  cases e3;cases U.aD;refine JC B s q H _ _ _ _ Q I M O ⟨rfl,?_⟩;rw[yP V];exact D.here R (.bl _)
def Gm:OpR X (Vt .IsNot) (rOp X.prog X.w X.K (bI .notN)):=by
 intro O s M H v u Y Z Q I B D h;obtain⟨m,h,x,y,z,a,R,V,U,e,q⟩:=h;rcases jx e with⟨W,b,rfl,e1,_,_⟩|⟨d,d',b,e1,e2,e3,rfl,rfl⟩
 exact bL e1 (BT.pL rfl)
 ·have L:=dX R V e1;have J:=dX R U e2;cases d'<;>first|exact cX e3|simp only[BT.oz,BT.oA,BT.oB,BT.oE,BT.lX,BT.kF,BT.Ah,BT.iG,BT.gC,BT.iV,BT.f6]at e3
  ·cases e3;cases J.aD;refine Fj O s M H _ _ _ _ Q I B D ⟨rfl,?_⟩;rw[yP L];exact q.here R (.bl _)
  ·cases e3;cases J.bl;cases D;exact Uw (wpAny_of_eq (Gk L B) (au ⟨.bl _,H,I,rfl,q.here R (.bl _)⟩))
open Classical in
def fH(h:aq)(dx:PyData)(y:aA):Bool:=if q:∃B D,Reads h y B D/\B.canLay0=ah then PyData.eqv (Classical.choose q) dx else ai
def xE(r:Reads h y B as)(c:B.canLay0=ah):fH h dx y=PyData.eqv B dx:=by have q:∃B as,Reads h y B as/\B.canLay0=ah:=⟨B,as,r,c⟩;unfold fH;rw[dif_pos q];obtain⟨J,D,L⟩:=Classical.choose_spec q;rw[SeqAt.Reads.unique _ _ _ _ _ c r D]
theorem mj(I:Inv X zt σ H s):∀{vs:List V}{ds:List aO}{us:List aA},RDs X.K m H vs ds->dw vs us->us.any (fH s.heap (pd d))=ds.any λy=>aT y d
 |_,_,_,.nil,q=>by cases q;rfl
 |_,_,_,.cons r t,q=>by
  cases q with
  |cons D B =>
   obtain⟨J,ra⟩:=jU I r D;rw[Xc,Xc,mj I t B,xE ra (iC r),pT]
theorem jy(U:X.A.units+150<cLine)(I:Inv X zt σ H s)(D:RR X.K m H v d)(J:RelV v u):∀{vs:List V}{ds:List aO}{us:List aA},RDs X.K m H vs ds->dw vs us->(ds.all λy=>BT.dZ y d)=ah →
 ∀y∈us,SeqAt.EqAt X.A.in1 s y u (fH s.heap (pd d) y)
 |_,_,_,.nil,q,_=>by cases q;intro y B;simp at B
 |_,_,_,.cons r t,q,c=>by
  cases q with
  |cons O M =>
   rw[ZJ,Uz]at c;intro y B;rcases List.mem_cons.mp B with rfl|B
   ·obtain⟨W,ra⟩:=jU I r O;obtain⟨bs,L⟩:=jV I D J;rw[xE ra (iC r)];have:=tW c.1;refine SeqAt.eqAt_reads _ _ _ _ _ _ _ _ ra L (iC r) (ji D) ?_;show X.A.units+1+_<_;lia
   exact jy U I D J t M c.2 y B
def Kx(l:X.A.units+150 < cLine)(p:∀ {kvs:BT.Kd}{x:aM}{b:Bool}{m:List az}{H:Hp}{v u:V}{L M:aA}{zt σ s Q},Inv X zt σ H s->RelV v L->RelV u M->RW X.prog X.w X.K m H v x->RW X.prog X.w X.K m H u (.k kvs)->BT.inK .mem x kvs=aa b->Q (V.bl b) H →
 av (UT X.prog X.w) X.A (Vt .In L M) (EP X zt σ Q) X.xe s):OpR X (Vt .In) (rOp X.prog X.w X.K (bI .mem)):=by
 intro zt s σ H v u L M Q I O U h;obtain⟨m,h,x,y,z,r,R,g,f,e,J⟩:=h;rcases jx e with⟨kvs,b,rfl,e1,rfl,rfl⟩|⟨d,d',b,e1,e2,B,rfl,rfl⟩
 exact p I O U g f e1 (J.here R (.bl _))
 ·have j:=dX R g e1;have i:=dX R f e2;cases d'<;>first|exact cX B|simp only[BT.oz,BT.oA,BT.oB,BT.oE,BT.lX,BT.kF,BT.iG,BT.gC,BT.iV,BT.f6]at B
  ·obtain⟨c,B⟩:=dB B;cases B;obtain⟨a,o,rfl,Z,ra⟩:=i.aC;cases U;obtain⟨q,D,W,_⟩:=I.tuple Z;refine SeqAt.in_tupleAt (fH s.heap (pd d)) W (λy Y=>jy l I j O ra D c y (by simpa using Y)) ⟨.bl _,H,I,rfl,?_⟩;rw[show q.toArray.any (fH s.heap (pd d))=q.any (fH s.heap (pd d)) by simp,mj I ra D];exact J.here R (.bl _)
  ·obtain⟨c,B⟩:=dB B;cases B;obtain⟨a,o,rfl,Z,ra⟩:=i.aB;cases U;obtain⟨z,q,n,D,_,W⟩:=rdL I Z;refine SeqAt.in_listAt (fH s.heap (pd d)) ⟨_,W,rfl,_,rfl⟩ (λy Y=>jy l I j O ra D c y (by simpa using Y)) ⟨.bl _,H,I,rfl,?_⟩;rw[show q.toArray.any (fH s.heap (pd d))=q.any (fH s.heap (pd d)) by simp,mj I ra D];exact J.here R (.bl _)
def Gn(l:X.A.units+150 < cLine)(p:∀ {kvs:BT.Kd}{x:aM}{b:Bool}{m:List az}{H:Hp}{v u:V}{L M:aA}{zt σ s Q},Inv X zt σ H s->RelV v L->RelV u M->RW X.prog X.w X.K m H v x->RW X.prog X.w X.K m H u (.k kvs)->BT.inK .nmem x kvs=aa b->Q (V.bl b) H →
 av (UT X.prog X.w) X.A (Vt .NotIn L M) (EP X zt σ Q) X.xe s):OpR X (Vt .NotIn) (rOp X.prog X.w X.K (bI .nmem)):=by
 intro zt s σ H v u L M Q I O U h;obtain⟨m,h,x,y,z,r,R,g,f,e,J⟩:=h;rcases jx e with⟨kvs,b,rfl,e1,rfl,rfl⟩|⟨d,d',b,e1,e2,B,rfl,rfl⟩
 exact p I O U g f e1 (J.here R (.bl _))
 ·have j:=dX R g e1;have i:=dX R f e2;cases d'<;>first|exact cX B|simp only[BT.oz,BT.oA,BT.oB,BT.oE,BT.lX,BT.kF,BT.iG,BT.gC,BT.iV,BT.f6]at B
  ·obtain⟨c,B⟩:=dB B;cases B;obtain⟨a,o,rfl,Z,ra⟩:=i.aC;cases U;obtain⟨q,D,W,_⟩:=I.tuple Z;refine SeqAt.notIn_tupleAt (fH s.heap (pd d)) W (λy Y=>jy l I j O ra D c y (by simpa using Y)) ⟨.bl _,H,I,rfl,?_⟩;rw[show q.toArray.any (fH s.heap (pd d))=q.any (fH s.heap (pd d)) by simp,mj I ra D];exact J.here R (.bl _)
  ·obtain⟨c,B⟩:=dB B;cases B;obtain⟨a,o,rfl,Z,ra⟩:=i.aB;cases U;obtain⟨z,q,n,D,_,W⟩:=rdL I Z;refine SeqAt.notIn_listAt (fH s.heap (pd d)) ⟨_,W,rfl,_,rfl⟩ (λy Y=>jy l I j O ra D c y (by simpa using Y)) ⟨.bl _,H,I,rfl,?_⟩;rw[show q.toArray.any (fH s.heap (pd d))=q.any (fH s.heap (pd d)) by simp,mj I ra D];exact J.here R (.bl _)
end
section
variable{P:UM}{w:U6}{K:Uv}{m m':List az}{H H':Hp}
def RKs.length(r:RKs K m H vs kvs):vs.length=kvs.length:=by
 induction r with
 |nil=>rfl|cons _ _ _ q=>simp[q]
def Au(e:p.1=k):BT.dR (p::r) k=aa p.2:=by simp[BT.dR,WU,e]
def Av(e:¬p.1=k):BT.dR (p::r) k=BT.dR r k:=by simp[BT.dR,WU,e]
def RKs.get(r:RKs K m H vs kvs)(k:Key):(BT.dR kvs k=af/\uY vs k=af)\/∃v d,BT.dR kvs k=aa d/\uY vs k=aa v/\RD K m H v d:=by
 induction r with
 |nil=>exact .inl ⟨rfl,rfl⟩
 |@cons j v d vs kvs B r t q =>
  by_cases c:j=k
  exact .inr ⟨v,d,Au c,uZ c,r⟩;rw[Av (p:=(j,d)) c,u0 (p:=(j,v)) c];exact q
def pU(r:RD K m H v d)(e:BT.jq d=aa k):v=kV k:=by cases r<;>cases e<;>rfl
def Kz(r:RD K m H v d)(e:BT.jq d=aa k):RD K m H (kV k) (BT.Af k):=by
 cases r with
 |int i=>cases e;exact .int i|str x h=>cases e;exact .str x h|_=>cases e
inductive C1(X:Cx)(m:List az)(H:Hp)(s:UA)(a:az)(kvs:List (br×aO))(k:Key):Prop
 |no(vs:List (Key×aA))(d:s.heap.DictOf (dD X.prog X.w) a vs)(n:(a==Wb)=ai)(e1:BT.dR kvs k=af)(e2:valueAt vs k=af):C1 X m H s a kvs k
 |is(vs:List (Key×aA))(d:s.heap.DictOf (dD X.prog X.w) a vs)(n:(a==Wb)=ai)(x:aO)(v:V)(u:aA)(e1:BT.dR kvs k=aa x)(e2:valueAt vs k=aa u)(r:RelV v u)(q:RD X.K m H v x):C1 X m H s a kvs k
def tY(I:Inv X zt σ H s)(h:Rd H a (.dK ws))(O:RKs X.K m H ws kvs)(k:Key):C1 X m H s a kvs k:=by
 obtain⟨z,M,B,D,dd⟩:=BV I.aJ h;have q:=D.val k;rcases O.get k with⟨L,J⟩|⟨v,d,L,J,g3⟩
 ·rw[J]at q;cases e:valueAt B k with
  |none=>exact .no B dd M L e|some u=>rw[e]at q;exact q.elim
 ·rw[J]at q;cases e:valueAt B k with
  |none=>rw[e]at q;exact q.elim|some u=>rw[e]at q;exact .is B dd M d v u L e q g3
end
section
variable{P:UM}{w:U6}{K:Uv}{m m':List az}{H:Hp}
mutual
theorem RD.shrink(x:∀a∈m,a∈m'):∀{v:V}{d:aO},RD K m' H v d->RD K m H v d
 |_,_,.aD=>.aD|_,_,.bl b=>.bl b|_,_,.int i=>.int i|_,_,.str y h=>.str y h|_,_,.aC h r=>.aC (h.elim (λq=>.inl ⟨q.1,λz=>q.2 (x _ z)⟩) .inr) (RDs.shrink x r)|_,_,.aB h r=>.aB (h.elim (λq=>.inl ⟨q.1,λz=>q.2 (x _ z)⟩) .inr) (RDs.shrink x r)
theorem RDs.shrink(x:∀a∈m,a∈m'):∀{vs:List V}{ds:List aO},RDs K m' H vs ds->RDs K m H vs ds
 |_,_,.nil=>.nil|_,_,.cons r t=>.cons (RD.shrink x r) (RDs.shrink x t)
end
end
theorem RFs.shrink{K:Uv}{m ex e2:List az}{H H':Hp}(sub:∀a∈m++e2,a∈m++ex):∀{q vs:List (ay×V)}{fs:List (ay×aM)},RFs K m H q fs->RFs K (m++ex) H' vs fs->RFs K (m++e2) H' vs fs
 |_,_,_,.nil,.nil=>.nil
 |_,_,_,.cons r0 t0,.cons r t=>by
  refine .cons ?_ (RFs.shrink sub t0 t);have back:∀{n:Nat}{a b:az},m[n]?=aa b->(m++ex)[n]?=aa a->(m++e2)[n]?=aa a:=λ{n a b} h1 h2=>by rw[UD (getD_some h1)]at h2⊢;exact h2
  cases r with
  |p r=>exact .p (r.shrink sub)
  |r h=>cases r0 with|r B=>exact .r (back B h)
  |o h=>cases r0 with|o B=>exact .o (back B h)
def RKs.shrink{K:Uv}{m m':List az}{H:Hp}(sub:∀a∈m,a∈m'){vs:List (Key×V)}{kvs:List (br×aO)}(r:RKs K m' H vs kvs):RKs K m H vs kvs:=by
 induction r with
 |nil=>exact .nil|cons B r t q=>exact .cons (B.shrink sub) (r.shrink sub) q
def RBs.shrink{m ex e2:List az}{q:List V}{ns:List Nat}(J:RBs m q ns):∀{vs:List V},RBs (m++ex) vs ns->RBs (m++e2) vs ns:=by
 induction J with
 |nil=>intro vs r;cases r;exact .nil
 |cons h t L =>
  intro vs r;cases r with
  |cons B D =>
   rw[UD (getD_some h)]at B;exact .cons (by rw[UD (getD_some h)];exact B) (L D)
def RP.shrink{K:Uv}{m m':List az}{H:Hp}(sub:∀a∈m,a∈m'){v:V}{d:aO}{kvs:List (br×aO)}(r:RP K m' H v d kvs):RP K m H v d kvs:=by
 cases r with
 |mk h r g t=>exact .mk ⟨h.1,λz=>h.2 (sub _ z)⟩ (r.shrink sub) ⟨g.1,λz=>g.2 (sub _ z)⟩ (t.shrink sub)
def RPs.shrink{K:Uv}{m m':List az}{H:Hp}(sub:∀a∈m,a∈m'){vs:List V}{ps:List bG}(r:RPs K m' H vs ps):RPs K m H vs ps:=by
 induction r with
 |nil=>exact .nil|cons r t q=>exact .cons (r.shrink sub) q
def vA{m ex e2:List az}{H H':Hp}{h g:aL}(R:RH K m H h)(f:RH K (m++ex) H' g)(e:g.take h.length=h)(s2:∀a∈e2,a∈ex){i:Nat}{a:az}{xs:BT.Cl}(e1:m[i]?=aa a)(q:h[i]?=aa xs):ju K (m++e2) H' a xs:=by
 have sub:∀a∈m++e2,a∈m++ex:=λa W=>(List.mem_append.mp W).elim (Vl _) λz=>UW _ (s2 a z);have U:i<m.length:=getD_some e1;have O:i<h.length:=by rw[←R.len];exact U
 have Y:g[i]?=aa xs:=by rw[←e,WM O]at q;exact q
 have z:=f.cl i a xs (by rw[UD U];exact e1) Y;cases xs with
 |o c fs =>
  obtain⟨k,Z,L,_,_,M⟩:=R.cl i a _ e1 q;obtain⟨C,d,B,J,D,V⟩:=z;exact⟨C,d,B,J,D,M.shrink sub V⟩
 |z=>exact z
 |b j =>
  obtain⟨L,_,M⟩:=R.cl i a _ e1 q;obtain⟨B,J,D⟩:=z;exact⟨B,J,M.shrink D⟩
 |_=>obtain⟨B,J,D⟩:=z;exact⟨B,J,D.shrink sub⟩
def C2{m ex:List az}{H H':Hp}{h g:aL}(R:RH K m H h)(q:RH K (m++ex) H' g)(D:g.take h.length=h):RH K m H' h :=
 ⟨R.nd,R.len,λi a J e1 e2=>by have z:=vA (e2:=[]) R q D (λa B=>bL B (by simp)) e1 e2;rw[U8]at z;exact z,q.tb⟩
def yQ{m ex:List az}{H H':Hp}{h g:aL}(R:RH K m H h)(J:RH K (m++ex) H' g){n:Nat}{a:az}(hn:(m++ex)[n]?=aa a)(c:¬n<h.length):a∉m:=λz=>by
 obtain⟨j,B⟩:=V7 z;have q:=getD_some B;have D:(m++ex)[j]?=aa a:=by rw[UD q];exact B
 have:=rP J.nd D hn;rw[R.len]at q;lia
def Aw{P:UM}{w:U6}{m m':List az}{H H':Hp}{h g h':aL}{y z:aM}{v:V}(e:BT.Ct h y g=aa (z,h'))(R:RH K m H h)(x:Ext m H m' H')(B:RH K m' H' g)(r:RW P w K m' H' v y):
 Ext m H m H'/\RH K m H' h'/\RW P w K m H' v z:=by
 unfold BT.Ct at e;cases y with
 |r n =>
  simp only at e;split at e
  case isFalse=>exact cX e
  rename_i c;obtain⟨O,M⟩:=c;obtain⟨q,e1,e2⟩:=dz e;cases e2;obtain⟨ex,rfl,U⟩:=x.pre;cases r with
  |@r a _ hn =>
   obtain⟨ws,L,D⟩:=B.pR n a q hn e1;exact⟨⟨⟨[],by simp,by simp⟩,x.keep,x.live,x.frz⟩,C2 R B M,.km ⟨.inl L,yQ R B hn (by rw[O];exact VD _)⟩ (D.shrink λa J=>Vl _ J)⟩
 |_=>exact cX e
def kK{P:UM}{w:U6}{m m':List az}{H H':Hp}{h g h':aL}{y z:aM}{v:V}(e:BT.fin h y g=aa (z,h'))(R:RH K m H h)(x:Ext m H m' H')(D:RH K m' H' g)(r:RW P w K m' H' v y):
 ∃m2,Ext m H m2 H'/\RH K m2 H' h'/\RW P w K m2 H' v z:=by
 unfold BT.fin at e;split at e;cases e;exact⟨m',x,D,r⟩
 ·split at e
  ·rename_i G f;obtain⟨ex,rfl,k⟩:=x.pre;have sub:∀a∈m,a∈m++ex:=λa t=>Vl _ t;have J:Ext m H m H':=⟨⟨[],by simp,by simp⟩,x.keep,x.live,x.frz⟩;have R2:RH K m H' h:=C2 R D f;cases r with
   |p r=>cases e;exact⟨m,J,R2,.p (r.shrink sub)⟩|kq r=>cases e;exact⟨m,J,R2,.kq (r.shrink sub)⟩|ks h r=>cases e;exact⟨m,J,R2,.ks ⟨h.1,λz=>h.2 (sub _ z)⟩ (r.shrink sub)⟩
   |@o a n hn =>
    simp only at e;split at e
    ·rename_i U;cases e;refine⟨m,J,R2,.o ?_⟩;rw[UD (by rw[R.len];exact U)]at hn;exact hn
    cases e;exact⟨m++ex,x,D,.o hn⟩
   |@r a n hn =>
    simp only at e;split at e
    ·rename_i U;cases e;refine⟨m,J,R2,.r ?_⟩;rw[UD (by rw[R.len];exact U)]at hn;exact hn
    ·rename_i U;have out:=yQ R D hn U;cases gc:g[n]? with
     |none=>rw[gc]at e;exact cX e
     |some c =>
      rw[gc]at e;have z:=D.cl n a c hn gc;cases c with
      |l E=>obtain⟨W,O,M⟩:=z;cases e;exact⟨m,J,R2,.p (.aB (.inl ⟨.inl O,out⟩) (M.shrink sub))⟩|s F=>obtain⟨W,O,M⟩:=z;cases e;exact⟨m,J,R2,.ks ⟨.inl O,out⟩ (M.shrink sub)⟩
      |d j =>
       obtain⟨W,O,M⟩:=z;cases e;have A:a∈ex:=by
        rcases List.mem_append.mp (UJ hn)with q|q
        exact bL q out;exact q
       have Y:∀b∈[a],b∈ex:=λb B=>by simp at B;subst B;exact A
       have L:∀b∈m++[a],b∈m++ex:=λb B=>(List.mem_append.mp B).elim (Vl _) λz=>UW _ (Y b z);refine⟨m++[a],⟨⟨[a],rfl,λb B=>k b (Y b B)⟩,x.keep,x.live,x.frz⟩,⟨List.nodup_append.mpr ⟨R.nd,by simp,λb B d Z=>by simp at Z;subst Z;exact λe=>out (e ▸ B)⟩,by simp[R.len],λi b C e1 e2=>?_,D.tb⟩,.r (by rw[←R.len];simp)⟩
       by_cases c:i<m.length
       ·rw[UD c]at e1;rw[UD (by rw[←R.len];exact c)]at e2;exact vA R D f Y e1 e2
       ·have u:i=m.length:=by have:=getD_some e1;simp at this;lia
        subst u;simp at e1;rw[R.len]at e2;simp at e2;subst e1 e2;exact⟨W,O,M.shrink L⟩
      |_=>exact cX e
   |_=>exact cX e
  cases e;exact⟨m',x,D,r⟩
section
variable{prog:UM}{w:U6}{A:VE}{E:aA->UA->Prop}{s:UA}
def Ax{Q:Int->UA->Prop}(h:Q 4238894112 {s with toks:=s.toks+1}):av (UT prog w) A (pyHash .none) Q E s:=by show av _ _ (pyHashByItsType .none) _ _ _;refine PySem.W.pyHash_slot (T:="NoneType") (typeIs_none s) PySem.F.slot_NoneType_hash PySem.F.entry_NoneType_hash (PySem.F.args_NoneType_hash_1 _) (by decide) (.inl rfl) ?_;show av _ _ (slotArgs "__hash__" 0 ⟨[WX],[]⟩ >>= λ_=>retInt 4238894112) _ _ _;rw[slotArgs.eq_1];refine Uw (au ?_);unfold retInt;refine Uw (wpAny_mkInt ?_);exact au ⟨_,_,rfl,h⟩
end
def C3:Option Key->aA->Bool
 |none,.none=>ah|none,_=>ai|some k,v=>jJ k v
def jz{v:aA}(h:C3 af v=ah):v=.none:=by cases v<;>first|rfl|(exfalso;exact Vh h)
def C4(a b:Key):decide (aa a=aa b)=decide (a=b):=by simp
def optKind(prog:UM)(w:U6):PySem.KeyKind prog w (Option Key) where
 is:=C3
 hash:=λk=>match k with|none=>4238894112|some k=>MZ w k
 inj:=λv a b B q=>by
  cases a with
  |none =>
   cases jz B;cases b with
   |none=>rfl
   |some b=>rcases dH (show jJ b .none=ah from q)with⟨i,t,rfl,e⟩|⟨x,t,rfl,e⟩<;>exact nomatch e
  |some a =>
   cases b with
   |none =>
    cases jz q;rcases dH (show jJ a .none=ah from B)with⟨i,t,rfl,e⟩|⟨x,t,rfl,e⟩<;>exact nomatch e
   |some b=>rw[(dD prog w).inj v a b B q]
 byValue:=λk v h=>by
  cases k with
  |none=>cases jz h;rfl|some k=>exact(dD prog w).byValue k v h
 pyHash:=λ{A E s k v Q} hv h=>by
  cases k with
  |none=>cases jz hv;exact Ax h|some k=>exact(dD prog w).pyHash (k:=k) hv h
 eqBool:=λ{A E s a b u v Q} hu hv h=>by
  cases a with
  |none =>
   cases jz hu;cases b with
   |none=>cases jz hv;exact SeqAt.EqAt.same _ _ _ _ _ (by simpa using h)
   |some b =>
    have h:Q ai s:=by simpa using h
    rcases dH (show jJ b v=ah from hv)with⟨i,t,rfl,rfl⟩|⟨x,t,rfl,rfl⟩
    exact SeqAt.EqAt.none_int i t _ _ _ _ h;exact SeqAt.EqAt.none_str x t _ _ _ _ h
  |some a =>
   cases b with
   |none =>
    cases jz hv;have h:Q ai s:=by simpa using h
    rcases dH (show jJ a u=ah from hu)with⟨i,t,rfl,rfl⟩|⟨x,t,rfl,rfl⟩
    exact SeqAt.EqAt.int_none i t _ _ _ _ h;exact SeqAt.EqAt.str_none x t _ _ _ _ h
   |some b=>rw[C4]at h;exact(dD prog w).eqBool (a:=a) (b:=b) hu hv h
 «strs»:=λk x t v h=>by
  cases k with
  |none=>exact nomatch jz h
  |some k=>exact(dD prog w).strs k x t v h
def map_none{prog:UM}{w:U6}{h:aq}{a:az}{vs:List (Key×aA)}(dd:h.DictOf (dD prog w) a vs):∃f,h.MapOf (optKind prog w) a f/\f af=af:=by
 obtain⟨o,D,W,O,M,U,L,_⟩:=dd;refine⟨λk=>findBy C3 D k,⟨o,D,W,O,M,U,λe J=>?_,λk=>rfl⟩,?_⟩
 ·obtain⟨k,B,V⟩:=L e J;exact⟨aa k,B,V⟩
 ·show(Array.find? (λe=>C3 af e.key) D).map (·.val)=af;have:Array.find? (λe=>C3 af e.key) D=af:=by rw[Array.find?_eq_none];intro e J q;obtain⟨k,B,_⟩:=L e J;rw[jz q]at B;rcases dH (show jJ k .none=ah from B)with⟨i,t,rfl,e⟩|⟨x,t,rfl,e⟩<;>exact nomatch e
  rw[this];rfl
section
variable{X:Cx}
def RDs.atI{K:Uv}{m:List az}{H:Hp}{vs:List V}{ds:List aO}{i:Int}{d:aO}(r:RDs K m H vs ds)(e:BT.atP ds i=aa d):∃v,L2.atI vs i=aa v/\RD K m H v d:=by unfold BT.atP at e;unfold L2.atI;obtain⟨j,J,D⟩:=Option.bind_eq_some_iff.mp e;obtain⟨v,B,q⟩:=r.get D;refine⟨v,?_,q⟩;rw[r.length];show((BT.place ds.length i).bind λj=>vs[j]?)=aa v;rw[J];exact B
def Gp{x y:aM}{h:aL}{z:aM}{h':aL}(e:BT.FY x y h=aa (z,h')):
 (∃kvs k d,x=.k (.t kvs)/\y=.p (.str k)/\BT.fz k kvs=aa d/\z=.p d/\h'=h)\/(∃kvs e k d,x=.k (.l kvs)/\y=.p e/\BT.jq e=aa k/\BT.dR kvs k=aa d/\z=.p d/\h'=h)\/∃d d' b,aZ x h=aa d/\aZ y h=aa d'/\BT.dJ d d'=aa b/\z=.p b/\h'=h:=by
 unfold BT.FY at e;split at e
 ·rename_i kvs;obtain⟨b,e1,e2⟩:=dz e;cases e2;cases kvs with
  |t kvs =>
   cases y with
   |p d =>
    cases d with
    |str x=>exact .inl ⟨kvs,_,b,rfl,rfl,e1,rfl,rfl⟩|_=>exact cX e1
   |_=>exact cX e1
  |l kvs =>
   cases y with
   |p d =>
    obtain⟨k,D,B⟩:=Option.bind_eq_some_iff.mp (show(BT.jq d).bind (BT.dR kvs)=aa b from e1);exact .inr (.inl ⟨kvs,d,k,b,rfl,rfl,D,B,rfl,rfl⟩)
   |_=>exact cX e1
  |_=>exact cX e1
 ·refine .inr (.inr ?_);cases e1:aZ x h with
  |none=>rw[e1]at e;exact cX e
  |some d =>
   cases e2:aZ y h with
   |none=>rw[e1,e2]at e;exact cX e
   |some d' =>
    rw[e1,e2]at e;obtain⟨q,eq,J⟩:=dz e;cases J;exact⟨d,d',q,rfl,rfl,eq,rfl,rfl⟩
theorem C6{K:Uv}{k:ay}{d:aO}:∀{es:List (ay×V)}{kvs:List (ay×aO)}{vs:List (Key×aA)},RDk K es kvs->KV (es.map λq=>((Sum.inr q.1:Key),q.2)) vs->BT.fz k kvs=aa d →
 ∃u v,valueAt vs (Sum.inr k)=aa u/\RelV v u/\∀m H,RD K m H v d
 |_,_,_,.nil,_,e=>by simp[BT.fz]at e
 |_,_,_,@RDk.cons _ x v dd es kvs r t,q,e=>by
  cases q with
  |@cons p z f b U O =>
   obtain⟨a,L⟩:=z;obtain⟨D,B⟩:=U;simp only at D B;subst D;rw[BT.fz]at e
   by_cases c:k=x
   ·rw[bJ c]at e;cases e;subst c;exact⟨L,v,by simp[valueAt],B,r⟩
   ·rw[bK c]at e;obtain⟨u,M,J,Z,Y⟩:=C6 t O e;refine⟨u,M,?_,Z,Y⟩;have W:¬((Sum.inr x:Key)=Sum.inr k):=λz=>c (Sum.inr.inj z).symm;simp only[valueAt]at J⊢;rw[XJ (by simpa using W)];exact J
def Ay{x:ay}{c:Nat}(h:PyData.strOk x=ah)(B:c∈x.cps.toList):PyData.strOk ⟨#[c]⟩=ah:=by simp only[PyData.strOk,Array.all_eq_true_iff_forall_mem]at h⊢;intro y q;simp at q;subst q;exact h y (by simpa using B)
def KA:IxR X (rOp X.prog X.w X.K BT.FY):=by
 intro q slice W s V H v u v' N Q I M O h U;obtain⟨m,h,x,y,z,h',R,Y,B,e,J⟩:=h;rcases Gp e with⟨o,k,d,rfl,rfl,e1,rfl,rfl⟩|⟨o,e',k,d,rfl,rfl,e0,e1,rfl,rfl⟩|⟨d,d',b,e1,e2,e3,rfl,rfl⟩
 ·cases Y with
  |@k a es _ S Z =>
   cases M;cases B with
   |p B =>
    cases B with
    |str _ ok =>
     obtain⟨t,rfl⟩:=O;obtain⟨hm,L,P,dd⟩:=S;obtain⟨w',z,E,A,h3⟩:=C6 Z P e1;have D:=dd s.heap I.kIn;refine aas (ops:=[.ref a,.str k t]) D.typeIs slot_dict_getitem.lookup ?_ U;exact wpAny_getItem_of (knd:=dD X.prog X.w) (iU _ _ k t) D.mapOf E ⟨z,H,I.tok _,A,J.here R (h3 _ _)⟩
 ·cases Y with
  |@kl a ob ws _ T Z =>
   cases M;cases B with
   |p B =>
    have ek:=pU B e0;subst ek;cases tY I (.inr ⟨_,T.1⟩) Z k with
    |no _ _ _ C _=>rw[C]at e1;exact cX e1
    |is L dd n x G u1 C g2 g3 g4 =>
     rw[C]at e1;cases e1;refine aas (ops:=[.ref a,N]) dd.typeIs slot_dict_getitem.lookup ?_ U;exact wpAny_getItem_of (knd:=dD X.prog X.w) (o7 O) dd.mapOf g2 ⟨G,H,I.tok _,g3,J.here R g4⟩
 ·have g:=dX R Y e1;have f:=dX R B e2;cases d<;>cases d'<;>first|exact cX e3|simp only[BT.gY,BT.fC,BT.jR]at e3
  ·split at e3
   ·rename_i c;obtain⟨cc,F,e5⟩:=dz e3;subst e5;obtain⟨rfl,ok⟩:=g.str;cases f.int;have:=fF;refine JK q slice W s V H _ _ _ _ Q I M O ⟨_,_,cc,rfl,rfl,by lia,F,J.here R (.str _ (Ay ok ?_))⟩ U;obtain⟨j,E,A⟩:=Option.bind_eq_some_iff.mp F;exact UJ A
   exact cX e3
  ·obtain⟨a,L,rfl,r,ra⟩:=g.aC;cases f.int;obtain⟨z,l,i⟩:=ra.atI e3;exact wX q slice W s V H _ _ _ _ Q I M O ⟨a,L,_,z,rfl,rfl,r,l,J.here R i⟩ U
  ·obtain⟨a,L,rfl,r,ra⟩:=g.aB;cases f.int;obtain⟨z,l,i⟩:=ra.atI e3;exact yz q slice W s V H _ _ _ _ Q I M O ⟨a,L,_,z,rfl,rfl,r.sq,l,J.here R i⟩ U
def mq(n d:Nat)(o:Option Int):BT.clip n d o=HT.sIx n d o:=by
 cases o with
 |none=>rfl
 |some v =>
  simp only[BT.clip,HT.sIx];split;rfl
  ·split;lia;lia
def qU{prog:UM}{w:U6}{A:VE}{E:aA->UA->Prop}{s:UA}{t B:az}{items:Array aA}{U O:aA}{lo hi:Option Int}{Q:aA->UA->Prop}(q:IsTup s.heap t items)(V:s.heap.IsSliceOf B U O .none)(pl:Zx U lo)(W:Zx O hi)
(hw:HT.sIx items.size 0 lo=0/\HT.sIx items.size items.size hi=items.size)(h:Q (.ref t) s):av (UT prog w) A (Ze (.ref t) (.ref B)) Q E s:=by
 obtain⟨os,D,L,hds⟩:=id V;have M:s.TypeIs (.ref B) "slice":=⟨os,D,L⟩;unfold Ze
 try with_reducible refine Vw ?_
 first|refine Uw (au ?_)|skip
 refine Uw (wpAny_sequenceKey q.typeIs (by decide) ?_);refine Uw (Wg (name:=UN "__getitem__") q.typeIs VX
  (WQ VX q.typeIs entry_tuple_getitem ?_ (args_tuple_getitem _ _)))
 show av _ _ (Ye (.ref t) >>= _) _ _ s;refine Uw (tupleItemsOf_ q ?_);refine Uw (Xd M ?_);rw[bJ (by decide)];refine Uw (HT.je V pl W ?_);have J:(((HT.sIx items.size 0 lo:Nat):Int)==0&&(1:Int)==1&&(HT.sIx items.size items.size hi-HT.sIx items.size 0 lo)==items.size)=ah:=by rw[hw.1,hw.2];simp
 show av _ _ (if(((HT.sIx items.size 0 lo:Nat):Int)==0&&(1:Int)==1&&(HT.sIx items.size items.size hi-HT.sIx items.size 0 lo)==items.size)=ah then _ else _) _ _ s;rw[bJ J];unfold Builtin.Tuple.tupleIsExact;refine Uw (Uw (Xd q.typeIs (au ?_)));rw[bJ (by decide)];refine Uw (Yp ?_)
 first
  |exact au ⟨_,rfl,au h⟩
  |exact au ⟨_,rfl,h⟩
  |exact Uw (au (au ⟨_,rfl,au h⟩))
inductive rSl(P:UM)(w:U6)(K:Uv)(v:V)(lo hi:Option Int)(H:Hp)(Q:VK):Prop
 |mk(m:List az)(h:aL)(x:aM)(d b:aO)(R:RH K m H h)(q:RW P w K m H v x)(e:aZ x h=aa d)(e2:BT.mW d lo hi=aa b)(p:Post P w K m H (.p b) h Q):rSl P w K v lo hi H Q
def RDs.cut{K:Uv}{m:List az}{H:Hp}{vs:List V}{ds:List aO}(r:RDs K m H vs ds)(lo hi:Option Int):RDs K m H (uV vs lo hi) (BT.cut ds lo hi):=by unfold uV BT.cut;rw[mq,mq,r.length];exact(r.drop _).take _
def Az{ds:List aO}{lo hi:Option Int}(h1:HT.sIx ds.length 0 lo=0)(h2:HT.sIx ds.length ds.length hi=ds.length):BT.cut ds lo hi=ds:=by unfold BT.cut;rw[mq,mq,h1,h2];simp
def osl:SlR X (rSl X.prog X.w X.K):=by
 intro Z s Y H v o f e lo B g Q I i V O M h;obtain⟨m,h,x,d,b,R,k,e1,e2,J⟩:=h;have L:=dX R k e1;cases d<;>simp only[BT.mW]at e2<;>try contradiction
 ·cases e2;obtain⟨a,q,rfl,D,ra⟩:=L.aC;cases i
  by_cases c:HT.sIx q.length 0 lo=0/\HT.sIx q.length q.length B=q.length
  ·obtain⟨U,l,j,_⟩:=I.tuple D;have n:U.toArray.size=q.length:=by rw[UB];exact l.length.symm
   refine⟨"tuple",_,PyProof.Rows.slot_tuple_getitem.lookup,j.typeIs,qU j V O M (by rw[n];exact c) ⟨.ref a,H,I,rfl,?_⟩⟩;cases L with
   |d r =>
    refine J.here R ?_;rw[Az (by rw[←ra.length];exact c.1) (by rw[←ra.length];exact c.2)];exact r
  exact JJ Z s Y H (.ref a) (.ref a) f e lo B g Q I rfl V O M ⟨a,q,rfl,D,c,λp W=>mh R W (ra.cut lo B) J⟩
 ·cases e2;obtain⟨a,q,rfl,D,ra⟩:=L.aB;exact FA Z s Y H _ _ f e lo B g Q I i V O M ⟨a,q,rfl,D.sq,λp W=>jv R W (ra.cut lo B) J⟩
end
def yR(m:BT.Me)(d:aO)(as:List aM)(h:aL):aU m (.p d) as h=(match bx as with|some ds=>(BT.meD m d ds).map λx=>(.p x,h)|none=>af):=by cases m<;>rfl
section
variable{X:Cx}
inductive rMe(P:UM)(w:U6)(K:Uv)(me:BT.Me)(v:V)(vs:List V)(H:Hp)(Q:VK):Prop
 |mk(m:List az)(h:aL)(x:aM)(ws:List aM)(z:aM)(h':aL)(R:RH K m H h)(q:RW P w K m H v x)(B:RWs P w K m H vs ws)(e:aU me x ws h=aa (z,h'))(p:Post P w K m H z h' Q):rMe P w K me v vs H Q
def AA:MtR X "list.append" (rMe X.prog X.w X.K .append):=by
 intro O s M H v b f i Q I Y J h;obtain⟨m,h,x,ws,z,k,R,W,D,e,U⟩:=h;cases x with
 |p d=>cases ws with
  |nil=>exact cX e|cons _ _=>rw[yR]at e;split at e<;>(try exact cX e)
 |r n =>
  cases D with
  |nil=>(first|exact cX e|simp[aU]at e)
  |@cons y Z _ _ q t =>
   cases t with
   |cons _ _=>cases q<;>(first|exact cX e|simp[aU]at e)
   |nil =>
    cases q with
    |p q =>
     rw[BT.xg]at e;cases g:bf h n with
     |none=>rw[g]at e;exact cX e
     |some V =>
      rw[g]at e;simp only at e;obtain⟨c,e⟩:=dB e;cases e;cases W with
      |@r a _ hn =>
       obtain⟨B,L,r⟩:=R.cell n a V hn g;have:=fF;have j:=r.length;exact rJ O s M H _ _ _ _ Q I Y J ⟨a,B,y,rfl,rfl,L,by lia,U _ _ m (gR (UJ hn) L) (R.set hn L (r.append (.cons q .nil))) (.p .aD)⟩
    |_=>(first|exact cX e|simp[aU]at e)
 |_=>(first|exact cX e|simp[aU]at e)
def C7{q:Type}{xs:List q}{d:q}(h:xs.getLast?=aa d):xs[xs.length-1]?=aa d:=by rw[←List.getLast?_eq_getElem?];exact h
def KB:MtR X "list.pop" (rMe X.prog X.w X.K .pop):=by
 intro V s U H v i j k Q I b D h;obtain⟨m,h,x,ws,z,l,R,Z,B,e,W⟩:=h;cases x with
 |p d=>cases ws with
  |nil=>exact cX e|cons _ _=>rw[yR]at e;split at e<;>(try exact cX e)
 |r n =>
  cases B with
  |cons _ _=>(first|exact cX e|simp[aU]at e)
  |nil =>
   rw[BT.FU]at e;cases g:bf h n with
   |none=>rw[g]at e;exact cX e
   |some M =>
    rw[g]at e;simp only at e;cases L:M.getLast? with
    |none=>rw[L]at e;exact cX e
    |some d =>
     rw[L]at e;cases e;cases Z with
     |@r a _ hn =>
      obtain⟨q,J,r⟩:=R.cell n a M hn g;have f:=r.length;obtain⟨y,c,Y⟩:=r.get (C7 L);have O:Ext m H m (upd H a (.aB q.dropLast)):=gR (UJ hn) J;exact JN V s U H _ _ _ _ Q I b D ⟨a,q,y,rfl,rfl,J,by rw[f];exact c,W _ _ m O (R.set hn J r.dropLast) (.p (Y.ext O))⟩
 |_=>(first|exact cX e|simp[aU]at e)
def C8{zt:List (az×ao)}{s:UA}{σ:L2.St}{H:Hp}{l b:az}{xs zs:List V}{Q:VK}(I:Inv X zt σ H s)(M:H l=aa (.aB xs))(Y:LL X.K H b zs)(hz:xs.length+zs.length<=aj)(q:Q .aD (upd H l (.aB (xs++zs)))):
 av (UT X.prog X.w) X.A (call (.builtin "list.extend") [.ref l,.ref b]) (EP X zt σ Q) X.xe s:=by
 obtain⟨z,D,n,r,a,e⟩:=I.FE M;obtain⟨Z,B,U,O,W,e2⟩:=rdL I Y;have L:D.toArray.size+B.toArray.size<=aj:=by rw[UB,UB];lia
 have J:¬(!D.toArray.isEmpty&&VI (D.toArray.size+B.toArray.size))=ah:=by rw[o5 L,Bool.and_false];exact Vh
 refine WW F.slot_list_extend ⟨_,e,rfl⟩ F.entry_list_extend (F.args_list_extend_2 _ _)
  (AutoSeq1.list_extend_list_list_0 l D.toArray n b B.toArray U J (by rw[UB];lia) (by lia)) ⟨e,e2,?_⟩
 refine⟨.aD,_,I.FD (its':=D++B) M e (by simp) (r.append O) ?_,rfl,q⟩;rw[UR];lia
def Gq{zt:List (az×ao)}{s:UA}{σ:L2.St}{H:Hp}{l b:az}{xs zs:List V}{Q:VK}(I:Inv X zt σ H s)(W:H l=aa (.aB xs))(d:SqT X.K H b zs)(hz:xs.length+zs.length<=aj)(q:Q .aD (upd H l (.aB (xs++zs)))):
 av (UT X.prog X.w) X.A (call (.builtin "list.extend") [.ref l,.ref b]) (EP X zt σ Q) X.xe s:=by
 obtain⟨z,D,n,r,g,e⟩:=I.FE W;obtain⟨B,M,p2,_⟩:=I.tuple d;obtain⟨⟨f,dd,Y,Z⟩,e2,U,a,O⟩:=id p2;simp only at U O;subst U O;have c:=M.length;have L:D.toArray.size+B.toArray.size<=aj:=by rw[UB,UB];lia
 have J:¬(!D.toArray.isEmpty&&VI (D.toArray.size+B.toArray.size))=ah:=by rw[o5 L,Bool.and_false];exact Vh
 refine WW F.slot_list_extend ⟨_,e,rfl⟩ F.entry_list_extend (F.args_list_extend_2 _ _)
  (n8 l D.toArray n b B.toArray a dd Z J (by rw[UB];lia) (by lia)) ⟨e,e2,?_⟩
 refine⟨.aD,_,I.FD (its':=D++B) W e (by simp) (r.append M) ?_,rfl,q⟩;rw[UR];lia
def AB:MtR X "list.extend" (rMe X.prog X.w X.K .extend):=by
 intro A s o H v E F G Q I l J h;obtain⟨m,h,x,ws,z,P,R,k,D,e,U⟩:=h;cases x with
 |p d=>cases ws with
  |nil=>exact cX e|cons _ _=>rw[yR]at e;split at e<;>(try exact cX e)
 |r n =>
  cases D with
  |nil=>(first|exact cX e|simp[aU]at e)
  |@cons y Z _ _ j t =>
   cases t with
   |cons _ _=>(first|exact cX e|simp[aU]at e)
   |nil =>
    rw[BT.xh]at e;cases g:bf h n with
    |none=>rw[g]at e;exact cX e
    |some Y =>
     cases O:(aZ Z h).bind BT.sZ with
     |none=>rw[g,O]at e;exact cX e
     |some C =>
      rw[g,O]at e;simp only at e;obtain⟨c,e⟩:=dB e;cases e;obtain⟨d,e1,e2⟩:=Option.bind_eq_some_iff.mp O;have W:=dX R j e1;cases k with
      |@r a _ hn =>
       obtain⟨i,q,r⟩:=R.cell n a Y hn g;cases l;obtain⟨u,rfl,V⟩:=J.one;have:=fF;have N:=r.length;cases d<;>simp only[BT.sZ]at e2<;>try contradiction
       ·cases e2;obtain⟨b,f,rfl,M,B⟩:=W.aC;cases V;have L:=B.length;exact Gq I q M (by lia) (U _ _ m (gR (UJ hn) q) (R.set hn q (r.append B)) (.p .aD))
       ·cases e2;obtain⟨b,f,rfl,M,B⟩:=W.aB;cases V;have L:=B.length;exact C8 I q M (by lia) (U _ _ m (gR (UJ hn) q) (R.set hn q (r.append B)) (.p .aD))
 |_=>(first|exact cX e|simp[aU]at e)
def RWs.pure{P:UM}{w:U6}{m:List az}{H:Hp}:∀{vs:List V}{ws:List aM}{ds:List aO},RWs P w K m H vs ws->bx ws=aa ds->RDs K m H vs ds:=by
 intro vs ws
 induction ws generalizing vs with
 |nil =>
  intro ds r e;cases r;cases e;exact .nil
 |cons x ws B =>
  intro ds r e;cases r with
  |cons r t =>
   cases r with
   |p r =>
    simp only[bx]at e;obtain⟨q,e1,e2⟩:=dz e;subst e2;exact .cons r (B t e1)
   |_=>exact cX e
theorem pV{x:aO}:∀{ds:List aO}{k j:Nat},BT.jQ x ds k=aa j->∃i,j=k+i/\∃(hi:i<ds.length),aT ds[i] x=ah/\∀m (q:m<ds.length),m<i->aT ds[m] x=ai
 |[],_,_,e=>by exact cX e
 |y::r,k,j,e=>by
  simp only[BT.jQ]at e;split at e
  ·rename_i c;cases e;exact⟨0,rfl,by simp,c,λm _ h=>by lia⟩
  ·rename_i c;obtain⟨i,rfl,hi,J,D⟩:=pV e;refine⟨i+1,by lia,by simp;lia,by simpa using J,λm q B=>?_⟩;cases m with
   |zero=>simpa using c|succ m=>simpa using D m (by simpa using q) (by lia)
theorem oF{zt:List (az×ao)}{σ:L2.St}{s:UA}{m:List az}{H:Hp}{d:aO}(I:Inv X zt σ H s):∀{vs:List V}{ds:List aO}{us:List aA},RDs X.K m H vs ds->dw vs us->∀(i:Nat)(h1:i<us.length)(h2:i<ds.length),fH s.heap (pd d) us[i]=aT ds[i] d
 |_,_,_,.nil,q=>by cases q;intro i h1;simp at h1
 |_,_,_,.cons r t,q=>by
  cases q with
  |cons D B =>
   intro i h1 h2;cases i with
   |zero =>
    obtain⟨J,ra⟩:=jU I r D;simp only[List.getElem_cons_zero];rw[xE ra (iC r),pT]
   |succ i=>simpa using oF I t B i (by simpa using h1) (by simpa using h2)
def AC(P:X.A.units+150<cLine):MtR X "tuple.index" (rMe X.prog X.w X.K .tindex):=by
 intro zt s σ H v vs v' us Q I o M h;obtain⟨m,h,x,ws,z,h',R,J,L,e,f⟩:=h;cases x with
 |r n=>cases ws with
  |_=>(first|exact cX e|simp[aU]at e)
 |p d =>
  rw[BT.pq]at e;cases g:bx ws with
  |none=>rw[g]at e;exact cX e
  |some ds =>
   rw[g]at e;obtain⟨b,e1,e2⟩:=dz e;cases e2;have rds:=L.pure g;cases d<;>first|exact cX e1|skip
   rename_i xs;cases ds with
   |nil=>exact cX e1
   |cons d0 dr =>
    cases dr with
    |cons _ _=>exact cX e1
    |nil =>
     rw[BT.Cg]at e1;split at e1
     ·rename_i c;obtain⟨j,e3,e4⟩:=dz e1;subst e4;obtain⟨i,rfl,hi,h1,h2⟩:=pV e3;cases rds with
      |cons E C =>
       cases C;obtain⟨u,rfl,t⟩:=M.one;cases J with
       |p J =>
        obtain⟨a,vt,rfl,ha,ra⟩:=RR.aC (.d J);cases o;obtain⟨q,D,G,_⟩:=I.tuple ha;obtain⟨⟨cls,dd,Z,l⟩,V,Y,n,W⟩:=id G;simp only at Y W;subst Y W;have hl:=D.length;have S:=ra.length;have U:i<q.toArray.size:=by rw[UB];lia
        refine WW F.slot_tuple_index ⟨_,V,rfl⟩ F.entry_tuple_index (F.args_tuple_index_2 _ _)
         (qT a q.toArray n dd l u (fH s.heap (pd d0)) i U ?_ ?_) ⟨V,?_,?_⟩
        rw[show q.toArray[i]=q[i]'(by lia) by simp,oF I ra D i (by lia) hi];exact h1
        ·intro k T O;have B:k<q.length:=by simpa using T
         rw[show q.toArray[k]=q[k]'B by simp,oF I ra D k B (by lia)];exact h2 k (by lia) O
        ·intro y N;exact jy P I (.d E) t ra D c y (by simpa using N)
        ·refine⟨.int (((0+i:Nat):Nat):Int),H,I.tok _,⟨s.toks,?_⟩,f.here R (.int _)⟩;simp
     exact cX e1
 |_=>(first|exact cX e|simp[aU]at e)
def AD:MtR X "str.index" (rMe X.prog X.w X.K .sindex):=by
 intro c s a H v f i k Q I U D h;obtain⟨m,h,x,ws,z,l,R,q,B,e,M⟩:=h;cases x with
 |r n=>cases ws with
  |_=>(first|exact cX e|simp[aU]at e)
 |p d =>
  rw[BT.pA]at e;cases g:bx ws with
  |none=>rw[g]at e;exact cX e
  |some Y =>
   rw[g]at e;obtain⟨b,e1,e2⟩:=dz e;cases e2;have rds:=B.pure g;cases d<;>first|exact cX e1|skip
   cases Y with
   |nil=>exact cX e1
   |cons L Z =>
    cases Z with
    |cons _ _=>cases L<;>exact cX e1
    |nil =>
     cases L<;>first|exact cX e1|skip
     rename_i x y;rw[BT.Ci]at e1;cases J:WB x y 0 x.length 1 with
     |nil=>rw[J]at e1;exact cX e1
     |cons j rest =>
      rw[J]at e1;cases e1;cases rds with
      |cons W V =>
       cases V;cases W;obtain⟨u,rfl,O,rfl⟩:=D.one;cases q with
       |p q =>
        cases q;obtain⟨t,rfl⟩:=U;exact call_gives F.slot_str_index (typeIs_str s x t) F.entry_str_index (F.args_str_index_2 _ _) (gives_str_index x y t O j rest J) ⟨.int j,H,I.tok _,⟨_,rfl⟩,M.here R (.int _)⟩
 |_=>(first|exact cX e|simp[aU]at e)
end
section
inductive rBi(P:UM)(w:U6)(K:Uv)(b:BT.Bi)(mu:Bool)(vs:List V)(H:Hp)(Q:VK):Prop
 |mk(m:List az)(h:aL)(ws:List aM)(z:aM)(h':aL)(R:RH K m H h)(q:RWs P w K m H vs ws)(e:BT.kBi b mu ws h=aa (z,h'))(p:Post P w K m H z h' Q):rBi P w K b mu vs H Q
inductive RRs(K:Uv)(m:List az)(H:Hp):List V->List aO->Prop
 |nil:RRs K m H [] []
 |cons{v:V}{d:aO}{vs:List V}{ds:List aO}(r:RR K m H v d)(t:RRs K m H vs ds):RRs K m H (v::vs) (d::ds)
theorem gZ{K:Uv}(R:RH K m H h):∀{vs:List V}{ws:List aM}{ds:List aO},RWs P w K m H vs ws->aQ ws h=aa ds->RRs K m H vs ds
 |_,_,_,.nil,e=>by cases e;exact .nil
 |_,_,_,.cons r t,e=>by simp only[aQ]at e;obtain⟨d,e1,e2⟩:=Option.bind_eq_some_iff.mp e;obtain⟨q,D,B⟩:=dz e2;subst B;exact .cons (dX R r e1) (gZ R t D)
inductive BiI(b:BT.Bi)(mu:Bool)(ws:List aM)(h:aL)(z:aM)(h':aL):Prop
 |mk(ds:List aO)(d:aO)(h1:aQ ws h=aa ds)(h2:BT.biD b ds=aa d)(q:(mu=ai/\z=.p d/\h'=h)\/∃xs,mu=ah/\d=.aB xs/\z=.r h.length/\h'=h++[.l xs]):BiI b mu ws h z h'
def iL(e:BT.kBi b mu ws h=aa (z,h')):BiI b mu ws h z h':=by
 unfold BT.kBi at e;cases e1:aQ ws h with
 |none=>rw[e1]at e;exact cX e
 |some q =>
  rw[e1]at e;simp only at e;cases e2:BT.biD b q with
  |none=>rw[e2]at e;exact cX e
  |some d =>
   rw[e2]at e;simp only at e;cases mu with
   |false=>cases e;exact⟨q,d,e1,e2,.inl ⟨rfl,rfl,rfl⟩⟩
   |true =>
    simp only[if_true]at e;cases d<;>simp only at e<;>try contradiction
    cases e;exact⟨q,_,e1,e2,.inr ⟨_,rfl,rfl,rfl,rfl⟩⟩
def RRs.one{K:Uv}{m:List az}{H:Hp}{vs:List V}{d:aO}(r:RRs K m H vs [d]):∃v,vs=[v]/\RR K m H v d:=by
 cases r with
 |cons r t=>cases t;exact⟨_,rfl,r⟩
def KC:fy X (.builtin "len") (rBi X.prog X.w X.K .len ai):=by
 intro J s D H Z O Q I B h;obtain⟨m,h,ws,z,b,R,U,e,L⟩:=h;obtain⟨Y,d,e1,e2,⟨_,rfl,rfl⟩|⟨_,q,_⟩⟩:=iL e
 ·have V:=gZ R U e1
  match Y,e2 with
  |[.aC xs],e2 =>
   cases e2;obtain⟨v,rfl,r⟩:=V.one;obtain⟨a,M,rfl,W,ra⟩:=r.aC;exact lO J s D H _ O Q I B ⟨a,M,rfl,.inr W,by rw[ra.length];exact L.here R (.int _)⟩
  |[.aB xs],e2 =>
   cases e2;obtain⟨v,rfl,r⟩:=V.one;obtain⟨a,M,rfl,W,ra⟩:=r.aB;exact lO J s D H _ O Q I B ⟨a,M,rfl,.inl W.sq,by rw[ra.length];exact L.here R (.int _)⟩
  |[.str x],e2 =>
   rw[BT.Ai]at e2;split at e2
   ·rename_i c;cases e2;obtain⟨v,rfl,r⟩:=V.one;obtain⟨rfl,_⟩:=r.str;have:=fF;exact sP J s D H _ O Q I B ⟨x,rfl,by lia,L.here R (.int _)⟩
   exact cX e2
 exact aS q
def KG:fy X (.type "int") (rBi X.prog X.w X.K .int ai):=by
 intro L s J H W O Q I B h;obtain⟨m,h,ws,z,Y,R,D,e,M⟩:=h;obtain⟨V,d,e1,e2,⟨_,rfl,rfl⟩|⟨_,q,_⟩⟩:=iL e
 ·have U:=gZ R D e1
  match V,e2 with
  |[.int i],e2 =>
   cases e2;obtain⟨v,rfl,r⟩:=U.one;cases r.int;exact rD L s J H _ O Q I B (.inl ⟨i,rfl,M.here R (.int _)⟩)
  |[.bl i],e2 =>
   cases e2;obtain⟨v,rfl,r⟩:=U.one;cases r.bl;exact rD L s J H _ O Q I B (.inr ⟨i,rfl,M.here R (.int _)⟩)
 exact aS q
def yS:fy X (.type "list") (rBi X.prog X.w X.K .list mu):=by
 intro U s O H g Y Q I J h;obtain⟨m,h,ws,z,i,R,L,e,W⟩:=h;obtain⟨f,d,e1,e2,c⟩:=iL e;have Z:=gZ R L e1;have fin:∀{p:az}{q:List V}{D:List aO},d=.aB D->H p=af->RDs X.K m H q D->Q (.ref p) (upd H p (.aB q)):=by
  intro p q D b B r;rcases c with⟨_,rfl,rfl⟩|⟨ys,_,e3,rfl,rfl⟩
  subst b;exact jv R B r W;rw[b]at e3;cases e3;exact tQ R B r W
 match f,e2 with
 |[.aC D],e2 =>
  cases e2;obtain⟨v,rfl,r⟩:=Z.one;obtain⟨a,q,rfl,M,ra⟩:=r.aC;exact lP U s O H _ Y Q I J ⟨a,q,rfl,.inr M,λp B=>fin rfl B ra⟩
 |[.aB D],e2 =>
  cases e2;obtain⟨v,rfl,r⟩:=Z.one;obtain⟨a,q,rfl,M,ra⟩:=r.aB;exact lP U s O H _ Y Q I J ⟨a,q,rfl,.inl M.sq,λp B=>fin rfl B ra⟩
theorem gD:∀{xs:List aO}{ns:List Int},BT.intsOf xs=aa ns->xs=ns.map aO.int
 |[],ns,h=>by cases h;rfl
 |.int i::r,ns,h=>by simp only[BT.intsOf]at h;obtain⟨q,e1,e2⟩:=dz h;subst e2;rw[gD e1];rfl
 |.aD::_,_,h=>by exact cX h
 |.bl _::_,_,h=>by exact cX h
 |.str _::_,_,h=>by exact cX h
 |.aC _::_,_,h=>by exact cX h
 |.aB _::_,_,h=>by exact cX h
theorem gk{K:Uv}:∀{ns:List Int}{vs:List V},RDs K m H vs (ns.map aO.int)->vs=ns.map V.int
 |[],vs,r=>by cases r;rfl
 |n::ns,vs,r=>by
  cases r with
  |cons r t=>cases r;rw[gk t];rfl
theorem pW{K:Uv}:∀(ns:List Int),RDs K m H (ns.map V.int) (ns.map aO.int)
 |[]=>.nil|n::ns=>.cons (.int n) (pW ns)
def AE(i:X.calm=ah):fy X (.builtin "max") (λxs H Q=>∃(a:az) (ns:List Int),xs=[.ref a]/\SqL X.K H a (ns.map V.int)/\0<ns.length/\∀M,M∈ns->(∀z∈ns,z<=M)->Q (.int M) H):=by
 intro m s l H xs n Q I r h;obtain⟨a,ns,rfl,d,O,q⟩:=h;obtain⟨u,rfl,e⟩:=vals1 r;cases e;obtain⟨b,Z,p,J⟩:=I.list d;have W:=intsAre_of Z;obtain⟨D,e⟩:=W.allInts.items;have B:ns=D.toList.map (·.1):=by rw[←W.numsOf,←aaw,←e]
 have L:0<D.size:=by have Y:=O;rw[B,UI,UV]at Y;exact Y
 have U:=p.isList;rw[e]at U;refine max_intList (I.ok.hd i) U L λv x o c f=>?_;obtain⟨t,rfl⟩:=ZQ c;obtain⟨w,k⟩:=argBest_gt (numAt D) (D.size-1);refine⟨.int _,H,I.aH f,⟨t,rfl⟩,q _ ?_ λz J=>?_⟩;rw[B,ZF];exact getD_mem (by rw[UI,UV];lia)
 ·rw[B]at J;obtain⟨j,g,rfl⟩:=mem_getD J;rw[UI,UV]at g;rw[←ZF];exact k j (by lia)
def AF(i:X.calm=ah):fy X (.builtin "min") (λxs H Q=>∃(a:az) (ns:List Int),xs=[.ref a]/\SqL X.K H a (ns.map V.int)/\0<ns.length/\∀M,M∈ns->(∀z∈ns,M<=z)->Q (.int M) H):=by
 intro m s l H xs n Q I r h;obtain⟨a,ns,rfl,d,O,q⟩:=h;obtain⟨u,rfl,e⟩:=vals1 r;cases e;obtain⟨b,Z,p,J⟩:=I.list d;have W:=intsAre_of Z;obtain⟨D,e⟩:=W.allInts.items;have B:ns=D.toList.map (·.1):=by rw[←W.numsOf,←aaw,←e]
 have L:0<D.size:=by have Y:=O;rw[B,UI,UV]at Y;exact Y
 have U:=p.isList;rw[e]at U;refine min_intList (I.ok.hd i) U L λv x o c f=>?_;obtain⟨t,rfl⟩:=ZQ c;obtain⟨w,k⟩:=argBest_lt (numAt D) (D.size-1);refine⟨.int _,H,I.aH f,⟨t,rfl⟩,q _ ?_ λz J=>?_⟩;rw[B,ZF];exact getD_mem (by rw[UI,UV];lia)
 ·rw[B]at J;obtain⟨j,g,rfl⟩:=mem_getD J;rw[UI,UV]at g;rw[←ZF];exact k j (by lia)
def vB:fy X (.builtin "sorted") (λxs H Q=>∃(a:az) (ns:List Int),xs=[.ref a]/\SqL X.K H a (ns.map V.int)/\ns.length<64/\∀(l:az)(B:List Int),H l=af->B.Perm ns->B.Pairwise (·<=·)->Q (.ref l) (upd H l (.aB (B.map V.int)))):=by intro f s d H xs g Q I r h;obtain⟨a,ns,rfl,O,Y,q⟩:=h;obtain⟨u,rfl,e⟩:=vals1 r;cases e;obtain⟨D,J,p,k⟩:=I.list O;have U:=intsAre_of J;have len:=J.length;rw[UI]at len;refine sorted_ints p.isList U (by lia) λout B c L Z=>?_;obtain⟨e,W⟩:=sortedAll_at s.heap D out;have M:=kC c;have j:=L.length_eq;refine⟨.ref _,_,I.laid (t':=s.toks) (λb u q=>sortedAll_old q) (VJ _) ?_,rfl,q _ B (I.aJ.fresh (VJ _)) L Z⟩;have i:aj=16777216:=Wz;exact⟨by rw[UI];lia,out.toList,e,M,W⟩
def Gs(j:X.calm=ah):fy X (.builtin "max") (rBi X.prog X.w X.K .max1 ai):=by
 intro U s O H p W Q I D h;obtain⟨m,h,ws,z,t,R,B,e,V⟩:=h;obtain⟨l,d,e1,e2,⟨_,rfl,rfl⟩|⟨_,q,_⟩⟩:=iL e
 ·have b:=gZ R B e1
  match l,e2 with
  |[.aB xs],e2 =>
   rw[BT.vm]at e2;obtain⟨L,g,f⟩:=Option.bind_eq_some_iff.mp e2;obtain⟨M,J,c⟩:=dz f;subst c;obtain⟨v,rfl,r⟩:=b.one;obtain⟨a,o,rfl,k,ra⟩:=r.aB;rw[gD g]at ra;have ev:=gk ra;subst ev;obtain⟨Z,Y⟩:=BT.kG J;refine AE j U s O H _ W Q I D ⟨a,L,rfl,k.sq,by cases L with|nil=>cases J|cons _ _=>exact aae _,λn i m2=>?_⟩;have:n=M:=Zq (Y _ i) (m2 _ Z);subst this;exact V.here R (.int _)
 exact aS q
def Gu(j:X.calm=ah):fy X (.builtin "min") (rBi X.prog X.w X.K .min1 ai):=by
 intro U s O H p W Q I D h;obtain⟨m,h,ws,z,t,R,B,e,V⟩:=h;obtain⟨l,d,e1,e2,⟨_,rfl,rfl⟩|⟨_,q,_⟩⟩:=iL e
 ·have b:=gZ R B e1
  match l,e2 with
  |[.aB xs],e2 =>
   rw[BT.vj]at e2;obtain⟨L,g,f⟩:=Option.bind_eq_some_iff.mp e2;obtain⟨M,J,c⟩:=dz f;subst c;obtain⟨v,rfl,r⟩:=b.one;obtain⟨a,o,rfl,k,ra⟩:=r.aB;rw[gD g]at ra;have ev:=gk ra;subst ev;obtain⟨Z,Y⟩:=BT.Aj J;refine AF j U s O H _ W Q I D ⟨a,L,rfl,k.sq,by cases L with|nil=>cases J|cons _ _=>exact aae _,λn i m2=>?_⟩;have:n=M:=Zq (m2 _ Z) (Y _ i);subst this;exact V.here R (.int _)
 exact aS q
def rQ:fy X (.builtin "sorted") (rBi X.prog X.w X.K .sorted mu):=by
 intro b s Z H u f Q I O h;obtain⟨m,h,ws,z,x,R,M,e,W⟩:=h;obtain⟨t,d,e1,e2,k⟩:=iL e;have g:=gZ R M e1;have fin:∀{p:az}{D:List V}{B:List aO},d=.aB B->H p=af->RDs X.K m H D B->Q (.ref p) (upd H p (.aB D)):=by
  intro p D B L Y r;rcases k with⟨_,rfl,rfl⟩|⟨ys,_,e3,rfl,rfl⟩
  subst L;exact jv R Y r W;rw[L]at e3;cases e3;exact tQ R Y r W
 match t,e2 with
 |[.aB B],e2 =>
  rw[BT.pJ]at e2;obtain⟨q,i,J⟩:=Option.bind_eq_some_iff.mp e2
  by_cases c:q.length<64
  ·rw[bJ c]at J;have L:=(UK J).symm;obtain⟨v,rfl,r⟩:=g.one;obtain⟨a,D,rfl,o,ra⟩:=r.aB;rw[gD i]at ra;have ev:=gk ra;subst ev;refine vB b s Z H _ f Q I O ⟨a,q,rfl,o.sq,c,λl U n j m2=>?_⟩;have:U=BT.sortI q:=aal (j.trans (BT.sortI_perm q).symm) m2 (BT.lY q);subst this;exact fin L n (pW _)
  rw[bK c]at J;exact cX J
def C9:fy X (.type "tuple") (rBi X.prog X.w X.K .tuple ai):=by
 intro O s M H b V Q I B h;obtain⟨m,h,ws,z,c,R,J,e,U⟩:=h;obtain⟨Z,d,e1,e2,⟨_,rfl,rfl⟩|⟨_,q,_⟩⟩:=iL e
 ·have W:=gZ R J e1
  match Z,e2 with
  |[.aC xs],e2 =>
   cases e2;obtain⟨v,rfl,r⟩:=W.one;obtain⟨a,D,rfl,L,ra⟩:=r.aC;refine kT O s M H _ V Q I B ⟨a,D,rfl,.inr ⟨L,?_⟩⟩;cases r with
   |d r=>exact U.here R r
  |[.aB xs],e2 =>
   cases e2;obtain⟨v,rfl,r⟩:=W.one;obtain⟨a,D,rfl,L,ra⟩:=r.aB;exact kT O s M H _ V Q I B ⟨a,D,rfl,.inl ⟨L.sq,λp Y=>mh R Y ra U⟩⟩
 exact aS q
noncomputable def tyD:aO->String
 |.aD=>"NoneType"|.bl _=>"bool"|.int _=>"int"|.str _=>"str"|.aC _=>"tuple"|.aB _=>"list"
def Gv{E:aA->UA->Prop}
(I:Inv X zt σ H s)(r:RR X.K m H v d)(q:RelV v u)(e:VY X.K (.type (tyD d)) (.type c)=aa b)(h:∀tk,Q (.bool b) {s with toks:=tk}):
 av (UT X.prog X.w) A (call (.builtin "isinstance") [u,.type c]) Q E s:=by
 cases d with
 |aD=>cases r.aD;cases q;exact WJ PySem.W.kitx_none I.kIn V9 e (λz=>nomatch z) h|bl y=>cases r.bl;cases q;exact WJ PySem.W.kitx_bool I.kIn V9 e (λz=>nomatch z) h|int i=>cases r.int;obtain⟨t,rfl⟩:=q;exact WJ PySem.W.kitx_int I.kIn V9 e (λz=>nomatch z) h|str y=>obtain⟨rfl,_⟩:=r.str;obtain⟨t,rfl⟩:=q;exact WJ PySem.W.kitx_str I.kIn V9 e (λz=>nomatch z) h
 |aC L =>
  obtain⟨a,M,rfl,D,_⟩:=r.aC;cases q;obtain⟨B,_,⟨o,J,O,_⟩,_⟩:=I.tuple D;exact WJ PySem.W.kitx_tuple I.kIn ⟨o,J,O⟩ e (λz=>nomatch z) h
 |aB L =>
  obtain⟨a,M,rfl,D,_⟩:=r.aB;cases q;obtain⟨_,B,n,_,_,J⟩:=rdL I D;exact WJ PySem.W.kitx_list I.kIn ⟨_,J,rfl⟩ e (λz=>nomatch z) h
def Dc(K:Uv)(t:String):VY K (.type t) (.type t)=aa ah:=by unfold VY;rw[bJ (by simp)]
def Dd(h:vp b=aa (c,f))(d:aO):BT.biD b [d]=aa (.bl (f d)):=by
 cases b<;>simp only[vp]at h<;>try contradiction
 all_goals (cases h;rfl)
def De(h:vp b=aa (c,f))(K:Uv)(d:aO):VY K (.type (tyD d)) (.type c)=aa (f d):=by
 cases b<;>simp only[vp]at h<;>try contradiction
 all_goals (cases h;cases d)
 all_goals first
  |exact Dc K _
  |(simp only[tyD];unfold VY;rw[bK (by decide)];unfold PySem.W.kitCls;first|rfl|kernel_rfl|decide +kernel)
end
end BS
end
section
namespace BX
open PySem PySem.Spec PyProof.Rows
section
variable{prog:UM}{w:U6}{A:VE}{R:ZU->UA->Prop}{I:az}{fp wr:List az}{n:Nat}{P:Nat->aA->Prop}{St:Nat->aq->Prop}{kw:List (ay×aA)}
def Df(W:Walks prog w A.in1 I fp wr n P St)(bt:Nat->Nat->Bool)(C:CmpOf prog w A.in1 .Gt P bt)(S:az)(p:¬S∈fp):∀(k j:Nat)(s:UA)(J:aA)(c:Nat),n-(j+1)=k->j+1<=n->St (j+1) s.heap->P (YE bt j) J->s.heap.get? S=aa {cls:=.type "list",data:=.seq #[J,J] c} →
 (∀(v:aA)(h':aq)(tk:Nat),P (YE bt (n-1)) v->(∀b o,¬b∈wr->b≠S->s.heap.get? b=aa o->h'.get? b=aa o)->R (.ok (.ret v)) {s with heap:=h',toks:=tk}) →
 ak (UT prog w) A (.builtin "max.loop" ⟨[.ref I,.none,.ref S],kw⟩) R s:=by
 have V:¬S∈wr:=λz=>p (W.sub S z);intro k
 induction k with
 |zero =>
  intro j s J c r t st Y U Z;have x:j+1=n:=by omega
  refine codeAny_builtin F.entry_max_loop ?_;rw[Vp F.plain_max_loop _];unfold Builtin.«max.loop»;refine Uw (W9 U rfl ?_);refine Uw (XC (W.done s _ _ (x ▸ st) λh' tk L=>?_));have q:=L S _ V U;refine Uw (Wx q rfl (Uw (ZO (au ?_))) (by simp[Wz]) (by simp[Wz]));refine Z _ _ _ (by rw[show n-1=j by omega];exact Y) λb o D M e=>?_;show(h'.update S _).get? b=aa o;rw[Vk _ _ (Vu M)];exact L b o D e
 |succ k m =>
  intro j s J c r t st Y U Z;refine codeAny_builtin F.entry_max_loop ?_;rw[Vp F.plain_max_loop _];unfold Builtin.«max.loop»;refine Uw (W9 U rfl ?_);refine Uw (XC (W.item (j+1) s _ _ (by omega) st λv h' tk l O L=>?_));have q:=L S _ V U;refine Uw (au ?_);refine Uw (XC (Vw (Uw (C _ _ _ _ _ _ _ l Y ?_))));refine Uw (Vw (VM ?_));refine Uw (ZO (au ?_));have a:YE bt (j+1)=if bt (j+1) (YE bt j)then j+1 else YE bt j:=rfl
  cases g:bt (j+1) (YE bt j)with
  |true =>
   rw[bJ rfl];rw[g,bJ rfl]at a;refine Uw (Wx q rfl (Uw (ZO (au ⟨plainId_quiet F.plain_max_loop _,?_⟩))) (by simp[Wz]) (by simp[Wz]));refine m (j+1) _ v _ (by omega) (by omega) (W.frame _ _ _ O λb u o e=>?_) (by rw[a];exact l) (Vb _ q rfl) λd i B h f=>Z d i B h λb o D M e=>f b o D M ?_
   ·show(h'.update S _).get? b=aa o;rw[Vk _ _ (λz:S=b=>p (by rw[z];exact u))];exact e
   ·show(h'.update S _).get? b=aa o;rw[Vk _ _ (Vu M)];exact L b o D e
  |false =>
   rw[bK (by decide)];rw[g,bK (by decide)]at a;refine Uw (ZO (au ⟨plainId_quiet F.plain_max_loop _,?_⟩));exact m (j+1) _ J _ (by omega) (by omega) O (by rw[a];exact Y) q λd i B h f=>Z d i B h λb o D M e=>f b o D M (L b o D e)
def AG(W:Walks prog w A.in1 I fp wr n P St)(bt:Nat->Nat->Bool)(C:CmpOf prog w A.in1 .Gt P bt)(S:az)(L:¬S∈fp)(hn:0<n){s:UA}{c:Nat}(st:St 0 s.heap)(O:s.heap.get? S=aa {cls:=.type "list",data:=.seq #[] c})
(g:∀(v:aA)(h':aq)(tk:Nat),P (YE bt (n-1)) v->(∀b o,¬b∈wr->b≠S->s.heap.get? b=aa o->h'.get? b=aa o)->R (.ok (.ret v)) {s with heap:=h',toks:=tk}):
 ak (UT prog w) A (.builtin "max.loop" ⟨[.ref I,.none,.ref S],kw⟩) R s:=by
 have J:¬S∈wr:=λz=>L (W.sub S z);refine codeAny_builtin F.entry_max_loop ?_;rw[Vp F.plain_max_loop _];unfold Builtin.«max.loop»;refine Uw (W9 O rfl ?_);refine Uw (XC (W.item 0 s _ _ hn st λv h' tk d D M=>?_));have q:=M S _ J O;refine Uw (au ?_);refine Uw (Wx q rfl (au ⟨plainId_quiet F.plain_max_loop _,?_⟩) (by simp[Wz]) (by simp[Wz]));refine Df W bt C S L (n-1) 0 _ v _ rfl hn (W.frame _ _ _ D λb f o e=>?_) d (Vb _ q rfl) λY h B a Z=>g Y h B a λb o V U e=>Z b o V U ?_
 ·show(h'.update S _).get? b=aa o;rw[Vk _ _ (λz:S=b=>L (by rw[z];exact f))];exact e
 ·show(h'.update S _).get? b=aa o;rw[Vk _ _ (Vu U)];exact M b o V e
def AH{nm:ay}{d:aA}(W:Walks prog w A.in1 I fp wr 0 P St)(S:az){s:UA}{c:Nat}(st:St 0 s.heap)(B:s.heap.get? S=aa {cls:=.type "list",data:=.seq #[] c})
(D:∀(h':aq)(tk:Nat),(∀b o,¬b∈wr->s.heap.get? b=aa o->h'.get? b=aa o)->R (.ok (.ret d)) {s with heap:=h',toks:=tk}):
 ak (UT prog w) A (.builtin "max.loop" ⟨[.ref I,.none,.ref S],[(nm,d)]⟩) R s:=by
 refine codeAny_builtin F.entry_max_loop ?_;rw[Vp F.plain_max_loop _];unfold Builtin.«max.loop»;refine Uw (W9 B rfl ?_);refine Uw (XC (W.done s _ _ st λh' tk q=>?_));refine Uw (Yp (au ?_));exact D _ _ q
def xF(a d:aA):argsOk "max" ⟨[a],[(UN "default",d)]⟩:=by
 show _=_
 kernel_rfl
def AI{E:aA->UA->Prop}{s:UA}{l:az}{xs:Array (Int×Tok)}{d:aA}{Q:aA->UA->Prop}(V:A.handled=af)(U:s.heap.IsList l (aax xs))
(h1:0<xs.size->∀(v:aA)(h':aq)(tk:Nat),(aax xs)[YE (λi j=>decide (numAt xs i>numAt xs j)) (xs.size-1)]?=aa v->(∀b o,s.heap.get? b=aa o->h'.get? b=aa o)->Q v {s with heap:=h',toks:=tk})
(Y:xs.size=0->∀(h':aq)(tk:Nat),(∀b o,s.heap.get? b=aa o->h'.get? b=aa o)->Q d {s with heap:=h',toks:=tk}):
 av (UT prog w) A (call (.builtin "max") [.ref l] [(UN "default",d)]) Q E s:=by
 refine kmk_tree F.kind_max F.plain_max F.entry_max (xF _ _) ?_;refine Uw (wpAny_of_eq (a:=[af,aa d]) rfl ?_);refine Uw (au ?_);refine Uw (iter_intList U λJ e2 st lt M=>?_);subst e2;refine Uw (wpAny_newList (au ⟨plainId_quiet F.plain_max_loop _,?_⟩));have W:=Walks.list (prog:=prog) (w:=w) (A:=A.in1) V s.heap.objs.size l M (aax xs);have sz:(aax xs).size=xs.size:=by simp[aax]
 have O:¬(s.heap.push {cls:=.type "list_iterator",data:=.fields #[.ref l,.int 0 0]}).objs.size∈[s.heap.objs.size,l]:=λz=>VD _ (lt _ z);have L:∀{h':aq},(∀b o,¬b∈[s.heap.objs.size]->b≠(s.heap.push {cls:=.type "list_iterator",data:=.fields #[.ref l,.int 0 0]}).objs.size->((s.heap.push {cls:=.type "list_iterator",data:=.fields #[.ref l,.int 0 0]}).push {cls:=.type "list",data:=.seq #[]}).get? b=aa o->h'.get? b=aa o)->∀b o,s.heap.get? b=aa o->h'.get? b=aa o:=λ{h'} k b o e=>by have D:=UF e;refine k b o (λz=>?_) (λz=>?_) (Ux _ (Ux _ e));rw[List.mem_singleton.mp z]at D;exact VD _ D;rw[z,VP]at D;exact bL D (Nat.not_lt.mpr (VJ _))
 have B:=W.frame 0 _ (((s.heap.push {cls:=.type "list_iterator",data:=.fields #[.ref l,.int 0 0]}).push {cls:=.type "list",data:=.seq #[]})) st λb _ o e=>Ux _ e;rcases Nat.eq_zero_or_pos xs.size with z|z
 ·rw[sz,z]at W;exact AH W _ B (UG _ rfl) λh' tk k=>Y z h' tk (L λb o Z _ e=>k b o Z e)
 refine AG W (λi j=>decide (numAt xs i>numAt xs j)) (CmpOf.ints_gt _ λi v e=>ZQ e) _ O (by rw[sz];exact z) B (UG _ rfl) λv h' tk q k=>h1 z v h' tk (by rw[sz]at q;exact q) (L k)
end
end BX
end
section
namespace BS
open PySem PySem.Spec PyProof.Rows L2
variable{K:Uv}
noncomputable abbrev FT:=BT.FK->List aM->aL->Option (aM×aL)
inductive spF(P:UM)(w:U6)(K:Uv)(g:List aM->aL->Option (aM×aL))(vs:List V)(H:Hp)(Q:VK)(E:XK):Prop
 |mk(m:List az)(ws:List aM)(h:aL)(z:aM)(h':aL)(R:RH K m H h)(r:RWs P w K m H vs ws)(e:g ws h=aa (z,h'))(p:Post P w K m H z h' Q):spF P w K g vs H Q E
inductive tD(X:Cx)(F:FT)(G:ay->Option aM)(e:aP)(σ:L2.St)(H:Hp)(Q:VK):Prop
 |mk(m:List az)(s:aY)(h:aL)(z:aM)(h':aL)(R:RH X.K m H h)(S:RS X.prog X.w X.K m H σ s)(q:aN F G e s h=aa (z,h'))(p:Post X.prog X.w X.K m H z h' Q):tD X F G e σ H Q
inductive tDs(X:Cx)(F:FT)(G:ay->Option aM)(es:aV)(σ:L2.St)(H:Hp)(Q:List V->Hp->Prop):Prop
 |mk(m:List az)(s:aY)(h:aL)(zs:List aM)(h':aL)(R:RH X.K m H h)(S:RS X.prog X.w X.K m H σ s)(q:aX F G es s h=aa (zs,h'))(p:∀vs H' m',Ext m H m' H'->RH X.K m' H' h'->RWs X.prog X.w X.K m' H' vs zs->Q vs H'):tDs X F G es σ H Q
inductive tDT(X:Cx)(F:FT)(G:ay->Option aM)(e:aP)(σ:L2.St)(H:Hp)(Q:Bool->Hp->Prop):Prop
 |mk(m:List az)(s:aY)(h:aL)(b:Bool)(h':aL)(R:RH X.K m H h)(S:RS X.prog X.w X.K m H σ s)(q:aN F G e s h=aa (.p (.bl b),h'))(p:∀H' m',Ext m H m' H'->RH X.K m' H' h'->Q b H'):tDT X F G e σ H Q
def vC(P:UM)(w:U6)(K:Uv)(mg:ay->Option aA)(base:aq)(k L:Nat)(g:List aM->aL->Option (aM×aL)):Prop :=
 ∀(A:VE)(q:List Env)(s:UA)(H:Hp) (f:az) (J:List aA) (D B:List V) (m:List az) (ws:List aM) (O:List bC) (h:aL) (z:aM) (M:aL) (Q:VK) (E:XK),fG k A->oY P w K mg base A q s H->dw D J →
  RH K m H h->RWs P w K m H D ws->BT.noC ws=ah->jK m H f L B->RCs K m H B O->g (ws++O.map bC.w) h=aa (z,M)->Post P w K m H z M Q->ak (UT P w) A (.call (.ref f) ⟨J,[]⟩) (CR CX0 q P w H s Q E) s
structure LX(X:Cx)(x:ay):Prop where
 mem:x∈BT.gF
 ex:∃c P,Vs X.K x=aa (c,P)/\X.env.code=.ref c/\PySem.W.CodeHd X.base c P/\∀y∈BT.gF,∀c2,Vs X.K y=aa (c2,P)->y=x
 ql:X.env.qual=x++".<locals>."
 bm:∃bm ob,X.mg "__builtins__"=aa (.ref bm)/\bm≠Wn/\X.base.get? bm=aa ob/\ob.cls=.type "module"/\ob.dict=aa Wn/\ob.data=.plain
noncomputable def OE:List ay:=["len","abs","int","list","tuple","isinstance","str","bool","range","reversed","enumerate","zip","min","max","sorted","sum","all","any","set","ValueError","dict"]
inductive OkC(P:UM)(w:U6)(K:Uv)(mg:ay->Option aA)(base:aq)(A:VE)(f:ay)(sp:Sp):Prop
 |mk(q:az)(fd:V8)(ps:List ay)(k:Nat)(h1:mg f=aa (.ref q))(h2:VH K (.ref q)=ah)(D:Binds K fd ps [])(J:fG k A)(B:jn P w K mg base CX0 k q fd ps sp):OkC P w K mg base A f sp
inductive OkM(P:UM)(w:U6)(K:Uv)(mg:ay->Option aA)(base:aq)(A:VE)(CX:CXT)(c m:ay)(sp:Sp):Prop
 |mk(C g:az)(fd:V8)(ps:List ay)(k:Nat)(h1:nM K c C)(h2:z7 K C m g)(B:Binds K fd ps [])(q:fG k A)(D:jn P w K mg base CX k g fd ps sp):OkM P w K mg base A CX c m sp
inductive OkN(P:UM)(w:U6)(K:Uv)(mg:ay->Option aA)(base:aq)(A:VE)(c:ay)(sp:Sp):Prop
 |mk(C g:az)(fd:V8)(ps:List ay)(k:Nat)(h1:nM K c C)(h2:mg c=aa (.ref C))(B:Mk K C g)(D:Binds K fd ps [])(q:fG (k+1) A)(J:jn P w K mg base CX0 k g fd ps sp):OkN P w K mg base A c sp
structure Ok(X:Cx)(F:FT)(G:ay->Option aM)(sc:Vf)(N:List ay):Prop where
 hsc:X.env.scope=sc
 hN:X.N=N
 nd:X.N.Nodup
 calm:gQ N=ah->X.calm=ah
 hu:X.A.units+150<cLine
 own:ZX (UT X.prog X.w) X.A X.env X.xe
 glob:∀x z,G x=aa z->∃u v,X.mg x=aa u/\RelV v u/\∀m H,RW X.prog X.w X.K m H v z
 call:∀(f:ay) ws h r,F (.f f) ws h=aa r->OkC X.prog X.w X.K X.mg X.base X.A f (spF X.prog X.w X.K (F (.f f)))
 aF:∀(c m:ay) ws h r,F (.m c m) ws h=aa r->OkM X.prog X.w X.K X.mg X.base X.A CX0 c m (spF X.prog X.w X.K (F (.m c m)))
 mkc:∀(c:ay) ws h r,F (.m c "__init__") ws h=aa r->OkN X.prog X.w X.K X.mg X.base X.A c (spF X.prog X.w X.K (F (.m c "__init__")))
 blt:∀x∈OE,X.mg x=af
 lam:∀(L:Nat) ws h r,F (.l L) ws h=aa r->∃k,fG k X.A/\vC X.prog X.w X.K X.mg X.base k L (F (.l L))
 lamx:(∀x,X.fn x=ah)->∀x,N.contains (bE x)=ah->LX X x
def PE.weak{X:Cx}{e:Uy}{t t':TE}(h:PE X e t)(q:∀σ H Q,t' σ H Q->t σ H Q):PE X e t':=λB s σ H Q I hw=>h B s σ H Q I (q _ _ _ hw)
def PT.weak{X:Cx}{e:Uy}{t t':TT}(h:PT X e t)(q:∀σ H Q,t' σ H Q->t σ H Q):PT X e t':=λB s σ H Q I hw=>h B s σ H Q I (q _ _ _ hw)
def PW.weak{X:Cx}{e:Uy}{t t':TT}(h:PW X e t)(q:∀σ H Q,t' σ H Q->t σ H Q):PW X e t':=λD B s σ H Q I hw=>h D B s σ H Q I (q _ _ _ hw)
def PA.weak{X:Cx}{es:List Uy}{t t':TA}(h:PA X es t)(q:∀σ H Q,t' σ H Q->t σ H Q):PA X es t':=λB D s σ H Q I hw=>h B D s σ H Q I (q _ _ _ hw)
def c5{e:Uy}{es:List Uy}{env:Env}(h:noStar e=ah):U9 (e::es) env=(ai,eval e env)::U9 es env:=by cases e<;>first|rfl|exact aS h
def vD{b:Uy}(h:kH b=ah):yy b:=λo i=>by cases b<;>first|rfl|exact aS h
def jA{o:Uy}{name:ay}{env:Env}(h:dO o=ah):XY o name env (eval o env)=eval o env:=by
 cases o with
 |Call fn q ks p =>
  cases fn with
  |Attribute _ _ _=>rfl|_=>exact aS h
 |_=>first|rfl|exact cX h
def dg:List Uy->Bool
 |[]=>ah|e::es=>noStar e&&dg es
theorem dI{pos:Pos}{env:Env}:∀{es:List Uy},dg es=ah->(WA pos (U9 es env)).any (·.1)=ai
 |[],_=>rfl
 |e::es,h=>by simp only[dg,Uz]at h;rw[c5 h.1];show(ai||(WA pos (U9 es env)).any (·.1))=ai;rw[dI h.2];rfl
theorem jW{pos:Pos}{env:Env}:∀{es:List Uy},dg es=ah->(WA pos (U9 es env)).all (λx=>!x.1)=ah
 |[],_=>rfl
 |e::es,h=>by simp only[dg,Uz]at h;rw[c5 h.1];show(!ai&&(WA pos (U9 es env)).all (λx=>!x.1))=ah;rw[jW h.2];rfl
def OF:Tq->Prop
 |.es _ q=>dg q=ah|_=>True
def Dg{sc:Vf}{N:List ay}{t:Tq}(h:CQ sc N t):OF t:=by
 induction h with
 |es_nil=>exact rfl
 |es_cons B _ _ _ q =>
  show(noStar _&&dg _)=ah;rw[Uz];exact⟨B,q⟩
 |_=>exact V9
def iE{sc:Vf}{N:List ay}{as:aV}{es:List Uy}(h:CEs sc N as es):dg es=ah:=Dg h
noncomputable def noM:Tq->Prop
 |.es (.cons _ _) []=>False|_=>True
def KH{sc:Vf}{N:List ay}{t:Tq}(h:CQ sc N t):noM t:=by
 induction h with
 |_=>exact V9
def pX{sc:Vf}{N:List ay}{a:aP}{r:aV}(h:CEs sc N (.cons a r) []):False:=KH h
section
variable{X:Cx}{F:FT}{G:ay->Option aM}{sc:Vf}{N:List ay}
def lB{f:BT.OpW}{e a b:aP}(g:∀s h,aN F G e s h=bF (aN F G a s h) (BT.k2 (aN F G b s) f))(σ:L2.St)(H:Hp)(Q:VK)(q:tD X F G e σ H Q):
 tOp (rOp X.prog X.w X.K f) (tD X F G a) (tD X F G b) σ H Q:=by
 obtain⟨m,s,h,z,i,R,S,M,O⟩:=q;rw[g]at M;obtain⟨x,L,e1,e2⟩:=c6 M;simp only[BT.k2]at e2;obtain⟨y,J,k,j⟩:=c6 e2;refine⟨m,s,h,x,L,R,S,e1,λv r d D n Z=>?_⟩;refine⟨d,s,L,y,J,n,S.ext D,k,λu p m2 B R2 Y=>?_⟩;exact⟨m2,J,x,y,z,i,R2,Z.ext B,Y,j,λV o c U l W=>O V o c ((D.trans B).trans U) l W⟩
def pY{e:aP}{t:TE}(h:∀σ H Q,tD X F G e σ H Q->t σ H Q)(σ:L2.St)(H:Hp)(Q:Bool->Hp->Prop)(q:tDT X F G e σ H Q):Bw t σ H Q:=by
 obtain⟨m,s,J,b,L,R,S,M,B⟩:=q;refine h σ H _ ⟨m,s,J,_,L,R,S,M,λv U D x O r=>?_⟩;cases r with
 |p r=>cases r;exact⟨b,rfl,B U D x O⟩
def opB{o:bA}{q:X4}(h:IL o q=ah):OpR X (V6 q) (rOp X.prog X.w X.K (BT.tE o)):=by rw[bP h];cases o;exact Kr;exact Ks;exact Kv;exact Ku;exact Gi
def IR{vs:List (Key×aA)}{k:ay}:∀{es:List (ay×V)}{kvs:List (ay×aO)}{K:Uv},RDk K es kvs->KV (es.map λq=>((Sum.inr q.1:Key),q.2)) vs->(valueAt vs (Sum.inr k)).isSome=(BT.fz k kvs).isSome:=by
 intro es
 induction es generalizing vs with
 |nil =>
  intro kvs K r q;cases r;cases q;rfl
 |cons p es O =>
  intro kvs K r q;cases r with
  |@cons x v dd _ kvs r t =>
   cases q with
   |@cons p z Z Y L J =>
    obtain⟨W,U⟩:=z;obtain⟨B,D⟩:=L;simp only at B D;subst B;rw[BT.fz]
    by_cases c:k=x
    ·subst c;simp[valueAt]
    ·rw[bK c];have M:¬((Sum.inr x:Key)=Sum.inr k):=λz=>c (Sum.inr.inj z).symm;have:=O t J;simp only[valueAt]at this⊢;rw[XJ (by simpa using M)];exact this
def opC(O:Ok X F G sc N){o:BT.Cm}{i:CmpOp}(h:Ge o i=ah):OpR X (Vt i) (rOp X.prog X.w X.K (bI o)):=by
 rw[bP h];cases o;exact OA O.hu;exact OB O.hu;exact tX Nn rfl rfl λ_ _=>rfl;exact tX Np rfl rfl λ_ _=>rfl;exact tX Nq rfl rfl λ_ _=>rfl;exact tX Nr rfl rfl λ_ _=>rfl;exact Kw;exact Gm
 ·refine Kx O.hu ?_;intro B x b m H v u z A y r s Q I M U J L e q;cases B with
  |t B =>
   cases x with
   |p d =>
    cases d<;>first|exact cX e|skip
    ·obtain rfl:=UK e;cases L with
     |@k a j _ V L =>
      cases U;cases J with
      |p J =>
       cases J;cases M;obtain⟨W,c,g,dd⟩:=V;obtain⟨f,C,fn⟩:=map_none (dd s.heap I.kIn);refine Xm (knd:=optKind X.prog X.w) (k:=af) rfl W C ?_;rw[fn];exact⟨.bl _,H,I.tok _,rfl,q⟩
    obtain rfl:=UK e;cases L with
    |@k a j _ V L =>
     cases U;cases J with
     |p J =>
      cases J with
      |str x ok =>
       obtain⟨t,rfl⟩:=M;obtain⟨W,c,g,dd⟩:=V;have D:=dd s.heap I.kIn;refine Xm (knd:=dD X.prog X.w) (iU _ _ _ t) W D.mapOf ?_;rw[IR L g];exact⟨.bl _,H,I.tok _,rfl,q⟩
   |_=>exact cX e
  |l B =>
   cases x with
   |p d =>
    obtain⟨k,Z,Y⟩:=dz (show(BT.jq d).map (λk=>(BT.dR B k).isSome)=aa b from e);subst Y;cases L with
    |@kl a ob ws _ E L =>
     cases U;cases J with
     |p J =>
      have P:=pU J Z;subst P;cases tY I (.inr ⟨_,E.1⟩) L k with
      |no c dd n Z Y =>
       refine Xm (knd:=dD X.prog X.w) (o7 M) n dd.mapOf ?_;rw[Y];exact⟨.bl _,H,I.tok _,rfl,by rw[Z]at q;exact q⟩
      |is c dd n x R S Z Y g3 T =>
       refine Xm (knd:=dD X.prog X.w) (o7 M) n dd.mapOf ?_;rw[Y];exact⟨.bl _,H,I.tok _,rfl,by rw[Z]at q;exact q⟩
   |_=>exact cX e
  |_=>exact cX e
 ·refine Gn O.hu ?_;intro B x b m H v u z A y r s Q I M U J L e q;cases B with
  |t B =>
   cases x with
   |p d =>
    cases d<;>first|exact cX e|skip
    obtain rfl:=UK e;cases L with
    |@k a j _ V L =>
     cases U;cases J with
     |p J =>
      cases J with
      |str x ok =>
       obtain⟨t,rfl⟩:=M;obtain⟨W,c,g,dd⟩:=V;have D:=dd s.heap I.kIn;refine wpAny_notIn_of (knd:=dD X.prog X.w) (iU _ _ _ t) W D.mapOf ?_;rw[IR L g];exact⟨.bl _,H,I.tok _,rfl,q⟩
   |_=>exact cX e
  |_=>exact cX e
end
section
variable{X:Cx}{F:FT}{G:ay->Option aM}{sc:Vf}{N:List ay}
def Gw(O:Ok X F G sc N)(x:ay):X.env.kindOf x=sc.names.lookup x:=by rw[←O.hsc];rfl
def gS(h:fE x=ah):(x==("__debug__":ay))=ai/\(x==("__classdict__":ay))=ai/\x≠"__name__":=by simp only[fE,Uz,W1]at h;exact⟨h.1.1,h.1.2,λe=>by rw[e]at h;simp at h⟩
def d7(O:Ok X F G sc N)(h:dW sc x=ah):Gl X x:=by show X.env.kindOf x=_;rw[Gw O];exact bQ h
def Dh(O:Ok X F G sc N)(h:nL sc x=ah):Vis X.env.scope x:=by
 rw[O.hsc];unfold nL at h;unfold Vis;cases e:sc.names.lookup x with
 |none=>rw[e]at h;exact aS h
 |some k=>rw[e]at h;cases k<;>first|(exact .inl rfl)|(exact .inr (.inl rfl))|(exact .inr (.inr rfl))|exact aS h
def tZ(O:Ok X F G sc N)(h2:N[i]?=aa y)(M:nL sc y=ah)(L:fE y=ah):PE X (.Name y pos) (tD X F G (.v i)):=by
 obtain⟨V,U,_⟩:=gS L;refine PE.weak (Bj (i:=i) (by rw[O.hN];exact h2) (Dh O M) V U) fun W H Q q=>?_;obtain⟨m,s,h,z,Y,R,S,B,D⟩:=q;simp only[aN]at B;split at B
 ·rename_i w e;cases B;obtain⟨v,J,r⟩:=S.get i _ e;exact⟨v,J,D v H m (.refl _ _) R r⟩
 exact cX B
def Gx(h:IM d c=ah):PE X (.Constant c k pos) (tD X F G (.j d)):=by
 have fin:∀{v:V},(∀m H,RD X.K m H v d)->∀B H Q,tD X F G (.j d) B H Q->tC v B H Q:=λr B H Q q=>by obtain⟨m,s,h,z,L,R,S,D,J⟩:=q;simp only[aN]at D;cases D;exact J _ H m (.refl _ _) R (.p (r m H))
 cases d<;>cases c<;>first|exact aS h|skip
 exact PE.weak Jk (fin λ_ _=>.aD);cases bQ h;exact PE.weak M3 (fin λ_ _=>.bl _);cases bQ h;exact PE.weak wG (fin λ_ _=>.int _)
 ·have h:=Bool.and_eq_true_iff.mp h;cases bQ h.1;exact PE.weak Jl (fin λ_ _=>.str _ h.2)
def Gy(O:Ok X F G sc N)(h2:dW sc y=ah)(U:fE y=ah):PE X (.Name y pos) (tD X F G (.aE y)):=by obtain⟨V,Z,_⟩:=gS U;intro J s D H Q I q;obtain⟨m,W,h,z,Y,R,S,B,L⟩:=q;simp only[aN]at B;obtain⟨w,e1,e2⟩:=dz B;cases e2;obtain⟨u,v,M,r,rw⟩:=O.glob _ _ e1;exact yo (d7 O h2) M r V J s D H Q I (L v H m (.refl _ _) R (rw m H))
def IS(Y:∀s h,aN F G e s h=bF (aN F G a s h) k)(q:tD X F G e σ H Q)
(h1:∀m h x z h' v H1,RH X.K m H1 h->RW X.prog X.w X.K m H1 v x->k x h=aa (z,h')->Post X.prog X.w X.K m H1 z h' Q->R' v H1):tD X F G a σ H R':=by
 obtain⟨m,s,h,z,h',R,S,B,D⟩:=q;rw[Y]at B;obtain⟨x,g,e1,e2⟩:=c6 B;exact⟨m,s,h,x,g,R,S,e1,λv H1 W L b U=>h1 W g x z h' v H1 b U e2 λM c V J Z O=>D M c V (L.trans J) Z O⟩
def oG(Y:∀s h,aN F G e s h=bF (aX F G as s h) k)(q:tD X F G e σ H Q)
(h1:∀m h xs z h' vs H1,RH X.K m H1 h->RWs X.prog X.w X.K m H1 vs xs->k xs h=aa (z,h')->Post X.prog X.w X.K m H1 z h' Q->R' vs H1):tDs X F G as σ H R':=by
 obtain⟨m,s,h,z,h',R,S,B,D⟩:=q;rw[Y]at B;obtain⟨x,g,e1,e2⟩:=c6 B;exact⟨m,s,h,x,g,R,S,e1,λv H1 W L a U=>h1 W g x z h' v H1 a U e2 λM b V J Z O=>D M b V (L.trans J) Z O⟩
def ty_list(R:RH X.K m H h)(r:RW X.prog X.w X.K m H v (.r n))(ok:BT.tF (.r n) h=ah):tyV X.K "list" v H:=by
 cases r with
 |@r a _ hn =>
  obtain⟨q,e⟩:=Option.isSome_iff_exists.mp ok;obtain⟨B,e,_⟩:=R.cell n a q hn e;exact .inl ⟨rfl,B,.inl (.inl e)⟩
def yT(e:BT.kMe m ea x h=aa r):BT.tF x h=ah/\bF (ea h) (aU m x)=aa r:=by unfold BT.kMe at e;split at e;rename_i c;exact⟨c,e⟩;exact cX e
def Ss(B:m=.append\/m=.pop\/m=.extend)(e:aU m x ws h=aa (z,h')):∃n,x=.r n:=by
 cases x with
 |r n=>exact⟨n,rfl⟩
 |p d =>
  rcases B with rfl|rfl|rfl<;>cases ws<;>rw[yR]at e<;>(split at e<;>(try exact cX e))<;>exact cX e
 |k q =>
  rcases B with rfl|rfl|rfl<;>cases ws<;>(first|exact cX e|simp[aU]at e)
 |x _ =>
  rcases B with rfl|rfl|rfl<;>cases ws<;>(first|exact cX e|simp[aU]at e)
 |c _ _ =>
  rcases B with rfl|rfl|rfl<;>cases ws<;>(first|exact cX e|simp[aU]at e)
 |o q =>
  rcases B with rfl|rfl|rfl<;>cases ws<;>(first|exact cX e|simp[aU]at e)
end
section
def ua{X:Cx}{e a:aP}{k:aY->aM->aL->Option (aM×aL)}(b:∀s h,aN F G e s h=bF (aN F G a s h) (k s)){σ:L2.St}{H:Hp}{Q:VK}(q:tD X F G e σ H Q){J:V->Hp->Prop}
(h1:∀m s h x z h' v H1,RH X.K m H1 h->RS X.prog X.w X.K m H1 σ s->RW X.prog X.w X.K m H1 v x->k s x h=aa (z,h')->Post X.prog X.w X.K m H1 z h' Q->J v H1):tD X F G a σ H J:=by
 obtain⟨m,s,h,z,h',R,S,D,L⟩:=q;rw[b]at D;obtain⟨x,g,e1,e2⟩:=c6 D;exact⟨m,s,h,x,g,R,S,e1,λv H1 Z B d W=>h1 Z s g x z h' v H1 d (S.ext B) W e2 λO f Y M c U=>L O f Y (B.trans M) c U⟩
def KI{X:Cx}{e a:aP}{k:aY->Bool->aL->Option (aM×aL)}{kk:aY->aM->aL->Option (aM×aL)}(Z:∀s h,aN F G e s h=bF (aN F G a s h) (kk s))
(Y:∀s x h r,kk s x h=aa r->∃b,x=.p (.bl b)/\k s b h=aa r){σ:L2.St}{H:Hp}{Q:VK}(q:tD X F G e σ H Q){J:Bool->Hp->Prop}
(h1:∀m s h b z h' H1,RH X.K m H1 h->RS X.prog X.w X.K m H1 σ s->k s b h=aa (z,h')->Post X.prog X.w X.K m H1 z h' Q->J b H1):tDT X F G a σ H J:=by
 obtain⟨m,s,h,z,h',R,S,D,L⟩:=q;rw[Z]at D;obtain⟨x,g,e1,e2⟩:=c6 D;obtain⟨b,rfl,c⟩:=Y _ _ _ _ e2;exact⟨m,s,h,b,g,R,S,e1,λH1 W B f=>h1 W s g b z h' H1 f (S.ext B) c λO i V M d U=>L O i V (B.trans M) d U⟩
def m7(r:RW P w K m H v (.p (.bl b))):v=.bl b:=by cases r with|p r=>cases r;rfl
def yU(e:BT.F2 eb x h=aa r):∃b,x=.p (.bl b)/\(if b=ah then eb h else aa (.p (.bl ai),h))=aa r:=by
 cases x with
 |p d =>
  cases d<;>simp only[BT.F2]at e<;>try contradiction
  exact⟨_,rfl,e⟩
 |_=>exact cX e
def Di(e:BT.kOr eb x h=aa r):∃b,x=.p (.bl b)/\(if b=ah then aa (.p (.bl ah),h)else eb h)=aa r:=by
 cases x with
 |p d =>
  cases d<;>simp only[BT.kOr]at e<;>try contradiction
  exact⟨_,rfl,e⟩
 |_=>exact cX e
def Gz(e:BT.F3 ea eb x h=aa r):∃b,x=.p (.bl b)/\(if b=ah then ea h else eb h)=aa r:=by
 cases x with
 |p d =>
  cases d<;>simp only[BT.F3]at e<;>try contradiction
  exact⟨_,rfl,e⟩
 |_=>exact cX e
def yV(e:BT.F0 x h=aa r):∃b,x=.p (.bl b)/\r=(.p (.bl (!b)),h):=by
 cases x with
 |p d =>
  cases d<;>simp only[BT.F0]at e<;>try contradiction
  cases e;exact⟨_,rfl,rfl⟩
 |_=>exact cX e
def GA(e:BT.FZ x h=aa r):∃i,x=.p (.int i)/\r=(.p (.int (-i)),h):=by
 cases x with
 |p d =>
  cases d<;>simp only[BT.FZ]at e<;>try contradiction
  cases e;exact⟨_,rfl,rfl⟩
 |_=>exact cX e
def yW{X:Cx}{a b:aP}(σ:L2.St)(H:Hp)(Q:VK)(q:tD X F G (.and a b) σ H Q):Iw (tD X F G a) (tD X F G b) σ H Q:=by
 refine ua (k:=λs=>BT.F2 (aN F G b s)) (λs h=>by simp only[aN]) q λm s h x z D v J R S r e B=>?_;obtain⟨c,rfl,e2⟩:=yU e;refine⟨c,m7 r,?_⟩;cases c with
 |true=>rw[bJ rfl]at e2⊢;exact⟨m,s,h,z,D,R,S,e2,B⟩|false=>rw[bK (by decide)]at e2⊢;cases e2;exact B.here R (.bl _)
def Dj{X:Cx}{a b:aP}(σ:L2.St)(H:Hp)(Q:VK)(q:tD X F G (.or a b) σ H Q):M6 (tD X F G a) (tD X F G b) σ H Q:=by
 refine ua (k:=λs=>BT.kOr (aN F G b s)) (λs h=>by simp only[aN]) q λm s h x z D v J R S r e B=>?_;obtain⟨c,rfl,e2⟩:=Di e;refine⟨c,m7 r,?_⟩;cases c with
 |true=>rw[bJ rfl]at e2⊢;cases e2;exact B.here R (.bl _)|false=>rw[bK (by decide)]at e2⊢;exact⟨m,s,h,z,D,R,S,e2,B⟩
def yX(σ:L2.St)(H:Hp)(Q:Bool->Hp->Prop)(q:tDT X F G (.and a b) σ H Q):M4 (tDT X F G a) (tDT X F G b) σ H Q:=by
 obtain⟨m,s,h,c,V,R,S,M,J⟩:=q;simp only[aN]at M;obtain⟨x,g,e1,e2⟩:=c6 M;obtain⟨d,rfl,B⟩:=yU e2;refine⟨m,s,h,d,g,R,S,e1,λY L D O=>?_⟩;cases d with
 |true=>rw[bJ rfl]at B⊢;exact⟨L,s,g,c,V,O,S.ext D,B,λW m2 U R2=>J W m2 (D.trans U) R2⟩|false=>rw[bK (by decide)]at B⊢;cases B;exact J Y L D O
def Dl(σ:L2.St)(H:Hp)(Q:Bool->Hp->Prop)(q:tDT X F G (.or a b) σ H Q):tOr (tDT X F G a) (tDT X F G b) σ H Q:=by
 obtain⟨m,s,h,c,V,R,S,M,J⟩:=q;simp only[aN]at M;obtain⟨x,g,e1,e2⟩:=c6 M;obtain⟨d,rfl,B⟩:=Di e2;refine⟨m,s,h,d,g,R,S,e1,λY L D O=>?_⟩;cases d with
 |true=>rw[bJ rfl]at B⊢;cases B;exact J Y L D O|false=>rw[bK (by decide)]at B⊢;exact⟨L,s,g,c,V,O,S.ext D,B,λW m2 U R2=>J W m2 (D.trans U) R2⟩
def GB(σ:L2.St)(H:Hp)(Q:Bool->Hp->Prop)(q:tDT X F G (.not a) σ H Q):M5 (tDT X F G a) σ H Q:=by obtain⟨m,s,h,c,M,R,S,B,D⟩:=q;simp only[aN]at B;obtain⟨x,g,e1,e2⟩:=c6 B;obtain⟨d,rfl,O⟩:=yV e2;cases O;exact⟨m,s,h,d,M,R,S,e1,λV L J U=>D V L J U⟩
def GC{X:Cx}{a:aP}(σ:L2.St)(H:Hp)(Q:VK)(q:tD X F G (.not a) σ H Q):Iz (tD X F G a) σ H Q:=by refine ua (k:=λs=>BT.F0) (λs h=>by simp only[aN]) q λm s h x z D v J R S r e B=>?_;obtain⟨c,rfl,e2⟩:=yV e;cases e2;exact⟨c,m7 r,B.here R (.bl _)⟩
def KJ{X:Cx}{c a b:aP}(σ:L2.St)(H:Hp)(Q:VK)(q:tD X F G (.ite c a b) σ H Q):tIf (tDT X F G c) (tD X F G a) (tD X F G b) σ H Q:=by
 refine KI (k:=λs t h=>if t=ah then aN F G a s h else aN F G b s h) (kk:=λs=>BT.F3 (aN F G a s) (aN F G b s)) (λs h=>by simp only[aN]) (λs x h r e=>Gz e) q λm s h t z D J R S e B=>?_;cases t with
 |true=>rw[bJ rfl]at e⊢;exact⟨m,s,h,z,D,R,S,e,B⟩|false=>rw[bK (by decide)]at e⊢;exact⟨m,s,h,z,D,R,S,e,B⟩
def KM{X:Cx}{a:aP}(σ:L2.St)(H:Hp)(Q:VK)(q:tD X F G (.neg a) σ H Q):tUn (rU λi=>.int (-i)) (tD X F G a) σ H Q:=by refine ua (k:=λs=>BT.FZ) (λs h=>by simp only[aN]) q λm s h x z D v J R S r e B=>?_;obtain⟨c,rfl,e2⟩:=GA e;cases e2;cases r with|p r=>cases r;exact⟨c,rfl,B.here R (.int _)⟩
def vE(σ:L2.St)(H:Hp)(Q:VK)(q:tD X F G (.chain o o' a b c) σ H Q):
 wM (rOp X.prog X.w X.K (bI o)) (rOp X.prog X.w X.K (bI o')) (tD X F G a) (tD X F G b) (tD X F G c) σ H Q:=by
 obtain⟨m,s,h,z,h',R,S,T,n⟩:=q;simp only[aN]at T;obtain⟨x,P,e1,e2⟩:=c6 T;simp only[BT.k2]at e2;obtain⟨y,L,e3,B⟩:=c6 e2;refine⟨m,s,h,x,P,R,S,e1,λv H1 m1 Y R1 r1=>?_⟩;refine⟨m1,s,P,y,L,R1,S.ext Y,e3,λu H2 m2 W R2 C=>?_⟩;unfold BT.oCh at B;cases g:aZ x L with
 |none=>rw[g]at B;exact cX B
 |some d =>
  cases y with
  |p J =>
   rw[g]at B;simp only at B;have N:∀(o:BT.Cm)(i:aM)(O:aL) dd,aZ i O=aa dd->∀U D,aZ U O=aa D->bI o i U O=(BT.gA o dd D).map λz=>(.p (.bl z),O):=by
    intro o i O dd E U D j;unfold bI;cases U with
    |p _=>simp only[E,j]|r _=>simp only[E,j]|_=>exact cX j
   cases l:BT.gA o d J with
   |none=>rw[l]at B;exact cX B
   |some t =>
    rw[l]at B;refine⟨m2,L,x,.p J,.p (.bl t),L,R2,r1.ext W,C,by rw[N o x L d g (.p J) J rfl,l];rfl,λv3 H3 I V R3 r3=>⟨t,m7 r3,?_⟩⟩;cases t with
    |false =>
     rw[bK (by decide)];cases B;exact n _ H3 I ((Y.trans W).trans V) R3 (.p (.bl _))
    |true =>
     rw[bJ rfl];obtain⟨Z,e,e5,M⟩:=c6 B;refine⟨I,s,L,Z,e,R3,((S.ext Y).ext W).ext V,e5,λv4 H4 m4 A R4 r4=>?_⟩;unfold BT.N1 at M;cases k:aZ Z e with
     |none=>rw[k]at M;exact cX M
     |some f =>
      rw[k]at M;simp only at M;refine⟨m4,e,.p J,Z,z,h',R4,(C.ext V).ext A,r4,by rw[N o' (.p J) e J rfl Z f k];exact M,λv5 H5 m5 x5 R5 r5=>n v5 H5 m5 ((((Y.trans W).trans V).trans A).trans x5) R5 r5⟩
  |_=>rw[g]at B;exact cX B
def KN{lo:aV}(t:∀σ H (Q:Option Int->Hp->Prop),(∃m s h l zs h',RH X.K m H h/\RS X.prog X.w X.K m H σ s/\aX F G lo s h=aa (zs,h')/\(bx zs).bind BT.sW=aa l/\∀H' m',Ext m H m' H'->RH X.K m' H' h'->Q l H')->tl σ H Q)
(y:∀σ H (Q:Option Int->Hp->Prop),(∃m s h l zs h',RH X.K m H h/\RS X.prog X.w X.K m H σ s/\aX F G hi s h=aa (zs,h')/\(bx zs).bind BT.sW=aa l/\∀H' m',Ext m H m' H'->RH X.K m' H' h'->Q l H')->th σ H Q)
(σ:L2.St)(H:Hp)(Q:VK)(q:tD X F G (.n a lo hi) σ H Q):tSl (rSl X.prog X.w X.K) (tD X F G a) tl th σ H Q:=by
 obtain⟨m,s,h,z,h',R,S,c,f⟩:=q;simp only[aN]at c;obtain⟨x,Z,e1,e2⟩:=c6 c;simp only[BT.N4]at e2;obtain⟨W,Y,N,e⟩:=c6 e2;simp only[BT.N3]at e;obtain⟨V,A,I,B⟩:=c6 e;unfold BT.N2 at B;cases D:aZ x A with
 |none=>rw[D]at B;exact cX B
 |some d =>
  cases J:(bx W).bind BT.sW with
  |none=>rw[D,J]at B;exact cX B
  |some l =>
   cases O:(bx V).bind BT.sW with
   |none=>rw[D,J,O]at B;exact cX B
   |some u =>
    rw[D,J,O]at B;simp only at B;obtain⟨b,E,C⟩:=dz B;cases C;refine⟨m,s,h,x,Z,R,S,e1,λv H1 r M R1 k=>t σ H1 _ ⟨r,s,Z,l,W,Y,R1,S.ext M,N,J,λH2 m2 L R2=>y σ H2 _ ⟨m2,s,Y,u,V,h',R2,(S.ext M).ext L,I,O,λH3 p U T=>?_⟩⟩⟩;exact⟨p,h',x,d,b,T,(k.ext L).ext U,D,E,λi H5 o g P j=>f i H5 o (((M.trans L).trans U).trans g) P j⟩
end
section
def yY(J:sp=spF X.prog X.w X.K (F (.f f)))(q:tD X F G (.call f as) σ H Q):BH sp [] E0 (tDs X F G as) σ H Q:=by subst J;refine oG (k:=λws h=>F (.f f) ws h) (λs h=>by simp only[aN]) q λm h D z L M O R r e B=>?_;rw[U8];exact⟨m,D,h,z,L,R,r,e,B⟩
def kL(q:tDs X F G .nil σ H Q):BD σ H Q:=by obtain⟨m,s,h,J,L,R,S,B,D⟩:=q;simp only[aX]at B;cases B;exact D [] H m (.refl _ _) R .nil
def Dm(O:Ok X F G sc N)(W:dW sc f=ah)(hn:fE f=ah)(Y:CEs sc N as es)(c:PA X es (tDs X F G as)):
 PE X (.Call (.Name f p) es [] pos) (tD X F G (.call f as)):=by
 have B:=iE Y;intro J s D H Q I q;have L:=q;obtain⟨m,g,h,z,l,R,S,b,d⟩:=q;simp only[aN]at b;obtain⟨ws,j,e1,e2⟩:=c6 b;obtain⟨o,n,i,k,U,V,Z,M,ok⟩:=O.call _ _ _ _ e2;cases es with
 |nil =>
  cases as with
  |cons a r=>exact(pX Y).elim|nil=>exact(PE.weak (BK ok M (d7 O W) U V Z .nil o6 (gS hn).1) (fun D H Q z=>kL (yY (X:=X) rfl z))) J s D H Q I L
 |cons e es =>
  simp only[dg,Uz]at B;exact(PE.weak (Fp ok M (d7 O W) U V Z .nil o6 c (gS hn).1 (c5 B.1) (dI B.2)) (fun D H Q z=>yY rfl z)) J s D H Q I L
def uc{id:String}(j:PlainAttrs T)(D:Slot T name id)
(U:typeOf (.builtin id)=pure (.type "method_descriptor"))(l:MtR X id (rMe X.prog X.w X.K me))(t:dO oe=ah)(n:(apos.endLine==cpos.line)=ah)(W:es.length<20)(k:PE X oe (tD X F G o))(p:CEs sc N as es)(P:PA X es (tDs X F G as))
(ty:∀(m:List az)(h h2:aL)(H:Hp)(v:V) (x:aM) ws r,RH X.K m H h->RW X.prog X.w X.K m H v x->BT.tF x h=ah->aU me x ws h2=aa r->(∃σ s,RS X.prog X.w X.K m H σ s/\∃h0,aN F G o s h0=aa (x,h))->tyV X.K T v H):
 PE X (.Call (.Attribute oe name apos) es [] cpos) (tD X F G (.me me o as)):=by
 have B:=iE p;have O:∀σ H Q,tD X F G (.me me o as) σ H Q->tBM X.K T (rMe X.prog X.w X.K me) (tD X F G o) (tDs X F G as) σ H Q:=by intro σ H Q q;obtain⟨m,s,h,z,g,R,S,b,Z⟩:=q;simp only[aN]at b;obtain⟨x,f,e1,e2⟩:=c6 b;obtain⟨ok,e2⟩:=yT e2;obtain⟨ws,h2,e3,u⟩:=c6 e2;refine⟨m,s,h,x,f,R,S,e1,λv c M J Y L=>⟨ty M f h2 c v x ws _ Y L ok u ⟨σ,s,S.ext J,h,e1⟩,M,s,f,ws,h2,Y,S.ext J,e3,λvs H2 m2 i R2 E=>?_⟩⟩;exact⟨m2,h2,x,ws,z,g,R2,L.ext i,E,u,λA H5 I y R5 C=>Z A H5 I ((J.trans i).trans y) R5 C⟩
 cases es with
 |nil =>
  cases as with
  |cons a r=>exact(pX p).elim
  |nil =>
   refine PE.weak (JM j D U l k (jA t) n) fun σ H Q q=>?_;obtain⟨m,s,h,z,g,R,S,b,Z⟩:=O σ H Q q;exact⟨m,s,h,z,g,R,S,b,λv c M J Y L=>⟨(Z v c M J Y L).1,kL (Z v c M J Y L).2⟩⟩
 |cons e es =>
  simp only[dg,Uz] at B;refine PE.weak (uW j D U l k P (jA t) ?_ n (c5 B.1) (dI B.2)) O;rw[jW (es:=e::es) (by simp only[dg,Uz];exact B)];have d:decide ((e::es).length+([]:List XI).length+(if ([]:List XI).isEmpty then 0 else 1) < 30)=ah:=bO (by
   simp only[US,VV,List.isEmpty_nil,if_true] at W ⊢;lia)
  rw[d];rfl
def jL(q:tD X F G (.bi b mu as) σ H Q):tCB (rBi X.prog X.w X.K b mu) (tDs X F G as) σ H Q:=by refine oG (k:=λws h=>BT.kBi b mu ws h) (λs h=>by simp only[aN]) q λm h D z J L M R r e B=>?_;exact⟨m,h,D,z,J,R,r,e,B⟩
def KO(O:Ok X F G sc N)(U:gQ N=ah)(V:IP b mu x=ah)(B:dW sc x=ah)(q:dg (e::es)=ah)(D:PA X (e::es) (tDs X F G as)):
 PE X (.Call (.Name x p) (e::es) [] pos) (tD X F G (.bi b mu as)):=by
 simp only[dg,Uz]at q;have M:CF b mu=aa x:=bQ V;have J:=O.blt;cases b<;>cases mu<;>first|exact cX M|(change aa _=aa _ at M)
 all_goals (cases M)
 exact PE.weak (gM KC (d7 O B) (J _ (by decide)) PySem.boot_len D (by decide) (by decide) (c5 q.1) (dI q.2)) (fun L H Q z=>jL z);exact PE.weak (kB KG (d7 O B) (J _ (by decide)) (by decide +kernel) D (by decide) (by decide) (c5 q.1) (dI q.2)) (fun L H Q z=>jL z);exact PE.weak (kB yS (d7 O B) (J _ (by decide)) (by decide +kernel) D (by decide) (by decide) (c5 q.1) (dI q.2)) (fun L H Q z=>jL z);exact PE.weak (kB yS (d7 O B) (J _ (by decide)) (by decide +kernel) D (by decide) (by decide) (c5 q.1) (dI q.2)) (fun L H Q z=>jL z);exact PE.weak (kB C9 (d7 O B) (J _ (by decide)) (by decide +kernel) D (by decide) (by decide) (c5 q.1) (dI q.2)) (fun L H Q z=>jL z);exact PE.weak (gM rQ (d7 O B) (J _ (by decide +kernel)) (by decide +kernel) D (by decide) (by decide) (c5 q.1) (dI q.2)) (fun L H Q z=>jL z);exact PE.weak (gM rQ (d7 O B) (J _ (by decide +kernel)) (by decide +kernel) D (by decide) (by decide) (c5 q.1) (dI q.2)) (fun L H Q z=>jL z);exact PE.weak (gM (Gs (O.calm U)) (d7 O B) (J _ (by decide +kernel)) (by decide +kernel) D (by decide) (by decide) (c5 q.1) (dI q.2)) (fun L H Q z=>jL z);exact PE.weak (gM (Gu (O.calm U)) (d7 O B) (J _ (by decide +kernel)) (by decide +kernel) D (by decide) (by decide) (c5 q.1) (dI q.2)) (fun L H Q z=>jL z)
def AJ(L:vp b=aa (c,f)):fy X (.builtin "isinstance") (λvs H Q=>∃v,vs=[v,.ty c]/\rBi X.prog X.w X.K b ai [v] H Q):=by
 intro Y s W H vs Z Q I D h;obtain⟨v,rfl,m,h,ws,z,g,R,B,e,M⟩:=h;obtain⟨u,a,rfl,U,J⟩:=D.two;cases J;obtain⟨i,d,e1,e2,⟨_,rfl,rfl⟩|⟨_,q,_⟩⟩:=iL e
 ·have V:=gZ R B e1;cases V with
  |cons r t =>
   cases t;rw[Dd L]at e2;cases e2;exact Gv I r U (De L X.K _) λO=>⟨.bl _,H,I.tok O,rfl,M.here R (.bl _)⟩
 exact aS q
def Dn(O:Ok X F G sc N)(L:vp b=aa (c,f))(l:dW sc "isinstance"=ah)(B:dW sc (UN c)=ah)(D:noStar e=ah)(o:PE X e (tD X F G a)):
 PE X (.Call (.Name "isinstance" p) [e,.Name (UN c) p2] [] pos) (tD X F G (.bi b ai (.cons a .nil))):=by
 have J:=O.blt;have n:PE X (.Name (UN c) p2) (tC (.ty c)):=by
  cases b<;>simp only[vp]at L<;>try contradiction
  all_goals (cases L)
  exact oq (d7 O B) (J _ (by decide)) (u:=.type "int") (by decide +kernel) rfl (by decide) (by decide);exact oq (d7 O B) (J _ (by decide)) (u:=.type "bool") (by decide +kernel) rfl (by decide) (by decide);exact oq (d7 O B) (J _ (by decide)) (u:=.type "str") (by decide +kernel) rfl (by decide) (by decide);exact oq (d7 O B) (J _ (by decide)) (u:=.type "tuple") (by decide +kernel) rfl (by decide) (by decide)
 refine PE.weak (gM (AJ L) (d7 O l) (J _ (by decide)) (by decide +kernel) (jm o (jm n sM) (c5 D)) (by decide) (by decide) (c5 D) rfl) fun C H Q q=>?_;obtain⟨m,s,h,z,r,R,S,U,W⟩:=q;simp only[aN,aX]at U;obtain⟨ws,M,e1,e2⟩:=c6 U;obtain⟨x,E,t,V⟩:=c6 e1;simp only[BT.kU,BT.dU,BT.jt]at V;cases V;refine⟨m,s,h,x,M,R,S,t,λv I k Z y i=>?_⟩;exact⟨v,rfl,k,M,[x],z,r,y,.cons i .nil,e2,λd A j Y w g=>W d A j (Z.trans Y) w g⟩
def KP(σ:L2.St)(H:Hp)(Q:VK)(q:tD X F G (.aC as) σ H Q):JF (tDs X F G as) σ H Q:=by
 refine oG (k:=λws h=>BT.J3 ws h) (λs h=>by simp only[aN]) q λm h D z O L V R r e B=>?_;unfold BT.J3 at e;cases g:bx D with
 |none=>rw[g]at e;exact cX e
 |some U =>
  rw[g]at e;simp only at e;obtain⟨c,e⟩:=dB e;cases e;have rd:=r.pure g;have:=fF;have M:=rd.length;exact⟨by lia,λp J=>mh R J rd B⟩
def KQ(σ:L2.St)(H:Hp)(Q:VK)(q:tD X F G (.aB mu as) σ H Q):Nv (tDs X F G as) σ H Q:=by
 refine oG (k:=λws h=>BT.J4 mu ws h) (λs h=>by simp only[aN]) q λm h D z L U W R r e B=>?_;unfold BT.J4 at e;cases g:bx D with
 |none=>rw[g]at e;exact cX e
 |some O =>
  rw[g]at e;simp only at e;split at e
  ·rename_i c;have rd:=r.pure g;have:=fF;have V:=rd.length;have M:BT.new mu O h=(z,L):=UK e;exact⟨by lia,λp J=>tR (mu:=mu) R J rd (by rw[M];exact B)⟩
  exact cX e
def cons_of(σ:L2.St)(H:Hp)(Q:List V->Hp->Prop)(q:tDs X F G (.cons a as) σ H Q):IC (tD X F G a) (tDs X F G as) σ H Q:=by obtain⟨m,s,h,f,b,R,S,L,O⟩:=q;simp only[aX]at L;obtain⟨x,J,e1,e2⟩:=c6 L;simp only[BT.kU]at e2;obtain⟨U,i,c,M⟩:=c6 e2;simp only[BT.jt]at M;cases M;exact⟨m,s,h,x,J,R,S,e1,λv j Z D d Y=>⟨Z,s,J,U,b,d,S.ext D,c,λg e m2 B R2 W=>O _ e m2 (D.trans B) R2 (.cons (Y.ext B) W)⟩⟩
end
section
variable{K:Uv}
theorem RFs.get:∀{vs:List (ay×V)}{fs:List (ay×aM)},RFs K m H vs fs->BT.eN f fs=aa x->∃v,vs.lookup f=aa v/\RA K m H v x
 |_,_,.nil,e=>by exact cX e
 |_,_,.cons (f:=g) r t,e=>by
  rw[BT.rN]at e
  by_cases c:f=g
  rw[bJ c]at e;cases e;subst c;exact⟨_,by simp,r⟩
  ·rw[bK c]at e;obtain⟨v,B,q⟩:=RFs.get t e;exact⟨v,by rw[V0];rw[beq_false_of_ne c];exact B,q⟩
theorem RFs.none:∀{vs:List (ay×V)}{fs:List (ay×aM)},RFs K m H vs fs->(BT.eN f fs).isNone=ah->vs.lookup f=af
 |_,_,.nil,_=>rfl
 |_,_,.cons (f:=g) r t,e=>by
  rw[BT.rN]at e
  by_cases c:f=g
  rw[bJ c]at e;exact aS e
  ·rw[bK c]at e;rw[V0,beq_false_of_ne c];exact RFs.none t e
theorem RFs.put(q:RA K m H v x):∀{vs:List (ay×V)}{fs:List (ay×aM)},RFs K m H vs fs->RFs K m H (L2.eH f v vs) (BT.eH f x fs)
 |_,_,.nil=>.cons q .nil
 |_,_,.cons (f:=g) r t=>by
  rw[L2.eH,BT.Al]
  by_cases c:f=g
  rw[bJ c,bJ c.symm];subst c;exact .cons q t;rw[bK c,bK (Vu c)];exact .cons r (RFs.put q t)
theorem RFs.length:∀{vs:List (ay×V)}{fs:List (ay×aM)},RFs K m H vs fs->vs.length=fs.length
 |_,_,.nil=>rfl
 |_,_,.cons _ t=>by rw[US,US,RFs.length t]
end
section
def GD(e:BT.F4 f x h=aa r):∃n c fs w,x=.o n/\bq h n=aa (c,fs)/\BT.eN f fs=aa w/\r=(w,h):=by
 cases x with
 |o n =>
  rw[BT.J6]at e;cases g:bq h n with
  |none=>rw[g]at e;exact cX e
  |some q =>
   obtain⟨c,fs⟩:=q;rw[g]at e;obtain⟨w,e1,e2⟩:=dz e;exact⟨n,c,fs,w,rfl,g,e1,e2.symm⟩
 |_=>exact cX e
def GE{sc:Vf}{N:List ay}(M:dO x=ah)(L:attrName f=ah)(O:PE X x (tD X F G a)):PE X (.Attribute x f p) (tD X F G (.i a f)):=by
 refine PE.weak (JD O (jA M)) fun b H Q q=>?_;refine IS (k:=BT.F4 f) (λs h=>by simp only[aN]) q λm h x z d v Z R r e D=>?_;obtain⟨n,c,fs,w,rfl,e1,e2,W⟩:=GD e;cases W;cases r with
 |o hn =>
  obtain⟨C,Y,J,V,B,U⟩:=R.rO _ _ _ _ hn e1;obtain⟨u,l,ra⟩:=U.get e2;exact⟨_,C,Y,J,u,rfl,V,B.cls,B.no f L,l,D u Z m (.refl _ _) R ra.rw⟩
def m8(O:dO o=ah)(q:dg args=ah)(D:args.length<20)(L:(apos.endLine==pos.line)=ah):
 eval (.Call (.Attribute o m apos) args [] pos) env=(do
  let ov ←eval o env
  ZP apos.atName
  let (f,first) ←XX [ov] (ZR ov m (do return (←importBound o env).getD ah))
  callWith pos f first (WA pos (U9 args env)) (YR pos (Xp [] env))):=by
 have M:methodCallForm (args.length+([]:List XI).length) (WA pos (U9 args env)) (YR pos (Xp [] env))=ah:=by
  unfold methodCallForm;have B:decide (args.length+([]:List XI).length+(if (YR pos (Xp [] env)).isEmpty then 0 else 1) < 30)=ah:=bO (by
   show args.length+0+0 < 30;lia)
  rw[B,jW q];rfl
 rw[arm_eval_Call,jA O];unfold methodCall;rw[M];have J:methodCallPos ah o env apos pos=pure pos:=by unfold methodCallPos;rw[L];rfl
 rw[J];rfl
def Do(e:BT.Ck F m ea x h=aa r):
 ∃n c fs ws g,x=.o n/\bq h n=aa (c,fs)/\(BT.eN m fs).isNone=ah/\ea h=aa (ws,g)/\F (.m c m) (.o n::ws) g=aa r:=by
 cases x with
 |o n =>
  rw[BT.F5]at e;cases g:bq h n with
  |none=>rw[g]at e;exact cX e
  |some q =>
   obtain⟨c,fs⟩:=q;rw[g]at e;simp only at e;split at e
   ·rename_i D;obtain⟨ws,B,e1,e2⟩:=c6 e;exact⟨n,c,fs,ws,B,rfl,g,D,e1,e2⟩
   exact cX e
 |_=>exact cX e
def Dp(O:Ok X F G sc N)(hb:dO oe=ah)(P:(apos.endLine==cpos.line)=ah)(D:es.length<20)(E:PE X oe (tD X F G o))(T:CEs sc N as es)(ha:PA X es (tDs X F G as)):
 PE X (.Call (.Attribute oe m apos) es [] cpos) (tD X F G (.aF o m as)):=by
 have J:=iE T;intro u s Y H Q I q;obtain⟨m0,A,h,z,p,R,S,U,Z⟩:=q;simp only[aN]at U;obtain⟨x,h1,e1,e2⟩:=c6 U;obtain⟨n,c,fs,ws,g,rfl,e3,e4,e5,e6⟩:=Do e2;obtain⟨C,ga,fd,ps,k,l,hM,hB,hR,ok⟩:=O.aF _ _ _ _ _ e6;have L:BI C m (spF X.prog X.w X.K (F (.m c m))) [] E0 (tD X F G o) (tDs X F G as) Y H Q:=by
  refine⟨m0,A,h,.o n,h1,R,S,e1,λv H1 j M W b=>?_⟩;cases b with
  |@o a _ hn =>
   obtain⟨C',t,vs,i,f,d⟩:=W.rO _ _ _ _ hn e3;cases f.cn.inj l.cn;refine⟨a,t,vs,rfl,i,d.none e4,j,A,h1,ws,g,W,S.ext M,e5,λus H2 m2 y R2 r2=>?_⟩;show spF X.prog X.w X.K (F (.m c m)) (V.ref a::(us++[])) H2 Q E0;rw[U8];exact⟨m2,.o n::ws,g,z,p,R2,.cons (.o (y.ix hn)) r2,e6,λv5 H5 m5 x5 R5 r5=>Z v5 H5 m5 ((M.trans y).trans x5) R5 r5⟩
 cases es with
 |nil =>
  cases as with
  |cons a r=>exact(pX T).elim
  |nil =>
   refine BN E l.cls hM ok hR hB .nil o6 (m8 hb J D P) u s Y H Q I ?_;obtain⟨m,s,h,z,p,R,S,U,Z⟩:=L;refine⟨m,s,h,z,p,R,S,U,λv H1 j M W b=>?_⟩;obtain⟨a,t,fs,i,f,d,q4⟩:=Z v H1 j M W b;exact⟨a,t,fs,i,f,d,kL q4⟩
 |cons e es =>
  have B:=J;simp only[dg,Uz]at B;exact Fq E l.cls hM ok hR hB .nil o6 ha (c5 B.1) (dI B.2) (m8 hb J D P) u s Y H Q I L
def Dq(O:Ok X F G sc N)(t:dW sc c=ah)(hn:fE c=ah)(u:CEs sc N as es)(ha:PA X es (tDs X F G as)):
 PE X (.Call (.Name c p) es [] pos) (tD X F G (.make c as)):=by
 have J:=iE u;intro i s b H Q I q;obtain⟨m0,s',h,z,T,R,S,ee,zr⟩:=q;simp only[aN]at ee;obtain⟨ws,L,e1,e2⟩:=c6 ee;rw[BT.Cn]at e2;obtain⟨y,h2,e3,Z⟩:=c6 e2;have g:y=.p .aD/\(z,T)=(.o L.length,h2):=by
  cases y with
  |p d=>cases d<;>simp[BT.yI]at Z;exact⟨rfl,by rw[Z.1,Z.2]⟩|_=>exact cX Z
 obtain⟨rfl,g⟩:=g;cases g;obtain⟨C,ga,fd,ps,k,hC,Y,E,P,A,ok⟩:=O.mkc _ _ _ _ e3;have W:BJ C (spF X.prog X.w X.K (F (.m c "__init__"))) [] E0 (tDs X F G as) b H Q:=by
  refine⟨m0,s',h,ws,L,R,S,e1,λus M D x1 R1 r1 x B nx V ne=>?_⟩;rw[U8];have l:Ext D M D (upd M B (.own x)):=gj V;have Ra:RH X.K D (upd M B (.own x)) L:=R1.new V;have U:upd M B (.own x) x=af:=by rw[dj (Vu ne)];exact nx
  have j:Ext D (upd M B (.own x)) (D++[x]) (upd (upd M B (.own x)) x (.ins C B [])):=jS U;have Rb:RH X.K (D++[x]) (upd (upd M B (.own x)) x (.ins C B [])) (L++[.o c []]):=Ra.Kq U ⟨C,B,[],dG,hC,.nil⟩;have ix:(D++[x])[L.length]?=aa x:=by rw[←R1.len];simp
  refine⟨D++[x],.o L.length::ws,L++[.o c []],.p .aD,T,Rb,.cons (.o ix) (r1.ext (l.trans j)),e3,λv H2 m2 n R2 f=>?_⟩;cases f with
  |p f =>
   cases f;exact⟨rfl,zr _ H2 m2 (((x1.trans l).trans j).trans n) R2 (.o (n.ix ix))⟩
 cases es with
 |nil =>
  cases as with
  |cons a r=>exact(pX u).elim
  |nil =>
   refine BO E ok A (d7 O t) Y P .nil o6 (gS hn).1 i s b H Q I ?_;exact kL W
 |cons e es =>
  simp only[dg,Uz]at J;exact Ft E ok A (d7 O t) Y P .nil o6 ha (gS hn).1 (c5 J.1) (dI J.2) i s b H Q I W
def KR(o:bA):TIp:=λx y H Q=>∃i j z,x=.int i/\y=.int j/\BT.o9 o (.int i) (.int j)=aa (.int z)/\Q (.int z) H
noncomputable def Dr:bA->X4->Bool
 |.add,.Add=>ah|.sub,.Sub=>ah|.mul,.Mult=>ah|_,_=>ai
def yZ(h:Dr o op=ah):PIp X op (KR o):=by
 rintro zt s σ H x y u v Q I rx ry ⟨i,j,z,rfl,rfl,e,q⟩
 obtain⟨t,rfl⟩:=(show ∃t,u=Xf i t from rx);obtain⟨B,rfl⟩:=(show ∃B,v=Xf j B from ry);cases o<;>cases op<;>cases h;cases e;exact PyProof.Rows.iadd_int ⟨.int (i+j),H,I.tok _,⟨_,rfl⟩,q⟩;cases e;exact PyProof.Rows.isub_int ⟨.int (i-j),H,I.tok _,⟨_,rfl⟩,q⟩
 ·rw[BT.vd]at e;obtain⟨c,e⟩:=dB e;cases e;have D:Fg i j:=by
   rcases Ws _ _ ▸ c with c|c
   exact .inl (tU c);exact .inr (tU c)
  exact PyProof.Rows.imul_int ⟨.int (i*j),H,I.tok _,⟨_,rfl⟩,q⟩ D.ok
def y9(h:BT.o9 o d e=aa z):∃i j k,d=.int i/\e=.int j/\z=.int k:=by
 cases d with
 |int i =>
  cases e with
  |int j =>
   refine⟨i,j,?_⟩;cases o with
   |add=>exact⟨_,rfl,rfl,(UK h).symm⟩|sub=>exact⟨_,rfl,rfl,(UK h).symm⟩
   |mul =>
    rw[BT.vd]at h;split at h;exact⟨_,rfl,rfl,(UK h).symm⟩;exact cX h
   |_=>exact cX h
  |_=>cases o<;>exact cX h
 |_=>cases o<;>exact cX h
end
section
variable{K:Uv}
end
theorem ng(r:dw vs us):∀l:List Nat,dw (l.filterMap λi=>vs[i]?) (l.filterMap λi=>us[i]?)
 |[]=>.nil
 |i::l=>by
  rw[U5,U5];cases g:vs[i]? with
  |none =>
   have:us[i]?=af:=by have h:=r.length;rw[Zv]at g⊢;lia
   rw[this];exact ng r l
  |some d =>
   obtain⟨v,e,q⟩:=r.get g;rw[e];exact .cons q (ng r l)
noncomputable def vF(k:Int)(xs:List V):List V:=(XN (Vc af af (aa k) xs.length).1 (Vc af af (aa k) xs.length).2.1 (Vc af af (aa k) xs.length).2.2).filterMap λi=>xs[i]?
section
def KS(l:k≠0)(r:PE X e te)(j:PE X se (tC (.int k))):
 PE X (.Subscript e (.Slice af af (aa se) p2) pos) (fun σ H Q=>te σ H λx H1=>∃a xs,x=.ref a/\SqL X.K H1 a xs/\∀p,H1 p=af->Q (.ref p) (upd H1 p (.aB (vF k xs)))):=by
 intro J s σ H Q I h;refine Subscript_ (thn (r J s σ H _ I h) λv Y M=>?_);obtain⟨x,H1,C,c,a,xs,ex,g,q⟩:=M;subst ex;cases c;refine wpAny_Slice ?_;rw[aay];refine au (au ?_);rw[evalPart_some];refine thn (j J Y σ H1 (λv F=>v=.int k/\F=H1) C ⟨rfl,rfl⟩) λG B M=>?_;obtain⟨y,E,u,Z,f,m⟩:=M;subst f m;obtain⟨t,rfl⟩:=Z;have O:Inv X J σ E {B with heap:=B.heap.push {cls:=.type "slice",data:=.fields #[.none,.none,.int k t]} }:=u.aH (t':=B.toks) λb ob q=>Ux _ q;obtain⟨D,U,p,N⟩:=O.list g;have n:av (UT X.prog X.w) X.A (Ze (.ref a) (.ref B.heap.objs.size)) (EP X J σ Q) X.xe {B with heap:=B.heap.push {cls:=.type "slice",data:=.fields #[.none,.none,.int k t]} }:=by
  have L:=U.length;refine aai p.isList (YY ..) .none .none (.int k t) (by intro z;exact l (UK z)) ?_ (by rw[UB];lia);have W:slicePick D.toArray af af (aa k)=((XN (Vc af af (aa k) xs.length).1 (Vc af af (aa k) xs.length).2.1 (Vc af af (aa k) xs.length).2.2).filterMap λi=>D[i]?).toArray:=by unfold slicePick;rw[UB,←L];simp
  rw[W];have V:=ng U (XN (Vc af af (aa k) xs.length).1 (Vc af af (aa k) xs.length).2.1 (Vc af af (aa k) xs.length).2.2);have d:(vF k xs).length<=xs.length:=by have:=slicePick_size_le D.toArray af af (aa k);rw[W,UB,UB]at this;have e:=V.length;unfold vF;lia
  refine⟨.ref (B.heap.push {cls:=.type "slice",data:=.fields #[.none,.none,.int k t]}).objs.size,_,O.laid (t':=B.toks) (o:=.aB (vF k xs)) (λb ob q=>Ux _ q) (UE _) ?_,rfl,q _ (O.aJ.fresh (UE _))⟩;exact⟨by lia,_,0,V,UG _ rfl⟩
 show av (UT X.prog X.w) X.A (aat e (.Slice af af (aa se) p2) (.ref a) (.ref B.heap.objs.size)) (EP X J σ Q) X.xe {B with heap:=B.heap.push {cls:=.type "slice",data:=.fields #[.none,.none,.int k t]} };exact aas (ops:=[.ref a,.ref B.heap.objs.size]) p.isList.typeIs slot_list_getitem.lookup n (by with_unfolding_all rfl)
def za(h:(Gf e).bind cInt=aa k):∃a b,e=.Constant (.int k) a b:=by
 cases e with
 |Constant c a b =>
  cases c with
  |int j=>cases h;exact⟨a,b,rfl⟩|_=>exact bL (show(af:Option Int)=aa _ from h) (λz=>nomatch z)
 |_=>exact bL (show(af:Option Int)=aa _ from h) (λz=>nomatch z)
def Ds(h:tO k e=ah):(∃a b,e=.Constant (.int k) a b/\0<k)\/∃j a b p,e=.UnaryOp .USub (.Constant (.int j) a b) p/\k=-j/\0<j:=by
 unfold tO at h;rw[Ws,Uz,Uz,bM,bM]at h;rcases h with⟨q,B⟩|⟨q,B⟩
 ·obtain⟨a,b,e1⟩:=za (bQ q);exact .inl ⟨a,b,e1,B⟩
 ·have q:=bQ q;cases e with
  |UnaryOp o e p =>
   by_cases c:o=.USub
   ·subst c;have D:(Gf e).bind cInt=aa (-k):=q;obtain⟨a,b,rfl⟩:=za D;exact .inr ⟨-k,a,b,p,rfl,by lia,by lia⟩
   ·have:unE (.UnaryOp o e p)=af:=bK c;rw[this]at q;exact cX q
  |_=>exact bL (show(af:Option Int)=aa _ from q) (λz=>nomatch z)
def GF(Y:tO k se=ah)(Z:PE X x (tD X F G a)):PE X (.Subscript x (.Slice af af (aa se) p2) p) (tD X F G (.stp mu k a)):=by
 have D:k≠0/\PE X se (tC (.int k)):=by
  rcases Ds Y with⟨a,b,rfl,h⟩|⟨j,a,b,p,rfl,rfl,h⟩
  exact⟨by lia,wG⟩;exact⟨by lia,PE.weak (IB Bu wG) fun J H Q q=>⟨_,rfl,q⟩⟩
 refine PE.weak (KS D.1 Z D.2) fun J H Q q=>?_;refine IS (k:=BT.J5 mu k) (λs h=>by simp only[aN]) q λm h x z c v i R r e L=>?_;unfold BT.J5 at e;cases g:aZ x h with
 |none=>rw[g]at e;exact cX e
 |some d =>
  rw[g]at e;cases d with
  |aB M =>
   simp only at e;have U:=dX R r g;obtain⟨a,O,rfl,W,B⟩:=U.aB;have f:BT.new mu (BT.pM k M) h=(z,c):=UK e;refine⟨a,O,rfl,W.sq,λp V=>tR (mu:=mu) R V ?_ (by rw[f];exact L)⟩;unfold vF BT.pM;rw[B.length];exact RDs.pick B _
  |_=>exact cX e
def Dt{X:Cx}{b:BT.Bi}{g:Int->Int->Int}(Z:∀ds d,BT.biD b ds=aa d->∃i j,ds=[.int i,.int j]/\d=.int (g i j)){id:String}(Y:fy X (.builtin id) (λxs H Q=>∃i j,xs=[.int i,.int j]/\Q (.int (g i j)) H)):fy X (.builtin id) (rBi X.prog X.w X.K b ai):=by
 intro L s J H a O Q I D h;obtain⟨m,h,ws,z,c,R,B,e,M⟩:=h;obtain⟨ds,d,e1,e2,⟨_,rfl,rfl⟩|⟨_,q,_⟩⟩:=iL e
 ·have V:=gZ R B e1;obtain⟨i,j,rfl,rfl⟩:=Z _ _ e2;cases V with
  |cons r t =>
   cases t with
   |cons W U =>
    cases U;cases r.int;cases W.int;exact Y L s J H _ O Q I D ⟨i,j,rfl,M.here R (.int _)⟩
 exact aS q
def GG{X:Cx}{sc:Vf}{N:List ay}(O:Ok X F G sc N)(J:gQ N=ah){b:BT.Bi}{as:aV}{x:ay}{e:Uy}{es:List Uy}{p pos:Pos}(B:CG b x=ah)(L:dW sc x=ah)(q:dg (e::es)=ah)(M:PA X (e::es) (tDs X F G as)):
 PE X (.Call (.Name x p) (e::es) [] pos) (tD X F G (.bi b ai as)):=by
 simp only[dg,Uz]at q;have U:=O.blt;cases b<;>first|exact aS B|(replace B:=bQ B)
 ·subst B;refine PE.weak (gM (Dt (b:=.min2) (g:=λi j=>if j<i then j else i) (λD d h=>?_) (z4 (O.calm J))) (d7 O L) (U _ (by decide +kernel)) (by decide +kernel) M (by decide) (by decide) (c5 q.1) (dI q.2)) (fun V H Q z=>jL z)
  match D,h with
  |[.int i,.int j],h=>exact⟨i,j,rfl,(UK h).symm⟩
 ·subst B;refine PE.weak (gM (Dt (b:=.max2) (g:=λi j=>if j>i then j else i) (λD d h=>?_) (zZ (O.calm J))) (d7 O L) (U _ (by decide +kernel)) (by decide +kernel) M (by decide) (by decide) (c5 q.1) (dI q.2)) (fun V H Q z=>jL z)
  match D,h with
  |[.int i,.int j],h=>exact⟨i,j,rfl,(UK h).symm⟩
end
section
variable{P:UM}{w:U6}{K:Uv}{m:List az}{H H':Hp}
def mw(H H':Hp):Prop:=(∀a q,Rd H a (.aC q)->Rd H' a (.aC q))/\(∀a q,Rd H a (.aB q)->Rd H' a (.aB q))/\∀a q,Rd H a (.dK q)->Rd H' a (.dK q)
mutual
theorem RD.tr(q:mw H H'):∀{v:V}{d:aO},RD K m H v d->RD K m H' v d
 |_,_,.aD=>.aD|_,_,.bl b=>.bl b|_,_,.int i=>.int i|_,_,.str y h=>.str y h|_,_,.aC h r=>.aC (h.elim (λz=>.inl ⟨q.1 _ _ z.1,z.2⟩) .inr) (RDs.tr q r)|_,_,.aB h r=>.aB (h.elim (λz=>.inl ⟨q.2.1 _ _ z.1,z.2⟩) .inr) (RDs.tr q r)
theorem RDs.tr(q:mw H H'):∀{vs:List V}{ds:List aO},RDs K m H vs ds->RDs K m H' vs ds
 |_,_,.nil=>.nil|_,_,.cons r t=>.cons (RD.tr q r) (RDs.tr q t)
end
def RA.tr(q:mw H H'){v:V}{x:aM}(r:RA K m H v x):RA K m H' v x:=by
 cases r with
 |p r=>exact .p (r.tr q)|r h=>exact .r h|o h=>exact .o h
def RFs.tr(q:mw H H'){vs:List (ay×V)}{fs:List (ay×aM)}(r:RFs K m H vs fs):RFs K m H' vs fs:=by
 induction r with
 |nil=>exact .nil|cons r t B=>exact .cons (r.tr q) B
def RCs.tr(q:mw H H'){vs:List V}{B:List bC}(r:RCs K m H vs B):RCs K m H' vs B:=by
 induction r with
 |nil=>exact .nil|cons r t D=>exact .cons (r.tr q) D
def RWs.tr(q:mw H H'){vs:List V}{ws:List aM}(r:RWs P w K m H vs ws)(n:BT.noC ws=ah):RWs P w K m H' vs ws:=by
 induction r with
 |nil=>exact .nil
 |cons r t B =>
  cases r with
  |p r=>exact .cons (.p (r.tr q)) (B n)|r h=>exact .cons (.r h) (B n)|o h=>exact .cons (.o h) (B n)|_=>exact aS n
def RCs.ws{vs:List V}{q:List bC}(r:RCs K m H vs q):RWs P w K m H vs (q.map bC.w):=by
 induction r with
 |nil=>exact .nil|cons r t B=>exact .cons r.rw B
def RWs.app{vs us:List V}{ws zs:List aM}(r:RWs P w K m H vs ws)(t:RWs P w K m H us zs):RWs P w K m H (vs++us) (ws++zs):=by
 induction r with
 |nil=>exact t|cons r _ q=>exact .cons r q
def RKs.tr(q:mw H H'){vs:List (Key×V)}{kvs:List (br×aO)}(r:RKs K m H vs kvs):RKs K m H' vs kvs:=by
 induction r with
 |nil=>exact .nil|cons D r t B=>exact .cons (D.tr q) (r.tr q) B
def RP.tr(q:mw H H'){v:V}{d:aO}{kvs:List (br×aO)}(r:RP K m H v d kvs):RP K m H' v d kvs:=by
 cases r with
 |mk h r g t=>exact .mk ⟨q.1 _ _ h.1,h.2⟩ (r.tr q) ⟨q.2.2 _ _ g.1,g.2⟩ (t.tr q)
def RPs.tr(q:mw H H'){vs:List V}{ps:List bG}(r:RPs K m H vs ps):RPs K m H' vs ps:=by
 induction r with
 |nil=>exact .nil|cons r t B=>exact .cons (r.tr q) B
def RW.trS(q:mw H H'){v:V}{ps:List bG}(r:RW P w K m H v (.k (.s ps))):RW P w K m H' v (.k (.s ps)):=by
 cases r with
 |ks h r=>exact .ks ⟨q.2.1 _ _ h.1,h.2⟩ (r.tr q)
def RH.tr{h:aL}(R:RH K m H h)(q:mw H H')(k:∀a∈m,H' a=H a)(tb:TB K H'):RH K m H' h:=by
 refine⟨R.nd,R.len,λi a c e1 e2=>?_,tb⟩;have z:=R.cl i a c e1 e2;have e:=k a (UJ e1);cases c with
 |o c fs=>obtain⟨C,M,B,D,J,L⟩:=z;exact⟨C,M,B,e.trans D,J,L.tr q⟩|z=>obtain⟨ob,B,D⟩:=z;exact⟨ob,B,e.trans D⟩|b O=>obtain⟨B,D,J⟩:=z;exact⟨B,e.trans D,J⟩|_=>obtain⟨B,D,J⟩:=z;exact⟨B,e.trans D,J.tr q⟩
def Le.rd(q:Le H H'){a:az}{u:HO}(r:Rd H a u):Rd H' a u:=r.elim (λz=>.inl (q _ _ z)) λ⟨o,z⟩=>.inr ⟨o,q _ _ z⟩
def Le.sq(q:Le H H'):mw H H':=⟨λa B r=>q.rd r,λa B r=>q.rd r,λa B r=>q.rd r⟩
def RH.le{h:aL}(R:RH K m H h)(q:Le H H'):RH K m H' h:=R.tr q.sq (λa B=>by obtain⟨o,e,_⟩:=R.mu B;rw[e];exact q _ _ e) (q.tb R.tb)
def jN.le(q:Le H H'){cl:List (ay×az)}{xs:List ay}{vs:List V}(r:jN m H cl xs vs):jN m H' cl xs vs:=by
 induction r with
 |nil=>exact .nil|cons L B J r t D=>exact .cons L ⟨q _ _ B.1,B.2⟩ J r D
def jK.le(q:Le H H'){f:az}{L:Nat}{vs:List V}(h:jK m H f L vs):jK m H' f L vs:=by obtain⟨n,W,fs,Z,o,O,cl,Y,D,l,a,os,t,U,k,j,i,g,e,d,M,J,c,b,B⟩:=h;exact⟨n,W,fs,Z,o,O,cl,Y,D,l,a,os,t,U,k,j,i,g,e,d,⟨q _ _ M.1,M.2⟩,⟨q _ _ J.1,J.2⟩,c,b,B.le q⟩
def RW.le(q:Le H H'){v:V}{x:aM}(r:RW P w K m H v x):RW P w K m H' v x:=by
 cases r with
 |p r=>exact .p (r.tr q.sq)|r h=>exact .r h|k h r=>exact .k h r|kl h r=>exact .kl ⟨q _ _ h.1,h.2⟩ (r.tr q.sq)|km h r=>exact .km ⟨q.rd h.1,h.2⟩ (r.tr q.sq)|kq r=>exact .kq (r.tr q.sq)|ks h r=>exact .ks ⟨q.rd h.1,h.2⟩ (r.tr q.sq)|o h=>exact .o h|c h r=>exact .c (h.le q) (r.tr q.sq)|x h n B=>exact .x (q _ _ h) n B|g h r=>exact .g h r
end
def fR(cl:List (ay×az))(H:Hp):Prop:=∀x c,cl.lookup x=aa c->∃o u,H c=aa (.frz o (.own 0))/\o.data=.cell u
open Classical in
noncomputable def hid(cl:List (ay×az))(H:Hp):Hp:=λb=>if ∃x,cl.lookup x=aa b then af else H b
open Classical in
noncomputable def ret(cl:List (ay×az))(q H:Hp):Hp:=λb=>if ∃x,cl.lookup x=aa b then q b else H b
section
variable{cl:List (ay×az)}{H H':Hp}{b:az}{u:HO}
def xG{x:ay}(e:cl.lookup x=aa b):hid cl H b=af:=bJ ⟨x,e⟩
def fN(e:¬ ∃x,cl.lookup x=aa b):hid cl H b=H b:=bK e
def iM(e:H b=af):hid cl H b=af:=by unfold hid;split<;>first|rfl|exact e
def pZ{x:ay}(e:cl.lookup x=aa b):ret cl H H' b=H b:=bJ ⟨x,e⟩
def ig(e:¬ ∃x,cl.lookup x=aa b):ret cl H H' b=H' b:=bK e
def KU(e:hid cl H b=aa u):H b=aa u/\¬ ∃x,cl.lookup x=aa b:=by unfold hid at e;split at e;exact bD e;rename_i c;exact⟨e,c⟩
noncomputable def mz:HO->Bool
 |.frz o (.own _)=>match o.data with|.cell _=>ah|_=>ai
 |_=>ai
def OG{o:HO}(z:Gg o=ah):mz o=ai:=by
 cases o with
 |frz ob u=>cases u<;>first|rfl|exact aS z
 |_=>first|rfl|exact aS z
def fR.out(C:fR cl H)(e:H b=aa u)(n:mz u=ai):¬ ∃x,cl.lookup x=aa b:=λ⟨x,q⟩=>by obtain⟨o,v,B,D⟩:=C x b q;rw[e]at B;cases B;simp[mz,D]at n
def fR.hid(C:fR cl H)(e:H b=aa u)(n:mz u=ai):BS.hid cl H b=aa u:=by rw[fN (C.out e n)];exact e
def fR.sq(C:fR cl H):mw H (BS.hid cl H):=⟨λa q r=>r.elim (λz=>.inl (C.hid z rfl)) λ⟨o,z⟩=>.inr ⟨o,C.hid z rfl⟩,λa q r=>r.elim (λz=>.inl (C.hid z rfl)) λ⟨o,z⟩=>.inr ⟨o,C.hid z rfl⟩,λa q r=>r.elim (λz=>.inl (C.hid z rfl)) λ⟨o,z⟩=>.inr ⟨o,C.hid z rfl⟩⟩
def fR.tb(C:fR cl H)(t:TB K H):TB K (BS.hid cl H):=t.mono (λP B e=>C.hid e rfl) λa o q d e=>C.hid e (by simp[mz,d])
def fR.rh(C:fR cl H){m:List az}{h:aL}(R:RH K m H h):RH K m (BS.hid cl H) h:=R.tr C.sq (λa q=>by obtain⟨o,e,z⟩:=R.mu q;rw[e];exact C.hid e (OG z)) (C.tb R.tb)
def KW(N:∀x c,cl.lookup x=aa c->H' c=af):Le H' (ret cl H H'):=λa u e=>by rw[ig (λ⟨x,q⟩=>by rw[N x a q]at e;exact bD e)];exact e
def fR.KY(C:fR cl H)(N:∀x c,cl.lookup x=aa c->H' c=af){m m':List az}{h':aL}(x:Ext m (BS.hid cl H) m' H')(R:RH K m' H' h'):Ext m H m' (ret cl H H'):=by
 obtain⟨e,D,M⟩:=x.pre;refine⟨⟨e,D,λa J=>?_⟩,λa o h n t=>?_,λa h=>?_,λa ob L h=>?_⟩
 ·have z:=M a J;have B:¬ ∃y,cl.lookup y=aa a:=λ⟨y,q⟩=>by obtain⟨o,e1,_⟩:=R.mu (a:=a) (by rw[D];exact UW _ J);rw[N y a q]at e1;exact bD e1
  rw[fN B]at z;exact z
 ·by_cases c:∃y,cl.lookup y=aa a
  obtain⟨y,q⟩:=c;rw[pZ q];exact h;rw[ig c];exact x.keep a o (by rw[fN c];exact h) n t
 ·by_cases c:∃y,cl.lookup y=aa a
  obtain⟨y,q⟩:=c;rw[pZ q]at h;exact h;rw[ig c]at h;have z:=x.live a h;rw[fN c]at z;exact z
 ·by_cases c:∃y,cl.lookup y=aa a
  obtain⟨y,q⟩:=c;rw[pZ q];exact h;rw[ig c];exact x.frz a ob L (by rw[fN c];exact h)
end
def jN.get{m:List az}{H:Hp}{cl:List (ay×az)}{fs:List ay}{vs:List V}(r:jN m H cl fs vs):∀{i:Nat}{x:ay},fs[i]?=aa x->∃c o u v,cl.lookup x=aa c/\Tr m H c o/\o.data=.cell (aa u)/\vs[i]?=aa v/\RelV v u:=by
 induction r with
 |nil=>intro i x e;simp at e
 |cons J D B r t q =>
  intro i x e;cases i with
  |zero=>simp at e;subst e;exact⟨_,_,_,_,J,D,B,rfl,r⟩|succ i=>simpa using q (by simpa using e)
def jN.len{m:List az}{H:Hp}{cl:List (ay×az)}{fs:List ay}{vs:List V}(r:jN m H cl fs vs):vs.length=fs.length:=by
 induction r with
 |nil=>rfl|cons J D B r t q=>simp[q]
def jN.cells{m:List az}{H:Hp}{cl:List (ay×az)}{fs:List ay}{vs:List V}(r:jN m H cl fs vs)(D:∀x c,cl.lookup x=aa c->x∈fs):fR cl H:=λx c e=>by obtain⟨i,B⟩:=V7 (D x c e);obtain⟨M,o,u,v,q,L,J,_⟩:=r.get B;rw[e]at q;cases q;exact⟨o,_,L.1,J⟩
def GH{D:Wm}{ps:List ay}(L:LPa D ps){name q:ay}{be:Uy}{sc:Vf}{cl:List (ay×az)}{pm cdv B:aA}{us:List aA}(J:us.length=ps.length):ZG (PySem.W.kla_fn name q D be sc cl pm cdv B) ⟨us,[]⟩=pure (ps.zip us):=by
 cases L with
 |one=>match us,J with|[_],_=>rfl
 |two=>match us,J with|[_,_],_=>rfl
def KZ{D:Wm}{ps:List ay}(J:LPa D ps)(q:ps.Nodup){us:List aA}(B:us.length=ps.length){i:Nat}{x:ay}(e:ps[i]?=aa x):∃u,us[i]?=aa u/\(ps.zip us).reverse.lookup x=aa u:=by
 cases J with
 |one =>
  match us,B,i,e with
  |[u],_,0,e=>simp at e;subst e;exact⟨u,rfl,by simp⟩|[u],_,i+1,e=>simp at e
 |two =>
  match us,B,i,e with
  |[u,v],_,0,e =>
   simp at e;subst e;simp at q;exact⟨u,rfl,by simp[V0,beq_false_of_ne q]⟩
  |[u,v],_,1,e=>simp at e;subst e;exact⟨v,rfl,by simp⟩|[u,v],_,i+2,e=>simp at e
structure LF(ps fs:List ay)(sc:Vf):Prop where
 kd:sc.kind=.function
 co:sc.isCoroutine=ai
 ge:sc.isGenerator=ai
 cell:∀y∈sc.names,y.2≠.cell
 loc:∀x∈ps,sc.names.lookup x=aa .local
 fre:∀x∈fs,sc.names.lookup x=aa .free/\(x,Vy)∈sc.names
 all:∀y∈sc.names,y.2=.free->y.1∈fs
 nd:(ps++fs).Nodup
theorem qa:∀{l:List ay},lz l=ah->l.Nodup
 |[],_=>X9
 |x::r,h=>by simp only[lz,Uz,W1]at h;refine List.nodup_cons.mpr ⟨λz=>?_,qa h.2⟩;have:=h.1;simp[z]at this
def OH(h:pQ ps fs sc=ah):LF ps fs sc:=by
 simp only[pQ,Uz,W1]at h;obtain⟨⟨⟨⟨⟨⟨⟨W,V⟩,U⟩,M⟩,L⟩,J⟩,D⟩,O⟩:=h;rw[VN]at M L J D;refine⟨bQ W,V,U,λy q e=>?_,λx B=>bQ (L x B),λx B=>?_,λy q e=>?_,qa O⟩;have:=M y q;rw[e]at this;exact aS this
 ·have:=J x B;simp only[Uz]at this;exact⟨bQ this.1,by simpa using this.2⟩
 ·have:=D y q;rw[e]at this;simpa using this
def Du(P:UM)(w:U6)(K:Uv)(mg:ay->Option aA)(base:aq)(N:List ay)(q:ay)(sc:Vf)(cl:List (ay×az))(f c':az)(A:VE)(outer:List Env)(s:UA)(H:Hp):Cx where
 prog:=P
 w:=w
 K:=K
 mg:=mg
 base:=base
 A:=A.deeper (Xg q sc s.heap.objs.size f (.ref c') cl)
 N:=N
 s₀:=s
 H₀:=hid cl H
 env:=Xg q sc s.heap.objs.size f (.ref c') cl
 outer:=outer
 stack:=Xg q sc s.heap.objs.size f (.ref c') cl::outer
 ex:=[]
 calm:=ah
 fn:=λ_=>ai
 pn:=[]
 xe:=λ_ _=>False
def zb(C:fR cl H)(ok:HOk P w H h)(k:∀b o,h.get? b=aa o->h1.get? b=aa o):HOk P w (hid cl H) h1:=λb u e=>by obtain⟨e1,_⟩:=KU e;exact(ok b u e1).stay (λc o _ q=>k c o q) (λc q=>C.hid q rfl) λc B q=>C.hid q rfl
def GI 
(Y:LPa pa ps)(F:LF ps fs sc)(inj:∀x y c,cl.lookup x=aa c->cl.lookup y=aa c->x=y)(U:∀x c,cl.lookup x=aa c->x∈fs)(V:jN m H cl fs cvs)(R:A.handled=af)(D:oY P w K mg base A outer s H)(r:dw vs us)(g:us.length=ps.length)
(Z:h1.Ns s.heap.objs.size (λy=>(ps.zip us).reverse.lookup y))(J:∀b o,s.heap.get? b=aa o->h1.get? b=aa o):
 Inv (Du P w K mg base (ps++fs) q sc cl f c' A outer s H) [] (vs.map aa++cvs.map aa) (hid cl H) {s with heap:=h1,toks:=tk}:=by
 have C:=V.cells U;have W:vs.length=ps.length:=r.length.trans g;have E:=V.len;have M:∀b:az,b∉(Du P w K mg base (ps++fs) q sc cl f c' A outer s H).ex:=λb z=>bL (show b∈([]:List az) from z) (by simp);have d:∀x c,cl.lookup x=aa c->∃u,s.heap.IsCell c (aa u):=λx c e=>by obtain⟨i,a⟩:=V7 (U x c e);obtain⟨k,o,u,v,B,L,j,_⟩:=V.get a;rw[e]at B;cases B;exact⟨u,o,(D.aJ _ _ L.1).1,j⟩
 refine ⟨⟨D.mod,F.kd,rfl,rfl,UE _,inj,λx O=>?_,λx c z=>bL (show ai=ah from z) (by decide),λ_=>R,Z3 D.frames,.inr ⟨rfl,rfl⟩,λb z=>bL z (M b),λb o e=>⟨(D.bs b o e).1,iM (D.bs b o e).2⟩,D.bsz,λb _ _=>M b,λb z=>bL z (M b),D.kR,λb S=>iM (D.frf b S)⟩,
  rfl,D.bare,Un.aH J,⟨_,Z,λi x v B L j=>?_⟩,λx c e=>?_,iM (D.aJ.fresh (UE _)),λx c e=>xG e,λp Y=>bL (show p∈([]:List (az×ao)) from Y) (by simp),zb C D.aJ J,?_⟩
 ·have O:sc.names.lookup x=aa .cell\/sc.names.lookup x=aa .free:=O;rcases O with O|O
  exact bL rfl (F.cell _ (VR O))
  ·obtain⟨i,a⟩:=V7 (F.all _ (VR O) rfl);obtain⟨c,_,_,_,B,_⟩:=V.get a;exact⟨c,B⟩
 ·have B:(ps++fs)[i]?=aa x:=B
  by_cases c:i<ps.length
  ·rw[UD c]at B;rw[UD (by simpa [W]using c),U1]at L;obtain⟨u,g4,g5⟩:=KZ Y (F.nd.sublist (List.sublist_append_left _ _)) g B;obtain⟨v',X,T⟩:=Option.map_eq_some_iff.mp L;cases T;obtain⟨u',h,t⟩:=r.get X;rw[g4]at h;cases h;exact⟨u,t,.inl ⟨F.loc x (UJ B),g5⟩⟩
  ·rw[U4 (by lia)]at B;rw[U4 (by simp[W];lia),U1]at L;simp only[UI,W]at L;obtain⟨k,o,u,v2,Q,k2,N,I,G⟩:=V.get B;rw[I]at L;cases L;exact⟨u,G,.inr ⟨.inr (F.fre x (UJ B)).1,k,Q,o,J _ _ (D.aJ _ _ k2.1).1,N⟩⟩
 ·obtain⟨u,o,n,l⟩:=d x c e;exact⟨aa u,o,J _ _ n,l⟩
 ·show _=(ps++fs).length;simp[W,E]
section
def AK(e:BT.tH F o ws h=aa r):∃k q,o=aa (aa (.c k q))/\BT.noC ws=ah/\F k (ws++q.map bC.w) h=aa r:=by
 unfold BT.tH at e;split at e
 ·rename_i k q;split at e;rename_i c;exact⟨k,q,rfl,c,e⟩;exact cX e
 exact cX e
def jK.fnAt(l:jK m H f L vs)(ok:HOk P w H h):PySem.W.FnAt f h:=by obtain⟨g,M,fs,U,i,D,cl,O,B,e,V,os,t,J,d,c,b,a,Z,Y,q,_⟩:=l;exact⟨_,_,_,_,(ok _ _ q.1).1⟩
def Post.ext(p:Post P w K m H z h' Q)(x:Ext m H m' H'):Post P w K m' H' z h' Q:=λv q m2 y R r=>p v q m2 (x.trans y) R r
def Dv(O:Ok X F G sc N)(h1:N[i]?=aa x)(h2:nL sc x=ah)(h3:fE x=ah)(hc:CEs sc N as (e::es))(ha:PA X (e::es) (tDs X F G as)):
 PE X (.Call (.Name x np) (e::es) [] pos) (tD X F G (.callv i as)):=by
 have D:=iE hc;simp only[dg,Uz]at D;intro l s j H Q I q;obtain⟨m,s',h,z,y,R,S,ee,P⟩:=q;simp only[aN]at ee;obtain⟨ws,g,e1,e2⟩:=c6 ee;obtain⟨k,cs,k1,k2,n⟩:=AK e2;obtain⟨v,hv,rv⟩:=S.get i _ k1;obtain⟨d1,d2,_⟩:=gS h3;refine VO ?_;refine thn (Bj (i:=i) (by rw[O.hN];exact h1) (Dh O h2) d1 d2 l s j H (λT Y=>T=v/\Y=H) I ⟨v,hv,rfl,rfl⟩) λu s1 zq=>?_;obtain⟨T,Y,V,r2,ev,eh⟩:=zq;subst ev eh;have hA:tDs X F G as j Y (λB U=>∃J,Ext m Y J U/\RH X.K J U g/\RWs X.prog X.w X.K J U B ws):=⟨m,s',h,ws,g,R,S,e1,λB U J M d Z=>⟨J,M,d,Z⟩⟩;cases rv with
 |@c f L C _ t rc =>
  obtain rfl:u=.ref f:=r2;refine PySem.W.callWith_F (t.fnAt V.aJ) (thn (ha pos l s1 j Y _ V hA) λus s2 ⟨B,U,I3,Z,J,M,d,w3⟩=>⟨(t.ext M).fnAt I3.aJ,?_⟩) (c5 D.1) (dI D.2);obtain⟨k,o,lo⟩:=O.lam _ _ _ _ n;refine XM (codeAny_mono (lo X.A X.stack s2 U f us B C J ws cs g z y Q E0 o I3.JH Z d w3 k2 (t.ext M) (rc.ext M) n (P.ext M)) λr s' p=>?_);cases r with
  |error e=>exact Vo p
  |ok fl =>
   cases fl with
   |ret u=>exact I3.after p|_=>exact Vo p
 |@g f x' hn hk =>
  obtain rfl:u=.ref f:=r2;have a:F (.f x') ws g=aa (z,y):=by simpa using n
  obtain⟨fa,fd,ps,k,hm,_,hb,o,ok⟩:=O.call _ _ _ _ a;have b:=Wk V.ok.mod.kin V.ok.mod.glob hn;rw[hm]at b;cases b;refine WK (h₀:=X.base) V.ok.mod.kin hk (thn (ha pos l s1 j Y _ V hA) λus s2 ⟨B,U,I3,Z,J,M,d,w3⟩=>⟨I3.kIn,?_⟩) (c5 D.1) (dI D.2);refine oZ (E:=E0) ok o hb .nil o6 I3 Z ?_;rw[U8];exact⟨J,ws,g,z,y,d,w3,a,P.ext M⟩
end
section
open PySem.W PySem.Calls PySem.Builtin PySem.Builtin.ObjectAttr PySem.Builtin.Getset_descriptor
variable{E:aA->UA->Prop}{K:Uv}
end
section
end
section
variable{X:Cx}
def OI(N:X.A.units+150<cLine):MtR X "list.count" (rMe X.prog X.w X.K .count):=by
 intro zt s σ H v vs v' us Q I o M h;obtain⟨m,h,x,ws,z,h',R,J,L,e,k⟩:=h;cases x with
 |r n=>cases ws with
  |_=>(first|exact cX e|simp[aU]at e)
 |p d =>
  rw[BT.Ag]at e;cases g:bx ws with
  |none=>rw[g]at e;exact cX e
  |some ds =>
   rw[g]at e;obtain⟨b,e1,e2⟩:=dz e;cases e2;have rds:=L.pure g;cases d<;>first|exact cX e1|skip
   rename_i D;cases ds with
   |nil=>exact cX e1
   |cons B dr =>
    cases dr with
    |cons _ _=>exact cX e1
    |nil =>
     rw[BT.JX]at e1;obtain⟨c,e1⟩:=dB e1;cases e1;cases rds with
     |cons E C =>
      cases C;obtain⟨u,rfl,t⟩:=M.one;cases J with
      |p J =>
       obtain⟨a,vt,rfl,S,ra⟩:=RR.aB (.d J);cases o;obtain⟨zz,q,n,O,_,W⟩:=rdL I S;have hl:=O.length;have P:=ra.length;have T:q.countP (fH s.heap (pd B))=D.countP λy=>aT y B:=by
        have U:q.map (fH s.heap (pd B))=D.map λy=>aT y B:=by refine List.ext_getElem (by rw[UI,UI];lia) λi Z Y=>?_;rw[UI]at Z Y;rw[YM,YM];exact oF I ra O i Z Y
        have j:∀{V:Type}(f:V->Bool)(l:List V),l.countP f=(l.map f).countP id:=λf l=>by rw[List.countP_map];rfl
        rw[j,j (λy=>aT y B),U]
       refine WW F.slot_list_count ⟨_,W,rfl⟩ F.entry_list_count (F.args_list_count_2 _ _) (SeqAt.list_countAt a q.toArray n af #[] u (fH s.heap (pd B))) ⟨W,?_,?_⟩
       ·intro y G;exact jy N I (.d E) t ra O c y (by simpa using G)
       ·refine⟨.int ((D.countP λy=>aT y B:Nat):Int),H,I.tok _,⟨s.toks,?_⟩,k.here R (.int _)⟩;rw[←T]
 |_=>(first|exact cX e|simp[aU]at e)
end
structure vG(K:Uv)(J:It)(m0:List az)(H0:Hp)(ds:List aO)(C:aL->Prop):Prop where
 go:∀m H h (i:Nat),Ext m0 H0 m H->RH K m H h->C h->i<ds.length->J.go i H
 yld:∀m H h (i:Nat) x H' d,Ext m0 H0 m H->RH K m H h->C h->ds[i]?=aa d->J.yld i H x H'->Ext m H m H'/\Le H H'/\RD K m H' x d
 stop:∀m H h,Ext m0 H0 m H->RH K m H h->C h->J.stop ds.length H
def vH(sr:bH)(ws:List aM):Prop:=BT.iS ws=ah\/((sr=.seq\/sr=.enu)/\∃q,ws=[.r q])
def nh(sr:bH)(ws:List aM)(ds:List aO)(h:aL):Prop:=∀q,ws=[.r q]->BT.kX sr q h=aa ds
def vH.p{sr:bH}{ws:List aM}(h:vH sr ws)(n:¬(sr=.seq\/sr=.enu)):BT.iS ws=ah:=h.resolve_right λz=>n z.1
def K0{q:Nat}{ds:List aO}{h:aL}(e:BT.kX .seq q h=aa ds):bf h q=aa ds:=by
 unfold BT.kX at e;cases g:bf h q with
 |none=>rw[g]at e;exact cX e|some B=>rw[g]at e;exact e
def qb{sr:bH}{ws:List aM}{ds:List aO}{h:aL}(a:BT.iS ws=ah):nh sr ws ds h:=λq e=>by subst e;exact aS a
noncomputable def Itv(K:Uv)(a:az)(n:Nat):It :=
 ⟨λi H=>i<n/\∃q,SqL K H a q/\q.length=n,λi H x B=>B=H/\∀q,SqL K H a q->q[n-1-i]?=aa x,λi H=>i=n⟩
theorem Dw(a B:az)(n:Nat):Turn P w K tg (Itv K a n) [B] B (λi h=>h.IsRevIter B a ((n:Int)-1-i)) where
 mem:=by simp
 obj:=λi h st b J=>by
  have e:b=B:=by simpa using J
  subst e;obtain⟨o,e,c,d⟩:=st;exact⟨o,e,λv z=>by rw[d]at z;cases z⟩
 keep:=λi h O st k=>st.at λo e=>k B (by simp) o e
 item:=by
  intro X U hw V y i l s j H E I M st L;subst U hw V;obtain⟨hi,A,r,hx⟩:=L;obtain⟨G,m,p,hz⟩:=I.list r;have hl:=m.length;have t:n-1-i<A.length:=by lia
  obtain⟨u,Q,F⟩:=m.get (UL t);obtain⟨g,f,R,Z,Y,W⟩:=M B (by simp);have S:((n:Int)-1-(i:Int))=(((n-1-i:Nat)):Int):=by lia
  have D:s.heap.IsRevIter B a (((n-1-i:Nat)):Int):=by rw[←S];exact st
  refine wpAny_pyNext_rev_item D p.isList (x:=u) (by simpa using Q) λO q C=>?_;have I1:Inv X l j H {s with heap:=O}:=I.turned (t':=s.toks) (λb o J e=>(C.2 b J).trans e) g f Z Y W;obtain⟨o,e,c,d⟩:=id q;refine⟨u,rfl,uR (s:={s with heap:=O}) e c d (by decide) ⟨_,H,I1,F,⟨rfl,λys N=>by rw[I.uP N r];exact UL t⟩,?_,λb J=>(M b J).1⟩⟩;have e2:(((n-1-i:Nat)):Int)-1=(n:Int)-1-((i+1:Nat):Int):=by lia
  rw[e2]at q;exact q
 done:=by
  intro X U hw V y i l s j H E I M st L;subst U hw V;have L:i=n:=L;subst L;obtain⟨g,f,R,Z,Y,W⟩:=M B (by simp);have e1:(i:Int)-1-(i:Int)=-1:=by lia
  have D:s.heap.IsRevIter B a (-1):=by rw[←e1];exact st
  exact wpAny_pyNext_rev_end (I.ok.hd y) D λO T=>⟨rfl,I.turned (t':=s.toks) (λb o J e=>T b o J e) g f Z Y W⟩
 self:=λ_ _ _ _ _ st h=>wpAny_pyIter_revIter st h
inductive iD(X:Cx)(F:FT)(G:ay->Option aM)(sr:bH)(sa:aV)(σ:L2.St)(H:Hp)(R:It->Hp->Prop):Prop
 |mk(m:List az)(s:aY)(h:aL)(ws:List aM)(h':aL)(ds:List aO)(RR:RH X.K m H h)(S:RS X.prog X.w X.K m H σ s)(e:aX F G sa s h=aa (ws,h'))(e2:(aQ ws h').bind (BT.gO sr)=aa ds)(q:vH sr ws)
  (p:∀H' m' J,Ext m H m' H'->RH X.K m' H' h'->vG X.K J m' H' ds (nh sr ws ds)->R J H'):iD X F G sr sa σ H R
def PI.weak(h:PI X tg e t)(q:∀σ H R,t' σ H R->t σ H R):PI X tg e t':=λB s σ H R I hw=>h B s σ H R I (q _ _ _ hw)
section
def GJ(h:(Rd H0 a (.aB vs)/\a∉m0)\/KL K a vs)(r:RDs K m0 H0 vs ds):vG K (Itl K a) m0 H0 ds C:=by
 have k:∀{m H},Ext m0 H0 m H->SqL K H a vs:=λx=>LL.sq (h.elim (λq=>.inl (Rd.ext x q.1 q.2).1) .inr);refine⟨λm H D i x _ _ B=>?_,λm H D i v O d x RR _ J y=>?_,λm H _ x _ _=>⟨vs,k x,by rw[r.length];exact UE _⟩⟩;exact⟨vs,_,k x,UL (by rw[r.length];exact B)⟩
 ·obtain⟨rfl,y⟩:=y;obtain⟨u,M,L⟩:=(r.ext x).get J;have:=y vs (k x);rw[M]at this;cases this;exact⟨.refl _ _,λ_ _ e=>e,L⟩
def K1(h:(Rd H0 a (.aC vs)/\a∉m0)\/KT K a vs)(r:RDs K m0 H0 vs ds):vG K (Itt K a) m0 H0 ds C:=by
 have k:∀{m H},Ext m0 H0 m H->SqT K H a vs:=λx=>h.elim (λq=>.inl (Rd.ext x q.1 q.2).1) λ⟨o,its,n,q,_⟩=>.inr ⟨o,its,n,q⟩;refine⟨λm H D i x _ _ B=>?_,λm H D i v O d x RR _ J y=>?_,λm H _ x _ _=>⟨vs,k x,by rw[r.length];exact UE _⟩⟩;exact⟨vs,_,k x,UL (by rw[r.length];exact B)⟩
 ·obtain⟨rfl,y⟩:=y;obtain⟨u,M,L⟩:=(r.ext x).get J;have:=y vs (k x);rw[M]at this;cases this;exact⟨.refl _ _,λ_ _ e=>e,L⟩
def K2(h:(Rd H0 a (.aB vs)/\a∉m0)\/KL K a vs)(r:RDs K m0 H0 vs ds):vG K (Itv K a ds.length) m0 H0 ds.reverse C:=by
 have k:∀{m H},Ext m0 H0 m H->SqL K H a vs:=λx=>LL.sq (h.elim (λq=>.inl (Rd.ext x q.1 q.2).1) .inr);refine⟨λm H L i x _ _ B=>?_,λm H L i v U d x RR _ J y=>?_,λm H _ x _ _=>by show ds.reverse.length=ds.length;simp⟩;exact⟨by simpa using B,vs,k x,r.length⟩
 ·obtain⟨rfl,y⟩:=y;have B:i<ds.length:=by have:=getD_some J;simpa using this
  have D:ds[ds.length-1-i]?=aa d:=by rw[List.getElem?_reverse B]at J;exact J
  obtain⟨u,O,M⟩:=(r.ext x).get D;have:=y vs (k x);rw[O]at this;cases this;exact⟨.refl _ _,λ_ _ e=>e,M⟩
def Dy(lo:Int)(n:Nat):vG K (Itr lo n) m0 H0 (BT.upto lo n) C:=by
 have D:(BT.upto lo n).length=n:=by simp[BT.upto]
 refine⟨λm H J i x _ _ q=>by rw[D]at q;exact q,λm H J i v L d x RR _ B y=>?_,λm H _ x _ _=>by rw[D];exact UE n⟩;obtain⟨rfl,rfl⟩:=y;have:d=.int (lo+i):=by
  have q:i<n:=by have:=getD_some B;rw[D]at this;exact this
  simp only[BT.upto,U1]at B;rw[WI q]at B;simpa using B.symm
 subst this;exact⟨.refl _ _,λ_ _ e=>e,.int _⟩
def ud:∀{ws:List aM},BT.iS ws=ah->∃ds:List aO,ws=ds.map aM.p:=by
 intro ws
 induction ws with
 |nil=>exact λ_=>⟨[],rfl⟩
 |cons w ws q =>
  intro h;cases w with
  |p d =>
   obtain⟨ds,rfl⟩:=q h;exact⟨d::ds,rfl⟩
  |_=>exact aS h
def xH(h:aL)(ds:List aO):aQ (ds.map aM.p) h=aa ds:=by
 induction ds with
 |nil=>rfl
 |cons d ds q =>
  show(aQ (ds.map aM.p) h).map (d :: ·)=_;rw[q];rfl
def Dz(B:sr=.seq\/sr=.rev\/sr=.rng1)(e:(aQ ws h).bind (BT.gO sr)=aa ds)(D:BT.iS ws=ah):∃d,ws=[.p d]/\BT.gO sr [d]=aa ds:=by
 obtain⟨q,rfl⟩:=ud D;rw[xH,VA]at e;cases q with
 |nil=>rcases B with rfl|rfl|rfl<;>exact cX e
 |cons d q =>
  cases q with
  |nil=>exact⟨d,rfl,e⟩
  |cons J q=>rcases B with rfl|rfl|rfl<;>cases d<;>exact cX e
def ue(e:aX F G (.cons a .nil) s h=aa (ws,h')):∃w,ws=[w]/\aN F G a s h=aa (w,h'):=by simp only[aX]at e;obtain⟨w,g,e1,e2⟩:=c6 e;simp only[BT.kU,BT.dU,BT.jt]at e2;cases e2;exact⟨w,rfl,e1⟩
def GK{J:List az}{O:Hp}{a:az}{q:Nat}{ds:List aO}(L:J[q]?=aa a):vG K (Itl K a) J O ds (nh .seq [.r q] ds):=by
 have k:∀{m H h},Ext J O m H->RH K m H h->nh .seq [.r q] ds h->∃B,SqL K H a B/\RDs K m H B ds:=λ{m H h} x RR c=>by
  obtain⟨e,rfl,_⟩:=x.pre;have e1:(J++e)[q]?=aa a:=by rw[UD (List.getElem?_eq_some_iff.mp L).1];exact L
  obtain⟨B,b,Z⟩:=RR.cell q a ds e1 (K0 (c q rfl));exact⟨B,LL.sq (.inl (.inl b)),Z⟩
 refine⟨λm H M i x RR c U=>?_,λm H M i v f d x RR c V y=>?_,λm H M x RR c=>?_⟩
 ·obtain⟨B,D,k2⟩:=k x RR c;exact⟨B,_,D,UL (by rw[k2.length];exact U)⟩
 ·obtain⟨B,D,k2⟩:=k x RR c;obtain⟨rfl,y⟩:=y;obtain⟨u,Y,W⟩:=k2.get V;have:=y B D;rw[Y]at this;cases this;exact⟨.refl _ _,λ_ _ e=>e,W⟩
 ·obtain⟨B,D,k2⟩:=k x RR c;exact⟨B,D,by rw[k2.length];exact UE _⟩
def GL(f:PE X x (tD X F G a)):PI X tg x (iD X F G .seq (.cons a .nil)):=by
 intro Z s Y H R I q;obtain⟨m,c,h,ws,O,k,RR,S,e,e2,i,b⟩:=q;rcases i with i|⟨_,q,rfl⟩
 case inr =>
  obtain⟨w,j,V⟩:=ue e;cases j;have g:bf O q=aa k:=by
   simp only[aQ,aZ,Wi]at e2;cases g:bf O q with
   |none=>rw[g]at e2;exact cX e2|some t=>rw[g]at e2;cases e2;rfl
  refine yr f Z s Y H R I ⟨m,c,h,_,O,RR,S,V,λv U M J D B=>?_⟩;cases B with
  |@r a n hn =>
   obtain⟨L,l,u⟩:=D.cell q a k hn g;exact⟨a,rfl,⟨L,LL.sq (.inl (.inl l))⟩,b U M _ J D (GK hn)⟩
 obtain⟨d,rfl,W⟩:=Dz (.inl rfl) e2 i;obtain⟨w,j,V⟩:=ue e;cases j;rw[BT.Cj]at W;cases d<;>simp only[BT.sZ]at W<;>try contradiction
 ·cases W;refine Jv f Z s Y H R I ⟨m,c,h,_,O,RR,S,V,λv U M J D B=>?_⟩;cases B with
  |p B =>
   cases B with
   |@aC a L _ h r=>exact⟨a,rfl,⟨L,h.elim (λq=>.inl q.1) λ⟨o,its,n,q,_⟩=>.inr ⟨o,its,n,q⟩⟩,b U M _ J D (K1 h r)⟩
 ·cases W;refine yr f Z s Y H R I ⟨m,c,h,_,O,RR,S,V,λv U M J D B=>?_⟩;cases B with
  |p B =>
   cases B with
   |@aB a L _ h r=>exact⟨a,rfl,⟨L,LL.sq (h.elim (λq=>.inl q.1) .inr)⟩,b U M _ J D (GJ h r)⟩
def DA(O:Ok X F G sc N)(Y:dW sc "range"=ah)(W:noStar e=ah)(D:PA X [e] (tDs X F G sa)):PI X tg (.Call (.Name "range" p) [e] [] pos) (iD X F G .rng1 sa):=by
 refine PI.weak (zW (d7 O Y) (O.blt _ (by decide)) D (c5 W)) fun f H R q=>?_;obtain⟨m,M,h,ws,Z,i,RR,S,e,e2,D,J⟩:=q;obtain⟨d,rfl,B⟩:=Dz (.inr (.inr rfl)) e2 (D.p (by rintro (z|z)<;>cases z));refine⟨m,M,h,_,Z,RR,S,e,λg b V L a U=>?_⟩;obtain⟨j,rfl⟩:∃j:Int,d=.int j:=by
  cases d with
  |int j=>exact⟨j,rfl⟩|_=>exact bL (show(af:Option (List aO))=aa _ from B) (λz=>nomatch z)
 rw[BT.jg]at B;obtain⟨c,B⟩:=dB B;simp only[Uz,bM]at c;cases B;cases U with
 |cons r t =>
  cases t;cases r with
  |p r =>
   cases r;exact⟨j,rfl,by lia,by lia,J b V _ L a (Dy 0 j.toNat)⟩
def OJ(e:(aQ ws h).bind (BT.gO .rng2)=aa ds)(D:BT.iS ws=ah):∃i j:Int,ws=[.p (.int i),.p (.int j)]/\(-100000<=i/\i<=100000/\-100000<=j/\j<=100000)/\ds=BT.upto i (j-i).toNat:=by
 obtain⟨q,rfl⟩:=ud D;rw[xH,VA]at e;have B:∃i j:Int,q=[.int i,.int j]:=by
  match q,e with
  |[.int i,.int j],_=>exact⟨i,j,rfl⟩
 obtain⟨i,j,rfl⟩:=B;rw[BT.rL]at e;obtain⟨c,e⟩:=dB e;simp only[Uz,bM]at c;cases e;exact⟨i,j,rfl,⟨c.1.1.1,c.1.1.2,c.1.2,c.2⟩,rfl⟩
def DB(O:Ok X F G sc N)(a:dW sc "range"=ah)(Z:noStar x=ah)(B:noStar y=ah)(J:PA X [x,y] (tDs X F G sa)):PI X tg (.Call (.Name "range" p) [x,y] [] pos) (iD X F G .rng2 sa):=by
 refine PI.weak (zX (d7 O a) (O.blt _ (by decide)) J (by rw[c5 Z,c5 B];rfl) (by rw[c5 B];rfl)) fun g H R q=>?_;obtain⟨m,V,h,ws,b,l,RR,S,e,e2,J,L⟩:=q;obtain⟨i,j,rfl,c,rfl⟩:=OJ e2 (J.p (by rintro (z|z)<;>cases z));refine⟨m,V,h,_,b,RR,S,e,λk f Y M d W=>?_⟩;cases W with
 |cons r t =>
  cases t with
  |cons D U =>
   cases U;cases r with
   |p r =>
    cases r;cases D with
    |p D =>
     cases D;exact⟨i,j,rfl,⟨by lia,by lia,by lia,by lia⟩,L f Y _ M d (Dy i (j-i).toNat)⟩
def GM(O:Ok X F G sc N)(A:dW sc "reversed"=ah)(g:noStar e=ah)(C:PE X e (tD X F G a)):PI X tg (.Call (.Name "reversed" p) [e] [] pos) (iD X F G .rev (.cons a .nil)):=by
 intro l s k H R I q;obtain⟨m,t,h,ws,i,ds,RR,S,e,e2,P,n⟩:=q;obtain⟨d,rfl,j⟩:=Dz (.inr (.inl rfl)) e2 (P.p (by rintro (z|z)<;>cases z));obtain⟨w,T,e4⟩:=ue e;cases T;obtain⟨J,rfl⟩:∃J:List aO,d=.aB J:=by
  cases d with
  |aB J=>exact⟨J,rfl⟩|_=>exact bL (show(af:Option (List aO))=aa _ from j) (λz=>nomatch z)
 ·cases j;refine Call_ (ja (u:=.type "reversed") I (d7 O A) (O.blt _ (by decide)) (by decide +kernel) (VB (thn (jm C sM (c5 g) pos l s k H (λf D=>∃a M,f=[.ref a]/\∃B,Ext m H B D/\RH X.K B D i/\((Rd D a (.aB M)/\a∉B)\/KL X.K a M)/\RDs X.K B D M J) I ?_) λus s1 ⟨f,D,I1,V,q1⟩=>?_) (c5 g) rfl))
  ·refine⟨m,t,h,_,i,RR,S,e4,λv D B Z c V=>?_⟩;cases V with
   |p V =>
    cases V with
    |@aB a M _ Y r=>exact⟨a,M,rfl,B,Z,c,Y,r⟩
  ·obtain⟨a,M,rfl,B,Z,c,Y,r⟩:=q1;obtain⟨u,rfl,x⟩:=vals1 V;cases x;obtain⟨z,L,nn,rv,y,ee⟩:=rdL I1 (Y.elim (λq=>.inl q.1) .inr);have Q:s1.heap.IsList a L.toArray:=⟨_,ee,rfl,_,rfl⟩;have W:=r.length;refine call_reversed_list Q ?_;have U:({s1 with heap:=s1.heap.push (revObj a ((L.toArray.size:Int)-1))}:UA).heap.IsRevIter s1.heap.objs.size a ((J.length:Int)-1-((0:Nat):Int)):=by refine⟨_,UG _ rfl,rfl,?_⟩;show Data.fields #[.ref a,Wj ((L.toArray.size:Int)-1)]=_;rw[UB,←y,W];simp
   refine wpAny_pyIter_revIter U ?_;refine⟨s1.heap.objs.size,[s1.heap.objs.size],_,_,D,rfl,I1.aH (t':=s1.toks) λb o e=>Ux _ e,Dw a _ J.length,U,λb E=>?_,n D B _ Z c (K2 Y r)⟩;have e:b=s1.heap.objs.size:=by simpa using E
   subst e;exact I1.Bt (UE _) (I1.aJ.fresh (UE _))
end
section
variable{K:Uv}
def RKs.any(r:RKs K m H vs kvs)(k:Key):(vs.any λq=>decide (q.1=k))=kvs.any λq=>decide (q.1=k):=by
 induction r with
 |nil=>rfl|cons _ _ _ B=>rw[Xc,Xc,B]
def RKs.snoc(r:RKs K m H vs kvs)(k:Key)(D:RD K m H (kV k) (BT.Af k))(q:RD K m H v d):RKs K m H (vs++[(k,v)]) (kvs++[(k,d)]):=by
 induction r with
 |nil=>exact .cons D q .nil|cons h r _ B=>exact .cons h r B
def RKs.repl(r:RKs K m H vs kvs)(k:Key)(q:RD K m H v d):RKs K m H (vs.map λB=>if B.1=k then(B.1,v)else B) (kvs.map λB=>if B.1=k then(B.1,d)else B):=by
 induction r with
 |nil=>exact .nil
 |@cons j L M vs kvs J r t D =>
  rw[UQ,UQ]
  by_cases c:j=k
  rw[bJ c,bJ c];exact .cons J q D;rw[bK c,bK c];exact .cons J r D
def RKs.put(r:RKs K m H vs kvs)(k:Key)(B:RD K m H (kV k) (BT.Af k))(q:RD K m H v d):RKs K m H (putK vs k v) (BT.ff kvs k d):=by unfold putK BT.ff;rw[r.any k];split;exact r.repl k q;exact r.snoc k B q
end
section
variable{X:Cx}{F:FT}{G:ay->Option aM}
def GN:PE X (.Dict [] [] p) (tD X F G .dnew):=by intro M s L H Q I q;obtain⟨m,O,h,z,U,R,S,D,J⟩:=q;simp only[aN]at D;cases D;have B:H s.heap.objs.size=af:=I.aJ.fresh (UE _);refine wpAny_Dict_empty ⟨.ref s.heap.objs.size,_,I.laid (a:=s.heap.objs.size) (o:=.dK []) (t':=s.toks) (λ_ _ q=>Ux _ q) (UE _) (BW s.heap I.big),rfl,?_⟩;refine J _ _ (m++[s.heap.objs.size]) (jS B) (R.Kq B ⟨[],dG,.nil⟩) (.r ?_);rw[←R.len];simp
def IT:V->V->V->Hp->(Hp->Prop)->Prop:=λo i v H Q=>∃p q k,o=.ref p/\i=kV k/\H p=aa (.dK q)/\q.length<aj/\Q (upd H p (.dK (putK q k v)))
def set_dict:Jr X IT:=by
 intro f s d H o i v g h u Q I O U M q;obtain⟨a,D,k,rfl,rfl,e,l,q⟩:=q;cases O;obtain⟨z,b,L,B,dd⟩:=yC I.aJ e;have V:L.length<=aj:=by rw[←B.length];exact z
 have Y:(putK D k v).length<=aj:=by have:=nH D k v;lia
 refine wpAny_setItem_pairs (hsz:=V) (o7 U) dd λc J W=>⟨_,?_,q⟩;have Z:∃q,c.get? a=aa q:=let ⟨q,_,_,hq,_⟩:=J;⟨q,hq⟩;exact sR I (by rw[e];exact V9) W Z (w5 Y b (B.put k M) J)
end
section
variable{E:aA->UA->Prop}
def vI(L:av (UT prog w) A.in1 (collect v) (λvs B=>vs.length<=aj/\av (UT prog w) A.in1.in1 (Builtin.«list.sort» { pos:=[.ref B.heap.objs.size] }) (λfin s2=>∃ u,fin=.done (.ret u)/\Q (.ref B.heap.objs.size) s2) E
 { B with heap:=B.heap.push (seqObj "list" vs.toArray 0) }) E s):av (UT prog w) A (call (.builtin "sorted") [v]) Q E s:=by
 refine Calls.call_function_entry kind_sorted plain_sorted entry_sorted (args_sorted1 v) ?_;show av _ _ (Builtin.sorted {pos:=[v]}) _ _ s;unfold Builtin.sorted;refine Uw (au ?_);refine Uw (V4 L (λvs B D=>?_) λ_ _ x=>x);obtain⟨J,D⟩:=D;simp only[newList];refine Uw (Vm ?_ (by first|size_fits|(rw[UB];exact J)|exact J));refine Uw (Vw (WQ slot_list_sort ⟨_,UG _ rfl,rfl⟩ entry_list_sort ?_ (args_list_sort _)));refine V4 D (λfin s2 q=>?_) λ_ _ x=>x;obtain⟨u,rfl,q⟩:=q;exact⟨u,rfl,au ⟨_,rfl,q⟩⟩
end
section
variable{X:Cx}{F:FT}{G:ay->Option aM}
end
section
variable{X:Cx}{F:FT}{G:ay->Option aM}{K:Uv}{m:List az}{H:Hp}
end
section
variable{F:FT}{G:ay->Option aM}
end
section
variable{F:FT}{G:ay->Option aM}
end
section
variable{X:Cx}{F:FT}{G:ay->Option aM}
def TyX(X:Cx)(T:String)(k:BT.Tx):Prop:=∀(D:List (az×ao)) (s:UA) (B:L2.St) (H:Hp) (v:V) (q:aA) (m:List az) (x:aM) (ws:List aM) (h:aL) (r:aM×aL),
 Inv X D B H s->RelV v q->RW X.prog X.w X.K m H v x->BT.kTx k (x::ws) h=aa r->s.TypeIs q T/\∀a,q=.ref a->∃ob,s.heap.get? a=aa ob/\ob.dict=af
def GO{k:BT.Tx}{ws:List aM}{h:aL}{z:aM}{h':aL}(q:k≠.dget)(e:BT.kTx k ws h=aa (z,h')):∃ds d,aQ ws h=aa ds/\BT.txD k ds=aa d/\z=.p d/\h'=h:=by
 have e:((aQ ws h).bind λds=>(BT.txD k ds).map λd=>(aM.p d,h))=aa (z,h'):=by
  cases k with
  |dget=>exact bL rfl q|_=>exact e
 obtain⟨ds,e1,e2⟩:=Option.bind_eq_some_iff.mp e;obtain⟨d,D,B⟩:=dz e2;cases B;exact⟨ds,d,e1,D,rfl,rfl⟩
def OL{ds:List aO}{d:aO}(e:BT.txD .join ds=aa d):∃x ys ts,ds=[.str x,.aB ys]/\BT.strsOf ys=aa ts/\(ts.length<=4000/\x.length<=10/\∀t∈ts,t.length<=4000)/\d=.str (Str.join x ts):=by
 match ds,e with
 |[.str x,.aB ys],e =>
  obtain⟨ts,e1,e2⟩:=Option.bind_eq_some_iff.mp (show((BT.strsOf ys).bind λts=>if ts.length<=4000/\x.length<=10/\∀t∈ts,t.length<=4000 then aa (aO.str (Str.join x ts))else af)=aa d from e);obtain⟨c,q⟩:=dB e2;exact⟨x,ys,ts,rfl,e1,c,q.symm⟩
def MP{ds:List aO}{d:aO}(e:BT.txD .split ds=aa d):∃x y,ds=[.str x,.str y]/\(y.length=1/\x.length<=BT.lim)/\d=.aB ((Txt.split x y).map .str):=by
 match ds,e with
 |[.str x,.str y],e =>
  obtain⟨c,q⟩:=dB (show(if y.length=1/\x.length<=BT.lim then aa (aO.aB ((Txt.split x y).map .str))else af)=aa d from e);exact⟨x,y,rfl,c,q.symm⟩
def K3{w:aM}{h:aL}{x:ay}(e:aZ w h=aa (.str x)):w=.p (.str x):=by
 cases w with
 |p d=>exact bR aM.p (UK e)|r n=>obtain⟨_,_,q⟩:=dz (show(bf h n).map aO.aB=aa (.str x) from e);cases q|_=>exact cX e
def DC{w:aM}{ws:List aM}{h:aL}{ds:List aO}(e:aQ (w::ws) h=aa ds):∃d r,ds=d::r/\aZ w h=aa d/\aQ ws h=aa r:=by
 cases g:aZ w h with
 |none=>simp[aQ,g]at e
 |some d =>
  cases q:aQ ws h with
  |none=>simp[aQ,g,q]at e|some r=>simp[aQ,g,q]at e;exact⟨d,r,e.symm,rfl,rfl⟩
def ty_str{k:BT.Tx}(L:k≠.dget)(h:∀ds d,BT.txD k ds=aa d->∃x r,ds=.str x::r):TyX X "str" k:=by
 intro U s O H v V m x ws Y r I B q e;obtain⟨ds,d,e1,e2,_,_⟩:=GO L e;obtain⟨y,r,rfl⟩:=h _ _ e2;obtain⟨Z,W,J,D,_⟩:=DC e1;cases J;have M:=K3 D;subst M;cases q with
 |p r =>
  cases r with
  |str _ ok =>
   obtain⟨t,rfl⟩:=B;exact⟨typeIs_str s y t,λ_ e=>nomatch e⟩
inductive rTx(P:UM)(w:U6)(K:Uv)(k:BT.Tx)(vs:List V)(H:Hp)(Q:VK):Prop
 |mk(m:List az)(h:aL)(ws:List aM)(z:aM)(h':aL)(R:RH K m H h)(q:RWs P w K m H vs ws)(e:BT.kTx k ws h=aa (z,h'))(p:Post P w K m H z h' Q):rTx P w K k vs H Q
def oTx(k:BT.Tx)(x y:aM)(h:aL):Option (aM×aL):=BT.kTx k [x,y] h
inductive IU(X:Cx)(m:List az)(H:Hp)(s:UA)(a:az)(o:Option aO)(k:Key):Prop
 |mk(vs:List (Key×aA))(dd:s.heap.DictOf (dD X.prog X.w) a vs)(n:(a==Wb)=ai)(h:(o=af/\valueAt vs k=af)\/∃x v u,o=aa x/\valueAt vs k=aa u/\RelV v u/\RD X.K m H v x):IU X m H s a o k
def OM{m:List az}{H:Hp}{vs:List (Key×aA)}{k:ay}:∀{es:List (ay×V)}{kvs:List (ay×aO)},RDk K es kvs->KV (es.map λq=>((Sum.inr q.1:Key),q.2)) vs->(BT.fz k kvs=af/\valueAt vs (Sum.inr k)=af)\/∃x v u,BT.fz k kvs=aa x/\valueAt vs (Sum.inr k)=aa u/\RelV v u/\RD K m H v x:=by
 intro es
 induction es generalizing vs with
 |nil =>
  intro kvs r q;cases r;cases q;exact .inl ⟨rfl,rfl⟩
 |cons p es U =>
  intro kvs r q;cases r with
  |@cons x v dd _ kvs r t =>
   cases q with
   |@cons p z Z Y M L =>
    obtain⟨W,J⟩:=z;obtain⟨D,B⟩:=M;simp only at D B;subst D;rw[BT.fz]
    by_cases c:k=x
    ·subst c;rw[bJ rfl];exact .inr ⟨dd,v,J,rfl,by simp[valueAt],B,r m H⟩
    ·rw[bK c];have O:¬((Sum.inr x:Key)=Sum.inr k):=λz=>c (Sum.inr.inj z).symm;have:=U t L;simp only[valueAt]at this⊢;rw[XJ (by simpa using O)];exact this
def kdG:BT.Kd->ay->Option aO
 |.t kvs,x=>BT.fz x kvs|.l kvs,x=>BT.dR kvs (.inr x)|_,_=>af
noncomputable def ON:BT.Kd->Bool
 |.t _=>ah|.l _=>ah|_=>ai
def K4{zt:List (az×ao)}{σ:L2.St}{H:Hp}{s:UA}{m:List az}{q:BT.Kd}{v:V}{u:aA}(I:Inv X zt σ H s)(r:RW X.prog X.w X.K m H v (.k q))(O:RelV v u)(x:ay)(b:ON q=ah):
 ∃a,u=.ref a/\IU X m H s a (kdG q x) (.inr x):=by
 cases r with
 |@k a g J Z D =>
  cases O;obtain⟨c,B,Y,dd⟩:=Z;exact⟨a,rfl,B,dd s.heap I.kIn,c,OM D Y⟩
 |@kl a ob ws J d D =>
  cases O;refine⟨a,rfl,?_⟩;cases tY I (.inr ⟨_,d.1⟩) D (.inr x)with
  |no B dd n M L=>exact⟨B,dd,n,.inl ⟨M,L⟩⟩|is B dd n y U W M L f e=>exact⟨B,dd,n,.inr ⟨y,U,W,M,L,f,e⟩⟩
 |_=>exact aS b
def DE{x:aM}{ws:List aM}{h:aL}{z:aM}{h':aL}(e:BT.kTx .dget (x::ws) h=aa (z,h')):∃q y,x=.k q/\h'=h/\ON q=ah/\((ws=[.p .aD]/\z=.p .aD/\∃kvs,q=.t kvs)\/(ws=[.p (.str y)]/\z=.p ((kdG q y).getD .aD))\/∃d,ws=[.p (.str y),.p d]/\z=.p ((kdG q y).getD d)):=by
 have no:∀(o:Option (List aO)),(o.bind λB=>(BT.txD .dget B).map λd=>(aM.p d,h))=aa (z,h')->False:=by intro o e;obtain⟨B,_,e2⟩:=Option.bind_eq_some_iff.mp e;obtain⟨d,D,_⟩:=dz e2;exact cX (P:=False) (show(af:Option aO)=aa d from by rw[←D];unfold BT.txD;rfl)
 cases x with
 |k q =>
  cases q with
  |t kvs =>
   have e:BT.Cs kvs ws h=aa (z,h'):=e;unfold BT.Cs at e;split at e;cases e;exact⟨_,"",rfl,rfl,rfl,.inl ⟨rfl,rfl,_,rfl⟩⟩;cases e;exact⟨_,_,rfl,rfl,rfl,.inr (.inl ⟨rfl,rfl⟩)⟩;cases e;exact⟨_,_,rfl,rfl,rfl,.inr (.inr ⟨_,rfl,rfl⟩)⟩;exact cX e
  |l kvs =>
   have e:BT.xu kvs ws h=aa (z,h'):=e;unfold BT.xu at e;split at e;cases e;exact⟨_,_,rfl,rfl,rfl,.inr (.inl ⟨rfl,rfl⟩)⟩;cases e;exact⟨_,_,rfl,rfl,rfl,.inr (.inr ⟨_,rfl,rfl⟩)⟩;exact cX e
  |m w=>exact(no (aQ (.k (.m w)::ws) h) e).elim|q d w=>exact(no (aQ (.k (.q d w)::ws) h) e).elim|s w=>exact(no (aQ (.k (.s w)::ws) h) e).elim
 |p d=>exact(no (aQ (.p d::ws) h) e).elim|r n=>exact(no (aQ (.r n::ws) h) e).elim|o n=>exact(no (aQ (.o n::ws) h) e).elim|c f J=>exact(no (aQ (.c f J::ws) h) e).elim|x c=>exact(no (aQ (.x c::ws) h) e).elim
def ty_dict:TyX X "dict" .dget:=by intro V s U H v Y m x ws Z r I D B e;obtain⟨z,c⟩:=r;obtain⟨q,y,rfl,_,L,_⟩:=DE e;obtain⟨a,rfl,W,dd,n,_⟩:=K4 I B D y L;refine⟨dd.typeIs,λb O=>?_⟩;cases O;obtain⟨o,d,f,M,J,_⟩:=dd;exact⟨o,M,J.2.1⟩
end
def qc:∀(ns:List Int),(UZ ns.length).map (λi=>ns.getD i 0)=ns:=by intro ns;refine List.ext_getElem (by simp) λi B q=>?_;simp only[YM,List.getElem_range];rw[Vv,UL q];rfl
def GP(ns:List Int):V5 (λi=>ns.getD i 0) ns.length=bB ns:=by unfold V5;rw[qc];rfl
section
def RRs.two{m:List az}{H:Hp}{vs:List V}{d e:aO}(r:RRs K m H vs [d,e]):∃v u,vs=[v,u]/\RR K m H v d/\RR K m H u e:=by
 cases r with
 |cons r t=>obtain⟨u,rfl,q⟩:=t.one;exact⟨_,u,rfl,r,q⟩
end
section
variable{F:FT}{G:ay->Option aM}
def DF{X:Cx}{sc:Vf}{N:List ay}(O:Ok X F G sc N)(hu:gQ N=ah){ex de:Uy}{a d:aP}{np p kp:Pos}(hg:dW sc "max"=ah)(E:noStar ex=ah)(ha:PE X ex (tD X F G a))(hd:PE X de (tD X F G d)):
 PE X (.Call (.Name "max" np) [ex] [⟨aa "default",de,kp⟩] p) (tD X F G (.bi .maxd ai (.cons a (.cons d .nil)))):=by
 intro zt s σ H Q I q;refine VO (ja (u:=.builtin "max") I (d7 O hg) (O.blt _ (by decide +kernel)) (by decide +kernel) (callWith_kw ?_ (by rw[c5 E];rfl) (by rw[c5 E];rfl) rfl rfl) (by decide) (by decide));obtain⟨m,s',h,z,h',R,S,ee,V⟩:=q;simp only[aN,aX]at ee;obtain⟨ws,g1,e1,e2⟩:=c6 ee;obtain⟨x,g2,e3,e4⟩:=c6 e1;simp only[BT.kU]at e4;obtain⟨w1,g3,e5,e6⟩:=c6 e4;obtain⟨y,g4,e7,e8⟩:=c6 e5;have e8:aa ([y],g4)=aa (w1,g3):=e8;cases e8;have e6:aa ([x,y],g3)=aa (ws,g1):=e6;cases e6;rw[c5 E];show av _ _ (Zd ((ai,eval ex X.env)::WA p (U9 [] X.env))) _ _ s;refine Wf (thn (ha zt s σ H (λv U=>∃J,Ext m H J U/\RH X.K J U g2/\RW X.prog X.w X.K J U v x) I ⟨m,s',h,x,g2,R,S,e3,λv U J b R1 C=>⟨J,b,R1,C⟩⟩) λu e ⟨v,U,I1,rv,J,b,R1,C⟩=>WZ ?_);refine evalAll_cons (Uw (thn (hd zt e σ U (λc D=>∃m2,Ext J U m2 D/\RH X.K m2 D g1/\RW X.prog X.w X.K m2 D c y) I1 ⟨J,s',g2,y,g1,R1,S.ext b,e7,λc D m2 Z R2 A=>⟨m2,Z,R2,A⟩⟩) λu2 k zq=>?_));obtain⟨c,D,g,n,m2,Z,R2,A⟩:=zq;refine Uw (XW (au (evalAll_nil ?_)));show av _ _ (call (.builtin "max") [u] [(UN "default",u2)]) _ _ k;have l:RWs X.prog X.w X.K m2 D [v,c] [x,y]:=.cons (C.ext Z) (.cons A .nil);obtain⟨ds,dd,k1,k2,⟨_,rfl,rfl⟩|⟨_,q,_⟩⟩:=iL e2
 rotate_left
 cases q;have rr:=gZ R2 l k1;have T:∃Y i,ds=[.aB Y,.int i]:=by
  match ds,k2 with
  |[.aB Y,.int i],_=>exact⟨Y,i,rfl⟩
 obtain⟨Y,i,rfl⟩:=T;rw[BT.vh]at k2;obtain⟨W,q1,q2⟩:=dz k2;subst q2;have V:Post X.prog X.w X.K m2 D _ _ Q:=λv5 H5 m5 x5 R5 r5=>V v5 H5 m5 ((b.trans Z).trans x5) R5 r5;obtain⟨v0,v1,ev,r,o⟩:=rr.two;cases ev;obtain⟨a0,vt,rfl,hl,ra⟩:=r.aB;rw[gD q1]at ra;have ev:=gk ra;subst ev;cases o.int;obtain⟨t2,rfl⟩:=n;cases rv;obtain⟨its,rvs,f,hz⟩:=g.list hl.sq;have hi:=intsAre_of rvs;obtain⟨L,ey⟩:=hi.allInts.items;have B:W=L.toList.map (·.1):=by rw[←hi.numsOf,←aaw,←ey]
 have f:=f.isList;rw[ey]at f;refine BX.AI (g.ok.hd (O.calm hu)) f (λhp v h' tk hv P=>?_) λhp h' tk P=>?_
 ·obtain⟨t,rfl⟩:=ZQ hv;obtain⟨h1,h2⟩:=argBest_gt (numAt L) (L.size-1);have:BT.sY W=aa (numAt L (YE (λi j=>decide (numAt L i>numAt L j)) (L.size-1))):=by
   cases gm:BT.sY W with
   |none =>
    have:W=[]:=by
     cases W with
     |nil=>rfl|cons _ _=>cases gm
    rw[this]at B;have:=bR Y9 B;rw[UI,UV]at this;simp at this;lia
   |some M =>
    obtain⟨e,k⟩:=BT.kG gm;refine bR aa (Zq ?_ (k _ ?_))
    ·rw[B]at e;obtain⟨j,hj,rfl⟩:=mem_getD e;rw[UI,UV]at hj;rw[←ZF];exact h2 j (by lia)
    rw[B,ZF];exact getD_mem (by rw[UI,UV];lia)
  refine⟨.int _,D,g.aH P,⟨t,rfl⟩,?_⟩;rw[this]at V;exact V.here R2 (.int _)
 ·have:W=[]:=by rw[B];exact W7 (by rw[UI,UV];exact hp)
  rw[this]at V;exact⟨.int _,D,g.aH P,⟨t2,rfl⟩,V.here R2 (.int _)⟩
end
end BS
end
section
namespace BX
open PySem PyProof.Rows
def NX.keep{S:az}(N:NX w h it a ord i)(M:h.get? S=aa oS)(L:oS.cls=.type "list")(Z:a≠S)(k:∀b o,b≠S->h.get? b=aa o->h'.get? b=aa o):NX w h' it a ord i:=by
 obtain⟨o,g,j,t,first,W,D,Y,q,m⟩:=N.ex;refine⟨o,g,j,t,first,k _ _ Z W,D,Y,k _ _ (λz=>?_) q,?_⟩
 ·subst z;rw[M]at q;cases q;exact bL (show(Xr "set_iterator")=.type "list" from L) (by decide)
 ·cases m with
  |A J=>exact .A J
  |B f V =>
   obtain⟨O,e,c,n,d⟩:=f;refine .B ⟨O,k _ _ (λz=>?_) e,c,n,d⟩ V;subst z;rw[M]at e;cases e;rw[L]at c;exact bL c (by decide)
  |C J D U=>exact .C J D U
section
variable{prog:UM}{w:U6}{A:VE}{E:aA->UA->Prop}{s:UA}{R:ZU->UA->Prop}
def DG(C:A.handled=af){B a S:az}{ord:List aA}{Z:ao}{es:Array (Int×aA)}{ep:Nat}{t:SetTable}{h₁:aq}(U:B≠a)(W:a≠S)(V:B≠S)(hn:ord.length<=aj)(H:h₁.get? a=aa Z)(E:Z.data=.set es ep t)(x:ord.length=es.size)(res:aA)
(G:∀h' c,(∀b o,b≠S->b≠B->h₁.get? b=aa o->h'.get? b=aa o)->h'.get? S=aa {cls:=.type "list",dict:=af,data:=.seq ord.toArray c,slots:=#[]}->R (.ok (.ret res)) {s with heap:=h'}):
 ∀(k i:Nat)(h:aq)(c:Nat),ord.length-i=k->i<=ord.length->NX w h B a ord i->(∀b o,b≠S->b≠B->h₁.get? b=aa o->h.get? b=aa o) →
  h.get? S=aa {cls:=.type "list",dict:=af,data:=.seq (ord.take i).toArray c,slots:=#[]} →
  ak (UT prog w) A (.builtin "list.extend.loop" ⟨[.ref S,.ref B,res],[]⟩) R {s with heap:=h}:=by
 intro k
 induction k with
 |zero =>
  intro i h c y z N q Y;have O:i=ord.length:=by lia
  refine codeAny_builtin YU ?_;rw[Vp VZ _];show av _ A.in1 (YO (.ref B) >>= _) _ _ _;refine Uw (JT (s:={s with heap:=h}) (A:=A.in1) C N O (λo I K T e1 e2=>?_) λh' j=>?_)
  ·have P:=q a Z W U.symm H;replace e1:h.get? a=aa o:=e1;rw[P]at e1;cases e1;rw[E]at e2;cases e2;exact x
  ·subst O;rw[List.take_length]at Y;exact au (G h' c (λb o r g e=>j b o g (q b o r g e)) (j S _ V.symm Y))
 |succ k u =>
  intro i h c y z N q Y;have L:i<ord.length:=by lia
  have v:ord[i]?=aa ord[i]:=UL L;refine codeAny_builtin YU ?_;rw[Vp VZ _];show av _ A.in1 (YO (.ref B) >>= _) _ _ _;refine Uw (FM (s:={s with heap:=h}) N U v λh' Q p=>?_);have M:∀b o,b≠B->h.get? b=aa o->h'.get? b=aa o:=p.extBut;have D:=M S _ V.symm Y;have f:∀b o,b≠S->h'.get? b=aa o->(h'.update S (Ww (·.push ord[i]))).get? b=aa o:=λb o F e=>(Vk _ _ (Vu F)).trans e;have J:(ord.take i).toArray.size=i:=by simp;lia
  show av _ A.in1 (updateSeq S (·.push ord[i]) >>= _) _ _ _;refine Uw ?_;have n:(ord.take i).toArray.push ord[i]=(ord.take (i+1)).toArray:=by rw[List.push_toArray,List.take_append_getElem]
  obtain⟨d,hg⟩:∃d,(h'.update S (Ww (·.push ord[i]))).get? S=aa {cls:=.type "list",dict:=af,data:=.seq (ord.take (i+1)).toArray d,slots:=#[]}:=⟨_,by rw[←n];exact Vb (Ww (·.push ord[i])) D rfl⟩;exact Wx D rfl (au ⟨plainId_quiet VZ _,u (i+1) _ d (by lia) L (Q.keep D rfl W f) (λb o m l e=>f b o m (M b o l (q b o m l e))) hg⟩) (by rw[J];lia) (by show((ord.take i).toArray.push ord[i]).size<=aj+1;rw[Array.size_push,J];lia)
end
def GQ:typeLookup (.type "set") "__len__"=pure (aa (.builtin "set.__len__")):=by rw[typeLookup_type,builtinLookup_eq_fast];kernel_rfl
section
variable{E:aA->UA->Prop}
def DH(B:s.TypeIs (.ref r) "set")(h:Q ai s):av (UT prog w) A (Yh (.ref r)) Q E s:=by
 unfold Yh;refine Uw (wpAny_specialOf B GQ ?_);generalize hid:("set.__len__":String)=id0
 wp_delta
 rw[show splitId id0=aa ("set","__len__") from by subst hid;decide +kernel];subst hid;refine Uw (Xh (T:="set") (b:=ah) B (by rw[isSubtype_type];kernel_rfl) ?_);refine Yi (λq=>bL q (by decide)) (λ_=>?_);refine Yi (λ_=>?_) (λq=>bL (by decide +kernel) q);refine Uw (Xd B ?_);exact au h
def xJ{R:ZU->UA->Prop}(v:A.handled=af){a S:az}{o:ao}{es:Array (Int×aA)}{ep:Nat}{t:SetTable}(Y:s.heap.get? a=aa o)(Z:o.ExactSet)(m:o.data=.set es ep t)(x:t.fits es.size=ah)(J:es.size<Xe)(r:Tb (w.params.followText "set-order") t)(O:a≠S)(res:aA)(L:Nat)(j:s.heap.get? S=aa {cls:=.type "list",data:=.seq #[] L})
(z:∀h' d (ord:List aA) c,(∀b o,b≠S->s.heap.get? b=aa o->h'.get? b=aa o)->ord.Perm (es.toList.map (·.2))->h'.get? S=aa {cls:=.type "list",dict:=af,data:=.seq ord.toArray c,slots:=#[]}->R (.ok (.ret res)) {s with heap:=h',drawn:=d}):
 av (UT prog w) A.in1 (W0 (.ref S) (.ref a) res)
  (λfin s'=>match fin with|.done f=>R (.ok f) s'|.again c'=>c'.quiet=ah/\ak (UT prog w) A c' R s') (λe s'=>R (.error e) s') s:=by
 have y:s.TypeIs (.ref a) "set":=⟨o,Y,Z.1⟩;have H:a<s.heap.objs.size:=UF Y;have Sl:S<s.heap.objs.size:=UF j;unfold W0;refine Uw (Xd y ?_);have F:Yx (.ref S) (.ref a)=ai:=by simp[Yx,O.symm]
 have E:(Xr "set"==Xr "list")=ai:=by decide
 have C:(Xr "set"==Xr "tuple")=ai:=by decide
 simp only[F,E,C,Ys,WV,if_false];refine Uw (Ce (s:=s) Y Z m x J r λh₁ d p ord N V M u k=>?_);have n:ord.length=es.size:=by rw[k.length_eq,UI,UV]
 have G:=W8 J;have W:∀(h:aq)(D:Nat),(∀b o,b≠S->h₁.get? b=aa o->h.get? b=aa o)->h.get? S=aa {cls:=.type "list",data:=.seq #[] D}->ak (UT prog w) A (.builtin "list.extend.loop" ⟨[.ref S,.ref p,res],[]⟩) R {s with heap:=h,drawn:=d}:=by
  intro h D l q;refine DG (s:={s with drawn:=d}) (h₁:=h₁) (t:=t) v (Wt (UY H M)) O (Wt (UY Sl M)) (by lia) (V a o Y) m n res (λh' c g i=>z h' d ord c (λb o J e=>g b o J (U0 (UY (UF e) M)) (V b o e)) k i)
   ord.length 0 h D (Nat.sub_zero _) (Vx _) (N.keep (V S _ j) rfl O l) (λb o J _ e=>l b o J e) (by simpa using q)
 have q:=V S _ j;refine Uw (Vw (DH (s:={s with heap:=h₁,drawn:=d}) ⟨o,V a o Y,Z.1⟩ ?_));refine Yi (λ_=>?_) (λ_=>au ⟨plainId_quiet VZ _,W _ L (λb o _ e=>e) q⟩);refine Uw (Yp ?_);refine Uw ?_;show av _ _ (updateSeq S (·.push .none) >>= λ_=>updateSeq S (·.pop)) _ _ _;refine Uw (Wx q rfl ?_);have B:=Vb (Ww (·.push WX)) q rfl;refine Wx (hz:=by seq_fits) B rfl ?_;have U:=Vb (Ww (·.pop)) B rfl;refine au ⟨plainId_quiet VZ _,W _ _ (λb o J e=>?_) U⟩;exact(Vk _ _ (Vu J)).trans ((Vk _ _ (Vu J)).trans e)
def vJ(i:A.handled=af)(W:s.heap.get? a=aa o)(Z:o.ExactSet)(k:o.data=.set es ep t)(j:t.fits es.size=ah)(m:es.size<Xe)(c:Tb (w.params.followText "set-order") t)
(h:∀h' d ord,s.heap.objs.size<h'.objs.size->(∀b o,s.heap.get? b=aa o->h'.get? b=aa o)->ord.Perm (es.toList.map (·.2))->R ord {s with heap:=h',drawn:=d}):
 av (UT prog w) A (collect (.ref a)) R E s:=by
 have g:a<s.heap.objs.size:=UF W;unfold collect;refine Uw (wpAny_runValue (codeAny_builtin PySem.F.entry_proto_collect ?_));rw[Vp PySem.F.plain_proto_collect _];show av _ A.in1 (newList [] >>= λl=>again (.builtin "list.__iadd__" ⟨[l,.ref a],[]⟩)) _ _ s;refine Uw (Vm ?_);refine au ⟨plainId_quiet Zi _,codeAny_builtin PySem.F.entry_list_iadd ?_⟩;rw[Vp Zi _];have D:(s.heap.push {cls:=.type "list",data:=.seq ([]:List aA).toArray}).get? s.heap.objs.size=aa {cls:=.type "list",data:=.seq #[]}:=UG _ rfl;show av _ A.in1 (W0 (.ref s.heap.objs.size) (.ref a) (.ref s.heap.objs.size)) _ _ _;have U:=xJ (prog:=prog) (A:=A) (s:={s with heap:=s.heap.push {cls:=.type "list",data:=.seq ([]:List aA).toArray} })
  (R:=λ(q:ZU) (O:UA)=>∃ (h':aq) (d:Drawn) (ord:List aA) (M:Nat),q=.ok (.ret (.ref s.heap.objs.size))/\O={ s with heap:=h',drawn:=d } ∧
   (∀ b o,s.heap.get? b=aa o->h'.get? b=aa o)/\ord.Perm (es.toList.map (·.2))/\h'.get? s.heap.objs.size=aa { cls:=.type "list",dict:=af,data:=.seq ord.toArray M,slots:=#[] })
  i (Ux _ W) Z k j m c (U0 g) (.ref s.heap.objs.size) 0 D
  (λh' d ord M L J B=>⟨h',d,ord,M,rfl,rfl,λb o e=>L b o (U0 (UF e)) (Ux _ e),J,B⟩)
 refine V4 U (λfin O x=>?_) λe O x=>?_
 ·cases fin with
  |done f =>
   obtain⟨h',d,ord,M,e,rfl,L,J,B⟩:=x;cases e;show av _ A (load s.heap.objs.size >>= _) _ _ _;refine Uw (wpAny_load B ?_);refine au ?_;show R ord.toArray.toList _;exact h h' d ord (UF B) L J
  |again Y =>
   refine⟨x.1,codeAny_mono x.2 λq V y=>?_⟩;obtain⟨h',d,ord,M,rfl,rfl,L,J,B⟩:=y;show av _ A (load s.heap.objs.size >>= _) _ _ _;refine Uw (wpAny_load B ?_);refine au ?_;show R ord.toArray.toList _;exact h h' d ord (UF B) L J
 ·obtain⟨_,_,_,_,n,_⟩:=x;cases n
theorem zc:∀{vs:List aA},(∀v∈vs,∃k,YS k v=ah)->∃ks,Xu vs ks/\∀k,k∈ks↔∃v∈vs,YS k v=ah
 |[],_=>⟨[],.nil,λk=>by simp⟩
 |v::vs,h=>by
  obtain⟨k,D⟩:=h v UH;obtain⟨ks,O,L⟩:=zc λu M=>h u (UC _ M);obtain⟨t,rfl⟩:=aaB D;refine⟨k::ks,.cons k t O,λj=>?_⟩;constructor
  ·intro J;rcases List.mem_cons.mp J with rfl|J
   exact⟨_,UH,D⟩
   ·obtain⟨u,q,B⟩:=(L j).mp J;exact⟨u,UC _ q,B⟩
  ·rintro ⟨u,q,B⟩
   rcases List.mem_cons.mp q with rfl|q
   rw[Value.isInt_inj _ _ _ B D];exact UH;exact UC _ ((L j).mpr ⟨u,q,B⟩)
theorem rR:∀{l ks:List Int},l.Nodup->(∀k∈l,k∈ks)->ks.length=l.length->l.Perm ks
 |[],ks,_,_,h=>by rw[List.length_eq_zero_iff.mp h]
 |x::l,ks,n,m,h=>by have q:=m x UH;obtain⟨J,D⟩:=List.nodup_cons.mp n;have:=rR (l:=l) (ks:=ks.erase x) D (λk B=>(List.mem_erase_of_ne (a:=k) (b:=x) (λz=>J (by rw[←z];exact B))).mpr (m k (UC _ B))) (by rw[List.length_erase_of_mem q,h];simp);exact(this.cons x).trans (List.perm_cons_erase q).symm
theorem xK:∀(ns q:List Int),q.Nodup->(ns.foldl (fun σ v=>if σ.any (·==v)then σ else σ++[v]) q).Nodup
 |[],q,h=>h
 |n::ns,q,h=>by
  show(ns.foldl _ (if q.any (·==n)then q else q++[n])).Nodup
  by_cases c:q.any (·==n)=ah
  rw[bJ c];exact xK ns q h
  ·rw[bK c];refine xK ns _ (List.nodup_append.mpr ⟨h,by simp,λa D b B=>?_⟩);rw[List.mem_singleton.mp B];intro z;subst z;exact c (List.any_eq_true.mpr ⟨a,D,by simp⟩)
def rS(ns:List Int):(bB ns).Nodup:=xK ns [] X9
def AL(p:us.Perm vs)(h:Xu vs ks):∃B,Xu us B/\B.Perm ks:=by
 induction p generalizing ks with
 |nil=>exact⟨ks,h,.refl _⟩
 |cons x p O =>
  cases h with
  |cons n t h =>
   obtain⟨B,a,b⟩:=O h;exact⟨n::B,.cons n t a,b.cons n⟩
 |swap x y l =>
  cases h with
  |cons n t h =>
   cases h with
   |cons L M h=>exact⟨L::n::_,.cons L M (.cons n t h),.swap _ _ _⟩
 |trans p q J D =>
  obtain⟨W,a,b⟩:=D h;obtain⟨k2,V,U⟩:=J a;exact⟨k2,V,U.trans b⟩
def xM(x:A.handled=af)(r:qO prog w (w.params.followText "set-order") s.heap a (λj=>(bB ns).any (·==j)) (bB ns).length)(G:(bB ns).length<64)
(F:∀h' d p out e,Xu out.toList (BT.sortI (bB ns))->(∀b o,s.heap.get? b=aa o->h'.get? b=aa o)->s.heap.objs.size<=p->h'.get? p=aa (seqObj "list" out e)->Q (.ref p) {s with heap:=h',drawn:=d}):
 av (UT prog w) A (call (.builtin "sorted") [.ref a]) Q E s:=by
 obtain⟨o,I,S,t,u,hex,z,M,C,W,y,hn,m⟩:=r;have H:=W8 W;refine BS.vI (vJ (A:=A.in1) x u hex z y W m λh' d ord K Y J=>⟨by rw[J.length_eq,UI,UV];lia,?_⟩);obtain⟨ks,V,k2⟩:=zc (vs:=I.toList.map (·.2)) λv l=>by obtain⟨e,B,rfl⟩:=List.mem_map.mp l;obtain⟨⟨k,L,_⟩,_⟩:=M e B;exact⟨k,L⟩
 obtain⟨f,i,g⟩:=AL J V;have c:ks.length=(bB ns).length:=by have:=aao V;simp at this;lia
 have Z:(bB ns).Perm ks:=rR (rS ns) (λk L=>(k2 k).mpr (by
  obtain ⟨e,B,q⟩:=(C k).mp (List.any_eq_true.mpr ⟨k,L,by simp⟩);exact ⟨e.2,List.mem_map.mpr ⟨e,B,rfl⟩,q⟩)) c
 refine PyProof.Rows.list_sort_tree (UG _ rfl) i (by rw[J.length_eq,UI,UV];lia) λout D R P N=>⟨_,rfl,?_⟩;obtain⟨e,B⟩:=PyProof.Rows.sortedHeap_at (h:=h'.push (seqObj "list" ord.toArray 0)) (a:=h'.objs.size) (vs:=ord) (n:=0) (out:=out) (UG _ rfl);have O:D=BT.sortI (bB ns):=aal ((P.trans g).trans (Z.symm.trans (BT.sortI_perm _).symm)) N (BT.lY _);subst O;refine F _ d _ out e R (λb ob q=>?_) (VQ K) B;have U:=Y b ob q;have lt:=UF U;rw[PyProof.Rows.sortedHeap_old (U0 lt) (by rw[VP];exact YI lt)];exact Ux _ U
end
end BX
namespace BS
open PySem PySem.Spec PyProof.Rows L2
def Inv.drew(I:Inv X zt σ H s):Inv X zt σ H {s with drawn:=d}:=⟨I.ok,I.os,I.bare,I.base,I.loc,I.cell,I.free,I.freeC,I.pin,I.aJ,I.len⟩
theorem xN:∀(ns q:List Int),(ns.foldl (fun σ v=>if σ.any (·==v)then σ else σ++[v]) q).length<=ns.length+q.length
 |[],q=>by simp
 |n::ns,q=>by
  show(ns.foldl _ (if q.any (·==n)then q else q++[n])).length<=_
  by_cases c:q.any (·==n)=ah
  ·rw[bJ c];have:=xN ns q;simp only[US];lia
  ·rw[bK c];have:=xN ns (q++[n]);simp only[US,UR,VV]at this⊢;lia
section
def DI(O:Ok X F G sc N)(f:gQ N=ah)(T:dW sc "sorted"=ah)(M:dW sc "set"=ah)(E:noStar ex=ah)(hA:PA X [ex] (tDs X F G sa)):
 PE X (.Call (.Name "sorted" np) [.Call (.Name "set" zp) [ex] [] pos] [] p) (tD X F G (.bi .sset ai sa)):=by
 intro k s j H Q I q;have q:=jL q;refine Call_ (ja (u:=.builtin "sorted") I (d7 O T) (O.blt _ (by decide)) (by decide +kernel) (X3 ?_ (c5 rfl) rfl));rw[c5 (show noStar (.Call (.Name "set" zp) [ex] [] pos)=ah from rfl)];show av _ _ (Zd ((ai,eval (.Call (.Name "set" zp) [ex] [] pos) X.env)::WA p (U9 [] X.env))) _ _ s;refine Wf (Call_ (ja (u:=.type "set") I (d7 O M) (O.blt _ (by decide)) (by decide +kernel) (VB (thn (hA pos k s j H _ I q) λus s1 ⟨vs,H1,I1,r1,q1⟩=>?_) (c5 E) rfl)));obtain⟨m,h,ws,z,h',R,L,e,l⟩:=q1;obtain⟨i,d,e1,e2,⟨_,rfl,rfl⟩|⟨_,q,_⟩⟩:=iL e
 rotate_left
 exact aS q;have n:=gZ R L e1;have hd:∃D,i=[.aB D]:=by
  match i,e2 with
  |[.aB D],_=>exact⟨D,rfl⟩
 obtain⟨D,rfl⟩:=hd;rw[BT.vg]at e2;obtain⟨ns,g1,J⟩:=Option.bind_eq_some_iff.mp e2
 by_cases c:ns.length<64
 rotate_left
 rw[bK c]at J;exact bD J;rw[bJ c]at J;cases J;obtain⟨v,rfl,r⟩:=n.one;obtain⟨a,vt,rfl,ha,ra⟩:=r.aB;rw[gD g1]at ra;have ev:=gk ra;subst ev;obtain⟨u,rfl,eu⟩:=vals1 r1;cases eu;obtain⟨B,Z,t,hz⟩:=I1.list ha.sq;have S:=intsAre_of Z;have w:=Z.length;rw[UI]at w;have sz:B.toArray.size=ns.length:=by simp;lia
 refine BX.B8 (items:=B.toArray) (ns:=ns) (I1.ok.hd (O.calm f)) t.isList (by simpa using S) (by rw[sz];unfold Xe;lia) λh2 Y U P=>?_;rw[sz,GP]at U;refine WZ ?_;have dl:=xN ns [];have W:(bB ns).length<64:=by have:(bB ns).length<=ns.length+0:=dl;lia
 refine BX.xM (s:={s1 with heap:=h2,toks:=Y}) (ns:=ns) (I1.ok.hd (O.calm f)) U W λh3 d p out e A k2 y x=>?_;have g:s1.heap.objs.size<=p:=by obtain⟨o,_,_,_,K,_⟩:=U;exact U3 (VQ (UF K)) y
 have C:=kC A;have sl:aj=16777216:=Wz;have l2:(BT.sortI (bB ns)).length=(bB ns).length:=(BT.sortI_perm _).length_eq;exact⟨.ref _,_,Inv.drew (I1.laid (o:=.aB ((BT.sortI (bB ns)).map V.int)) (t':=Y) (λb u q=>k2 b u (P b u q)) g ⟨by rw[UI];lia,out.toList,e,C,x⟩),rfl,jv R (I1.aJ.fresh g) (pW _) l⟩
end
end BS
end
section
namespace BS
open PySem PySem.Spec PyProof.Rows L2
section
end
noncomputable def n9(sc:Vf)(x:ay):Bool:=match sc.names.lookup x with
 |some .local=>ah|some .cell=>ah|_=>ai
inductive CTs(sc:Vf)(N:List ay):List (Nat×ay)->List Uy->Prop
 |nil:CTs sc N [] []
 |cons{i:Nat}{x:ay}{p:Pos}{tg:List (Nat×ay)}{es:List Uy}(h1:N[i]?=aa x)(h2:n9 sc x=ah)(r:CTs sc N tg es):CTs sc N ((i,x)::tg) (.Name x p::es)
inductive CT(sc:Vf)(N:List ay):List (Nat×ay)->Uy->Prop
 |one{i:Nat}{x:ay}{p:Pos}(h1:N[i]?=aa x)(h2:n9 sc x=ah):CT sc N [(i,x)] (.Name x p)
 |aC{tg:List (Nat×ay)}{es:List Uy}{p:Pos}{k:Nat}(q:Nat.ble 2 tg.length=ah)(h:CTs sc N tg es):CT sc N tg (.Tuple es k p)
section
def RS.set{K:Uv}(S:RS P w K m H σ s)(r:RW P w K m H v z):RS P w K m H (σ.set i (aa v)) (s.set i (aa z)):=by
 refine⟨by simp[S.len],λj y e=>?_⟩
 by_cases c:i=j
 ·subst c;have B:i<s.length:=by
   rcases UX i s.length with q|q
   exact q;rw[UO (by simpa using q)]at e;exact cX e
  rw[Vj B]at e;cases e;exact⟨v,by rw[Vj (by rw[S.len];exact B)],r⟩
 ·rw[U7 c]at e;obtain⟨u,J,D⟩:=S.get j y e;exact⟨u,by rw[U7 c];exact J,D⟩
def ni(O:Ok X F G sc N)(h:n9 sc x=ah):L2.Loc X.env.scope x:=by
 rw[O.hsc];unfold n9 at h;unfold L2.Loc;cases e:sc.names.lookup x with
 |none=>rw[e]at h;exact aS h
 |some k=>rw[e]at h;cases k<;>first|(exact .inl rfl)|(exact .inr rfl)|exact aS h
def zd(h:ly e=ah):∀x,foldedSetIterable e env x=pure x:=by intro x;cases e<;>first|rfl|exact aS h
def GOk(X:Cx)(tg:List (Nat×ay))(g:TG):Prop:=∀(m:List az)(H:Hp)(B:L2.St)(s:aY) (x:V) (d:aO) (D:List aO) (Q:L2.St->Hp->Prop),RS X.prog X.w X.K m H B s->RD X.K m H x d->bw tg.length d=aa D →
 (∀q,RS X.prog X.w X.K m H q (BT.sets tg D s)->Q q H)->g x B H Q
def Su(K:Uv)(n:Nat)(t:TGs):TG:=λv B H Q=>∃a q,v=.ref a/\(SqT K H a q\/LL K H a q)/\q.length=n/\t q B H Q
def K5{X:Cx}{es:List Uy}{k:Nat}{t:TGs}{n:Nat}{pos:Pos}(U:X.calm=ah)(h:PGs X es t)(hn:(WC es X.env).length=n)(q:(WC es X.env).findIdx? (·.1)=af):PG X (.Tuple es k pos) (Su X.K n t):=by
 intro D s B H v u Q I r hw;obtain⟨a,M,rfl,L|L,O,hw⟩:=hw;exact Js U h hn q D s B H _ u Q I r ⟨a,M,rfl,L,O,hw⟩
 ·cases r;obtain⟨z,J,f,V,Y,e⟩:=rdL I L;rw[assign_Tuple];refine Uw (XW ?_);unfold unpack;rw[hn,q];refine Uw (Vw ?_);have sz:n=J.toArray.size:=by rw[UB,←O];exact Y
  rw[sz];refine PySem.W.kun_itemsOf (I.ok.hd U) ⟨_,e,rfl,_,rfl⟩ λc Z=>?_;have d:Inv X D B H {s with heap:=c}:=I.aH (t':=s.toks) λb o e=>Z b o (U0 (UF e)) e;exact h D _ B H M _ Q d (by simpa using V) hw
inductive GsO(X:Cx)(tg:List (Nat×ay))(es:List Uy):Prop
 |mk(q:TGs)(h:PGs X es q)(hn:(WC es X.env).length=tg.length)(B:(WC es X.env).findIdx? (·.1)=af)
  (ok:∀(m:List az)(H:Hp)(σ:L2.St)(s:aY) (vs:List V) (ds:List aO) (Q:L2.St->Hp->Prop),RS X.prog X.w X.K m H σ s->RDs X.K m H vs ds->ds.length=tg.length->(∀σ',RS X.prog X.w X.K m H σ' (BT.sets tg ds s)->Q σ' H)->q vs σ H Q):GsO X tg es
def Sv{X:Cx}{sc:Vf}{N:List ay}(O:Ok X F G sc N){tg:List (Nat×ay)}{es:List Uy}(h:CTs sc N tg es)(M:∀q∈tg,X.fn q.2=ah\/X.env.scope.names.lookup q.2=aa .local):GsO X tg es:=by
 induction h with
 |nil =>
  refine⟨Nc,Fe,rfl,rfl,λm H L s B J Q S r D q=>?_⟩;cases r with
  |nil=>exact⟨rfl,q _ S⟩|cons _ _=>cases D
 |@cons i x p tg es a Z r U =>
  obtain⟨b,Y,hn,V,ok⟩:=U λq W=>M q (UC _ W);refine⟨_,Bp (yq (i:=i) O.nd (by rw[O.hN];exact a) (ni O Z) (M (i,x) (by simp))) Y,bR (·+1) hn,?_,λm H L s B J Q S r D q=>?_⟩
  ·show((ai,Zs (.Name x p) X.env)::WC es X.env).findIdx? (·.1)=af;rw[List.findIdx?_cons];show(if ai=ah then _ else _)=_;rw[bK (by decide),V];rfl
  ·cases r with
   |nil=>cases D|@cons v d B J ra t=>exact⟨v,B,rfl,ok m H (L.set i (aa v)) (s.set i (aa (.p d))) B J Q (S.set (.p ra)) t (Nat.succ.inj D) q⟩
def sCT(O:Ok X F G sc N)(W:X.calm=ah)(h:CT sc N tg te)(J:∀q∈tg,X.fn q.2=ah\/X.env.scope.names.lookup q.2=aa .local):∃g,PG X te g/\GOk X tg g:=by
 cases h with
 |@one i x p Y L =>
  refine⟨_,yq (i:=i) O.nd (by rw[O.hN];exact Y) (ni O L) (J (i,x) (by simp)),?_⟩;intro m H D s v d Z Q S r e q;simp only[US,VV,aad,BT.gi]at e;cases e;exact q _ (S.set (.p r))
 |@aC tg f p k U h =>
  obtain⟨b,V,hn,M,ok⟩:=Sv O h J;refine⟨_,K5 (n:=tg.length) W V hn M,?_⟩;intro m H D s v d Z Q S r e q;have L:=aaf U;unfold bw at e;rw[bK (by lia)]at e;cases r with
  |@aC a B dd h r =>
   rw[BT.vo]at e;obtain⟨c,e⟩:=dB e;subst e;exact⟨a,B,rfl,.inl (h.elim (λq=>.inl q.1) λ⟨o,its,n,q,_⟩=>.inr ⟨o,its,n,q⟩),by rw[r.length];exact c,ok m H D s B _ Q S r c q⟩
  |@aB a B dd h r =>
   rw[BT.vn]at e;obtain⟨c,e⟩:=dB e;subst e;exact⟨a,B,rfl,.inr (h.elim (λq=>.inl q.1) .inr),by rw[r.length];exact c,ok m H D s B _ Q S r c q⟩
  |_=>exact cX e
end
end BS
end
section
namespace BC
open PySem
section
def AM{target:Uy}(I:Nat->UA->Prop)
(turn:∀ n s,I n s->av (UT prog w) A (YO it) (λr B=>match r with
  |none=>R (.ok .next) B
  | some v=>av (UT prog w) A (Yk target it v) (λ_ s₀=>av (UT prog w) A (Zs target env v) (λ_ M =>
   av (UT prog w) A (forIn ifs ah λc r=>if r=ah then do let ok ← isTrue c env (eval c env);pure (Xz ok) else pure (Xz r)) (λok q =>
    if ok=ah then av (UT prog w) A (eval elt env) (λx L =>
     av (UT prog w) A (call (.builtin "list.append") [acc,x]) (λ_ J=>∃ m,m < n/\I m J) (λ_ _=>False) L) (λ_ _=>False) q
    else ∃ m,m < n/\I m q) (λ_ _=>False) M) (λ_ _=>False) s₀) (λ_ _=>False) B) (λ_ _=>False) s)
(n:Nat)(h:I n s):ak (UT prog w) A (.compLoop (.ListComp elt [⟨target,iter,ifs,0⟩] scope pos) 0 it acc env) R s:=by
 refine codeAny_loop rfl I (λn s a=>?_) n h;show av _ A ((compTurn (.ListComp elt [⟨target,iter,ifs,0⟩] scope pos) 0 it acc env).onRaise (λx=>do noteFrame x env;theTreesLotGoes x)) _ _ s;refine wpAny_noted ?_;rw[compTurn_list];refine Uw (XW (Uw (V4 (turn n s a) (λr B U=>?_) λ_ _ D=>D.elim)));cases r with
 |none=>exact au U
 |some v =>
  refine Uw (V4 U (λ_ s₀ V=>?_) λ_ _ D=>D.elim);refine Uw (V4 V (λ_ M Z=>Uw (V4 Z (λok q O=>?_) λ_ _ D=>D.elim)) λ_ _ D=>D.elim);cases ok with
  |false=>exact au ⟨rfl,O⟩
  |true =>
   exact Uw (Uw (V4 O (λx L Y=>Uw (V4 Y (λ_ J W=>au (au ⟨rfl,W⟩)) λ_ _ D=>D.elim)) λ_ _ D=>D.elim))
end
noncomputable def fS(cells:List (ay×az)):List (ay×WD)->List (ay×az)->List (ay×az)
 |[],acc=>acc
 |(n,k)::r,acc=>if k==.free then(match cells.lookup n with|some c=>fS cells r ((n,c)::acc)|none=>fS cells r acc)else fS cells r acc
def xO(cells:List (ay×az))(names:List (ay×WD)):Prop:=∀x∈names,x.2=.free->∃c,cells.lookup x.1=aa c
theorem qd:∀(names:List (ay×WD)) (q:List (ay×az)),xO env.cells names →
 (forIn names q λx (r:List (ay×az))=>(if x.2==.free then do let c ←cellOf env x.1;pure (Xz ((x.1,c)::r))else pure (Xz r):Sem (ForInStep (List (ay×az)))))=pure (fS env.cells names q)
 |[],q,_=>rfl
 |(n,k)::r,q,h=>by
  have B:=λq=>qd (env:=env) r q λx D=>h x (UC _ D);rw[List.forIn_cons]
  by_cases c:k=.free
  ·subst c;obtain⟨a,e⟩:=h (n,.free) UH rfl;have e:env.cells.lookup n=aa a:=e;simp only[fS,e];show(cellOf env n >>= _) >>= _=_;unfold cellOf;rw[e];exact B _
  ·have J:(k==Vy)=ai:=by simpa using c
   simp only[fS,J];exact B _
def nj{q B:Type}{m m':Sem q}{f:q->Sem B}(h:m=m'):(m >>= f)=(m' >>= f):=by rw[h]
def qe{q:Vf}{env:Env}(h:xO env.cells q.names):closureFor q env=pure (fS env.cells q.names []):=by have:=qd (env:=env) q.names [] h;unfold closureFor;exact(nj this).trans rfl
theorem qf:∀{names:List (ay×WD)}{B:List (ay×az)},(∀x c,B.lookup x=aa c->cells.lookup x=aa c)->∀x c,(fS cells names B).lookup x=aa c->cells.lookup x=aa c
 |[],B,h,x,c,e=>h x c e
 |(n,k)::r,B,h,x,c,e=>by
  rw[fS]at e;split at e
  ·split at e
   ·rename_i a J;refine qf (λy b q=>?_) x c e;rw[V0]at q;split at q
    ·rename_i D;have:y=n:=by simpa using D
     subst this;cases q;exact J
    exact h y b q
   exact qf h x c e
  exact qf h x c e
theorem oH:∀{names:List (ay×WD)}{q:List (ay×az)},(∃c,q.lookup x=aa c)->∃c,(fS cells names q).lookup x=aa c
 |[],q,h=>h
 |(n,k)::r,q,h=>by
  rw[fS];split
  ·split
   ·refine oH ?_;rw[V0];split;exact⟨_,rfl⟩;exact h
   exact oH h
  exact oH h
theorem qh:∀{names:List (ay×WD)}{B:List (ay×az)},(x,Vy)∈names->(∃c,cells.lookup x=aa c)->∃c,(fS cells names B).lookup x=aa c
 |[],B,h,_=>nomatch h
 |(n,k)::r,B,h,q=>by
  rw[fS];rcases List.mem_cons.mp h with e|e
  ·cases e;obtain⟨c,D⟩:=q;rw[bJ (by rfl),D];refine oH ?_;exact⟨c,by simp⟩
  ·split
   ·split;exact qh e q;exact qh e q
   exact qh e q
end BC
end
section
namespace BS
open PySem PySem.Spec PyProof.Rows L2
variable{cond:aV}
def qi(F:FT)(G:ay->Option aM)(sc:Vf)(N:List ay)(cond:aV)(q:List Uy):Prop :=
 (cond=.nil/\q=[])\/∃c D,cond=.cons c .nil/\q=[D]/\∀B,Ok B F G sc N->PT B D (tDT B F G c)
structure vK(sc:Vf)(N tg:List ay)(fv:List (Nat×ay))(scope:Vf):Prop where
 k1:scope.kind=.function
 k2:sc.kind=.function
 cell:∀y∈scope.names,y.2≠.cell
 loc:∀y∈scope.names,y.2=.local->scope.names.lookup y.1=aa .local
 free:∀y∈scope.names,y.2=.free->sc.names.lookup y.1=aa .cell
 fvs:∀q∈fv,N[q.1]?=aa q.2/\(q.2,Vy)∈scope.names/\sc.names.lookup q.2=aa .cell/\(d8 scope sc).names.lookup q.2=aa .cell
 nd:(tg++fv.map (·.2)).Nodup
theorem rT:∀{l:List ay},lz l=ah->l.Nodup
 |[],_=>X9
 |x::r,h=>by simp only[lz,Uz,W1]at h;refine List.nodup_cons.mpr ⟨λz=>?_,rT h.2⟩;have:=h.1;simp[z]at this
def OO(h:lA sc N tg fv scope=ah):vK sc N tg fv scope:=by
 simp only[lA,Uz]at h;obtain⟨⟨⟨⟨⟨⟨W,V⟩,M⟩,L⟩,J⟩,D⟩,U⟩:=h;rw[VN]at M L J D;refine⟨bQ W,bQ V,λy B e=>?_,λy B e=>?_,λy B e=>?_,λq O=>?_,rT U⟩
 ·have:=M y B;rw[e]at this;simp at this
 ·have:=L y B;rw[e]at this;simpa using this
 ·have:=J y B;rw[e]at this;simpa using this
 ·have:=D q O;simp only[Uz]at this;obtain⟨⟨⟨a,b⟩,c⟩,d⟩:=this;exact⟨by simpa using a,by simpa using b,by simpa using c,by simpa using d⟩
theorem lC{sc:Vf}{x:ay}{k:WD}(M:k=.cell\/k=.free):∀{names:List (ay×WD)},(∀y∈names,y.2≠.cell) →
 (names.map λ(n,k)=>if(k==Vy&&sc.kind==.function&&sc.names.lookup n==aa .cell)then(n,X5)else(n,k)).lookup x=aa k->(x,Vy)∈names
 |[],_,h=>by simp at h
 |(n,q)::r,hc,h=>by
  have U:=lC (sc:=sc) (x:=x) M (names:=r) λy V=>hc y (UC _ V);replace h:WH x ((if(q==Vy&&sc.kind==.function&&sc.names.lookup n==aa .cell)=ah then(n,X5)else(n,q))::(r.map λ(n,k)=>if(k==Vy&&sc.kind==.function&&sc.names.lookup n==aa .cell)then(n,X5)else(n,k)))=aa k:=h;have O:∀(B:WD),(B=q\/(B=.cell/\q=.free))->WH x ((n,B)::(r.map λ(n,k)=>if(k==Vy&&sc.kind==.function&&sc.names.lookup n==aa .cell)then(n,X5)else(n,k)))=aa k->(x,Vy)∈(n,q)::r:=by
   intro B W D;rw[V0]at D;split at D
   ·rename_i J;have J:x=n:=by simpa using J
    subst J;have e:B=k:=UK D;have L:q=.free:=by
     rcases W with rfl|⟨_,e2⟩
     ·rcases M with z|z
      exact bL (e.trans z) (hc (x,B) UH);exact e.trans z
     exact e2
    rw[L];exact UH
   exact UC _ (U D)
  by_cases c:(q==Vy&&sc.kind==.function&&sc.names.lookup n==aa .cell)=ah
  ·rw[bJ c]at h;refine O .cell (.inr ⟨rfl,?_⟩) h;simp only[Uz]at c;exact bQ c.1.1
  ·rw[bK c]at h;exact O q (.inl rfl) h
def blk(X:Cx)(B:List ay)(s2:UA)(H1:Hp)(q:Vf)(C:az)(fp:List az):Cx :=
 {X with N:=B,s₀:=s2,H₀:=H1,env:=aaz q (BC.fS X.env.cells q.names []) C X.env,outer:=X.stack,stack:=X.stack,ex:=fp,fn:=λ_=>ai,pn:=[],xe:=λ_ _=>False}
section
variable{X:Cx}{F:FT}{G:ay->Option aM}{sc:Vf}{N:List ay}{zt:List (az×ao)}{σ:L2.St}{H1:Hp}{s2:UA}
def nN{q:Vf}{x:ay}{c:az}(e:(BC.fS X.env.cells q.names []).lookup x=aa c):X.env.cells.lookup x=aa c :=
 BC.qf (λ_ _ z=>by simp at z) x c e
def vL(q:X.env.scope=sc)(x:ay):(aaz scope (BC.fS X.env.cells scope.names []) C X.env).kindOf x=(d8 scope sc).names.lookup x:=by subst q;rfl
def ze(J:Inv X zt σ H1 s2)(q:X.env.scope=sc)(D:vK sc N tg fv scope)(B:(x,Vy)∈scope.names):∃c,(BC.fS X.env.cells scope.names []).lookup x=aa c:=by refine BC.qh B (J.ok.has x (.inl ?_));have:=D.free _ B rfl;rw[←q]at this;exact this
theorem K6(B:Inv X zt σ H1 s2)(J:X.env.scope=sc){scope:Vf}{tg:List ay}{fv:List (Nat×ay)}(M:vK sc N tg fv scope){Y:List ay}{C:az}{fp:List az}(V:C=s2.heap.objs.size+1)
(L:∀b∈fp,sL X zt H1 b)(U:∀b∈fp,b<s2.heap.objs.size):(blk X Y s2 H1 scope C fp).Ok where
 mod:=B.ok.mod
 kind:=M.k1
 glob:=B.ok.glob
 blt:=B.ok.blt
 above:=by show s2.heap.objs.size<=C;rw[V];exact VJ _
 inj:=λx y c a b=>B.ok.inj x y c (nN a) (nN b)
 has:=λx W=>by
  refine ze B J M ?_;have O:(d8 scope sc).names.lookup x=aa .cell\/(d8 scope sc).names.lookup x=aa .free:=by rw[←vL J (C:=C)];exact W
  rcases O with e|e
  exact lC (.inl rfl) M.cell e;exact lC (.inr rfl) M.cell e
 cab:=λx c z=>by cases z
 hd:=B.ok.hd
 frames:=B.ok.frames
 stk:=.inl rfl
 exf:=λb D=>⟨λz=>by have l:=U b D;have z:b=C:=z;rw[z,V]at l;exact bL l (Nat.not_lt.mpr (VJ _)),λx c e=>(L b D).2.2.2.2.1 x c (nN e)⟩
 bs:=B.bs
 bsz:=U3 B.ok.bsz B.sz
 noex:=λb o e D=>by
  have q:=(B.ok.bs b o e).1;rcases (L b D).2.2.2.1 with z|z
  exact B.ok.noex b o e z;exact bL (UF q) (Nat.not_lt.mpr z)
 exfs:=λb D z=>by
  rcases List.mem_cons.mp (B.oU b z)with e|e
  exact(L b D).2.1 e;exact(L b D).2.2.1 e
 kR:=B.stack
 frf:=B.sI
end
noncomputable def lobj(us:List aA)(n:Nat):ao:={cls:=.type "list",data:=.seq us.toArray n}
section
variable{X:Cx}{F:FT}{G:ay->Option aM}{sc:Vf}{N:List ay}{zt:List (az×ao)}{σ:L2.St}{H1:Hp}{s2:UA}
noncomputable def lD(n:Nat)(σ:L2.St)(fv:List (Nat×ay)):L2.St:=UU n af++fv.map λq=>(σ[q.1]?).getD af
theorem GR(D:Inv X zt σ H1 s2)(B:X.env.scope=sc)(t:X.N=N)(a:vK sc N tg fv scope)(Y:C=s2.heap.objs.size+1)
(s:∀b∈fp,sL X zt H1 b)(U:∀b∈fp,b<s2.heap.objs.size)(J:∀b o,s2.heap.get? b=aa o->h1.get? b=aa o)(O:h1.Ns C m)(w:h1.get? s2.heap.objs.size=aa (lobj [] 0)):
 Inv (blk X (tg++fv.map (·.2)) s2 H1 scope C fp) [(s2.heap.objs.size,lobj [] 0)] (lD tg.length σ fv) H1 {s2 with heap:=h1,toks:=tk} where
 ok:=K6 D B a Y s U
 os:=rfl
 bare:=D.bare
 base:=Un.aH J
 loc:=by
  refine⟨m,O,λi x v e1 e2 G=>?_⟩;have e1:(tg++fv.map (·.2))[i]?=aa x:=e1;unfold lD at e2
  by_cases c:i<tg.length
  ·rw[UD (by simpa using c),WT,bJ c]at e2;cases e2
  ·rw[U4 (by simpa using c)]at e2;rw[U4 (by simpa using c)]at e1;simp only[W4,U1]at e1 e2;cases g:fv[i-tg.length]? with
   |none=>rw[g]at e1;exact cX e1
   |some q =>
    rw[g]at e1 e2;simp only[Wi,Wc]at e1 e2;subst e1;obtain⟨E,A,f,y⟩:=a.fvs q (UJ g);have Z:σ[q.1]?=aa (aa v):=by
     cases d:σ[q.1]? with
     |none=>rw[d]at e2;exact cX e2|some o=>rw[d]at e2;simp only[aaG]at e2;rw[e2]
    obtain⟨F,r,V⟩:=D.loc;obtain⟨u,h,j⟩:=V q.1 q.2 v (by rw[t];exact E) Z (by rw[B];exact .inr (.inl f));refine⟨u,h,?_⟩;have l:X.env.kindOf q.2=aa .cell:=by show X.env.scope.names.lookup q.2=_;rw[B];exact f
    rcases j with⟨k,_⟩|⟨k,c,ec,o,L,W⟩
    rw[l]at k;cases k
    ·obtain⟨H,M⟩:=ze D B a A;have:=nN M;rw[ec]at this;cases this;refine .inr ⟨.inl ?_,c,M,o,J c o L,W⟩;show(aaz scope (BC.fS X.env.cells scope.names []) C X.env).kindOf q.2=_;rw[vL B];exact y
 cell:=λx c e=>by obtain⟨v,o,L,W⟩:=D.cell x c (nN e);exact⟨v,o,J c o L,W⟩
 free:=D.aJ.fresh (by show s2.heap.objs.size<=C;rw[Y];exact VJ _)
 freeC:=λx c e=>D.freeC x c (nN e)
 pin:=λp n=>by
  have e:p=(s2.heap.objs.size,lobj [] 0):=by have:p∈[]++[(s2.heap.objs.size,lobj [] 0)]:=n;simpa using this
  subst e;refine⟨w,D.aJ.fresh (UE _),?_,?_,λv z=>by cases (show Data.seq _ _=Data.cell v from z)⟩
  ·show s2.heap.objs.size≠C;rw[Y];exact U0 (Wd _)
  ·intro z;obtain⟨_,o,L,_⟩:=D.stack.mem z;exact bL (UF L) (VD _)
 aJ:=D.aJ.aH J
 len:=by show(lD tg.length σ fv).length=(tg++fv.map (·.2)).length;simp[lD]
end
noncomputable def tgF:Nat->List ay->List (Nat×ay)
 |_,[]=>[]|k,x::r=>(k,x)::tgF (k+1) r
noncomputable abbrev tgI(tg:List ay):List (Nat×ay):=tgF 0 tg
theorem uf:∀(tg:List ay)(k:Nat),(tgF k tg).length=tg.length
 |[],_=>rfl|_::r,k=>bR (·+1) (uf r (k+1))
theorem zf{q:Nat×ay}:∀{tg:List ay}{k:Nat},q∈tgF k tg->q.2∈tg
 |x::r,k,h=>by
  rcases List.mem_cons.mp h with rfl|h
  exact UH;exact UC _ (zf h)
def zg(h:nmE te=aa x):∃p,te=.Name x p:=by
 cases te with
 |Name y p=>cases h;exact⟨p,rfl⟩|_=>exact bL (show(af:Option ay)=aa _ from h) (λz=>nomatch z)
def DJ(h:Kp te=a::l):∃k p,te=.Tuple (a::l) k p:=by
 cases te with
 |Tuple q k p=>cases h;exact⟨k,p,rfl⟩|_=>exact bL (show([]:List Uy)=_::_ from h) (λz=>nomatch z)
theorem DK{sc:Vf}{fs:List ay}:∀(tg:List ay){pre:List ay}{es:List Uy},tg.map aa=es.map nmE->(∀x∈tg,n9 sc x=ah)->CTs sc (pre++(tg++fs)) (tgF pre.length tg) es
 |[],pre,es,e,_=>by
  cases es with
  |nil=>exact .nil|cons _ _=>cases e
 |x::r,pre,es,e,h=>by
  cases es with
  |nil=>cases e
  |cons a es =>
   obtain⟨p,rfl⟩:=zg (ZI e).symm;have q:=DK (fs:=fs) r (pre:=pre++[x]) (List.tail_eq_of_cons_eq e) λy B=>h y (UC _ B);rw[Ve,UR]at q;exact .cons (by simp) (h x UH) q
def GS(h:vz sc tg te=ah):CT sc (tg++fs) (tgI tg) te/\(tgI tg).length=tg.length/\∀q∈tgI tg,sc.names.lookup q.2=aa .local:=by
 have st:∀{x:ay},sc.names.lookup x=aa .local->n9 sc x=ah:=λe=>by unfold n9;rw[e]
 unfold vz at h;rw[Uz,Ws,Uz,VN]at h;obtain⟨h,J⟩:=h;have lo:∀{x},x∈tg->sc.names.lookup x=aa .local:=λ{x} B=>bQ (J x B);rcases h with h|⟨h1,h2⟩
 ·have e:=bQ h;cases tg with
  |nil=>exact bL (bR Y9 e) (by simp)
  |cons x r =>
   cases r with
   |cons _ _=>exact bL (bR Y9 e) (by simp)
   |nil =>
    obtain⟨p,rfl⟩:=zg (ZI e).symm;have l:sc.names.lookup x=aa .local:=lo UH;exact⟨.one rfl (st l),rfl,λq D=>by rw[List.mem_singleton.mp D];exact l⟩
 ·have e:=bQ h2;cases g:Kp te with
  |nil=>rw[g]at e;cases tg with
   |nil=>exact aS h1|cons _ _=>cases e
  |cons a l =>
   rw[g]at e;obtain⟨k,p,rfl⟩:=DJ g;exact⟨.aC (by rw[uf];exact h1) (DK (pre:=[]) tg e λx B=>st (lo B)),uf _ _,λq D=>lo (zf D)⟩
theorem zh:∀(tg:List ay)(k:Nat)(ds:List aO)(q:aY),ds.length=tg.length->k+tg.length<=q.length->BT.sets (tgF k tg) ds q=q.take k++(ds.map BT.eZ++q.drop (k+tg.length))
 |[],k,ds,q,h,_=>by cases List.length_eq_zero_iff.mp h;exact(List.take_append_drop k q).symm
 |x::r,k,ds,q,h,hl=>by
  cases ds with
  |nil=>cases h
  |cons d ds =>
   rw[US]at hl;have kl:k<q.length:=by lia
   show BT.sets (tgF (k+1) r) ds (q.set k (aa (.p d)))=_;rw[zh r (k+1) ds _ (Nat.succ.inj h) (by rw[List.length_set];lia),List.drop_set_of_lt (by lia),List.take_succ,Vj kl,List.take_set,List.set_eq_of_length_le (by rw[XG];lia),Ve,show k+1+r.length=k+(x::r).length by rw[US];lia];rfl
def xP{n:Nat}{d:aO}{ds:List aO}(h:bw n d=aa ds):ds.length=n:=by
 unfold bw at h
 by_cases c:n=1
 rw[bJ c]at h;cases h;exact c.symm
 ·rw[bK c]at h;cases d with
  |aC q=>rw[BT.vo]at h;obtain⟨c,h⟩:=dB h;rw[←h];exact c|aB q=>rw[BT.vn]at h;obtain⟨c,h⟩:=dB h;rw[←h];exact c|_=>exact cX h
def GT(h:(tgI tg).length=tg.length)(J:tg≠[])(B:bw tg.length d0=aa ds)(D:sl.length=tg.length+fs.length)(q:sl.drop tg.length=fs):
 BT.sets (tgI tg) ds sl=ds.map BT.eZ++fs/\(ds.map BT.eZ++fs).length=tg.length+fs.length/\(ds.map BT.eZ++fs).drop tg.length=fs:=by
 have hn:=xP B;have g:=zh tg 0 ds sl hn (by lia);rw[aad,q]at g;have le:(ds.map BT.eZ).length=tg.length:=by rw[UI];exact hn
 exact⟨g,by rw[UR,le],by rw[←le];exact List.drop_left⟩
theorem nk:∀{fv:List (Nat×ay)}{fs:aY},BT.frees s fv=aa fs->fs.length=fv.length/\∀(i:Nat)(q:Nat×ay),fv[i]?=aa q->fs[i]?=s[q.1]?
 |[],fs,e=>by simp[BT.frees]at e;subst e;exact⟨rfl,λi q z=>by simp at z⟩
 |q::r,fs,e=>by
  simp only[BT.frees]at e;cases g:s[q.1]? with
  |none=>rw[g]at e;exact cX e
  |some w =>
   rw[g]at e;obtain⟨J,e1,e2⟩:=dz e;subst e2;obtain⟨D,B⟩:=nk e1;refine⟨by simp[D],λi p z=>?_⟩;cases i with
   |zero=>simp at z;subst z;simp[g]|succ i=>simpa using B i p (by simpa using z)
def AN{K:Uv}(S:RS P w K m H σ s)(J:BT.frees s fv=aa fs):RS P w K m H (lD n σ fv) (UU n af++fs):=by
 obtain⟨q,L⟩:=nk J;refine⟨by simp[lD,q],λi y e=>?_⟩
 by_cases c:i<n
 ·rw[UD (by simpa using c),WT,bJ c]at e;cases e
 ·rw[U4 (by simpa using c)]at e;simp only[W4]at e;have D:i-n<fv.length:=by
   rw[←q];rcases UX (i-n) fs.length with z|z
   exact z;rw[UO z]at e;exact cX e
  have g:=UL D;rw[L _ _ g]at e;obtain⟨v,B,r⟩:=S.get _ _ e;refine⟨v,?_,r⟩;unfold lD;rw[U4 (by simpa using c)];simp only[W4,U1,g,Wi,B,aaG]
def GU{rest:List aO}(e:BT.dN f n (d::r) h=aa (rest,h2)):
 ∃xs o B q,bw n d=aa xs/\f xs h=aa (o,B)/\BT.dN f n r B=aa (q,h2)/\rest=(match o with|some x=>x::q|none=>q):=by
 rw[BT.dN]at e;cases g:bw n d with
 |none=>rw[g]at e;exact cX e
 |some xs =>
  rw[g]at e;obtain⟨o,B,e1,e2⟩:=c6 e;unfold BT.Ak at e2;obtain⟨q,L,J,D⟩:=c6 e2;unfold BT.yG at D;cases D;exact⟨xs,o,B,q,rfl,e1,J,rfl⟩
theorem Un.behind(u:Un fs ex H H' h h1)(a:∀b,b<h.objs.size->H2 b=H' b)(lt:∀b o,H b=aa o->b<h.objs.size)(k:∀b o,b<h.objs.size->h1.get? b=aa o->h2.get? b=aa o):Un fs ex H H2 h h2 where
 keep:=λb o e n c d=>k b o (UF e) (u.keep b o e n c d)
 slot:=λb o e n c d=>by obtain⟨J,q⟩:=u.slot b o e n c d;exact⟨J,k b _ (UF e) q⟩
 free:=λb o e n d=>by rw[a b (UF e)];exact u.free b o e n d
 there:=λb o e d=>by obtain⟨B,q⟩:=u.there b o e d;exact⟨B,k b B (UF e) q⟩
 tups:=λb D e=>by rw[a b (lt b _ e)];exact u.tups b D e
 frzs:=λb o w e=>by rw[a b (lt b _ e)];exact u.frzs b o w e
 tbls:=λb L e=>by rw[a b (lt b _ e)];exact u.tbls b L e
section
theorem K7(O:Ok X F G sc N)(hu:gQ N=ah)(q:vK sc N tg fv scope):
 Ok (blk X (tg++fv.map (·.2)) s2 H1 scope C fp) F G (d8 scope sc) (tg++fv.map (·.2)) where
 hsc:=by have:=O.hsc;subst this;rfl
 hN:=rfl
 nd:=q.nd
 calm:=λ_=>O.calm hu
 hu:=O.hu
 own:=Yt
 glob:=O.glob
 call:=O.call
 aF:=O.aF
 mkc:=O.mkc
 blt:=O.blt
 lam:=O.lam
 lamx:=λh=>bL (show ai=ah from h "") (by decide)
def DL{mu:Bool}{sr:bH}{n:Nat}{fs:aY}{O:aY->aL->Option (List aM×aL)}{M:aY->BT.EH}{ws:List aM}{h:aL}{z:aM×aL}{ds:List aO}(e:BT.pN mu sr n (aa fs) O M ws h=aa z)(g:(aQ ws h).bind (BT.gO sr)=aa ds):
 vH sr ws/\∃Y,(∀xs h r,Y xs h=aa r->BT.eV O M fs xs h=aa r/\nh sr ws ds r.2)/\nh sr ws ds h/\bF (BT.dN Y n ds h) (BT.gP mu)=aa z:=by
 unfold BT.pN at e;rw[g]at e;simp only at e
 by_cases J:BT.iS ws=ah
 ·rw[bJ J]at e;exact⟨.inl J,_,λxs h r q=>⟨q,qb J⟩,qb J,e⟩
 ·rw[bK J]at e;have two:(sr=.seq\/sr=.enu)/\∃q,ws=[.r q]:=by unfold BT.tG at e;split at e;exact⟨.inl rfl,_,rfl⟩;exact⟨.inr rfl,_,rfl⟩;exact cX e
  obtain⟨sq,q,rfl⟩:=two;have V:BT.kX sr q h=aa ds:=by
   unfold BT.kX;simp only[aQ,aZ,Wi]at g;cases W:bf h q with
   |none=>rw[W]at g;exact cX g|some xs=>rw[W]at g;exact g
  rcases sq with rfl|rfl
  ·rw[BT.Cq]at e;refine⟨.inr ⟨.inl rfl,q,rfl⟩,_,λxs h r q=>?_,λU B=>by cases B;exact V,e⟩;unfold BT.chk at q;cases D:BT.eV O M fs xs h with
   |none=>rw[D]at q;exact cX q
   |some L =>
    rw[D]at q;simp only at q;split at q
    ·rename_i c;cases q;exact⟨rfl,λU B=>by cases B;unfold BT.kX;rw[c];rfl⟩
    exact cX q
  ·rw[BT.Co]at e;refine⟨.inr ⟨.inr rfl,q,rfl⟩,_,λxs h r q=>?_,λU B=>by cases B;exact V,e⟩;unfold BT.J7 at q;cases D:BT.eV O M fs xs h with
   |none=>rw[D]at q;exact cX q
   |some L =>
    rw[D]at q;simp only at q;split at q
    ·rename_i c;cases q;refine⟨rfl,λU B=>?_⟩;cases B;rw[←c];show(bf L.2 q).bind (λxs=>BT.gO .enu [.aB xs])=(bf L.2 q).map (BT.kD 0);cases bf L.2 q<;>rfl
    exact cX q
inductive LI(X:Cx)(F:FT)(G:ay->Option aM)(scope:Vf)(tg:List ay)(fv:List (Nat×ay))(cond:aV)(elt:aP)(s2:UA)(H1:Hp)(C:az)(fp:List az)(tn:Nat->aq->Prop)(m1:List az)(ds outs:List aO)(fs:aY)(h2:aL)(f':List aO->aL->Option (Option aO×aL))(Cc:aL->Prop)(n:Nat)(s:UA):Prop
 |mk(i:Nat)(D:L2.St)(H':Hp)(m':List az)(q:aL)(out rest:List aO)(vs:List V)(us:List aA)(M:Nat)(B:aY)(p0:i<=ds.length)(p1:n=ds.length-i)(p2:Inv (blk X (tg++fv.map (·.2)) s2 H1 scope C fp) [(s2.heap.objs.size,lobj us M)] D H' s)(p3:tn i s.heap)(p4:(∀b∈fp,H' b=af))(p5:Ext m1 H1 m' H')(p6:RH X.K m' H' q)(Z:RS X.prog X.w X.K m' H' D B)(Y:B.length=tg.length+fs.length)(p9:B.drop tg.length=fs)(J:dw vs us)(W:RDs X.K m' H' vs out)(L:BT.dN f' tg.length (ds.drop i) q=aa (rest,h2))(U:out++rest=outs)(O:Cc q):LI X F G scope tg fv cond elt s2 H1 C fp tn m1 ds outs fs h2 f' Cc n s
structure Apart(X:Cx)(zt:List (az×ao))(H:Hp)(C:az):Prop where
 fr:H C=af
 lo:C≠X.env.locals
 ab:X.s₀.heap.objs.size<=C
 ce:∀x c,X.env.cells.lookup x=aa c->c≠C
 pi:∀p∈X.pn++zt,p.1≠C
def rV(O:Ok X F G sc N)(hu:gQ N=ah)
(hk:lA sc N tg fv scope=ah)(ht:vz (d8 scope sc) tg te=ah)(hset:ly iter=ah)(hI:PI X te iter (iD X F G sr sa))(hC:qi F G (d8 scope sc) (tg++fv.map (·.2)) cond ifs)
(hE:∀X',Ok X' F G (d8 scope sc) (tg++fv.map (·.2))->PE X' elt' (tD X' F G elt)):∀(zt:List (az×ao)) (s:UA) (σ:L2.St) (H:Hp) (Q:VK) (use:Option (aA->Sem Unit)) (Q':aA->UA->Prop),Inv X zt σ H s->tD X F G (.comp mu sr sa tg fv cond elt) σ H Q →
 (∀(Z:UA)(H6:Hp)(C D:az)(m:ay->Option aA),Inv X zt σ H6 Z->Z.heap.Ns C m->Apart X zt H6 C->Q (.ref D) H6->compPost (UT X.prog X.w) X.A X.xe use Q' (.ref D) C (.ok .next) Z) →
 av (UT X.prog X.w) X.A (comprehension (.ListComp elt' [⟨te,iter,ifs,0⟩] scope pos) scope X.env (firstIterPos [⟨te,iter,ifs,0⟩] pos) (newList []) ai (eval iter X.env) use) Q' X.xe s:=by
 have cf:=OO hk;obtain⟨ct,tl,tloc⟩:=GS (fs:=fv.map (·.2)) ht;have t0:tg≠[]:=by
  rintro rfl
  simp[vz]at ht
 intro zt s σ H Q use Q' I q hfin;obtain⟨m,s',h,z,h',R,S,ee,zr⟩:=q;simp only[aN]at ee;obtain⟨ws,h1,e1,e2⟩:=c6 ee;cases g1:(aQ ws h1).bind (BT.gO sr)with
 |none=>unfold BT.pN at e2;rw[g1]at e2;exact cX e2
 |some W =>
  cases g2:BT.frees s' fv with
  |none=>unfold BT.pN at e2;rw[g1,g2]at e2;exact cX e2
  |some fs =>
   rw[g2]at e2;obtain⟨ca,f',hf',c1,e2⟩:=DL e2 g1;obtain⟨L,h2,e3,e4⟩:=c6 e2;unfold BT.gP at e4
   by_cases cl:L.length<=BT.lim
   case neg=>rw[bK cl]at e4;exact cX e4
   rw[bJ cl] at e4;have ez:BT.new mu L h2=(z,h'):=UK e4;have hfree:BC.xO X.env.cells scope.names:=λx hx e=>I.ok.has x.1 (.inl (by
    have:=cf.free x hx e;show X.env.scope.names.lookup x.1=_;rw[O.hsc];exact this))
   refine wpAny_comprehension_free (use:=use) rfl (zd hset) (BC.qe hfree) cf.k1 cf.loc
    (thn (hI zt s σ H (λJ H1=>∃m1,Ext m H m1 H1/\RH X.K m1 H1 h1/\vG X.K J m1 H1 W (nh sr ws W)) I ⟨m,s',h,ws,h1,W,R,S,e1,g1,ca,λH1 m1 J x1 R1 it=>⟨m1,x1,R1,it⟩⟩) λv s1 hv=>thn hv λitv s2 h2'=>?_)
   obtain⟨it,fp,tn,J,H1,rfl,I1,T,st,hf,m1,x1,R1,ito⟩:=h2';have hlt:∀b∈fp,b<s2.heap.objs.size:=λb B=>by obtain⟨o,ho,_⟩:=T.obj 0 _ st b B;exact UF ho
   refine Vm (wpAny_newFunctionEnv cf.cell (by intro y hy;simp at hy) (λh3 hns hsb=>?_) cf.k1);dsimp only at hns hsb⊢;generalize hH2:s2.heap.push {cls:=.type "list",dict:=af,data:=.seq ([]:List aA).toArray}=H2 at hns hsb⊢;have E:H2.objs.size=s2.heap.objs.size+1:=by rw[←hH2,VP]
   have old:∀b o,s2.heap.get? b=aa o->h3.get? b=aa o:=λb o e=>hsb.extBut b o (by rw[E];exact U0 (YI (UF e))) (Ux _ (hH2 ▸ Ux _ e));have hacc:h3.get? s2.heap.objs.size=aa (lobj [] 0):=hsb.extBut _ _ (by rw[E];exact U0 (Wd _)) (Ux _ (hH2 ▸ UG _ rfl));have I4:=GR (tk:=s2.toks+([]:List (ay×aA)).length) I1 O.hsc O.hN cf E hf hlt old hns hacc;have O':=K7 (s2:=s2) (H1:=H1) (C:=H2.objs.size) (fp:=fp) O hu cf;obtain⟨g,hg1,hg2⟩:=sCT O' (O.calm hu) ct λq hq=>.inr (by rw[O'.hsc];exact tloc q hq);have hfl:fs.length=fv.length:=(nk g2).1;have k:∀{H':Hp}{o:ao},(∀b∈fp,H' b=af)->∀b∈fp,sL (blk X (tg++fv.map (·.2)) s2 H1 scope H2.objs.size fp) [(s2.heap.objs.size,o)] H' b:=λ{H' o} hn b B=>by
    refine⟨hn b B,?_,?_,.inl B,λx c e=>(hf b B).2.2.2.2.1 x c (nN e),λp hp=>?_⟩
    ·show b≠H2.objs.size;rw[E];exact U0 (YI (hlt b B))
    ·intro a;rcases List.mem_cons.mp (I1.oU b a)with e|e
     exact(hf b B).2.1 e;exact(hf b B).2.2.1 e
    ·have hp':p=(s2.heap.objs.size,o):=by have:p∈[]++[(s2.heap.objs.size,o)]:=hp;simpa using this
     rw[hp'];show s2.heap.objs.size≠b;exact Wt (hlt b B)
   have loop:∀s4:UA,s4={s2 with heap:=h3,toks:=s2.toks+([]:List (ay×aA)).length} →
    ak (UT X.prog X.w) X.A (.compLoop (.ListComp elt' [⟨te,iter,ifs,0⟩] scope pos) 0 (.ref it) (.ref s2.heap.objs.size) (aaz scope (BC.fS X.env.cells scope.names []) H2.objs.size X.env))
     (compPost (UT X.prog X.w) X.A X.xe use Q' (.ref s2.heap.objs.size) H2.objs.size) s4:=by
    rintro s4 rfl
    refine BC.AM (LI X F G scope tg fv cond elt s2 H1 H2.objs.size fp tn m1 W L fs h2 f' (nh sr ws W)) ?_
     W.length ⟨0,_,H1,m1,h1,[],L,[],[],0,_,Vx _,rfl,I4,T.keep 0 _ _ st (λb B o e=>old b o e),λb B=>(hf b B).1,.refl _ _,R1,AN (S.ext x1) g2,by simp,by simp,.nil,.nil,by rw[List.drop_zero];exact e3,rfl,c1⟩
    rintro n s5 ⟨i,σ5,H5,m5,hh,out,rest,vs,us,nn,sl,hi,rfl,I5,st5,fr5,x5,R5,S5,sl1,sl2,rv5,rd5,go5,ou5,cc5⟩
    by_cases c:i<W.length
    ·rw[Zw c]at go5;obtain⟨xs,o,hA,t,eT,eF,eG,eR⟩:=GU go5;obtain⟨eF,cA⟩:=hf' _ _ _ eF;refine thn (T.item (blk X (tg++fv.map (·.2)) s2 H1 scope H2.objs.size fp) rfl rfl rfl (O.calm hu) i _ s5 σ5 H5 _ I5 (k fr5) st5 (ito.go m5 H5 hh i x5 R5 cc5 c)) λr Z hr=>?_;obtain⟨u,rfl,hr⟩:=hr;refine thn hr λ_ s7 zq=>?_;obtain⟨x,H7,I7,r7,y7,st7,fr7⟩:=zq;obtain⟨x7,k7,rd7⟩:=ito.yld m5 H5 hh i x H7 W[i] x5 R5 cc5 (UL c) y7;have R7:=R5.ext x7 k7;have I7':=I7.pinned (k fr7) (T.obj _ _ st7);obtain⟨sq1,sq2,sq3⟩:=GT tl t0 eT sl1 sl2;refine thn (hg1 _ s7 σ5 H7 x u (fun M H8=>H8=H7/\RS X.prog X.w X.K m5 H7 M (xs.map BT.eZ++fs)) I7' r7 (hg2 m5 H7 σ5 sl x W[i] xs _ (S5.ext x7) rd7 (by rw[tl];exact eT) fun M S8=>⟨rfl,by rw[←sq1];exact S8⟩)) λ_ s8 h8=>?_;obtain⟨M,H8,I8,rfl,S8⟩:=h8;have aH:∀{s9:UA}{σ9:L2.St}{j:Hp},Inv (blk X (tg++fv.map (·.2)) s2 H1 scope H2.objs.size fp) ([(s2.heap.objs.size,lobj us nn)]++mT fp s7.heap) σ9 j s9->tn (i+1) s9.heap/\∀b∈fp,j b=af:=λ{s9 σ9 j} I9=>by refine⟨T.keep _ _ _ st7 λb B o e=>(I9.pin (b,o) (UW _ (UW _ (jl B e)))).1,λb B=>?_⟩;obtain⟨o,e,_⟩:=T.obj _ _ st7 b B;exact(I9.pin (b,o) (UW _ (UW _ (jl B e)))).2.1
     have elem:∀{s9:UA}{j:Hp}{m9:List az}{h9:aL}{w:aM}{hB:aL}{d:aO},Inv (blk X (tg++fv.map (·.2)) s2 H1 scope H2.objs.size fp) ([(s2.heap.objs.size,lobj us nn)]++mT fp s7.heap) M j s9->Ext m5 H8 m9 j->RH X.K m9 j h9 →
      aN F G elt (xs.map BT.eZ++fs) h9=aa (w,hB)->BT.qQ w hB=aa (aa d,hA)->o=aa d →
      av (UT X.prog X.w) X.A (eval elt' (aaz scope (BC.fS X.env.cells scope.names []) H2.objs.size X.env)) (λx s₄ =>
       av (UT X.prog X.w) X.A (call (.builtin "list.append") [.ref s2.heap.objs.size,x]) (λ_ s₅=>∃ m,m < W.length - i/\LI X F G scope tg fv cond elt s2 H1 H2.objs.size fp tn m1 W L fs h2 f' (nh sr ws W) m s₅) (λ_ _=>False) s₄) (λ_ _=>False) s9:=by
      intro s9 j m9 h9 w hB d I9 x9 R9 eE V eO;have ew:w=.p d/\hB=hA:=by
       unfold BT.qQ at V;cases w with
       |p d'=>cases V;exact⟨rfl,rfl⟩|_=>exact cX V
      obtain⟨rfl,rfl⟩:=ew;refine thn (hE _ O' _ s9 M j (λv Ha=>∃P,Ext m9 j P Ha/\RH X.K P Ha hB/\RD X.K P Ha v d) I9 ⟨m9,_,h9,_,hB,R9,S8.ext x9,eE,λv Ha P xa Ra ra=>by cases ra with|p ra=>exact⟨P,xa,Ra,ra⟩⟩) λu10 s10 ⟨v10,H10,I10,r10,m10,x10,R10,rd10⟩=>?_
      obtain⟨pD,nD,f,nfD,_⟩:=I10.pin (s2.heap.objs.size,lobj us nn) (by simp);have lus:=rv5.length;have lvs:=rd5.length;have lou:out.length<=L.length:=by rw[←ou5];simp
      have lle:=fF;have cl':L.length<=BT.lim:=cl;refine wpAny_list_append_plain ⟨nn,pD⟩ (λh11 U Y=>?_) (by rw[UB];lia);obtain⟨nn',U⟩:=U;have U:h11.get? s2.heap.objs.size=aa (lobj (us++[u10]) nn'):=by rw[U];simp[lobj]
      have Y:VC s2.heap.objs.size s10.heap h11:=Y;obtain⟨st10,fr10⟩:=aH I10;have I11:Inv (blk X (tg++fv.map (·.2)) s2 H1 scope H2.objs.size fp) [] M H10 {s10 with heap:=h11} :=
       Inv.turned (t':=s10.toks) (I10.om (λp hp=>by cases hp)) (λb o B e=>(Y.2 b B).trans e) nD f (.inr (UE _)) (λx c e a=>by obtain⟨v,o,ho,_⟩:=I1.cell x c (nN e);have:=UF ho;rw[a]at this;exact bL this (VD _)) λp hp=>by cases hp
      have I12:Inv (blk X (tg++fv.map (·.2)) s2 H1 scope H2.objs.size fp) [(s2.heap.objs.size,lobj (us++[u10]) nn')] M H10 {s10 with heap:=h11}:=I11.om λp hp=>by simp only[List.mem_singleton]at hp;subst hp;exact⟨U,nD,f,nfD,λv a=>by cases (show Data.seq _ _=Data.cell v from a)⟩
      have xt:Ext m5 H5 m10 H10:=(x7.trans x9).trans x10;refine⟨W.length-(i+1),by lia,i+1,M,H10,m10,hB,out++[d],t,vs++[v10],us++[u10],nn',_,c,rfl,I12,?_,fr10,x5.trans xt,R10,(S8.ext x9).ext x10,sq2,sq3,rv5.append (.cons r10 .nil),(rd5.ext xt).append (.cons rd10 .nil),eG,?_,cA⟩
      ·refine T.keep _ _ _ st10 λb B o' e=>(Y.2 b ?_).trans e;exact U0 (hlt b B)
      rw[←ou5,eR,eO,Ve];rfl
     unfold BT.eV at eF;obtain⟨cs,hc,eC,V⟩:=c6 eF;rcases hC with⟨rfl,rfl⟩|⟨cc,cc',rfl,rfl,hCC⟩
     ·simp only[aX]at eC;cases eC;have V:=(show bF _ BT.qQ=_ from V);obtain⟨w,hB,eE,eL⟩:=c6 V;refine wpAny_tests_nil ?_;rw[bJ rfl];have:∃d,o=aa d:=by
       unfold BT.qQ at eL;cases w with
       |p d'=>cases eL;exact⟨_,rfl⟩|_=>exact cX eL
      obtain⟨d,rfl⟩:=this;exact elem I8 (.refl _ _) R7 eE eL rfl
     ·simp only[aX]at eC;obtain⟨wc,hc2,eC1,eC2⟩:=c6 eC;simp only[BT.kU,BT.dU,BT.jt]at eC2;cases eC2;have B:∃b,wc=.p (.bl b):=by
       cases wc with
       |p d =>
        cases d<;>first|exact⟨_,rfl⟩|exact cX V
       |_=>exact cX V
      obtain⟨b,rfl⟩:=B;refine wpAny_tests_one (thn (hCC _ O' _ s8 M H8 (λb' Ha=>b'=b/\∃P,Ext m5 H8 P Ha/\RH X.K P Ha hc) I8 ⟨m5,_,hh,b,hc,R7,S8,eC1,λHa P xa Ra=>⟨rfl,P,xa,Ra⟩⟩) λb' s9 zq=>?_);obtain⟨j,I9,hbb,m9,x9,R9⟩:=zq;subst hbb;cases b' with
      |false =>
       have V:=(show aa ((af:Option aO),hc)=aa _ from V);cases V;rw[bK (by decide)];obtain⟨st9,fr9⟩:=aH I9;have xt:Ext m5 H5 m9 j:=x7.trans x9;refine⟨W.length-(i+1),by lia,i+1,M,j,m9,hA,out,t,vs,us,nn,_,c,rfl,I9.lI,st9,fr9,x5.trans xt,R9,S8.ext x9,sq2,sq3,rv5,rd5.ext xt,eG,?_,cA⟩;rw[←ou5,eR]
      |true =>
       have V:=(show bF _ BT.qQ=_ from V);rw[bJ rfl];obtain⟨w,hB,eE,eL⟩:=c6 V;have:∃d,o=aa d:=by
        unfold BT.qQ at eL;cases w with
        |p d'=>cases eL;exact⟨_,rfl⟩|_=>exact cX eL
       obtain⟨d,rfl⟩:=this;exact elem I9 x9 R9 eE eL rfl
    ·have ei:i=W.length:=by lia
     subst ei;rw[List.drop_length,BT.dN]at go5;cases go5;rw[U8]at ou5;subst ou5;refine thn (T.done (blk X (tg++fv.map (·.2)) s2 H1 scope H2.objs.size fp) rfl rfl rfl (O.calm hu) _ _ s5 σ5 H5 _ I5 (k fr5) st5 (ito.stop m5 H5 _ x5 R5 cc5)) λr Z zq=>?_;obtain⟨hr,I6⟩:=zq;subst hr;obtain⟨mm,hmm,_⟩:=I6.loc;obtain⟨pD,nD,f,nfD,_⟩:=I6.pin (s2.heap.objs.size,lobj us nn) (by simp);have f:s2.heap.objs.size≠H2.objs.size:=f;have hos:Z.os=s2.os:=I6.os;have lus:=rv5.length;have lvs:=rd5.length;have lle:=fF;have cl':out.length<=BT.lim:=cl;have aJ:HOk X.prog X.w (upd H5 s2.heap.objs.size (.aB vs)) Z.heap:=λb u e=>by
      by_cases eb:b=s2.heap.objs.size
      ·subst eb;rw[dG]at e;cases e;exact⟨by lia,us,nn,rv5,pD⟩
      ·rw[dj eb]at e;refine(I6.aJ b u e).stay (λc v hc q=>q) (λc q=>?_) λc l q=>?_;rw[dj (λa=>by rw[a,nD]at q;exact cX q)];exact q;rw[dj (λa=>by rw[a,nD]at q;exact cX q)];exact q
     have u7:Un (frs X.stack) fp H1 (upd H5 s2.heap.objs.size (.aB vs)) s2.heap Z.heap:=Un.behind (h1:=Z.heap) I6.base (λb B=>dj (U0 B)) (λb o e=>I1.aJ.lt e) λb o B e=>e;have I7:=I1.call (g':=Z.gens) (t':=Z.toks) (d':=Z.drawn) (ch:=fp) u7 aJ I6.bare λb B=>⟨(hf b B).2.2.2.1,(hf b B).2.1,(hf b B).2.2.2.2.1,(hf b B).2.2.2.2.2⟩;have fr6:H5 H2.objs.size=af:=I6.free;have ltC:s2.heap.objs.size<H2.objs.size:=by rw[E];exact Wd _
     have ap:Apart X zt (upd H5 s2.heap.objs.size (.aB vs)) H2.objs.size:=by
      refine⟨by rw[dj (Vu f)];exact fr6,?_,?_,λx c e a=>?_,λp hp a=>?_⟩;exact Wt (YL I1.lt ltC);exact U3 I1.sz (VQ ltC)
      ·obtain⟨v,o,ho,_⟩:=I1.cell x c e;have l:=UF ho;rw[a]at l;exact bL (YL l ltC) (VD _)
      ·have l:=UF (I1.pin p hp).1;rw[a]at l;exact bL (YL l ltC) (VD _)
     refine hfin Z _ _ _ mm ?_ hmm ap (tR (mu:=mu) R5 nD rd5 (by rw[ez];exact λv' H' m' xx RR rr=>zr v' H' m' ((x1.trans x5).trans xx) RR rr));obtain⟨hp6,g6,d6,t6,os6⟩:=Z;have hos:os6=s2.os:=hos;subst hos;exact I7
   exact codeAny_compStart_list (loop _ rfl) (T.self _ 0 _ _ _ (T.keep 0 _ _ st (λb B o e=>old b o e)) (loop _ rfl))
def GV(O:Ok X F G sc N)(Y:gQ N=ah)
(c:lA sc N tg fv scope=ah)(Z:vz (d8 scope sc) tg te=ah)(J:ly iter=ah)(f:PI X te iter (iD X F G sr sa))(h:qi F G (d8 scope sc) (tg++fv.map (·.2)) cond ifs)
(g:∀M,Ok M F G (d8 scope sc) (tg++fv.map (·.2))->PE M elt' (tD M F G elt)):PE X (.ListComp elt' [⟨te,iter,ifs,0⟩] scope pos) (tD X F G (.comp mu sr sa tg fv cond elt)):=by
 intro W s V H Q I q;rw[eval_ListComp];refine rV O Y c Z J f h g W s V H Q af _ I q λU k C D m j hn L a=>?_;refine⟨m,hn,λi B=>?_⟩;have B:VC C U.heap i:=B;exact⟨.ref D,k,Inv.turned (t':=U.toks) j (λb o d e=>(B.2 b d).trans e) L.fr L.lo (.inr L.ab) L.ce L.pi,rfl,a⟩
def GW(O:Ok X F G sc N)(l:gQ N=ah)
(r:lA sc N tg fv scope=ah)(n:vz (d8 scope sc) tg te=ah)(L:ly iter=ah)(u:PI X te iter (iD X F G sr sa))(x:qi F G (d8 scope sc) (tg++fv.map (·.2)) cond ifs)
(w:∀Y,Ok Y F G (d8 scope sc) (tg++fv.map (·.2))->PE Y elt' (tD Y F G elt))(k:N[i]?=aa y)(f:sc.names.lookup y=aa .local)
(U:Xn (.ListComp elt' [⟨te,iter,ifs,0⟩] scope pos) (aa (.Name y py)) spos.line X.env=pure ah):
 PS X (.Assign [.Name y py] (.ListComp elt' [⟨te,iter,ifs,0⟩] scope pos) spos) (zU (tD X F G (.comp mu sr sa tg fv cond elt)) (yp i)):=by
 intro Z s h H D I q;rw[exec_Assign_Name_used _ _ _ _ U];refine Uw (XW (Uw ?_));show av _ X.A (do let _ ←comprehension (.ListComp elt' [⟨te,iter,ifs,0⟩] scope pos) scope X.env _ (newList []) ai (eval iter X.env) (aa (Zs (.Name y py) X.env))) _ _ s;refine Uw (thn (rV O l r n L u x w Z s h H _ (aa (Zs (.Name y py) X.env)) (λ_ d=>SP X Z D .next d) I q λR Q C g m P hn J V=>?_) λ_ d V=>au (au V));show av _ X.A (Zs (.Name y py) X.env (.ref g)) _ _ _;refine wpAny_assign_Name (rC P O.nd (by rw[O.hN];exact k) (.inl (by rw[O.hsc];exact f)) (v:=.ref g) rfl (λc K p=>?_) (.inr (by rw[O.hsc];exact f)));obtain⟨a,j,W⟩:=p;have M:C≠a:=by
  rcases W with rfl|W
  exact J.lo;exact λz=>J.ce y a W z.symm
 refine⟨m,hn.sameBut j M,λE B=>?_⟩;have B:VC C c.heap E:=B;exact⟨_,Q,Inv.turned (t':=c.toks) K (λb o t e=>(B.2 b t).trans e) J.fr J.lo (.inr J.ab) J.ce J.pi,V⟩
end
section
variable{E:aA->UA->Prop}
end
section
end
end BS
end
section
namespace L2
open PySem PySem.Spec PyProof.Rows
noncomputable def GX(lo:Int)(n:Nat):It:=⟨λi _=>i<n,λi H x q=>q=H/\x=.int (lo-i),λi _=>n<=i⟩
theorem vM{P:UM}{w:U6}{K:Uv}{tg:X7}(q:az)(lo:Int)(n:Nat):Turn P w K tg (GX lo n) [q] q (λi h=>Z0 h q (lo+(i:Nat)*(-1)) ((n:Int)-(i:Nat)) (-1)) where
 mem:=by simp
 obj:=λi h st b B=>by
  have e:b=q:=by simpa using B
  subst e;exact⟨_,st,λv z=>by have l:Data.fields _=Data.cell v:=z;cases l⟩
 keep:=λi h L st k=>k q (by simp) _ st
 item:=by intro X U hw V O i g s f H E I J st M;subst U hw V;obtain⟨d,c,r,a,Z,Y⟩:=J q (by simp);have W:=Walks.range (prog:=X.prog) (w:=X.w) (I.ok.hd O) q lo (-1) n;refine W.item i s _ _ M st λv L j p D m=>?_;obtain⟨t,rfl⟩:=p;have x:Inv X g f H {s with heap:=L,toks:=j}:=I.turned (λb o B e=>m b o (by simpa using B) e) d c a Z Y;refine⟨_,rfl,uR (s:={s with heap:=L,toks:=j}) (n:="range_iterator") D rfl rfl (by decide) ⟨.int (lo-i),H,x,⟨t,?_⟩,⟨rfl,rfl⟩,D,λb B=>(J b B).1⟩⟩;rw[show lo+(i:Int)*-1=lo-(i:Int) by lia]
 done:=by intro X U hw V O i g s f H E I J st M;subst U hw V;obtain⟨d,c,r,a,Z,Y⟩:=J q (by simp);exact wpAny_pyNext_range_end (I.ok.hd O) st (by have:n<=i:=M;lia) λL u=>⟨rfl,I.turned (t':=s.toks) (λb o B e=>u b o B e) d c a Z Y⟩
 self:=λ_ _ _ _ _ st h=>wpAny_pyIter_rangeiter st h
section
variable{X:Cx}{tg:X7}
def AO{zt:List (az×ao)}{σ:St}{H:Hp}{s:UA}{R:It->Hp->Prop}{E:aA->UA->Prop}{lo hi:Int}{t u v:Tok}{tk:Nat}(I:Inv X zt σ H s)(h1:-(2^62)<=lo)(h2:lo<2^62)(L:-(2^62)<=hi)(J:hi<2^62)
(q:R (GX lo (lo-hi).toNat) H):av (UT X.prog X.w) X.A (pyIter (.ref s.heap.objs.size)) (PIE X zt σ tg R) E {s with heap:=s.heap.push {cls:=.type "range",data:=.fields #[.int lo t,.int hi u,.int (-1) v]},toks:=tk}:=by
 refine wpAny_pyIter_range (IsRange.new ..) (PySem.W.small_down h1 h2 L J) ?_;have B:Inv X zt σ H { s with heap:=s.heap.push { cls:=.type "range",data:=.fields #[.int lo t,.int hi u,.int (-1) v] },toks:=tk }:=I.aH λb o e=>Ux _ e;refine ⟨(s.heap.push { cls:=.type "range",data:=.fields #[.int lo t,.int hi u,.int (-1) v] }).objs.size,[(s.heap.push { cls:=.type "range",data:=.fields #[.int lo t,.int hi u,.int (-1) v] }).objs.size],_,_,H,rfl,
  B.aH (t':=tk) λb o e=>Ux _ e,vM _ lo (lo - hi).toNat,?_,λb D=>?_,q⟩
 ·have e1:lo+((0:Nat):Int)*(-1)=lo:=by simp
  have e2:(((lo-hi).toNat:Nat):Int)-((0:Nat):Int)=Yw lo hi (-1):=by rw[PySem.W.rangeSize_downNat];simp
  show Z0 _ _ (lo+((0:Nat):Int)*(-1)) ((((lo-hi).toNat:Nat):Int)-((0:Nat):Int)) (-1);rw[e1,e2];exact UG _ rfl
 ·have e:b=(s.heap.push {cls:=.type "range",data:=.fields #[.int lo t,.int hi u,.int (-1) v]}).objs.size:=by simpa using D
  subst e;exact B.Bt (UE _) (B.aJ.fresh (UE _))
end
end L2
namespace BS
open PySem PySem.Spec PyProof.Rows L2
section
variable{F:FT}{G:ay->Option aM}
def GY{C:aL->Prop}{K:Uv}{J:List az}{M:Hp}(lo:Int)(n:Nat):vG K (GX lo n) J M (BT.down lo n) C:=by
 have D:(BT.down lo n).length=n:=by simp[BT.down]
 refine⟨λm H L i x _ _ q=>by rw[D]at q;exact q,λm H L i v O d x RR _ B y=>?_,λm H _ x _ _=>by rw[D];exact UE n⟩;obtain⟨rfl,rfl⟩:=y;have q:i<n:=by have:=getD_some B;rw[D]at this;exact this
 have:d=.int (lo-i):=by unfold BT.down at B;rw[U1,WI q]at B;exact(UK B).symm
 subst this;exact⟨.refl _ _,λ_ _ e=>e,.int _⟩
def DM{X:Cx}{sc:Vf}{N:List ay}(O:Ok X F G sc N){tg x y z:Uy}{sa:aV}{p pos:Pos}(C:dW sc "range"=ah)(A:noStar x=ah)(Z:noStar y=ah)(Y:noStar z=ah)(K:PA X [x,y,z] (tDs X F G sa)):PI X tg (.Call (.Name "range" p) [x,y,z] [] pos) (iD X F G .rng3 sa):=by
 intro g s f H R I q;obtain⟨m,n,h,ws,P,ds,RR,S,e,e2,E,k⟩:=q;obtain⟨a,rfl⟩:=ud (E.p (by rintro (z|z)<;>cases z));rw[xH,VA]at e2;have w:∃i j c:Int,a=[.int i,.int j,.int c]:=by
  match a,e2 with
  |[.int i,.int j,.int c],_=>exact⟨i,j,c,rfl⟩
 obtain⟨i,j,c,rfl⟩:=w;rw[BT.rM]at e2;obtain⟨⟨rfl,c1,c2,c3,c4⟩,Q⟩:=dB e2;subst Q;refine Call_ (ja (u:=.type "range") I (d7 O C) (O.blt _ (by decide)) (by decide +kernel) (VB (thn (K pos g s f H (λL J=>L=[.int i,.int j,.int (-1)]/\R (GX i (i-j).toNat) J) I ⟨m,n,h,_,P,RR,S,e,λL J o l T V=>?_⟩) λus s1 ⟨L,J,I1,V,W⟩=>?_) (c5 A) (dI (by simp[dg,Z,Y]))))
 ·cases V with
  |cons r t =>
   cases t with
   |cons U d =>
    cases d with
    |cons M b =>
     cases b;cases r with
     |p r =>
      cases U with
      |p U =>
       cases M with
       |p M =>
        cases r;cases U;cases M;exact⟨rfl,k J o _ l T (GY i (i-j).toNat)⟩
 ·obtain⟨rfl,W⟩:=W;obtain⟨u,D,B,rfl,eu,eu2,eu3⟩:∃u D B,us=[u,D,B]/\RelV (.int i) u/\RelV (.int j) D/\RelV (.int (-1)) B:=by
   cases V with
   |cons q t=>obtain⟨D,B,rfl,v,k2⟩:=vals2 t;exact⟨_,_,_,rfl,q,v,k2⟩
  obtain⟨t,rfl⟩:=eu;obtain⟨d,rfl⟩:=eu2;obtain⟨b,rfl⟩:=eu3;exact call_range_3 (by decide) (AO I1 (by lia) (by lia) (by lia) (by lia) W) (.inl (Zu (by lia)))
end
end BS
end
section
namespace BS
open PySem PySem.Spec PyProof.Rows L2
section
variable{E:aA->UA->Prop}
end
section
variable{prog:UM}{w:U6}{A:VE}{s:UA}{R:ZU->UA->Prop}{xs ys:Array aA}{z TI TO i1 i2 l1 l2 S:az}
end
section
variable{prog:UM}{w:U6}{A:VE}{E:aA->UA->Prop}{s:UA}{R:ZU->UA->Prop}{xs ys:Array aA}{z TI TO i1 i2 l1 l2 S:az}
end
section
variable{E:aA->UA->Prop}
end
section
end
inductive ZK
 |l(a:az)|t(a:az)|s(x:ay)(k:Tok)
noncomputable def ZK.ty:ZK->String
 |.l _=>"list_iterator"|.t _=>"tuple_iterator"|.s x _=>strIterType x
noncomputable def ZK.val:ZK->aA
 |.l a=>.ref a|.t a=>.ref a|.s x k=>.str x k
def ZK.at(q:ZK)(B:az)(i:Nat)(h:aq):Prop:=match q with
 |.l a=>h.IsListIter B a i|.t a=>h.IsTupleIter B a i|.s x k=>h.IsStrIter B (strIterType x) x k i
def ZK.item(q:ZK)(i:Nat)(h:aq)(u:aA):Prop:=match q with
 |.l a=>∃B:List aA,h.IsList a B.toArray/\B[i]?=aa u|.t a=>∃B:List aA,h.IsTuple a B.toArray/\B[i]?=aa u|.s x _=>∃c t,x.cps[i]?=aa c/\u=.str ⟨#[c]⟩ t
def ZK.done(q:ZK)(i:Nat)(h:aq):Prop:=match q with
 |.l a=>∃B:List aA,h.IsList a B.toArray/\B.length<=i|.t a=>∃B:List aA,h.IsTuple a B.toArray/\B.length<=i|.s x _=>x.cps.size<=i
section
variable{prog:UM}{w:U6}{A:VE}{E:aA->UA->Prop}{s:UA}
end
def ZK.ob(q:ZK):ao:={cls:=.type q.ty,data:=.fields #[q.val,.int 0 0]}
def ZK.here(q:ZK)(h:aq):Prop:=match q with
 |.l a=>∃B:List aA,h.IsList a B.toArray|.t a=>∃B:List aA,h.IsTuple a B.toArray|.s _ _=>True
section
variable{prog:UM}{w:U6}{A:VE}{E:aA->UA->Prop}{s:UA}
end
section
variable{prog:UM}{w:U6}{A:VE}{E:aA->UA->Prop}{s:UA}
end
def ZK.has(q:ZK)(K:Uv)(H:Hp)(i:Nat):Prop:=match q with
 |.l a=>∃B x,SqL K H a B/\B[i]?=aa x|.t a=>∃B x,SqT K H a B/\B[i]?=aa x|.s x _=>∃c,x.cps[i]?=aa c
def ZK.is(q:ZK)(K:Uv)(H:Hp)(i:Nat)(v:V):Prop:=match q with
 |.l a=>∀B,SqL K H a B->B[i]?=aa v|.t a=>∀B,SqT K H a B->B[i]?=aa v|.s x _=>∃c,x.cps[i]?=aa c/\v=.str ⟨#[c]⟩
def ZK.over(q:ZK)(K:Uv)(H:Hp)(i:Nat):Prop:=match q with
 |.l a=>∃B,SqL K H a B/\B.length<=i|.t a=>∃B,SqT K H a B/\B.length<=i|.s x _=>x.cps.size<=i
section
variable{X:Cx}{zt:List (az×ao)}{σ:L2.St}{H:Hp}{s:UA}
end
section
variable{F:FT}{G:ay->Option aM}
end
section
variable{prog:UM}{w:U6}{A:VE}{E:aA->UA->Prop}{s:UA}
end
section
variable{F:FT}{G:ay->Option aM}
end
section
variable{X:Cx}{F:FT}{G:ay->Option aM}
end
section
variable{X:Cx}{F:FT}{G:ay->Option aM}
end
section
variable{m:List az}
end
section
variable{F:FT}{G:ay->Option aM}
end
section
variable{P:UM}{w:U6}{K:Uv}{m m':List az}{H H':Hp}
def RKs.del{vs:List (Key×V)}{kvs:List (br×aO)}(r:RKs K m H vs kvs)(k:Key):RKs K m H (vs.filter λB=>decide (B.1≠k)) (BT.kW kvs k):=by
 unfold BT.kW
 induction r with
 |nil=>exact .nil
 |@cons j J L vs kvs D r t q =>
  rw[V1,V1]
  by_cases c:j=k
  rw[bK (by simpa using c),bK (by simpa using c)];exact q;rw[bJ (by simpa using c),bJ (by simpa using c)];exact .cons D r q
def RKs.upd{us:List (Key×V)}{ns:List (br×aO)}(q:RKs K m H us ns):∀{vs:List (Key×V)}{kvs:List (br×aO)},RKs K m H vs kvs->RKs K m H (us.foldl (λc p=>putK c p.1 p.2) vs) (ns.foldl (λc p=>BT.ff c p.1 p.2) kvs):=by
 induction q with
 |nil=>intro vs kvs r;exact r|cons J r t D=>intro vs kvs B;exact D (B.put _ J r)
def KV.Sw{κ:Type}[DecidableEq κ]{kvs:List (κ×V)}{vs:List (κ×aA)}(r:KV kvs vs)(k:κ):KV (kvs.filter λD=>decide (D.1≠k)) (without vs k):=by
 unfold without;unfold KV at r⊢
 induction r with
 |nil=>exact .nil
 |@cons a b M L h t B =>
  obtain⟨q,J⟩:=h;rw[V1,V1]
  by_cases c:a.1=k
  rw[bK (by simpa using c),bK (by rw[←q];simpa using c)];exact B;rw[bJ (by simpa using c),bJ (by rw[←q];simpa using c)];exact .cons ⟨q,J⟩ B
def KV.merge{κ:Type}[DecidableEq κ]{us:List (κ×V)}{ws:List (κ×aA)}(q:KV us ws):∀{kvs:List (κ×V)}{vs:List (κ×aA)},KV kvs vs->KV (us.foldl (λc p=>putK c p.1 p.2) kvs) (merged vs ws):=by
 unfold KV at q
 induction q with
 |nil=>intro kvs vs r;exact r
 |@cons a b D B h t J =>
  intro kvs vs r;obtain⟨M,L⟩:=h;show KV (D.foldl _ (putK kvs a.1 a.2)) (merged (stored vs b.1 b.2) B);exact J (by rw[←M];exact r.put a.1 L)
theorem rW{κ:Type}[DecidableEq κ]:∀(us kvs:List (κ×V)),(us.foldl (λc p=>putK c p.1 p.2) kvs).length<=kvs.length+us.length
 |[],_=>UE _
 |p::us,kvs=>by have B:=rW us (putK kvs p.1 p.2);have q:=nH kvs p.1 p.2;rw[Wp,US];lia
end
section
variable{F:FT}{G:ay->Option aM}
def K8{X:Cx}{a:aP}{e:Uy}(h:PE X e (tD X F G a)):PE X e (tD X F G (.frz a)):=PE.weak h fun Z H Q q=>by
 obtain⟨m,s,h,z,c,R,S,B,D⟩:=q;simp only[aN]at B;obtain⟨x,V,e1,e2⟩:=c6 B;exact⟨m,s,h,x,V,R,S,e1,λv Y b J W L=>by obtain⟨U,O,M⟩:=Aw e2 R J W L;exact D v Y m U O M⟩
def GZ{X:Cx}{a b:aP}(σ:L2.St)(H:Hp)(Q:VK)(q:tD X F G (.p2 .aC a b) σ H Q):JF (tDs X F G (.cons a (.cons b .nil))) σ H Q:=by
 obtain⟨m,s,h,z,e,R,S,M,U⟩:=q;simp only[aN]at M;obtain⟨x,L,e1,e2⟩:=c6 M;rw[show BT.k2 (aN F G b s) (BT.oP2 .aC) x L=bF (aN F G b s L) (BT.oP2 .aC x) from rfl]at e2;obtain⟨y,j,f,D⟩:=c6 e2;cases x with
 |p d =>
  cases y with
  |k q =>
   cases q with
   |m J =>
    rw[BT.F6]at D;cases D;refine⟨m,s,h,[.p d,.k (.m J)],e,R,S,by simp only[aX,e1,f,BT.dU,BT.kU,BT.jt],λi l c V O Z=>?_⟩;cases Z with
    |cons r t =>
     cases t with
     |cons Y t =>
      cases t;cases r with
      |p r =>
       cases Y with
       |km g W=>exact⟨by show 2<=_;decide,λp B=>U _ _ c (V.trans (gj B)) (O.new B) (.kq (.mk ⟨.inl dG,O.iK B⟩ (r.ext (gj B)) (Rd.ext (gj B) g.1 g.2) (W.ext (gj B))))⟩
   |_=>exact cX D
  |_=>exact cX D
 |_=>exact cX D
def RPs.atI{K:Uv}{m:List az}{H:Hp}{vs:List V}{ps:List bG}{i:Int}{p:bG}(r:RPs K m H vs ps)(e:BT.atP ps i=aa p):∃v,L2.atI vs i=aa v/\RP K m H v p.1 p.2:=by unfold BT.atP at e;unfold L2.atI;obtain⟨j,J,D⟩:=Option.bind_eq_some_iff.mp e;obtain⟨v,B,q⟩:=r.get D;refine⟨v,?_,q⟩;rw[r.length];show((BT.place ps.length i).bind λj=>vs[j]?)=_;rw[J];exact B
def OP{X:Cx}:IxR X (rOp X.prog X.w X.K (BT.oP2 .y)):=by
 intro q slice L s J H v u C E Q I O U h Y;obtain⟨m,h,x,y,z,A,R,j,B,e,M⟩:=h;cases j with
 |@ks a f F D V =>
  cases B with
  |p B =>
   cases B with
   |int i =>
    rw[BT.J8]at e;obtain⟨p,e1,e2⟩:=dz e;cases e2;obtain⟨Z,o,n⟩:=V.atI e1;exact yz q slice L s J H _ _ _ _ Q I O U ⟨a,f,i,_,rfl,rfl,.inl D.1,o,M _ _ m (.refl _ _) R (.kq n)⟩ Y
   |_=>exact cX e
  |_=>exact cX e
 |@kq _ d W V =>
  cases B with
  |p B =>
   cases B with
   |int i =>
    cases V with
    |@mk t b Z _ ws _ D r g l =>
     have e:(if i=0 then aa (aM.p d,h)else if i=1 then aa (aM.k (.m W),h)else af)=aa (z,A):=e;split at e
     ·rename_i c;cases e;subst c;exact wX q slice L s J H _ _ _ _ Q I O U ⟨t,_,0,Z,rfl,rfl,.inl D.1,rfl,M _ _ m (.refl _ _) R (.p r)⟩ Y
     ·split at e
      ·rename_i c;cases e;subst c;exact wX q slice L s J H _ _ _ _ Q I O U ⟨t,_,1,.ref b,rfl,rfl,.inl D.1,rfl,M _ _ m (.refl _ _) R (.km g l)⟩ Y
      exact cX e
   |_=>exact cX e
  |_=>exact cX e
 |_=>exact cX e
def IV{X:Cx}:OpR X (Vt .In) (rOp X.prog X.w X.K (BT.oP2 .mem)):=by
 intro g s c H v u Z P Q I D l h;obtain⟨m,h,x,y,z,E,R,B,j,e,J⟩:=h;cases B with
 |@p _ d B =>
  cases j with
  |@r a n hn =>
   cases l;have L:∀(d:aO)(k:br)(v:V),RelV v Z->RD X.K m H v d->BT.jq d=aa k->((BT.dat h n).bind λq=>aa (aM.p (.bl (BT.dR q k).isSome),h))=aa (z,E)->av (UT X.prog X.w) X.A (Vt .In Z (.ref a)) (EP X g c Q) X.xe s:=by
    intro d k v D B W e;obtain⟨q,e1,e2⟩:=Option.bind_eq_some_iff.mp e;cases e2;obtain⟨ws,M,b⟩:=R.pR n a q hn e1;have W:=pU B W;subst W;cases tY I (.inl M) b k with
    |no Y dd n U O =>
     refine Xm (knd:=dD X.prog X.w) (o7 D) n dd.mapOf ?_;rw[O];exact⟨.bl _,H,I.tok _,rfl,by rw[U]at J;exact J _ _ m (.refl _ _) R (.p (.bl _))⟩
    |is Y dd n x G N U O T S =>
     refine Xm (knd:=dD X.prog X.w) (o7 D) n dd.mapOf ?_;rw[O];exact⟨.bl _,H,I.tok _,rfl,by rw[U]at J;exact J _ _ m (.refl _ _) R (.p (.bl _))⟩
   cases d with
   |aD =>
    rw[BT.J9]at e;obtain⟨q,e1,e2⟩:=Option.bind_eq_some_iff.mp e;cases e2;obtain⟨ws,M,b⟩:=R.pR n a q hn e1;cases B;cases D;obtain⟨F,C,Y,o,dd⟩:=yC I.aJ M;obtain⟨f,t,fn⟩:=map_none dd;refine Xm (knd:=optKind X.prog X.w) (k:=af) rfl C t ?_;rw[fn];exact⟨.bl _,H,I.tok _,rfl,J _ _ m (.refl _ _) R (.p (.bl _))⟩
   |int i=>exact L _ _ v D B rfl (by rw[BT.Ka]at e;exact e)|str x=>exact L _ _ v D B rfl (by rw[BT.Kc]at e;exact e)|_=>exact bL e (by simp[BT.oP2,BT.yJ,BT.jq])
  |_=>exact cX e
 |_=>exact cX e
inductive rM2(P:UM)(w:U6)(K:Uv)(k:BT.M2)(v:V)(vs:List V)(H:Hp)(Q:VK):Prop
 |mk(m:List az)(h:aL)(n:Nat)(y z:aM)(h':aL)(q:V)(ev:vs=[q])(R:RH K m H h)(B:RW P w K m H v (.r n))(D:RW P w K m H q y)(e:BT.oM2 k n y h=aa (z,h'))(p:Post P w K m H z h' Q):rM2 P w K k v vs H Q
def K9{X:Cx}:MtR X "dict.pop" (rM2 X.prog X.w X.K .pop):=by
 intro T s S H v vs v' us Q I D V q;obtain⟨m,h,n,y,z,g,v1,rfl,R,l,U,e,i⟩:=q;cases l with
 |@r a _ hn =>
  obtain⟨u,rfl,c⟩:=V.one;cases U with
  |@p _ d U =>
   rw[BT.F7]at e;obtain⟨W,e1,e⟩:=Option.bind_eq_some_iff.mp e;obtain⟨k,e2,e⟩:=Option.bind_eq_some_iff.mp e;obtain⟨x,O,P⟩:=dz e;cases P;obtain⟨ws,M,f⟩:=R.pR n a W hn e1;have N:=pU U e2;subst N;cases D;obtain⟨b,G,B,J,dd⟩:=yC I.aJ M;have o:B.length<=aj:=by rw[←J.length];exact b
   have D:=J.val k;rcases f.get k with⟨Z,_⟩|⟨v2,d2,Z,g2,g3⟩
   rw[Z]at O;exact cX O
   ·rw[Z]at O;cases O;rw[g2]at D;cases ev:valueAt B k with
    |none=>rw[ev]at D;exact D.elim
    |some j =>
     rw[ev]at D;have C:(keyPart u).isSome=ah:=by
      cases k with
      |_=>obtain⟨t,rfl⟩:=c;rfl
     refine call_meetsIn ZC dd.typeIs PySem.F.entry_dict_pop (PySem.F.args_dict_pop_2 _ _) (meets_dict_pop_there (knd:=dD X.prog X.w) (d:=a) (o7 c) [] (.inl rfl) C) ⟨B,j,dd,o,ev,λg L A=>⟨v2,upd H a (.dK (ws.filter λY=>decide (Y.1≠k))),?_,D,?_⟩⟩
     ·have E:∃q,g.get? a=aa q:=let ⟨q,_,_,hq,_⟩:=L;⟨q,hq⟩;exact sR I (by rw[M];exact V9) A E (w5 (U3 (Wo _ _) b) G (KV.Sw J k) L)
     ·have x:Ext m H m (upd H a (.dK (ws.filter λY=>decide (Y.1≠k)))):=jh (UJ hn) ⟨_,M,rfl⟩;exact i _ _ m x (R.setC hn ⟨_,M,rfl⟩ ⟨_,dG,(f.del k).ext x⟩) (.p (g3.ext x))
  |_=>exact cX e
def La{X:Cx}:MtR X "dict.update" (rM2 X.prog X.w X.K .upd):=by
 intro S s P H v vs v' us Q I o W q;obtain⟨m,h,n,y,z,i,v1,rfl,R,A,l,e,j⟩:=q;cases A with
 |@r a _ hn =>
  obtain⟨u,rfl,t⟩:=W.one;cases l with
  |@km b D ns g J =>
   rw[BT.F8]at e;obtain⟨Y,e1,e⟩:=Option.bind_eq_some_iff.mp e;obtain⟨c,e⟩:=dB e;cases e;obtain⟨ws,O,f⟩:=R.pR n a Y hn e1;cases o;cases t;obtain⟨T,N,U,L,dd⟩:=yC I.aJ O;obtain⟨k,Z,V,B,d⟩:=BV I.aJ g.1;have C:a≠b:=λz=>g.2 (by rw[←z];exact UJ hn);have l1:=f.length;have l2:=J.length;have l3:=L.length;have l4:=B.length;have:=fF;refine call_meetsIn Y7 dd.typeIs PySem.F.entry_dict_update (PySem.F.args_dict_update_2 _ _) (meets_dict_update (dD X.prog X.w) a b C Z) ⟨U,V,dd,d,by lia,λi M _ E=>⟨.aD,upd H a (.dK (D.foldl (λc p=>putK c p.1 p.2) ws)),?_,rfl,?_⟩⟩
   ·have G:∃q,i.get? a=aa q:=let ⟨q,_,_,hq,_⟩:=M;⟨q,hq⟩;have lf:=rW D ws;have:=sR (t':=s.toks) I (by rw[O];exact V9) E G (w5 (by lia) N (KV.merge B L) M);exact this
   ·have x:Ext m H m (upd H a (.dK (D.foldl (λc p=>putK c p.1 p.2) ws))):=jh (UJ hn) ⟨_,O,rfl⟩;exact j _ _ m x (R.setC hn ⟨_,O,rfl⟩ ⟨_,dG,(J.upd f).ext x⟩) (.p .aD)
  |_=>exact cX e
def DN{h:aL}{n:Nat}{ps:List bG}(e:BT.pat h n=aa ps):h[n]?=aa (.s ps)\/h[n]?=aa (.l [])/\ps=[]:=by
 unfold BT.pat at e;cases g:h[n]? with
 |none=>rw[g]at e;exact cX e
 |some c =>
  rw[g]at e;cases c with
  |s B=>cases e;exact .inl rfl
  |l q=>cases q with
   |nil=>cases e;exact .inr ⟨rfl,rfl⟩|cons _ _=>exact cX e
  |_=>exact cX e
def Lb{X:Cx}:MtR X "list.append" (rM2 X.prog X.w X.K .app):=by
 intro U s O H v j k l Q I W L q;obtain⟨m,h,n,y,z,o,J,rfl,R,Y,D,e,M⟩:=q;cases Y with
 |@r a _ hn =>
  refine rJ U s O H _ _ _ _ Q I W L ?_;have:=fF;cases D with
  |@p _ d D =>
   rw[BT.Ke]at e;obtain⟨V,e1,e⟩:=Option.bind_eq_some_iff.mp e;obtain⟨c,e⟩:=dB e;cases e;obtain⟨ws,B,r⟩:=R.cell n a V hn e1;have:=r.length;exact⟨a,ws,J,rfl,rfl,B,by lia,M _ _ m (gR (UJ hn) B) (R.set hn B (r.append (.cons D .nil))) (.p .aD)⟩
  |@kq _ d i D =>
   rw[BT.Kf]at e;obtain⟨f,e1,e⟩:=Option.bind_eq_some_iff.mp e;obtain⟨c,e⟩:=dB e;cases e;obtain⟨ws,B,r⟩:∃ws,H a=aa (.aB ws)/\RPs X.K m H ws f:=by
    rcases DN e1 with g|⟨g,rfl⟩
    exact R.cl n a _ hn g
    ·obtain⟨ws,b,Z⟩:=R.cl n a _ hn g;cases Z;exact⟨_,b,.nil⟩
   have:=r.length;have x:Ext m H m (upd H a (.aB (ws++[J]))):=gR (UJ hn) B;exact⟨a,ws,J,rfl,rfl,B,by lia,M _ _ m x (R.setC hn ⟨_,B,rfl⟩ ⟨_,dG,(r.append (.cons D .nil)).ext x⟩) (.p .aD)⟩
  |_=>exact cX e
def DO{h:aL}{n:Nat}{ps:List bG}(e:BT.sat h n=aa ps):h[n]?=aa (.s ps):=by
 unfold BT.sat at e;cases g:h[n]? with
 |none=>rw[g]at e;exact cX e
 |some c=>rw[g]at e;cases c<;>first|exact cX e|(cases e;rfl)
def OQ{X:Cx}{q:BT.M2}{o a:aP}{Y e:Uy}{apos cpos:Pos}(f:dO Y=ah)(d:(apos.endLine==cpos.line)=ah)(W:noStar e=ah)(b:PE X Y (tD X F G o))(i:PA X [e] (tDs X F G (.cons a .nil))):PE X (.Call (.Attribute Y (CK q) apos) [e] [] cpos) (tD X F G (.m2 q o a)):=by
 have M:∀{T:String}(L:L2.St)(H:Hp)(Q:VK),tD X F G (.m2 q o a) L H Q->(∀(J:List az)(B:aL)(D:Hp)(v:V) (n:Nat),RH X.K J D B->RW X.prog X.w X.K J D v (.r n)->BT.pO q n B=ah->tyV X.K T v D)->tBM X.K T (rM2 X.prog X.w X.K q) (tD X F G o) (tDs X F G (.cons a .nil)) L H Q:=by
  intro T L H Q z ty;obtain⟨m,s,h,z,h',R,S,A,E⟩:=z;simp only[aN]at A;obtain⟨x,B,e1,e2⟩:=c6 A;cases x with
  |r n =>
   rw[BT.Oe]at e2;have c:BT.pO q n B=ah:=Decidable.byContradiction λz=>by rw[bK z]at e2;exact cX e2
   rw[bJ c]at e2;obtain⟨y,u,e3,e4⟩:=c6 e2;refine⟨m,s,h,.r n,B,R,S,e1,λv D J k C p=>?_⟩;refine⟨ty J B D v n C p c,J,s,B,[y],u,C,S.ext k,by simp only[aX,e3,BT.dU,BT.kU,BT.jt],λvs H2 m2 j R2 r2=>?_⟩;cases r2 with
   |cons r t =>
    cases t;exact⟨m2,u,n,y,z,h',_,rfl,R2,p.ext j,r,e4,λP H5 m5 N R5 r5=>E P H5 m5 ((k.trans j).trans N) R5 r5⟩
  |_=>exact cX e2
 have O:((WA cpos (U9 [e] X.env)).all (λx=>!x.1)&&(YR cpos (Xp [] X.env)).all (λx=>x.1.isSome)&&decide ([e].length+([]:List XI).length+(if([]:List XI).isEmpty then 0 else 1)<30))=ah:=by rw[jW (es:=[e]) (by simp[dg,W])];rfl
 have l:∀(J:List az)(B:aL)(D:Hp)(v:V) (n:Nat),RH X.K J D B->RW X.prog X.w X.K J D v (.r n)->(BT.dat B n).isSome=ah->tyV X.K "dict" v D:=λJ B D v n R r c=>by
  obtain⟨Z,g⟩:=Option.isSome_iff_exists.mp c;cases r with
  |r hn =>
   obtain⟨ws,U,_⟩:=R.pR _ _ Z hn g;exact .inr (.inr (.inl ⟨rfl,.inl ⟨_,U⟩⟩))
 cases q with
 |app =>
  refine PE.weak (uW WL Y6 Y5 Lb b i (jA f) O d (c5 W) rfl) fun L H Q z=>M L H Q z λJ B D v n R r c=>?_;cases r with
  |@r a _ hn =>
   rcases Bool.or_eq_true_iff.mp c with c|c
   ·obtain⟨I,g⟩:=Option.isSome_iff_exists.mp c;obtain⟨ws,U,_⟩:=R.cell n a I hn g;exact .inl ⟨rfl,ws,.inl (.inl U)⟩
   ·obtain⟨ps,g⟩:=Option.isSome_iff_exists.mp c;obtain⟨ws,U,_⟩:=R.cl n a _ hn (DO g);exact .inl ⟨rfl,ws,.inl (.inl U)⟩
 |pop=>exact PE.weak (uW Zj ZC PySem.F.type_dict_pop K9 b i (jA f) O d (c5 W) rfl) fun L H Q z=>M L H Q z l
 |upd=>exact PE.weak (uW Zj Y7 PySem.F.type_dict_update La b i (jA f) O d (c5 W) rfl) fun L H Q z=>M L H Q z l
end
section
variable{F:FT}{G:ay->Option aM}
def AQ{X:Cx}{v:V}{ds:List aO}(r:∀m H,RW X.prog X.w X.K m H v (.p (.aC ds))):∃a vs,v=.ref a/\KT X.K a vs:=by
 have z:=r [] (λ_=>af);cases z with
 |p z =>
  cases z with
  |@aC a vs _ h _ =>
   rcases h with⟨h,_⟩|h
   ·rcases h with h|⟨o,h⟩<;>exact cX h
   exact⟨a,vs,rfl,h⟩
def AR{X:Cx}{sc:Vf}{N:List ay}(O:Ok X F G sc N){x:ay}{as:aV}{es:List Uy}{T apos cpos:Pos}(h2:dW sc x=ah)(h3:fE x=ah)(hl:(apos.endLine==cpos.line)=ah)(U:es.length<20)(c:CEs sc N as es)(ha:PA X es (tDs X F G as)):
 PE X (.Call (.Attribute (.Name x T) "index" apos) es [] cpos) (tD X F G (.me .tindex (.aE x) as)):=by
 have B:=iE c;intro l s k H Q I q;obtain⟨m,C,h,z,h',R,S,i,t⟩:=q;simp only[aN]at i;obtain⟨w,g,e1,e2⟩:=c6 i;obtain⟨_,e2⟩:=yT e2;obtain⟨ws,f,Z,D⟩:=c6 e2;obtain⟨w',e5,e6⟩:=dz e1;cases e6;obtain⟨u,v0,hm,E,M⟩:=O.glob _ _ e5;have hT:∃J L,bx ws=aa J/\w=.p (.aC L)/\J≠[]:=by
  cases w with
  |p d =>
   rw[BT.pq]at D;cases V:bx ws with
   |none=>rw[V]at D;exact cX D
   |some J =>
    rw[V]at D;obtain⟨b,j,e8⟩:=dz D;cases d with
    |aC L=>refine⟨J,L,rfl,rfl,λz=>?_⟩;subst z;exact cX j|_=>cases J<;>exact cX j
  |_=>cases ws<;>(first|exact cX D|simp[aU]at D)
 obtain⟨J,L,V,rfl,W⟩:=hT;obtain⟨a,vt,rfl,o,its,n,⟨k1,k2,k3,k4,k5⟩,k6⟩:=AQ M;cases es with
 |nil =>
  cases as with
  |cons a r=>exact(pX c).elim|nil=>simp only[aX]at Z;cases Z;simp[bx]at V;exact bL V W
 |cons e es =>
  simp only[dg,Uz] at B;have Y:decide ((e::es).length+([]:List XI).length+(if ([]:List XI).isEmpty then 0 else 1) < 30)=ah:=bO (by
   simp only[US,VV,List.isEmpty_nil,if_true] at U ⊢;lia)
  refine (uW PySem.F.plainAttrs_tuple PySem.F.slot_tuple_index PySem.F.type_tuple_index (AC O.hu) (yo (d7 O h2) hm E (gS h3).1) ha rfl (by
   rw[jW (es:=e::es) (by simp only[dg,Uz];exact B),Y];rfl) hl (c5 B.1) (dI B.2)) l s k H Q I ?_
  refine⟨.inr (.inl ⟨rfl,o,k1,k2,k6⟩),m,C,h,ws,f,R,S,Z,λvs H2 m2 y R2 P=>?_⟩;exact⟨m2,f,.p (.aC L),ws,z,h',R2,M m2 H2,P,D,λA H5 m5 v R5 K=>t A H5 m5 (y.trans v) R5 K⟩
def Lc{X:Cx}{me:BT.Me}(B:me=.append\/me=.pop\/me=.extend){o:aP}:∀(m:List az)(h h2:aL)(H:Hp)(v:V) (x:aM) ws r,RH X.K m H h->RW X.prog X.w X.K m H v x->BT.tF x h=ah->aU me x ws h2=aa r->(∃σ s,RS X.prog X.w X.K m H σ s/\∃D,aN F G o s D=aa (x,h))->tyV X.K "list" v H:=by intro m h h2 H v x ws r R q ok e _;obtain⟨n,rfl⟩:=Ss B e;exact ty_list R q ok
def Sx{X:Cx}{o:aP}:∀(m:List az)(h h2:aL)(H:Hp)(v:V) (x:aM) ws r,RH X.K m H h->RW X.prog X.w X.K m H v x->BT.tF x h=ah->aU .sindex x ws h2=aa r->(∃σ s,RS X.prog X.w X.K m H σ s/\∃B,aN F G o s B=aa (x,h))->tyV X.K "str" v H:=by
 intro m h h2 H v x ws r R q _ e _;cases x with
 |p d =>
  rw[BT.pA]at e;cases g:bx ws with
  |none=>rw[g]at e;exact cX e
  |some J =>
   rw[g]at e;obtain⟨b,D,L⟩:=dz e;cases d with
   |str y=>cases q with|p r=>cases r;exact rfl
   |_=>cases J<;>exact cX D
 |_=>cases ws<;>(first|exact cX e|simp[aU]at e)
def Sy{X:Cx}{e:aP}(σ:L2.St)(H:Hp)(Q:Bool->Hp->Prop)(q:tDT X F G e σ H Q):tB (tD X F G e) σ H Q:=by obtain⟨m,s,J,b,L,R,S,M,B⟩:=q;refine⟨m,s,J,_,L,R,S,M,λv U D x O r=>?_⟩;exact⟨b,m7 r,B U D x O⟩
def XE(F:FT)(G:ay->Option aM)(X:Cx)(e':aP)(e:Uy):Prop:=PE X e (tD X F G e')/\(tOK e'=ah->PT X e (tDT X F G e')/\∀B q p,e=.BoolOp B q p->PW X e (tDT X F G e'))
def XO(F:FT)(G:ay->Option aM)(X:Cx)(q:aV)(o:Option Uy):Prop:=∃t,PO X o t ∧
 ∀D H (Q:Option Int->Hp->Prop),(∃m s h l J M,RH X.K m H h/\RS X.prog X.w X.K m H D s/\aX F G q s h=aa (J,M)/\(bx J).bind BT.sW=aa l/\∀B L,Ext m H L B->RH X.K L B M->Q l B)->t D H Q
def fB{X:Cx}{e':aP}{e:Uy}(p:PE X e (tD X F G e'))(L:∀D vs q,e≠.BoolOp D vs q)(J:∀B,isTrue e X.env B=(do let v ←B;ZP e.pos;XX [v] (truthy v)):=by intro _;rfl):XE F G X e' e :=
 ⟨p,λ_=>⟨PT.weak (Jm p J) Sy,λD vs q z=>bL z (L D vs q)⟩⟩
def Ld{X:Cx}:XO F G X .nil af:=⟨_,Fx,fun D H Q q=>by obtain⟨m,s,h,l,J,L,R,S,e1,e2,B⟩:=q;simp only[aX]at e1;cases e1;simp[bx,BT.sW]at e2;subst e2;exact B H m (.refl _ _) R⟩
def Lf{X:Cx}{a:aP}{e:Uy}(O:PE X e (tD X F G a)):XO F G X (.cons a .nil) (aa e):=by
 refine⟨_,Fy O,fun Z H Q q=>?_⟩;obtain⟨m,s,h,l,b,U,R,S,e1,e2,D⟩:=q;simp only[aX]at e1;obtain⟨x,c,V,B⟩:=c6 e1;simp only[BT.kU,BT.dU,BT.jt]at B;cases B;refine⟨m,s,h,x,U,R,S,V,λv Y M J W L=>?_⟩;cases L with
 |p r =>
  cases r<;>simp[bx,BT.sW]at e2;subst e2;exact⟨_,rfl,D Y M J W⟩
 |_=>simp[bx]at e2
def qj{X:Cx}{a:aP}{e:Uy}(V:PE X e (tD X F G a))(U:noStar e=ah):PA X [e] (tDs X F G (.cons a .nil)) :=
 PA.weak (jm V sM (c5 U)) fun B H Q q=>by obtain⟨m,s,h,J,W,R,S,Y,D⟩:=cons_of B H Q q;exact⟨m,s,h,J,W,R,S,Y,λv b O L Z M=>kL (D v b O L Z M)⟩
def ug{X:Cx}{a b:aP}{e f:Uy}(J:PE X e (tD X F G a))(D:PE X f (tD X F G b))(B:noStar e=ah)(q:noStar f=ah):PA X [e,f] (tDs X F G (.cons a (.cons b .nil))) :=
 PA.weak (jm J (qj D q) (c5 B)) cons_of
def OR(sc:Vf)(q:Uy)(o:aP):Prop:=∃x p,o=.aE x/\q=.Name x p/\dW sc x=ah/\fE x=ah
def Sz(sc:Vf):Tq->Prop
 |.e o q=>xC o=ai\/OR sc q o|_=>True
def G0{sc:Vf}{N:List ay}{t:Tq}(h:CQ sc N t):Sz sc t:=by
 induction h with
 |aE q hn=>exact .inr ⟨_,_,rfl,rfl,q,hn⟩
 |_=>first|exact .inl rfl|exact V9
def Lg{sc:Vf}{N:List ay}{o:aP}{q:Uy}(h:CE' sc N o q):xC o=ai\/OR sc q o:=G0 h
def sMe{X:Cx}{sc:Vf}{N:List ay}(O:Ok X F G sc N){m:BT.Me}{o:aP}{as:aV}{L:Uy}{name:ay}{apos cpos:Pos}{es:List Uy}(h1:CJ m o=ah)(h2:name=CH m)(U:dO L=ah)(J:(apos.endLine==cpos.line)=ah)(D:es.length<20)(V:CE' sc N o L)(q:CEs sc N as es)(M:PE X L (tD X F G o))(B:PA X es (tDs X F G as)):
 PE X (.Call (.Attribute L name apos) es [] cpos) (tD X F G (.me m o as)):=by
 subst h2;cases m with
 |append=>exact uc (sc:=sc) (N:=N) WL Y6 Y5 AA U J D M q B (Lc (.inl rfl))|pop=>exact uc (sc:=sc) (N:=N) WL PySem.F.slot_list_pop PySem.F.type_list_pop KB U J D M q B (Lc (.inr (.inl rfl)))|extend=>exact uc (sc:=sc) (N:=N) WL PySem.F.slot_list_extend PySem.F.type_list_extend AB U J D M q B (Lc (.inr (.inr rfl)))|sindex=>exact uc (sc:=sc) (N:=N) PySem.F.plainAttrs_str PySem.F.slot_str_index PySem.F.type_str_index AD U J D M q B Sx
 |tindex =>
  rcases Lg V with z|⟨x,p,rfl,rfl,hg,hn⟩
  exact Bool.noConfusion (z.symm.trans h1);exact AR O hg hn J D q B
 |_=>simp[CJ]at h1
def OS{X:Cx}{a b:aP}{x:Uy}{r:List Uy}{p:Pos}(B:PE X (.BoolOp .And (x::r) p) (tD X F G (.and a b)))(w:tOK (.and a b)=ah->PW X (.BoolOp .And (x::r) p) (tDT X F G (.and a b))):XE F G X (.and a b) (.BoolOp .And (x::r) p) :=
 ⟨B,λq=>⟨(w q).pt,λ_ _ _ e=>by cases e;exact w q⟩⟩
def sOr{X:Cx}{a b:aP}{x:Uy}{r:List Uy}{p:Pos}(B:PE X (.BoolOp .Or (x::r) p) (tD X F G (.or a b)))(w:tOK (.or a b)=ah->PW X (.BoolOp .Or (x::r) p) (tDT X F G (.or a b))):XE F G X (.or a b) (.BoolOp .Or (x::r) p) :=
 ⟨B,λq=>⟨(w q).pt,λ_ _ _ e=>by cases e;exact w q⟩⟩
def oJ{a b:aP}(h:tOK (.and a b)=ah):tOK a=ah/\tOK b=ah:=by have h:(tOK a&&tOK b)=ah:=h;simpa only[Uz]using h
def uh{a b:aP}(h:tOK (.or a b)=ah):tOK a=ah/\tOK b=ah:=by have h:(tOK a&&tOK b)=ah:=h;simpa only[Uz]using h
def MX(F:FT)(G:ay->Option aM)(sc:Vf)(N:List ay):Tq->Prop
 |.e M e=>∀(X:Cx),Ok X F G sc N->XE F G X M e|.es O es=>∀(X:Cx),Ok X F G sc N->PA X es (tDs X F G O)|.o B o=>∀(X:Cx),Ok X F G sc N->XO F G X B o|.c cond q=>qi F G sc N cond q|.i J L iter=>∀(X:Cx),Ok X F G sc N->∀(D:Uy),vq J D=ah->PI X D iter (iD X F G J L)
def sQ{sc:Vf}{N:List ay}{t:Tq}(h:CQ sc N t):MX F G sc N t:=by
 refine @CQ.rec (λsc N t _=>MX F G sc N t)
  (λl Z V X O=>fB (tZ O l Z V) (λ_ _ _ z=>nomatch z))
  (λh X O=>fB (Gx h) (λ_ _ _ z=>nomatch z))
  (λZ V X O=>fB (Gy O Z V) (λ_ _ _ z=>nomatch z))
  (λh _ _ B J X O=>fB (PE.weak (Nk (opB h) (B _ O).1 (J _ O).1) (lB λs h=>by simp only[aN])) (λ_ _ _ z=>nomatch z))
  (λ_ B X O=>fB (PE.weak (IB Bu (B _ O).1) KM) (λ_ _ _ z=>nomatch z))
  (λ_ B X O=>⟨PE.weak (Jq (B _ O).1) GC,λL=>⟨PT.weak (Jp ((B _ O).2 L).1) GB,λ_ _ _ e=>nomatch e⟩⟩)
  (λ_ _ B J X O=>OS (PE.weak (Bm (B _ O).1 (Bl (J _ O).1)) yW) λL=>PW.weak (Bk ((B _ O).2 (oJ L).1).1 (Fb ((J _ O).2 (oJ L).2).1)) yX)
  (λ_ _ B J X O=>OS (PE.weak (Bm (B _ O).1 (J _ O).1) yW) λL=>PW.weak (Bk ((B _ O).2 (oJ L).1).1 (((J _ O).2 (oJ L).2).2 _ _ _ rfl)) yX)
  (λ_ _ B J X O=>sOr (PE.weak (IA (B _ O).1 (Bl (J _ O).1)) Dj) λL=>PW.weak (Iu ((B _ O).2 (uh L).1).1 (Jo ((J _ O).2 (uh L).2).1)) Dl)
  (λ_ _ B J X O=>sOr (PE.weak (IA (B _ O).1 (J _ O).1) Dj) λL=>PW.weak (Iu ((B _ O).2 (uh L).1).1 (((J _ O).2 (uh L).2).2 _ _ _ rfl)) Dl)
  (λh _ _ b B J X O=>⟨PE.weak (yt (opC O h) (B _ O).1 (J _ O).1 b) (lB λs h=>by simp only[aN]),λ_=>⟨PT.weak (yu (opC O h) (B _ O).1 (J _ O).1 b) (pY (lB λs h=>by simp only[aN])),λ_ _ _ e=>nomatch e⟩⟩)
  (λh w _ _ _ b B J a X O=>⟨PE.weak (Bx (opC O h) (opC O w) (B _ O).1 (J _ O).1 (a _ O).1 b) vE,λ_=>⟨PT.weak (By (opC O h) (opC O w) (B _ O).1 (J _ O).1 (a _ O).1 b) (pY vE),λ_ _ _ e=>nomatch e⟩⟩)
  (λh _ _ _ a B J X O=>⟨PE.weak (Bo ((a _ O).2 h).1 (B _ O).1 (J _ O).1) KJ,λL=>nomatch L⟩)
  (λ_ B X O=>⟨PE.weak (BE (B _ O)) KP,λL=>nomatch L⟩)
  (λ_ B X O=>⟨PE.weak (JG (B _ O)) KQ,λL=>nomatch L⟩)
  (λ_ _ D B g X O=>fB (PE.weak (ID KA (B _ O).1 (g _ O).1 (vD D)) (lB λs h=>by simp only[aN])) (λ_ _ _ z=>nomatch z))
  (λ_ _ _ B A x X O=>fB (by
   obtain ⟨tl,p,o⟩:=A _ O;obtain ⟨S,n,m⟩:=x _ O;exact PE.weak (BQ osl (B _ O).1 p n) (KN o m)) (λ_ _ _ z=>nomatch z))
  (λU hn Y B X O=>fB (Dm O U hn Y (B _ O)) (λ_ _ _ z=>nomatch z))
  (λW U c D _ B X O=>fB (DI O W U c D (qj (B _ O).1 D)) (λ_ _ _ z=>nomatch z))
  (λW d U D _ B X O=>fB (KO O W d U (by simp[dg,D]) (qj (B _ O).1 D)) (λ_ _ _ z=>nomatch z))
  (λd U c D _ B X O=>fB (Dn O d U c D (B _ O).1) (λ_ _ _ z=>nomatch z))
  (λl Z V k u I Y f B X O=>fB (sMe O l Z V k u I Y (f _ O).1 (B _ O)) (λ_ _ _ z=>nomatch z))
  (λW r L E D _ _ _ g a C X O=>⟨GV O W r L D (g _ O _ E) a λP v=>(C _ v).1,λL=>nomatch L⟩)
  (λd K _ B X O=>fB (GE (sc:=sc) (N:=N) d K (B _ O).1) (λ_ _ _ z=>nomatch z))
  (λV k u _ Y f B X O=>fB (Dp O V k u (f _ O).1 Y (B _ O)) (λ_ _ _ z=>nomatch z))
  (λr _ B X O=>fB (GF r (B _ O).1) (λ_ _ _ z=>nomatch z))
  (λW d U j M _ _ B J X O=>fB (GG O W d U (by simp[dg,j,M]) (ug (B _ O).1 (J _ O).1 j M)) (λ_ _ _ z=>nomatch z))
  (λU hn Y B X O=>fB (Dq O U hn Y (B _ O)) (λ_ _ _ z=>nomatch z))
  (λl Z V Y B X O=>fB (Dv O l Z V Y (B _ O)) (λ_ _ _ z=>nomatch z))
  (λX O=>fB GN (λ_ _ _ z=>nomatch z))
  (λW U D _ _ B id X O=>fB (DF O W U D (B _ O).1 (id _ O).1) (λ_ _ _ z=>nomatch z))
  (λ_ B X O=>⟨K8 (B _ O).1,λL=>nomatch L⟩)
  (λD M _ _ B J X O=>⟨PE.weak (BE (ug (B _ O).1 (J _ O).1 D M)) GZ,λL=>nomatch L⟩)
  (λ_ _ D B g X O=>fB (PE.weak (ID OP (B _ O).1 (g _ O).1 (vD D)) (lB λs h=>by simp only[aN])) (λ_ _ _ z=>nomatch z))
  (λ_ _ b B J X O=>⟨PE.weak (yt IV (B _ O).1 (J _ O).1 b) (lB λs h=>by simp only[aN]),λ_=>⟨PT.weak (yu IV (B _ O).1 (J _ O).1 b) (pY (lB λs h=>by simp only[aN])),λ_ _ _ e=>nomatch e⟩⟩)
  (λZ V k D _ _ f B X O=>by subst Z;exact fB (OQ V k D (f _ O).1 (qj (B _ O).1 D)) (λ_ _ _ z=>nomatch z))
  (λX O=>PA.weak sM fun R H Q q=>kL q)
  (λD _ _ B y X O=>PA.weak (jm (B _ O).1 (y _ O) (c5 D)) cons_of)
  (λX O=>Ld)
  (λ_ B X O=>Lf (B _ O).1)
  (.inl ⟨rfl,rfl⟩)
  (λL _ B=>.inr ⟨_,_,rfl,rfl,λP v=>((B _ v).2 L).1⟩)
  (λU D _ B X O _ _=>DA O U D (qj (B _ O).1 D))
  (λU D M _ _ B J X O _ _=>DB O U D M (ug (B _ O).1 (J _ O).1 D M))
  (λU D M i _ _ _ B J a X O _ _=>DM O U D M i (PA.weak (jm (B _ O).1 (ug (J _ O).1 (a _ O).1 M i) (c5 D)) cons_of))
  (λU D _ B X O _ _=>GM O U D (B _ O).1)
  (λ_ B X O _ _=>GL (B _ O).1)
  sc N t h
def sE{sc:Vf}{N:List ay}{e':aP}{e:Uy}(h:CE' sc N e' e){X:Cx}(O:Ok X F G sc N):PE X e (tD X F G e'):=(sQ h X O).1
def sT{sc:Vf}{N:List ay}{e':aP}{e:Uy}(h:CE' sc N e' e){X:Cx}(O:Ok X F G sc N)(B:tOK e'=ah):PT X e (tDT X F G e')/\∀q vs p,e=.BoolOp q vs p->PW X e (tDT X F G e'):=(sQ h X O).2 B
def sCC{sc:Vf}{N:List ay}{cond:aV}{q:List Uy}(h:CC sc N cond q):qi F G sc N cond q:=sQ h
def sCI{sc:Vf}{N:List ay}{sr:bH}{sa:aV}{iter:Uy}(h:CI sc N sr sa iter){X:Cx}(O:Ok X F G sc N){tg:Uy}(hz:vq sr tg=ah):PI X tg iter (iD X F G sr sa):=sQ h X O tg hz
end
def mk3(H:Hp)(P c f:az)(t B q:HO):Hp:=upd (upd (upd H P t) c B) f q
def eS{H:Hp}{P c f a:az}{t L J u:HO}{ps:Array aA}(D:H P=aa (.tbl ps))(B:H c=af)(q:H f=af)(e:H a=aa u)(n:CV u=ai):mk3 H P c f t L J a=aa u:=by unfold mk3;rw[dj (dF e q),dj (dF e B),dj (λz=>by subst z;rw[D]at e;cases e;exact BT.w9 n)];exact e
def xQ{pos:Pos}{a b:Int}{B v:aA}(l:List aA)(h:TriplesOk l)(e:Xq pos (l++[Wj a,Wj b,B])=aa v):Xq pos l=aa v\/v=B:=by
 fun_induction TriplesOk l with
 |case1 =>
  simp only[WR,Wj,Xq]at e;split at e;cases e;exact .inr rfl;exact bD e
 |case2 O t M u x rest D =>
  simp only[List.cons_append,Xq]at e⊢;split at e;rename_i q;rw[bJ q];exact .inl e;rename_i q;rw[bK q];exact D h e
 |case3 l L J=>exact h.elim
structure Made(X:Cx)(zt:List (az×ao))(σ:L2.St)(m:List az)(H:Hp)(h:aL)(q:ay)(pa:Wm)(be:Uy)(sc:Vf)(cl:List (ay×az))(f:az)(H3:Hp)(s3:UA):Prop where
 inv:Inv X zt σ H3 s3
 ext:Ext m H m H3
 rh:RH X.K m H3 h
 ex:∃pm ctv c' oc os t,Tr m H3 f (XF "<lambda>" q pa be sc cl pm c' ctv)/\Tr m H3 c' oc/\oc.data=.fields os/\os[1]?=aa (.str q t)
def G1{X:Cx}{zt:List (az×ao)}{σ:L2.St}{H:Hp}{s:UA}{m:List az}{h:aL}(I:Inv X zt σ H s)(R:RH X.K m H h){x:ay}(lx:LX X x){c P:az}(tc:Vs X.K x=aa (c,P)){ps:Array aA}(B:H P=aa (.tbl ps))
(ht:TriplesOk ps.toList)(F:∀pos v,Xq pos ps.toList=aa v->∃c' U os t,v=.ref c'/\H c'=aa (.frz U (.own 0))/\U.data=.fields os/\os[1]?=aa (.str (Aq x) t))
(C:∀y∈BT.gF,∀Q,Vs X.K y=aa (Q,P)->y=x)
{pos:Pos}(hn:Xq pos ps.toList=af){c' f:az}{h':aq}{tk:Nat}{fo:ao}(E:fo.isFreed=ai){U:ao}{os:Array aA}{t:Tok}(hx:Za P s.heap h')(L:s.heap.objs.size<=c')(V:c'<h'.objs.size)(ho:h'.get? c'=aa U)(p:U.data=.fields os)(hq:os[1]?=aa (.str (Aq x) t))
(hT:h'.get? P=aa (Wv (ps++#[Wj pos.line,Wj pos.col,.ref c']))):
 Inv X zt σ (mk3 H P c' h'.objs.size (.tbl (ps++#[Wj pos.line,Wj pos.col,.ref c'])) (.frz U (.own 0)) (.frz fo (.own 0))) {s with heap:=h'.push fo,toks:=tk}/\Ext m H m (mk3 H P c' h'.objs.size (.tbl (ps++#[Wj pos.line,Wj pos.col,.ref c'])) (.frz U (.own 0)) (.frz fo (.own 0))) ∧
 RH X.K m (mk3 H P c' h'.objs.size (.tbl (ps++#[Wj pos.line,Wj pos.col,.ref c'])) (.frz U (.own 0)) (.frz fo (.own 0))) h:=by
 have hPs:s.heap.get? P=aa (Wv ps):=I.aJ _ _ B;have g:P<s.heap.objs.size:=UF hPs;have cP:c'≠P:=λz=>by rw[z]at L;exact bL g (Nat.not_lt.mpr L)
 have fP:h'.objs.size≠P:=λz=>by rw[←z]at g;exact bL (UY g L) (Nat.not_lt.mpr (VQ V))
 have fc:h'.objs.size≠c':=Wt V;have fr:∀a,s.heap.objs.size<=a->H a=af:=λa ha=>I.aJ.fresh ha;have J:=fr c' L;have D:=fr h'.objs.size (VQ (Xl L V));have at1:∀t Z Y,mk3 H P c' h'.objs.size t Z Y h'.objs.size=aa Y:=λ_ _ _=>dG;have G:∀t Z Y,mk3 H P c' h'.objs.size t Z Y c'=aa Z:=λ_ _ _=>by unfold mk3;rw[dj (Vu fc),dG]
 have W:∀t Z Y,mk3 H P c' h'.objs.size t Z Y P=aa t:=λ_ _ _=>by unfold mk3;rw[dj (Vu fP),dj (Vu cP),dG]
 have O:∀t Z Y b,b≠P->b≠c'->b≠h'.objs.size->mk3 H P c' h'.objs.size t Z Y b=H b:=λ_ _ _ b n1 n2 n3=>by unfold mk3;rw[dj n3,dj n2,dj n1]
 have nP:∀b,H b=af->b≠P:=λb e z=>by rw[z,B]at e;cases e
 have lt:∀b o,s.heap.get? b=aa o->b≠c'/\b≠h'.objs.size:=λb o e=>by have l:=UF e;exact⟨λz=>by rw[z]at l;exact bL l (Nat.not_lt.mpr L),λz=>by rw[z]at l;exact bL (UY l L) (Nat.not_lt.mpr (VQ V))⟩
 have N:∀b o,b≠P->s.heap.get? b=aa o->(h'.push fo).get? b=aa o:=λb o n e=>Ux _ (hx b o n e);refine⟨I.un ⟨λb o e n _ _=>N b o (nP b n) e,λb o e n _ _=>⟨o.slots,N b o (nP b n) e⟩,λb o e n _=>?_,λb o e _=>?_,λb xs e=>eS B J D e rfl,λb o u e=>eS B J D e rfl,λb qs e=>?_⟩ λb u e=>?_,?_,?_⟩;rw[O _ _ _ b (nP b n) (lt b o e).1 (lt b o e).2];exact n
 ·by_cases z:b=P
  exact⟨_,by rw[z];exact Ux _ hT⟩;exact⟨o,N b o z e⟩
 ·by_cases z:b=P
  subst z;rw[B]at e;cases e;exact⟨_,W _ _ _⟩;exact⟨#[],by rw[O _ _ _ b z (dF e J) (dF e D),e];simp⟩
 ·by_cases A:b=h'.objs.size
  subst A;rw[at1]at e;cases e;exact⟨UG _ E,_,UG _ E⟩
  by_cases w:b=c'
  subst w;rw[G]at e;cases e;exact⟨Ux _ ho,_,Ux _ ho⟩
  by_cases k:b=P
  subst k;rw[W]at e;cases e;exact Ux _ hT;rw[O _ _ _ b k w A]at e;refine(I.aJ b u e).stay (λd o p q=>N d o ?_ q) (λd q=>eS B J D q rfl) λd xs q=>eS B J D q rfl;rcases p with rfl|p
  exact k
  ·rintro rfl;rw[B]at p;cases p
 ·refine⟨⟨[],by simp,by simp⟩,λa o e n t=>eS B J D e t,λa e=>?_,λa ob S e=>eS B J D e rfl⟩
  by_cases A:a=h'.objs.size
  rw[A];exact D
  by_cases w:a=c'
  rw[w];exact J
  by_cases k:a=P
  subst k;rw[W]at e;cases e;rw[O _ _ _ a k w A]at e;exact e
 ·have sq:mw H (mk3 H P c' h'.objs.size (.tbl (ps++#[Wj pos.line,Wj pos.col,.ref c'])) (.frz U (.own 0)) (.frz fo (.own 0))) :=
   ⟨λa S r=>r.elim (λz=>.inl (eS B J D z rfl)) λ⟨o,z⟩=>.inr ⟨o,eS B J D z rfl⟩,λa S r=>r.elim (λz=>.inl (eS B J D z rfl)) λ⟨o,z⟩=>.inr ⟨o,eS B J D z rfl⟩,λa S r=>r.elim (λz=>.inl (eS B J D z rfl)) λ⟨o,z⟩=>.inr ⟨o,eS B J D z rfl⟩⟩
  refine R.tr sq (λa ha=>?_) λy hy Q P2 e2=>?_
  ·obtain⟨o,e,z⟩:=R.mu ha;rw[e];exact eS B J D e (by cases o<;>first|rfl|exact aS z)
  ·by_cases z:P2=P
   ·subst z;obtain rfl:=C y hy Q e2;refine⟨_,W _ _ _,?_,λM v e=>?_⟩
    ·have:=TriplesOk_snoc pos.line pos.col (.ref c') ps.toList ht;simpa using this
    ·have e':Xq M (ps.toList++[Wj pos.line,Wj pos.col,.ref c'])=aa v:=by simpa using e
     rcases xQ _ ht e' with q|q
     ·obtain⟨c3,j,i,T,q1,q2,q3⟩:=F M v q;exact⟨c3,j,i,T,q1,eS B J D q2 rfl,q3⟩
     ·subst q;exact⟨c',U,os,t,rfl,G _ _ _,p,hq⟩
   ·obtain⟨qs,e3,e4,e5⟩:=R.tb y hy Q P2 e2;refine⟨qs,by rw[O _ _ _ P2 z (dF e3 J) (dF e3 D)];exact e3,e4,λM v e=>?_⟩;obtain⟨c3,j,i,T,q1,q2,q3⟩:=e5 M v e;exact⟨c3,j,i,T,q1,eS B J D q2 rfl,q3⟩
def DP{X:Cx}{zt:List (az×ao)}{σ:L2.St}{H:Hp}{s:UA}{m:List az}{h:aL}(I:Inv X zt σ H s)(R:RH X.K m H h){x:ay}(g:LX X x){d:Wm}{be:Uy}{scope:Vf}{lp:Pos}{ps:List ay}(hp:LPa d ps)
(V:∀y∈scope.names,y.2=.free->X.env.scope.names.lookup y.1=aa .cell){Q:aA->UA->Prop}{E:aA->UA->Prop}
(hQ:∀f H3 s3,Made X zt σ m H h (Aq x) d be scope (BC.fS X.env.cells scope.names []) f H3 s3->Q (.ref f) s3):av (UT X.prog X.w) X.A (eval (.Lambda d be scope lp) X.env) Q E s:=by
 obtain⟨c,P,tc,B,l,a⟩:=g.ex;obtain⟨ts,hP,z,M⟩:=R.tb x g.mem c P tc;have L:s.heap.get? P=aa (Wv ts):=I.aJ _ _ hP;have p:=I.ok.mod.glob.keeps I.bk;obtain⟨bm,ob,b1,b2,b3,b4,b5,T⟩:=g.bm;have J:=I.bk _ _ b3;have F:UP≠P:=λq=>by obtain⟨o,es,ep,e,Y,_⟩:=p;rw[q,L]at e;cases e;cases Y
 have G:bm≠P:=λq=>by rw[q,L]at J;cases J;cases b4
 have N:bm≠UP:=λq=>by obtain⟨o,es,ep,e,Y,_⟩:=p;rw[q,e]at J;cases J;rw[Y]at T;cases T
 have k:closureFor scope X.env=pure (BC.fS X.env.cells scope.names []):=BC.qe λy hy e=>I.ok.has y.1 (.inl (V y hy e));have hB:s.heap.BuiltinsAt X.mg P:=⟨bm,ob,b1,b2,N,G,J,b4,b5,T⟩;refine PySem.W.kla_eval (by cases hp<;>rfl) ?_;rw[g.ql];cases n:Xq lp ts.toList with
 |none =>
  refine PySem.W.kla_makeFunction (mg:=X.mg) k I.ok.glob p B (l.keeps I.bk) L z n F hB λZ D S tk hx U O j v=>?_;obtain⟨c2,r,vs,t,e2,C,Y,hv⟩:=j;cases e2;obtain⟨z1,z2,z3⟩:=G1 (tk:=tk) (fo:=XF "<lambda>" (Aq x) d be scope (BC.fS X.env.cells scope.names []) ((X.mg "__name__").getD .none) Z D) I R g tc hP z M a (f:=S.objs.size) n rfl hx U O C Y hv v;have nf:S.objs.size≠Z:=Wt O;have e1:=I.aJ.fresh (VQ (Xl U O));have e2:=I.aJ.fresh U;exact hQ _ _ _ ⟨z1,z2,z3,_,D,Z,r,vs,t,⟨dG,R.iK e1⟩,⟨by unfold mk3;rw[dj (Vu nf),dG],R.iK e2⟩,Y,hv⟩
 |some cv =>
  obtain⟨Z,r,os,t,rfl,q2,q3,q4⟩:=M _ _ n;refine PySem.W.kla_makeFunctionHit (mg:=X.mg) k I.ok.glob p B (l.keeps I.bk) L z n hB λD S tk hk i=>?_;have e1:=I.aJ.fresh i;refine hQ _ _ _ ⟨I.laid (o:=.frz (XF "<lambda>" (Aq x) d be scope (BC.fS X.env.cells scope.names []) ((X.mg "__name__").getD .none) Z D) (.own 0)) (t':=tk) (λb u e=>Ux _ (hk b u e)) i ⟨UG _ rfl,_,UG _ rfl⟩,gj e1,R.new e1,_,D,Z,r,os,t,⟨dG,R.iK e1⟩,⟨CW e1 _ _ q2,R.nin q2 rfl⟩,q3,q4⟩
end BS
end
section
namespace BS
open PySem PySem.Spec PyProof.Rows L2
variable{be:Uy}{lp:Pos}
open Classical in
noncomputable def iT(cl:List (ay×az))(h:aq)(H:Hp):Hp:=λb=>if ∃x,cl.lookup x=aa b then aa (.frz ((h.get? b).getD default) (.own 0))else H b
section
variable{cl:List (ay×az)}{h:aq}{H:Hp}{b:az}
def oK{x:ay}{o:ao}(e:cl.lookup x=aa b)(g:h.get? b=aa o):iT cl h H b=aa (.frz o (.own 0)):=by unfold iT;rw[bJ ⟨x,e⟩,g];rfl
def iN(e:¬ ∃x,cl.lookup x=aa b):iT cl h H b=H b:=bK e
def G3(N:∀x c,cl.lookup x=aa c->H c=af):Le H (iT cl h H):=λa u e=>by rw[iN (λ⟨x,q⟩=>by rw[N x a q]at e;exact cX e)];exact e
end
theorem oM{cells:List (ay×az)}{y:ay}{d:az}:∀{names:List (ay×WD)}{B:List (ay×az)},(BC.fS cells names B).lookup y=aa d->B.lookup y=aa d\/(y,Vy)∈names
 |[],B,e=>.inl e
 |(n,k)::r,B,e=>by
  rw[BC.fS]at e;split at e
  ·rename_i D;have D:k=.free:=bQ D;split at e
   ·rename_i a L;rcases oM e with q|q
    ·rw[V0]at q;split at q
     ·rename_i J;have:y=n:=by simpa using J
      subst this;subst D;exact .inr UH
     exact .inl q
    exact .inr (UC _ q)
   ·rcases oM e with q|q
    exact .inl q;exact .inr (UC _ q)
  ·rcases oM e with q|q
   exact .inl q;exact .inr (UC _ q)
def Lh{cells:List (ay×az)}{y:ay}{d:az}{names:List (ay×WD)}(e:(BC.fS cells names []).lookup y=aa d):(y,Vy)∈names:=by
 rcases oM e with q|q
 simp at q;exact q
def RWs.le{P:UM}{w:U6}{K:Uv}{m:List az}{H H':Hp}(q:Le H H'){vs:List V}{ws:List aM}(r:RWs P w K m H vs ws):RWs P w K m H' vs ws:=by
 induction r with
 |nil=>exact .nil|cons r t B=>exact .cons (r.le q) B
section
variable{F:FT}{G:ay->Option aM}
def Li{P:UM}{w:U6}{K:Uv}{m:List az}{H:Hp}{v:V}{x:aM}{q:bC}(r:RW P w K m H v x)(e:BT.vc x=aa q):RA K m H v q.w:=by
 cases r with
 |p r=>cases e;exact .p r|o h=>cases e;exact .o h|_=>exact cX e
theorem vN{X:Cx}{zt:List (az×ao)}{σ:L2.St}{H:Hp}{s:UA}{m:List az}{g:aL}{cl:List (ay×az)}{sc:Vf}{N:List ay}{V:aY}(I:Inv X zt σ H s)(R:RH X.K m H g)(L:X.env.scope=sc)(Y:X.N=N)(S:RS X.prog X.w X.K m H σ V)
(D:∀x c,cl.lookup x=aa c->X.env.cells.lookup x=aa c):∀(fv:List (Nat×ay)) (O:List bC),Ao sc N fv=ah->(∀q∈fv,∃c,cl.lookup q.2=aa c)->BT.caps V fv=aa O->∃B,jN m (iT cl s.heap H) cl (fv.map (·.2)) B/\RCs X.K m H B O
 |[],O,_,_,e=>by cases e;exact⟨[],.nil,.nil⟩
 |q::r,O,hv,hc,e=>by
  simp only[Ao,ZJ,Uz]at hv;rw[BT.Am]at e;split at e
  ·rename_i w i;obtain⟨t,e1,e2⟩:=Option.bind_eq_some_iff.mp e;obtain⟨U,j,rfl⟩:=dz e2;obtain⟨B,n,l⟩:=vN I R L Y S D r U hv.2 (λq f=>hc q (UC _ f)) j;obtain⟨v,Z,a⟩:=S.get _ _ i;obtain⟨c,J⟩:=hc q UH;have M:=D _ _ J;obtain⟨p,hn,h⟩:=I.loc;have W:X.env.scope.names.lookup q.2=aa .cell:=by rw[L];exact bQ hv.1.2
   obtain⟨u,b,d⟩:=h q.1 q.2 v (by rw[Y];exact bQ hv.1.1) Z (.inr (.inl W));rcases d with⟨k,_⟩|⟨k,c',ec,o,ho,hd⟩
   ·have:X.env.scope.names.lookup q.2=aa .local:=k;rw[W]at this;cases this
   ·rw[M]at ec;cases ec;exact⟨v::B,.cons J ⟨oK J ho,R.iK (I.freeC _ _ M)⟩ hd b n,.cons (Li a e1) l⟩
  exact cX e
def AS{m:ay}{M:aL->Option (List aM×aL)}{L:Nat}{B:Option (List bC)}{x:aM}{h:aL}{r:aM×aL}(e:BT.xr F m M L B x h=aa r):
 ∃n c fs ws g J,x=.o n/\bq h n=aa (c,fs)/\(BT.eN m fs).isNone=ah/\M h=aa (ws,g)/\B=aa J/\F (.m c m) (.o n::(ws++[.c (.l L) J])) g=aa r/\(BT.noC [r.1]=ah\/∃ps,r.1=.k (.s ps)):=by
 cases x with
 |o n =>
  rw[BT.Cr]at e;cases g:bq h n with
  |none=>rw[g]at e;exact cX e
  |some q =>
   obtain⟨c,fs⟩:=q;rw[g]at e;simp only at e;split at e
   ·rename_i V;obtain⟨ws,U,e1,e2⟩:=c6 e;cases B with
    |none=>exact cX e2
    |some J =>
     rw[BT.An]at e2;obtain⟨z,W,O,D⟩:=c6 e2;refine⟨n,c,fs,ws,U,J,rfl,g,V,e1,rfl,?_⟩;cases z with
     |c _ _=>exact cX D|x _=>exact cX D
     |k q=>cases q with
      |s ps=>cases D;exact⟨O,.inr ⟨ps,rfl⟩⟩|_=>exact cX D
     |_=>cases D;exact⟨O,.inl rfl⟩
   exact cX e
 |_=>exact cX e
def G4(X:Cx)(F:FT)(G:ay->Option aM)(as:aV)(args:List Uy)(L:Uy):Prop :=
 ∀(D:Pos)(M:List (az×ao)) (s:UA) (B:L2.St) (H:Hp) (m:List az) (V:aY) (h:aL) (ws:List aM) (g:aL) (Q:List aA->UA->Prop),Inv X M B H s->RH X.K m H h->RS X.prog X.w X.K m H B V->aX F G as V h=aa (ws,g) →
  (∀O U q W J,Inv X M B q W->dw O U->Ext m H J q->RH X.K J q g->RWs X.prog X.w X.K J q O ws->av (UT X.prog X.w) X.A (eval L X.env) (λu Y=>Q (U++[u]) Y) X.xe W) →
  av (UT X.prog X.w) X.A (Zd (WA D (U9 args X.env))) Q X.xe s
def OT{X:Cx}{J:Wm}{B:Vf}:G4 X F G .nil [.Lambda J be B lp] (.Lambda J be B lp):=by intro D M s L H m O h ws g Q I R S e k;simp only[aX]at e;cases e;show av _ _ (Zd ((ai,eval (.Lambda J be B lp) X.env)::WA D (U9 [] X.env))) _ _ s;exact Wf (thn (k [] [] H s m I .nil (.refl _ _) R .nil) λu U q=>WZ q)
def OU{X:Cx}{a:aP}{e:Uy}{M:Wm}{B:Vf}(i:noStar e=ah)(j:PE X e (tD X F G a)):G4 X F G (.cons a .nil) [e,.Lambda M be B lp] (.Lambda M be B lp):=by intro L b s Z H m f h ws g Q I R S Y k;simp only[aX]at Y;obtain⟨z,o,e1,e2⟩:=c6 Y;simp only[BT.kU,BT.dU,BT.jt]at e2;cases e2;rw[c5 i];show av _ _ (Zd ((ai,eval e X.env)::WA L (U9 [.Lambda M be B lp] X.env))) _ _ s;refine Wf (thn (j b s Z H (λv J=>∃D,Ext m H D J/\RH X.K D J g/\RW X.prog X.w X.K D J v z) I ⟨m,f,h,z,g,R,S,e1,λv J D O V U=>⟨D,O,V,U⟩⟩) λu W c=>?_);obtain⟨v,J,l,U,D,O,V,d⟩:=c;show av _ _ (Zd ((ai,eval (.Lambda M be B lp) X.env)::WA L (U9 [] X.env))) _ _ W;exact Wf (thn (k [v] [u] J W D l (.cons U .nil) O V (.cons d .nil)) λu n q=>WZ q)
inductive DQ(X:Cx)(zt:List (az×ao))(σ:L2.St)(m0:List az)(H:Hp)(n:Nat)(ws:List aM)(g:aL)(L:Nat)(cs:List bC)(a f:az)(us:List aA)(vs:List V)(m2:List az)(H3:Hp)(s3:UA)(cl:List (ay×az)):Prop
 |mk(O:Inv X zt σ H3 s3)(q:∀y d,cl.lookup y=aa d->H3 d=af)(D:∀y d,cl.lookup y=aa d->∃o u,s3.heap.get? d=aa o/\o.data=.cell u)(B:∀y d,cl.lookup y=aa d->d∉frs X.stack)(le:Le H3 (iT cl s3.heap H3))(U:RH X.K m2 (iT cl s3.heap H3) g)
  (W:RWs X.prog X.w X.K m2 (iT cl s3.heap H3) (.ref a::(vs++[.ref f])) (.o n::(ws++[.c (.l L) cs]))) (M:oY X.prog X.w X.K X.mg X.base X.A X.stack s3 (iT cl s3.heap H3)) (J:dw (V.ref a::(vs++[.ref f])) (Vz a::(us++[.ref f]))) (x:Ext m0 H m2 H3) (rh:RH X.K m2 H3 g):DQ X zt σ m0 H n ws g L cs a f us vs m2 H3 s3 cl
def AU{X:Cx}{sc:Vf}{N:List ay}(O:Ok X F G sc N)(hf:∀x,X.fn x=ah){o bt:aP}{m:ay}{as:aV}{L:Nat}{fv:List (Nat×ay)}{oe e0:Uy}{rest:List Uy}{apos cpos:Pos}{pa:Wm}{scope:Vf}{ns ps:List ay}
(hl:BT.qS L=aa ⟨ns,ns,.ret bt⟩)(hp:LPa pa ps)(hn:ns=ps++fv.map (·.2))(hk:pQ ps (fv.map (·.2)) scope=ah)(hv:Ao sc N fv=ah)(ht:N.contains (bE (BT.yO L))=ah)(hc:CE' scope ns bt be)(h3:dO oe=ah)(h6:(apos.endLine==cpos.line)=ah)
(hO:PE X oe (tD X F G o))(hst:dg (e0::rest)=ah)(hlen:(e0::rest).length<20)(hS:G4 X F G as (e0::rest) (.Lambda pa be scope lp))
{zt:List (az×ao)}{s:UA}{σ:L2.St}{H:Hp}{Q:aA->UA->Prop}{c:ay}{C ga:az}{n:Nat}{fs:List (ay×aM)}{ws:List aM}{g h h1:aL}{cs:List bC}{T:List az}{s':aY}(I:Inv X zt σ H s)(R:RH X.K T H h)(S:RS X.prog X.w X.K T H σ s')(hC:nM X.K c C)(hM:z7 X.K C m ga)
(e1:aN F G o s' h=aa (.o n,h1))(e3:bq h1 n=aa (c,fs))(e4:(BT.eN m fs).isNone=ah)(e5:aX F G as s' h1=aa (ws,g))(e6:BT.caps s' fv=aa cs)
(kk:∀(a f:az)(us:List aA)(vs:List V)(m2:List az) (H3:Hp) (s3:UA) (cl:List (ay×az)),DQ X zt σ T H n ws g L cs a f us vs m2 H3 s3 cl->av (UT X.prog X.w) X.A (call (.ref ga) (Vz a::(us++[Vz f]))) Q X.xe s3):
 av (UT X.prog X.w) X.A (eval (.Call (.Attribute oe m apos) (e0::rest) [] cpos) X.env) Q X.xe s:=by
 have lx:=O.lamx hf _ ht;have lf:=OH hk;subst hn;refine XD (thn (hO zt s σ H (λv E=>∃k,Ext T H k E/\RH X.K k E h1/\RW X.prog X.w X.K k E v (.o n)) I ⟨T,s',h,_,h1,R,S,e1,λv E k P R1 r1=>⟨k,P,R1,r1⟩⟩) λu s1 ⟨v,E,I1,rv,k,P,R1,w1⟩=>?_) (m8 h3 hst hlen h6);cases w1 with
 |@o a _ ha =>
 obtain rfl:u=.ref a:=rv;obtain⟨C',dx,vs0,q1,q2,q3⟩:=R1.rO _ _ _ _ ha e3;cases q2.cn.inj hC.cn;refine k9 I1 q1 hC.cls hM (q3.none e4) ?_;have J:=hst;simp only[dg,Uz]at J;refine WK (first:=[.ref a]) (h₀:=X.base) I.ok.mod.kin hM.kp (hS cpos zt s1 σ E k s' h1 ws g _ I1 R1 (S.ext P) e5 λvs us H2 s2 m2 I2 rvs x2 R2 w2=>?_) (c5 J.1) (dI J.2);have W:∀y∈scope.names,y.2=.free->X.env.scope.names.lookup y.1=aa .cell:=λy hy e=>by have hm:=lf.all y hy e;obtain⟨p,hp1,hp2⟩:=List.mem_map.mp hm;have:=List.all_eq_true.mp hv p hp1;simp only[Uz]at this;rw[O.hsc,←hp2];exact bQ this.2
 refine DP I2 R2 lx hp W λf H3 s3 M=>?_;have D:=M.inv;have B:∀y d,(BC.fS X.env.cells scope.names []).lookup y=aa d->X.env.cells.lookup y=aa d:=λy d e=>BC.qf (λ_ _ z=>by simp at z) y d e;have hfr:∀y d,(BC.fS X.env.cells scope.names []).lookup y=aa d->y∈fv.map (·.2):=λy d e=>lf.all (y,.free) (Lh e) rfl;have Z:∀p∈fv,∃d,(BC.fS X.env.cells scope.names []).lookup p.2=aa d:=λp hp'=>by have hm:=(lf.fre p.2 (aar hp')).2;exact BC.qh hm (D.ok.has p.2 (.inl (W _ hm rfl)))
 generalize BC.fS X.env.cells scope.names []=cl at M B hfr Z;have j:∀y d,cl.lookup y=aa d->X.s₀.heap.objs.size<=d:=λy d e=>D.ok.cab y d (hf y) (B y d e);have U:∀y d,cl.lookup y=aa d->H3 d=af:=λy d e=>D.freeC y d (B y d e);have Y:∀y d,cl.lookup y=aa d->∃o u,s3.heap.get? d=aa o/\o.data=.cell u:=λy d e=>by obtain⟨u,ob,r,g2⟩:=D.cell y d (B y d e);exact⟨ob,u,r,g2⟩
 have i:∀y d,cl.lookup y=aa d->d∉frs X.stack:=λy d e hb=>by
  rcases List.mem_cons.mp (D.oU d hb)with q|q
  exact D.cne y d (B y d e) q
  ·obtain⟨_,ob,r,_⟩:=D.ok.kR.mem q;exact bL (UF r) (Nat.not_lt.mpr (j y d e))
 obtain⟨cvs,cp,rc⟩:=vN D M.rh O.hsc O.hN ((S.ext P).ext (x2.trans M.ext)) B fv cs hv Z e6;have le:Le H3 (iT cl s3.heap H3):=G3 U;obtain⟨pm,ctv,c',oc,os,t,t1,t2,t3,t4⟩:=M.ex;have la:jK m2 (iT cl s3.heap H3) f L cvs:=⟨bt,ps,fv.map (·.2),pa,be,scope,cl,pm,ctv,c',oc,os,t,_,hl,hp,hk,hc,λy y' d e e'=>D.ok.inj _ _ _ (B _ _ e) (B _ _ e'),hfr,⟨le _ _ t1.1,t1.2⟩,⟨le _ _ t2.1,t2.2⟩,t3,t4,cp⟩;have R4:RH X.K m2 (iT cl s3.heap H3) g:=M.rh.le le;have w4:RWs X.prog X.w X.K m2 (iT cl s3.heap H3) (.ref a::(vs++[.ref f])) (.o n::(ws++[.c (.l L) cs])):=.cons (.o (x2.ix ha)) (RWs.app ((w2.ext M.ext).le le) (.cons (.c la (rc.tr le.sq)) .nil));have out:∀b ob,X.base.get? b=aa ob->¬ ∃y,cl.lookup y=aa b:=λb ob e ⟨y,q⟩=>bL (UF (D.ok.bs b ob e).1) (Nat.not_lt.mpr (j y b q));have e04:oY X.prog X.w X.K X.mg X.base X.A X.stack s3 (iT cl s3.heap H3):=by
  refine⟨D.ok.frames,D.ok.mod,λb ob e=>⟨(D.bs b ob e).1,by rw[iN (out b ob e)];exact(D.bs b ob e).2⟩,U3 D.ok.bsz D.sz,D.stack,λb hb=>?_,λb u e=>?_,D.bare⟩;rw[iN (λ⟨y,q⟩=>i y b q hb)];exact D.sI b hb
  ·by_cases cc:∃y,cl.lookup y=aa b
   ·obtain⟨y,q⟩:=cc;obtain⟨ob,uu,r,g2⟩:=Y y b q;rw[oK q r]at e;cases e;exact⟨r,_,r⟩
   ·rw[iN cc]at e;exact(D.aJ b u e).stay (λ_ _ _ z=>z) (λd z=>le _ _ z) λd xs z=>le _ _ z
 have rv4:dw (V.ref a::(vs++[.ref f])) (Vz a::(us++[.ref f])):=.cons rfl (rvs.append (.cons rfl .nil));exact⟨D.kIn,kk a f us vs m2 H3 s3 cl ⟨D,U,Y,i,le,R4,w4,e04,rv4,P.trans (x2.trans M.ext),M.rh⟩⟩
section
variable{X:Cx}{cl:List (ay×az)}{H3 H5:Hp}{s3 s5:UA}{m2 m5:List az}
def DR(B:∀y d,cl.lookup y=aa d->H3 d=af)(b:az)(D:HO)(e:H3 b=aa D):¬ ∃y,cl.lookup y=aa b:=λ⟨y,q⟩=>by rw[B y b q]at e;exact cX e
def Lj(D:∀y d,cl.lookup y=aa d->H3 d=af)(W:∀y d,cl.lookup y=aa d->∃o u,s3.heap.get? d=aa o/\o.data=.cell u)(M:∀y d,cl.lookup y=aa d->d∉frs X.stack)(le:Le H3 (iT cl s3.heap H3)){P:UM}{w:U6}
(un:Un (frs X.stack) [] (iT cl s3.heap H3) H5 s3.heap s5.heap)(L:HOk P w H5 s5.heap):Un (frs X.stack) [] H3 (hid cl H5) s3.heap s5.heap:=by
 have V:=DR D;refine⟨λb ob e J U B=>?_,λb ob e J U B=>?_,λb ob e J B=>?_,λb ob e B=>un.there b ob e B,λb Y e=>?_,λb ob Z e=>?_,λb a e=>?_⟩
 ·by_cases O:∃y,cl.lookup y=aa b
  ·obtain⟨y,q⟩:=O;exact(L _ _ (un.frzs _ _ _ (oK q e))).1
  exact un.keep b ob e (by rw[iN O];exact J) U B
 exact un.slot b ob e (by rw[iN (λ⟨y,q⟩=>M y b q U)];exact J) U B
 ·by_cases O:∃y,cl.lookup y=aa b
  obtain⟨y,q⟩:=O;exact xG q;exact iM (un.free b ob e (by rw[iN O];exact J) B)
 rw[fN (V _ _ e)];exact un.tups b Y (le _ _ e);rw[fN (V _ _ e)];exact un.frzs b ob Z (le _ _ e);rw[fN (V _ _ e)];exact un.tbls b a (le _ _ e)
def G5{L:aq}(B:∀y d,cl.lookup y=aa d->H3 d=af)(le:Le H3 (iT cl L H3))(J:Ext m2 (iT cl L H3) m5 H5):Ext m2 H3 m5 (hid cl H5):=by
 have M:=DR B;obtain⟨ex,Y,Z⟩:=J.pre;have D:∀b,iT cl L H3 b=af->H3 b=af:=λb e=>by
  cases c:H3 b with
  |none=>rfl|some f=>rw[le _ _ c]at e;cases e
 refine⟨⟨ex,Y,λb a=>D b (Z b a)⟩,λb ob e W V=>?_,λb e=>?_,λb ob U e=>by rw[fN (M _ _ e)];exact J.frz b ob U (le _ _ e)⟩;rw[fN (M _ _ e)];exact J.keep b ob (le _ _ e) W V
 ·by_cases O:∃y,cl.lookup y=aa b
  obtain⟨y,q⟩:=O;exact B y b q;rw[fN O]at e;exact D b (J.live b e)
end
def vO{X:Cx}{sc:Vf}{N:List ay}(O:Ok X F G sc N)(hf:∀x,X.fn x=ah){o bt:aP}{m:ay}{as:aV}{L:Nat}{fv:List (Nat×ay)}{oe e0:Uy}{rest:List Uy}{apos cpos:Pos}{pa:Wm}{B:Vf}{ns ps:List ay}
(hl:BT.qS L=aa ⟨ns,ns,.ret bt⟩)(hp:LPa pa ps)(hn:ns=ps++fv.map (·.2))(hk:pQ ps (fv.map (·.2)) B=ah)(hv:Ao sc N fv=ah)(ht:N.contains (bE (BT.yO L))=ah)(hc:CE' B ns bt be)(h3:dO oe=ah)(h6:(apos.endLine==cpos.line)=ah)
(hO:PE X oe (tD X F G o))(hst:dg (e0::rest)=ah)(t:(e0::rest).length<20)(hS:G4 X F G as (e0::rest) (.Lambda pa be B lp)):
 PE X (.Call (.Attribute oe m apos) (e0::rest) [] cpos) (tD X F G (.methL o m as L fv)):=by
 intro zt s σ H Q I q;obtain⟨m0,s',h,z,h',R,S,ee,zr⟩:=q;simp only[aN]at ee;obtain⟨x,h1,e1,e2⟩:=c6 ee;obtain⟨n,c,fs,ws,g,cs,rfl,e3,e4,e5,e6,e7,e8⟩:=AS e2;obtain⟨C,ga,fd,ps',k,hC,hM,hB,hR,ok⟩:=O.aF _ _ _ _ _ e7;refine AU O hf hl hp hn hk hv ht hc h3 h6 hO hst t hS I R S hC hM e1 e3 e4 e5 e6 λa f T vs m2 H3 j cl P=>?_;obtain⟨I3,D,U,v,le,R4,w4,e04,l,xx,rh⟩:=P;have i:spF X.prog X.w X.K (F (.m c m)) (V.ref a::(vs++[.ref f])) (iT cl j.heap H3) (λZ W=>∃J,Ext m2 (iT cl j.heap H3) J W/\RH X.K J W h'/\RW X.prog X.w X.K J W Z z) E0:=⟨m2,_,g,z,h',R4,w4,e7,λZ W J x5 R5 r5=>⟨J,x5,R5,r5⟩⟩;have hl4:(Vz a::(T++[.ref f])).length=ps'.length:=by rw[←l.length];exact ok.len _ _ _ _ i
 have E:=hB j (Vz a::(T++[.ref f])) I3.kIn (by rw[U8];exact hl4);rw[U8]at E;have p:=ok.run X.A X.stack j (iT cl j.heap H3) ⟨Vz a::(T++[Vz f]),[]⟩ (Vz a::(T++[Vz f])) _ _ E0 hR e04 E l i;refine XM (codeAny_mono p λr s' hq=>?_);cases r with
 |error e=>exact Vo hq
 |ok fl =>
  cases fl with
  |ret u =>
   obtain⟨Z,W,os5,Y,un,M,rv5,J,x5,R5,r5⟩:=hq;have C5:fR cl W:=λy d e=>by obtain⟨ob,uu,g1,g2⟩:=U y d e;exact⟨ob,uu,un.frzs _ _ _ (oK e g1),g2⟩
   have un6:=Lj D U v le un M;have I6:=I3.M1 os5 un6 (zb C5 M λ_ _ e=>e) Y (λb zz=>bL zz (by simp));have x6:=G5 D le x5;have r6:RW X.prog X.w X.K J (hid cl W) Z z:=by
    rcases e8 with e8|⟨ps,rfl⟩
    ·have:=RWs.tr C5.sq (.cons r5 .nil) e8;cases this with
     |cons r _=>exact r
    exact r5.trS C5.sq
   exact⟨Z,hid cl W,I6,rv5,zr Z _ J (xx.trans x6) (C5.rh R5) r6⟩
  |_=>exact Vo hq
end
end BS
end
section
namespace BS
open PySem PySem.Spec PyProof.Rows L2
variable{K:Uv}{fl:BT.Fl}{st:Vr}{xe':aA->UA->Prop}
noncomputable def jX:Uy->Bool
 |.ListComp _ _ _ _=>ai|.SetComp _ _ _ _=>ai|.DictComp _ _ _ _ _=>ai|_=>ah
noncomputable def swB(sc q:Vf)(x:ay)(B pos:Pos):Bool :=
 (if sc.kind.isAnnotationScope then ScopeKind.function else sc.kind)==.function&&sc.names.lookup x==aa .local&&B.line==pos.line&&!(q.names.any λ(n,k)=>n==x&&(k==.local||k==.cell))
mutual
inductive CS(sc:Vf)(N:List ay):BT.S->Vr->Prop
 |setL{i:Nat}{x m:ay}{o:aP}{as:aV}{L:Nat}{fv:List (Nat×ay)}{call:Uy}{q p:Pos}(h1:N[i]?=aa x)(h2:n9 sc x=ah)(B:CL sc N o m as L fv call):CS sc N (.set i (.methL o m as L fv)) (.Assign [.Name x q] call p)
 |retL{m:ay}{o:aP}{as:aV}{L:Nat}{fv:List (Nat×ay)}{call:Uy}{p:Pos}(q:CL sc N o m as L fv call):CS sc N (.ret (.methL o m as L fv)) (.Return (aa call) p)
 |setc{i:Nat}{x:ay}{mu:Bool}{sr:bH}{sa:aV}{tg:List ay}{fv:List (Nat×ay)}{cond:aV}{elt:aP}{te iter B:Uy}{D:List Uy}{q:Vf}{pos J p:Pos}(U:gQ N=ah)(h1:N[i]?=aa x)(Y:(sc.names.lookup x==aa .cell||swB sc q x J pos)=ah)
  (M:lA sc N tg fv q=ah) (O:vz (d8 q sc) tg te=ah) (hz:vq sr te=ah) (L:ly iter=ah) (hi:CI sc N sr sa iter) (V:CC (d8 q sc) (tg++fv.map (·.2)) cond D) (W:CE' (d8 q sc) (tg++fv.map (·.2)) elt B) :
  CS sc N (.set i (.comp mu sr sa tg fv cond elt)) (.Assign [.Name x J] (.ListComp B [⟨te,iter,D,0⟩] q pos) p)
 |set{i:Nat}{x:ay}{e:aP}{v:Uy}{q p:Pos}(h1:N[i]?=aa x)(h2:n9 sc x=ah)(D:jX v=ah)(B:CE' sc N e v):CS sc N (.set i e) (.Assign [.Name x q] v p)
 |unp{tg:List (Nat×ay)}{e:aP}{es:List Uy}{k:Nat}{q:Uy}{args:List Uy}{kw:List XI}{D B p:Pos}(J:gQ N=ah)(M:CT sc N tg (.Tuple es k D))(L:CE' sc N e (.Call q args kw B)):CS sc N (.unp tg e) (.Assign [.Tuple es k D] (.Call q args kw B) p)
 |put{i:Nat}{x:ay}{k e:aP}{q v:Uy}{B sp p:Pos}(h1:N[i]?=aa x)(h2:nL sc x=ah)(O:fE x=ah)(L:jX v=ah)(J:kH q=ah)(D:CE' sc N k q)(M:CE' sc N e v):CS sc N (.put i k e) (.Assign [.Subscript (.Name x B) q sp] v p)
 |putd{i:Nat}{x:ay}{k e:aP}{q v:Uy}{B sp p:Pos}(h1:N[i]?=aa x)(h2:nL sc x=ah)(O:fE x=ah)(L:jX v=ah)(J:kH q=ah)(D:CE' sc N k q)(M:CE' sc N e v):CS sc N (.putd i k e) (.Assign [.Subscript (.Name x B) q sp] v p)
 |aug{i:Nat}{x:ay}{o:bA}{q:X4}{e:aP}{v:Uy}{B p:Pos}(h1:N[i]?=aa x)(h2:n9 sc x=ah)(J:Dr o q=ah)(D:CE' sc N e v):CS sc N (.aug i o e) (.AugAssign (.Name x B) q v p)
 |setf{o e:aP}{f:ay}{q v:Uy}{B p:Pos}(h1:attrName f=ah)(h2:jX v=ah)(J:CE' sc N o q)(D:CE' sc N e v):CS sc N (.setf o f e) (.Assign [.Attribute q f B] v p)
 |augf{o e:aP}{f:ay}{b:bA}{B:X4}{q v:Uy}{D p:Pos}(h1:attrName f=ah)(J:Dr b B=ah)(L:CE' sc N o q)(M:CE' sc N e v):CS sc N (.augf o f b e) (.AugAssign (.Attribute q f D) B v p)
 |ex{e:aP}{v:Uy}{p:Pos}(h:jX v=ah)(q:CE' sc N e v):CS sc N (.ex e) (.Expr v p)
 |ret{e:aP}{v:Uy}{p:Pos}(q:CE' sc N e v):CS sc N (.ret e) (.Return (aa v) p)
 |v{c:aP}{a b:BT.S}{t:Uy}{xs ys:List Vr}{p:Pos}(h:tOK c=ah)(q:CE' sc N c t)(D:CSs sc N a xs)(B:CSs sc N b ys):CS sc N (.v c a b) (.If t xs ys p)
 |j{c:aP}{b:BT.S}{t:Uy}{xs:List Vr}{p:Pos}(h:tOK c=ah)(q:CE' sc N c t)(B:CSs sc N b xs):CS sc N (.j c b) (.While t xs [] p)
 |for{tg:List (Nat×ay)}{sr:bH}{sa:aV}{b:BT.S}{te iter:Uy}{xs:List Vr}{p:Pos}(q:gQ N=ah)(B:CT sc N tg te)(hi:CI sc N sr sa iter)(hz:vq sr te=ah)(D:ly iter=ah)(J:CSs sc N b xs):CS sc N (.for tg sr sa b) (.For te iter xs [] p)
 |bad{st:Vr}:CS sc N .bad st
 |rai{st:Vr}{c:ay}{e:aP}:CS sc N (.rai c e) st
 |rai2{st:Vr}{c:ay}{a e:aP}:CS sc N (.rai2 c a e) st
 |tryr{e:aP}{v:Uy}{p q:Pos}{B:YZ}{D:List YZ}(J:CE' sc N e v):CS sc N (.ret e) (.Try [.Return (aa v) p] (B::D) [] [] q)
inductive CSs(sc:Vf)(N:List ay):BT.S->List Vr->Prop
 |nil:CSs sc N .nil []
 |blk{b:BT.S}{l:List Vr}(h:CSs sc N b l):CSs sc N (.blk b) l
 |one{s:BT.S}{st:Vr}(h:CS sc N s st):CSs sc N s [st]
 |cons{a b:BT.S}{st q:Vr}{r:List Vr}(h:CS sc N a st)(B:CSs sc N b (q::r)):CSs sc N (.seq a b) (st::q::r)
end
def mC(X:Cx)(m:List az)(H:Hp)(fl:BT.Fl)(D:Ends):Prop:=match fl with
 |.nx M L=>∀B q J,Ext m H J q->RH X.K J q L->RS X.prog X.w X.K J q B M->D.nx B q|.rt z L=>∀v q J,Ext m H J q->RH X.K J q L->RW X.prog X.w X.K J q v z->D.rt v q|.bk M L=>∀B q J,Ext m H J q->RH X.K J q L->RS X.prog X.w X.K J q B M->D.bk B q|.ct M L=>∀B q J,Ext m H J q->RH X.K J q L->RS X.prog X.w X.K J q B M->D.ct B q
def mC.ext{X:Cx}{m m':List az}{H H':Hp}{D:Ends}(x:Ext m H m' H')(p:mC X m H fl D):mC X m' H' fl D:=by cases fl<;>exact λa b c y=>p a b c (x.trans y)
inductive tDS(X:Cx)(F:FT)(G:ay->Option aM)(S:BT.S)(D:Ends)(σ:L2.St)(H:Hp):Prop
 |mk(m:List az)(s:aY)(h:aL)(fl:BT.Fl)(R:RH X.K m H h)(r:RS X.prog X.w X.K m H σ s)(e:aR F G S s h=aa fl)(p:mC X m H fl D):tDS X F G S D σ H
def PS.weak{X:Cx}{t t':TS}(h:PS X st t)(q:∀D σ H,t' D σ H->t D σ H):PS X st t':=λB s σ H D I hw=>h B s σ H D I (q _ _ _ hw)
def PSs.weak{X:Cx}{st:List Vr}{t t':TS}(h:PSs X st t)(q:∀D σ H,t' D σ H->t D σ H):PSs X st t':=λB s σ H D I hw=>h B s σ H D I (q _ _ _ hw)
section
variable{F:FT}{G:ay->Option aM}
def DS{X:Cx}{a b:BT.S}(D:Ends)(σ:L2.St)(H:Hp)(q:tDS X F G (.seq a b) D σ H):M8 (tDS X F G a) (tDS X F G b) D σ H:=by
 obtain⟨m,s,h,W,R,S,e,B⟩:=q;simp only[aR]at e;cases g:aR F G a s h with
 |none=>rw[g]at e;exact cX e
 |some J =>
  rw[g]at e;refine⟨m,s,h,J,R,S,g,?_⟩;cases J with
  |nx O V=>exact fun L c U M Z Y=>⟨U,O,V,W,Z,Y,e,B.ext M⟩
  |_=>cases e;exact B
def DT{X:Cx}{b:BT.S}(D:Ends)(σ:L2.St)(H:Hp)(q:tDS X F G (.blk b) D σ H):tDS X F G b D σ H:=by
 obtain⟨m,s,h,a,R,S,e,B⟩:=q;simp only[aR]at e;cases g:aR F G b s h with
 |none=>rw[g]at e;exact cX e
 |some J =>
  rw[g]at e;refine⟨m,s,h,J,R,S,g,?_⟩;cases J with
  |rt w Z =>
   rw[BT.Ga]at e;obtain⟨p,e1,e2⟩:=dz e;cases e2;intro v W Y M V U;obtain⟨m2,L,R2,O⟩:=kK e1 R M V U;exact B v W m2 L R2 O
  |_=>cases e;exact B
def jM{X:Cx}{L:BT.S}{a:aP}{k:aY->aM->aL->Option BT.Fl}(Y:∀s h,aR F G L s h=bF (aN F G a s h) (k s)){D:Ends}{σ:L2.St}{H:Hp}(q:tDS X F G L D σ H){M:V->Hp->Prop}
(h1:∀m s h x fl v H1,RH X.K m H1 h->RS X.prog X.w X.K m H1 σ s->RW X.prog X.w X.K m H1 v x->k s x h=aa fl->mC X m H1 fl D->M v H1):tD X F G a σ H M:=by
 obtain⟨m,s,h,fl,R,S,J,O⟩:=q;rw[Y]at J;obtain⟨x,g,e1,e2⟩:=c6 J;exact⟨m,s,h,x,g,R,S,e1,λv H1 W B Z U=>h1 W s g x fl v H1 Z (S.ext B) U e2 (O.ext B)⟩
def zj{x:Option (aM×aL)}{k:Bool->aL->Option BT.Fl}(h:BT.tst x k=aa fl):∃b g,x=aa (.p (.bl b),g)/\k b g=aa fl:=by
 unfold BT.tst at h;obtain⟨w,g,e1,e2⟩:=c6 h;unfold BT.Of at e2;cases w with
 |p d =>
  cases d<;>simp only at e2<;>try contradiction
  exact⟨_,g,e1,e2⟩
 |_=>exact cX e2
def mD{e:Uy}{t:Option Uy}{l:Nat}{env:Env}(h:jX e=ah):Xn e t l env=pure ai:=by cases e<;>first|rfl|exact aS h
def zk{e t:Uy}{l:Nat}{env:Env}(h:jX e=ah):swapsWithSole [t] e l env=pure ai:=mD h
def qk{o i:Uy}{pos:Pos}{env:Env}(h:kH i=ah):∀ v,Zs (.Subscript o i pos) env v=(do
 let ov ←XX [v] (eval o env)
 let iv ←XX [v,ov] (eval i env)
 ZP pos
 XX [v,ov,iv] (setItem ov iv v)
 release [v,ov,iv] []):=by
 intro v;cases i<;>first|rfl|exact aS h
def Lk{X:Cx}{c:aP}{b:BT.S}(D:Ends)(σ:L2.St)(H:Hp)(q:tDS X F G (.j c b) D σ H):Br (tDT X F G c) (tDS X F G b) D σ H:=by
 obtain⟨u,s,h,k,R,S,e,J⟩:=q;simp only[aR]at e;refine⟨λn σ H=>∃m s h,RH X.K m H h/\RS X.prog X.w X.K m H σ s/\BT.iI (aN F G c) (aR F G b) n s h=aa k/\mC X m H k D,⟨BT.turns,u,s,h,R,S,e,J⟩,?_⟩
 rintro n σ1 H1 ⟨m,s,h,R,S,e,J⟩
 cases n with
 |zero=>exact cX e
 |succ n =>
  rw[BT.iI]at e;obtain⟨t,g,e1,e2⟩:=zj e;refine⟨m,s,h,t,g,R,S,e1,λx m2 M R2=>?_⟩;cases t with
  |false =>
   rw[BT.tL]at e2;cases e2;rw[bK (by decide)];exact J σ1 x m2 M R2 (S.ext M)
  |true =>
   rw[BT.xy]at e2;rw[bJ rfl];refine⟨fun V l=>∃W f i,RH X.K W l i/\RS X.prog X.w X.K W l V f/\BT.iI (aN F G c) (aR F G b) n f i=aa k/\mC X W l k D,fun V l ⟨W,f,i,a1,a2,a3,a4⟩=>⟨n,Wd n,W,f,i,a1,a2,a3,a4⟩,?_⟩;cases o:aR F G b s g with
   |none=>rw[o]at e2;exact cX e2
   |some p =>
    rw[o]at e2;refine⟨m2,s,g,p,R2,S.ext M,o,?_⟩;cases p with
    |nx d Y=>exact fun B a O L U Z=>⟨O,d,Y,U,Z,e2,(J.ext M).ext L⟩
    |ct d Y=>exact fun B a O L U Z=>⟨O,d,Y,U,Z,e2,(J.ext M).ext L⟩
    |bk d Y=>cases e2;exact fun B a O L U Z=>J B a O (M.trans L) U Z
    |rt z Y=>cases e2;exact λv a O L U r=>J v a O (M.trans L) U r
def Ll{X:Cx}{i:Nat}{o:bA}{e:aP}(D:Ends)(σ:L2.St)(H:Hp)(q:tDS X F G (.aug i o e) D σ H):Nf i (tD X F G e) (KR o) D σ H:=by
 obtain⟨m,s,h,l,R,S,V,W⟩:=q;simp only[aR]at V;obtain⟨y,g,e1,e2⟩:=c6 V;unfold BT.On at e2;have j:∃d O z,s[i]?=aa (aa (.p d))/\y=.p O/\BT.o9 o d O=aa z/\l=.nx (s.set i (aa (.p z))) g:=by
  cases B:s[i]? with
  |none=>rw[B]at e2;cases y<;>exact cX e2
  |some Z =>
   cases Z with
   |none=>rw[B]at e2;cases y<;>exact cX e2
   |some Y =>
    rw[B]at e2;cases Y<;>cases y<;>simp only at e2<;>try contradiction
    obtain⟨z,J,n⟩:=dz e2;exact⟨_,_,z,rfl,rfl,J,n.symm⟩
 obtain⟨d,O,z,B,rfl,J,rfl⟩:=j;obtain⟨a,b,k,rfl,rfl,rfl⟩:=y9 J;obtain⟨v,f,L⟩:=S.get i _ B;have ev:v=.int a:=by cases L with|p L=>cases L;rfl
 subst ev;refine⟨_,f,m,s,h,_,g,R,S,e1,λu t c U r M=>?_⟩;cases M with
 |p M =>
  cases M;exact⟨a,b,k,rfl,rfl,J,W _ t c U r ((S.ext U).set (.p (.int k)))⟩
def AV{s:aY}{f:ay}{v x:aM}{h:aL}(e:BT.tM s f v x h=aa fl):∃n c fs,x=.o n/\bq h n=aa (c,fs)/\BT.attrOk v=ah/\fs.length<1000/\fl=.nx s (h.set n (.o c (BT.eH f v fs))):=by
 cases x with
 |o n =>
  rw[BT.Cy]at e;cases g:bq h n with
  |none=>rw[g]at e;exact cX e
  |some q =>
   obtain⟨c,fs⟩:=q;rw[g]at e;simp only at e;obtain⟨B,e⟩:=dB e;cases e;simp only[Uz,bM]at B;exact⟨n,c,fs,rfl,g,B.1,B.2,rfl⟩
 |_=>exact cX e
def vP{X:Cx}{D:Ends}{m:List az}{H:Hp}{σ:L2.St}{s:aY}{h:aL}{n:Nat}{c f:ay}{fs:List (ay×aM)}{y:aM}{v:V}{a C dx:az}{vs:List (ay×V)}(R:RH X.K m H h)(S:RS X.prog X.w X.K m H σ s)(hn:m[n]?=aa a)(h1:H a=aa (.ins C dx vs))(h2:nM X.K c C)(B:RFs X.K m H vs fs)(ra:RA X.K m H v y)
(q:mC X m H (.nx s (h.set n (.o c (BT.eH f y fs)))) D):D.nx σ (upd H a (.ins C dx (L2.eH f v vs))):=by
 have x:Ext m H m (upd H a (.ins C dx (L2.eH f v vs))):=jh (UJ hn) ⟨_,h1,rfl⟩;exact q σ _ m x (R.setC hn ⟨_,h1,rfl⟩ ⟨C,dx,_,dG,h2,(RFs.put ra B).ext x⟩) (S.ext x)
def G6{X:Cx}{o e:aP}{f:ay}(Y:attrName f=ah)(D:Ends)(σ:L2.St)(H:Hp)(q:tDS X F G (.setf o f e) D σ H):Nu X.K (tD X F G o) (tD X F G e) f D σ H:=by
 refine jM (k:=λs=>BT.Cz (aN F G o s) s f) (λs h=>by simp only[aR]) q λm s h y i v l R S r e1 O=>?_;rw[BT.CA]at e1;obtain⟨x,g,e2,b⟩:=c6 e1;obtain⟨n,c,fs,rfl,Z,ok,W,rfl⟩:=AV b;refine⟨m,s,h,.o n,g,R,S,e2,λu j m2 B R2 V=>?_⟩;cases V with
 |@o a _ hn =>
  obtain⟨C,d,U,M,J,L⟩:=R2.rO _ _ _ _ hn Z;exact⟨a,C,d,U,rfl,M,J.cls,J.no f Y,by rw[L.length];exact W,vP R2 (S.ext B) hn M J L ((r.ext B).ra ok) (O.ext B)⟩
def DU{U:BT.EH}{s:aY}{f:ay}{B:bA}{x:aM}{h:aL}(e:BT.yL U s f B x h=aa fl):∃n c fs d y g fs' z,x=.o n/\bq h n=aa (c,fs)/\BT.eN f fs=aa (.p d)/\U h=aa (.p y,g)/\bq g n=aa (c,fs')/\BT.o9 B d y=aa z/\fs'.length<1000/\fl=.nx s (g.set n (.o c (BT.eH f (.p z) fs'))):=by
 cases x with
 |o n =>
  rw[BT.Gc]at e;cases M:bq h n with
  |none=>rw[M]at e;exact cX e
  |some q =>
   obtain⟨c,fs⟩:=q;rw[M]at e;simp only at e;cases L:BT.eN f fs with
   |none=>rw[L]at e;exact cX e
   |some V =>
    rw[L]at e;cases V with
    |p d =>
     simp only at e;obtain⟨y,g,e1,e2⟩:=c6 e;cases y with
     |p y =>
      rw[BT.CB]at e2;cases J:bq g n with
      |none=>rw[J]at e2;exact cX e2
      |some q =>
       obtain⟨W,fs'⟩:=q;rw[J]at e2;simp only at e2;cases D:BT.o9 B d y with
       |none=>rw[D]at e2;exact cX e2
       |some z =>
        rw[D]at e2;simp only at e2;obtain⟨O,e2⟩:=dB e2;cases e2;obtain⟨rfl,O⟩:=O;exact⟨n,W,fs,d,y,g,fs',z,rfl,M,L,e1,J,D,O,rfl⟩
     |_=>exact cX e2
    |_=>exact cX e
 |_=>exact cX e
def G7{X:Cx}{o e:aP}{f:ay}{b:bA}(A:attrName f=ah)(D:Ends)(σ:L2.St)(H:Hp)(q:tDS X F G (.augf o f b e) D σ H):yv X.K (tD X F G o) (tD X F G e) (KR b) f D σ H:=by
 refine jM (k:=λs=>BT.yL (aN F G e s) s f b) (λs h=>by simp only[aR]) q λm s h y fl v H1 R S r e1 Y=>?_;obtain⟨n,c,fs,d,y,g,P,z,rfl,N,I,e2,E,W,x,rfl⟩:=DU e1;obtain⟨i,j,k,rfl,rfl,rfl⟩:=y9 W;cases r with
 |@o a _ hn =>
  obtain⟨C,T,Z,w,M,t⟩:=R.rO _ _ _ _ hn N;obtain⟨u,l,ra⟩:=t.get I;have Q:u=.int i:=by cases ra with|p ra=>cases ra;rfl
  subst Q;refine⟨a,C,T,Z,_,rfl,w,M.cls,M.no f A,l,m,s,h,_,g,R,S,e2,λu2 H2 m2 B R2 L=>?_⟩;cases L with
  |p L =>
   cases L;obtain⟨C',O,J,V,p2,U⟩:=R2.rO _ _ _ _ (B.ix hn) E;cases p2.cn.inj M.cn;exact⟨i,j,k,rfl,rfl,W,O,J,V,by rw[U.length];exact x,vP R2 (S.ext B) (B.ix hn) V p2 U (.p (.int k)) (Y.ext B)⟩
def Lm{X:Cx}{i:Nat}{k e:aP}(D:Ends)(σ:L2.St)(H:Hp)(q:tDS X F G (.put i k e) D σ H):zU (tD X F G e) (Jt (tD X F G (.v i)) (tD X F G k) IE) D σ H:=by
 refine jM (k:=λs=>BT.Ko (aN F G k s) s i) (λs h=>by simp only[aR]) q λm s h y E v K R S r e1 x=>?_;unfold BT.Ko at e1;cases y with
 |p d =>
  cases g:s[i]? with
  |none=>rw[g]at e1;exact cX e1
  |some o =>
   cases o with
   |none=>rw[g]at e1;exact cX e1
   |some z =>
    cases z with
    |r n =>
     rw[g]at e1;simp only at e1;obtain⟨q,t,e2,B⟩:=c6 e1;refine⟨m,s,h,.r n,h,R,S,by simp only[aN,g],λo I m2 L R2 A=>⟨m2,s,h,q,t,R2,S.ext L,e2,λC w V J u M=>?_⟩⟩;unfold BT.IK at B;cases q with
     |p dk =>
      cases Z:bf t n with
      |none=>rw[Z]at B;cases dk<;>exact cX B
      |some b =>
       rw[Z]at B;cases dk with
       |int j =>
        simp only at B;cases Y:BT.place b.length j with
        |none=>rw[Y]at B;exact cX B
        |some U =>
         rw[Y]at B;cases B;have O:=A.ext J;cases O with
         |@r a _ hn =>
          cases M with
          |p M =>
           cases M;obtain⟨f,W,l⟩:=u.cell n a b hn Z;refine⟨a,f,j,U,rfl,rfl,W,by rw[l.length];exact Y,?_⟩;have c:Ext V w V (upd w a (.aB (f.set U v))):=gR (UJ hn) W;cases r with
           |p r=>exact x σ _ V ((L.trans J).trans c) (u.set hn W (RDs.set ((r.ext L).ext J) U l)) (((S.ext L).ext J).ext c)
       |_=>exact cX B
     |_=>exact cX B
    |_=>rw[g]at e1;exact cX e1
 |_=>exact cX e1
def G8{X:Cx}{i:Nat}{k e:aP}(D:Ends)(σ:L2.St)(H:Hp)(q:tDS X F G (.putd i k e) D σ H):zU (tD X F G e) (Jt (tD X F G (.v i)) (tD X F G k) IT) D σ H:=by
 refine jM (k:=λs=>BT.yK (aN F G k s) s i) (λs h=>by simp only[aR]) q λm s h y K v P R S r e1 u=>?_;cases y with
 |p d =>
  rw[BT.Gb]at e1;cases g:s[i]? with
  |none=>rw[g]at e1;exact cX e1
  |some o =>
   cases o with
   |none=>rw[g]at e1;exact cX e1
   |some w =>
    cases w with
    |r n =>
     rw[g]at e1;simp only at e1;obtain⟨q,z,e2,Z⟩:=c6 e1;refine⟨m,s,h,.r n,h,R,S,by simp only[aN,g],λo N m2 J R2 x=>⟨m2,s,h,q,z,R2,S.ext J,e2,λE t U B l L=>?_⟩⟩;cases q with
     |p dk =>
      rw[BT.Cw]at Z;obtain⟨V,C,A⟩:=Option.bind_eq_some_iff.mp Z;obtain⟨ky,j,Y⟩:=Option.bind_eq_some_iff.mp A;split at Y
      case isFalse=>exact cX Y
      rename_i c;cases Y;have O:=x.ext B;cases O with
      |@r a _ hn =>
       cases L with
       |p L =>
        obtain⟨b,W,f⟩:=l.pR n a V hn C;have:=fF;have I:=f.length;refine⟨a,b,ky,rfl,pU L j,W,by lia,?_⟩;have M:Ext U t U (upd t a (.dK (putK b ky v))):=jh (UJ hn) ⟨_,W,rfl⟩;cases r with
        |p r=>exact u σ _ U ((J.trans B).trans M) (l.setC hn ⟨_,W,rfl⟩ ⟨_,dG,(f.put ky (Kz L j) ((r.ext J).ext B)).ext M⟩) (((S.ext J).ext B).ext M)
     |_=>exact cX Z
    |_=>rw[g]at e1;exact cX e1
 |_=>exact cX e1
end
noncomputable def cxT(X:Cx)(zt:List (az×ao))(xe':aA->UA->Prop):Cx:={X with pn:=X.pn++zt,xe:=xe'}
def OV{X:Cx}{zt:List (az×ao)}{σ:L2.St}{H:Hp}{s:UA}(I:Inv X zt σ H s):Inv (cxT X zt xe') [] σ H s :=
 ⟨⟨I.ok.mod,I.ok.kind,I.ok.glob,I.ok.blt,I.ok.above,I.ok.inj,I.ok.has,I.ok.cab,I.ok.hd,I.ok.frames,I.ok.stk,I.ok.exf,I.ok.bs,I.ok.bsz,I.ok.noex,I.ok.exfs,I.ok.kR,I.ok.frf⟩,
  I.os,I.bare,I.base,I.loc,I.cell,I.free,I.freeC,λp q=>I.pin p (by simpa [cxT] using q),I.aJ,I.len⟩
def OW{X:Cx}{zt q:List (az×ao)}{σ:L2.St}{H:Hp}{s:UA}(ok:X.Ok)(I:Inv (cxT X zt xe') q σ H s):Inv X zt σ H s :=
 ⟨ok,I.os,I.bare,I.base,I.loc,I.cell,I.free,I.freeC,λp B=>I.pin p (Vl _ B),I.aJ,I.len⟩
def SA{X:Cx}{F:FT}{G:ay->Option aM}{sc:Vf}{N:List ay}{zt:List (az×ao)}(O:Ok X F G sc N)(own:ZX (UT X.prog X.w) X.A X.env xe'):Ok (cxT X zt xe') F G sc N :=
 ⟨O.hsc,O.hN,O.nd,O.calm,O.hu,own,O.glob,O.call,O.aF,O.mkc,O.blt,O.lam,λB x q=>let L:=O.lamx B x q;⟨L.mem,L.ex,L.ql,L.bm⟩⟩
def G9{X:Cx}{F:FT}{G:ay->Option aM}{sc:Vf}{N:List ay}(O:Ok X F G sc N){e:aP}{v:Uy}{p q:Pos}{Z:YZ}{W:List YZ}(f:∀Y:Cx,Ok Y F G sc N->PE Y v (tD Y F G e)):
 PS X (.Try [.Return (aa v) p] (Z::W) [] [] q) (tDS X F G (.ret e)):=by
 intro zt s V H D I q;obtain⟨m,c,h,a,R,S,e1,U⟩:=q;refine wpAny_Try_except ?_;have j:=SA (zt:=zt) O (PassesOwn.looking (K:=λe L=>av (UT X.prog X.w) X.A (setFlight e af) (λ_ B=>av (UT X.prog X.w) X.A (handleBy e X.env (Z::W)) (SP X zt D) X.xe B) X.xe L) (E₁:=X.xe));have i:PS _ (.Return (aa v) p) (tDS (cxT X zt _) F G (.ret e)):=PS.weak (wH (f _ j)) λD V H q =>
  jM (k:=λs=>BT.qR) (λs h=>by simp only[aR]) q λm s h y a v l R S r e1 U=>by simp only[BT.qR]at e1;cases e1;exact U v l m (.refl _ _) R r
 refine thn (sJ i [] s V H {nx:=λ_ _=>False,rt:=D.rt} (OV I) ⟨m,c,h,a,R,S,e1,?_⟩) λg o q=>?_
 ·simp only[aR]at e1;obtain⟨y,t,e2,b⟩:=c6 e1;simp only[BT.qR]at b;cases b;exact U
 ·cases g with
  |ret u =>
   obtain⟨v,M,n,J,d,z⟩:=q;exact⟨v,M,n,OW I.ok J,d,z⟩
  |_=>obtain⟨_,_,_,z⟩:=q;exact z.elim
section
variable{F:FT}{G:ay->Option aM}
def Hf{sr:bH}{b:aY->aL->Option BT.Fl}{tg:List (Nat×ay)}{s:aY}{ws:List aM}{ds:List aO}{h:aL}(e:(if BT.iS ws=ah then BT.d9 b tg ds s h else BT.CD b tg sr s ws ds h)=aa fl)(g:(aQ ws h).bind (BT.gO sr)=aa ds):
 vH sr ws/\∃O,(∀s h r,O s h=aa r->b s h=aa r/\(∀s' h',r=.nx s' h'->nh sr ws ds h')/\∀s' h',r=.ct s' h'->nh sr ws ds h')/\nh sr ws ds h/\BT.d9 O tg ds s h=aa fl:=by
 by_cases B:BT.iS ws=ah
 ·rw[bJ B]at e;exact⟨.inl B,_,λs h r q=>⟨q,λ_ _ _=>qb B,λ_ _ _=>qb B⟩,qb B,e⟩
 ·rw[bK B]at e;have two:∃q,(sr=.seq\/sr=.enu)/\ws=[.r q]/\BT.d9 (BT.Gd sr q ds b) tg ds s h=aa fl:=by unfold BT.CD at e;split at e;exact⟨_,.inl rfl,rfl,e⟩;exact⟨_,.inr rfl,rfl,e⟩;exact cX e
  obtain⟨q,sq,rfl,V⟩:=two;have U:BT.kX sr q h=aa ds:=by
   unfold BT.kX;simp only[aQ,aZ,Wi]at g;cases M:bf h q with
   |none=>rw[M]at g;exact cX g|some W=>rw[M]at g;exact g
  refine⟨.inr ⟨sq,q,rfl⟩,_,λs h r z=>?_,λJ D=>by cases D;exact U,V⟩;unfold BT.Gd at z;cases L:b s h with
  |none=>rw[L]at z;exact cX z
  |some f =>
   rw[L]at z;cases f with
   |nx s' h' =>
    simp only at z;split at z
    ·rename_i c;cases z;exact⟨rfl,λ_ _ y J D=>by cases y;cases D;exact c,(λ_ _ y=>nomatch y)⟩
    exact cX z
   |ct s' h' =>
    simp only at z;split at z
    ·rename_i c;cases z;exact⟨rfl,(λ_ _ y=>nomatch y),λ_ _ y J D=>by cases y;cases D;exact c⟩
    exact cX z
   |_=>cases z;exact⟨rfl,(λ_ _ y=>nomatch y),(λ_ _ y=>nomatch y)⟩
def Ln{X:Cx}{tg:List (Nat×ay)}{sr:bH}{sa:aV}{b:BT.S}{g:TG}(hg:GOk X tg g)(D:Ends)(σ:L2.St)(H:Hp)(q:tDS X F G (.for tg sr sa b) D σ H):Nj (iD X F G sr sa) g (tDS X F G b) D σ H:=by
 obtain⟨m,s,h,r,R,S,e,I⟩:=q;simp only[aR]at e;obtain⟨ws,j,e1,e2⟩:=c6 e;unfold BT.kFor at e2;cases d:(aQ ws j).bind (BT.gO sr)with
 |none=>rw[d]at e2;exact cX e2
 |some B =>
  rw[d] at e2;simp only at e2;obtain ⟨N,u,hb,c1,e2⟩:=Hf e2 d;refine ⟨m,s,h,ws,j,B,R,S,e1,d,N,λH1 p J o R1 f=>?_⟩;refine ⟨λi n σ H=>i<=B.length/\n=B.length - i/\∃ m s h,Ext p H1 m H/\RH X.K m H h/\RS X.prog X.w X.K m H σ s/\nh sr ws B h/\BT.d9 u tg (B.drop i) s h=aa r/\mC X m H r D,
   ⟨B.length,Vx _,rfl,p,s,j,.refl _ _,R1,S.ext o,c1,by rw[List.drop_zero];exact e2,I.ext o⟩,?_⟩
  rintro i n σ2 H2 ⟨hi,rfl,m2,s2,h2,x2,R2,S2,c2,e3,post2⟩
  by_cases c:i<B.length
  ·refine .inr ⟨f.go m2 H2 h2 i x2 R2 c2 c,_,fun E H' z=>⟨B.length-(i+1),by lia,c,rfl,z⟩,λx A y=>?_⟩;obtain⟨M,T,Q⟩:=f.yld m2 H2 h2 i x A B[i] x2 R2 c2 (UL c) y;rw[Zw c,BT.d9]at e3;cases l:bw tg.length B[i]with
   |none=>rw[l]at e3;exact cX e3
   |some dd =>
    rw[l]at e3;simp only at e3;have R3:=R2.ext M T;refine hg m2 A σ2 s2 x B[i] dd _ (S2.ext M) Q l fun C S4=>?_;cases k:u (BT.sets tg dd s2) h2 with
    |none=>rw[k]at e3;exact cX e3
    |some t =>
     rw[k]at e3;obtain⟨g4,cn,cc⟩:=hb _ _ _ k;refine⟨m2,_,h2,t,R3,S4,g4,?_⟩;cases t with
     |nx a W=>exact fun O Z U L V Y=>⟨U,a,W,(x2.trans M).trans L,V,Y,cn _ _ rfl,e3,(post2.ext M).ext L⟩
     |ct a W=>exact fun O Z U L V Y=>⟨U,a,W,(x2.trans M).trans L,V,Y,cc _ _ rfl,e3,(post2.ext M).ext L⟩
     |bk a W=>cases e3;exact fun O Z U L V Y=>post2 O Z U (M.trans L) V Y
     |rt z W=>cases e3;exact λv Z U L V P=>post2 v Z U (M.trans L) V P
  ·have ei:i=B.length:=by lia
   subst ei;refine .inl ⟨f.stop m2 H2 h2 x2 R2 c2,?_⟩;rw[List.drop_length,BT.d9]at e3;cases e3;exact post2 σ2 H2 m2 (.refl _ _) R2 S2
def OX{X:Cx}{sc:Vf}{N:List ay}(O:Ok X F G sc N){x:ay}{B pos p:Pos}{q:Uy}{D:List Comprehension}{scope:Vf}(h:swB sc scope x B pos=ah):Xn (.ListComp q D scope pos) (aa (.Name x B)) p.line X.env=pure ah:=by have e:Xn (.ListComp q D scope pos) (aa (.Name x B)) p.line X.env=pure (swB X.env.scope scope x B pos):=rfl;rw[e,O.hsc,h]
def Hg{sc:Vf}{x:ay}(c:(sc.names.lookup x==aa .cell)=ah):n9 sc x=ah:=by unfold n9;rw[bQ c]
def DV{sc q:Vf}{x:ay}{B pos:Pos}(h:swB sc q x B pos=ah):sc.names.lookup x=aa .local:=by unfold swB at h;simp only[Uz]at h;exact bQ h.1.1.2
def OY{X:Cx}{sc:Vf}{N:List ay}(O:Ok X F G sc N){x:ay}{B pos p:Pos}{q:Uy}{D:List Comprehension}{scope:Vf}(c:(sc.names.lookup x==aa .cell)=ah):Xn (.ListComp q D scope pos) (aa (.Name x B)) p.line X.env=pure ai:=by
 have e:Xn (.ListComp q D scope pos) (aa (.Name x B)) p.line X.env=pure (swB X.env.scope scope x B pos):=rfl;have z:swB sc scope x B pos=ai:=by
  cases h:swB sc scope x B pos with
  |false=>rfl
  |true =>
   have:=DV h;rw[bQ c]at this;cases this
 rw[e,O.hsc,z]
def sCL{X:Cx}{sc:Vf}{N:List ay}(O:Ok X F G sc N)(a:∀x,X.fn x=ah){o:aP}{m:ay}{as:aV}{L:Nat}{fv:List (Nat×ay)}{call:Uy}(h:CL sc N o m as L fv call):PE X call (tD X F G (.methL o m as L fv))/\jX call=ah:=by
 cases h with
 |zero M D hn U q B V Y W J=>exact⟨vO O a M D hn U q B V Y W (sE J O) rfl (by simp) OT,rfl⟩|one M D hn U q B V Y W J Z b=>exact⟨vO O a M D hn U q B V Y W (sE J O) (by simp only[dg,Z];rfl) (by simp) (OU Z (sE b O)),rfl⟩
def DW{X:Cx}:PSs X [] (tDS X F G .nil):=PSs.weak Fc λD B H q=>by obtain⟨m,s,h,L,R,S,e,J⟩:=q;simp only[aR]at e;cases e;exact J B H m (.refl _ _) R S
def sS{X:Cx}{sc:Vf}{N:List ay}(O:Ok X F G sc N)(b:∀x,X.fn x=ah){s:BT.S}(hh:CS sc N s st):PS X st (tDS X F G s) :=
 CS.rec (motive_1:=λs st _=>PS X st (tDS X F G s)) (motive_2:=λs sts _=>PSs X sts (tDS X F G s))
  (@λi x m o as L fv call np p M a w=>PS.weak (wJ (i:=i) O.nd (by rw[O.hN];exact M) (ni O a) (sCL O b w).1 (mD (sCL O b w).2) (.inl (b x))) λD U H q =>
   jM (k:=λs=>BT.xA s i) (λs h=>by simp only[aR]) q λm s h y Z v V R S r e1 J=>by simp only[BT.xA] at e1;cases e1;exact J _ V m (.refl _ _) R (S.set r))
  (λw=>PS.weak (wH (sCL O b w).1) λD U H q =>
   jM (k:=λs=>BT.qR) (λs h=>by simp only[aR]) q λm s h y Z v V R S r e1 J=>by simp only[BT.qR] at e1;cases e1;exact J v V m (.refl _ _) R r)
  (@λi x mu sr sa E fv cond T te iter elt' ifs f pos np p j M W z l hz hs hi A B=>by
   have K:∀(D:Ends)(U:L2.St)(H:Hp),tDS X F G (.set i (.comp mu sr sa E fv cond T)) D U H->zU (tD X F G (.comp mu sr sa E fv cond T)) (yp i) D U H:=λD U H q =>
    jM (k:=λs=>BT.xA s i) (λs h=>rfl) q λm s h y Z v V R S r e1 J=>by simp only[BT.xA]at e1;cases e1;exact J _ V m (.refl _ _) R (S.set r)
   by_cases c:(sc.names.lookup x==aa .cell)=ah
   exact PS.weak (wJ (i:=i) O.nd (by rw[O.hN];exact M) (ni O (Hg c)) (sE (CQ.comp j z l hz hs hi A B) O) (OY O c) (.inl (b x))) K
   ·have C:swB sc f x np pos=ah:=by rw[Ws]at W;exact W.resolve_left c
    exact PS.weak (GW O j z l hs (sCI hi O hz) (sCC A) (λX' O'=>sE B O') M (DV C) (OX O C)) K)
  (@λi x e v np p M a W B=>PS.weak (wJ (i:=i) O.nd (by rw[O.hN];exact M) (ni O a) (sE B O) (mD W) (.inl (b x))) λD U H q =>
   jM (k:=λs=>BT.xA s i) (λs h=>by simp only[aR]) q λm s h y Z v V R S r e1 J=>by simp only[BT.xA] at e1;cases e1;exact J _ V m (.refl _ _) R (S.set r))
  (@λE e es k fe args kw tp cp p j l B=>by
   obtain⟨g,u,n⟩:=sCT O (O.calm j) l λq _=>.inl (b q.2);exact PS.weak (wI (sE B O) u rfl rfl) λD U H q=>jM (k:=λs=>BT.Kn s E) (λs h=>by simp only[aR]) q λm s h y Z v V R S r e1 J=>by
    cases r with
    |p r =>
     simp only[BT.Kn]at e1;rename_i d;cases g1:BT.unpack E.length d with
     |none=>rw[g1]at e1;exact cX e1
     |some ds =>
      rw[g1]at e1;cases e1;refine n m V U s _ d ds _ S r ?_ fun σ' S'=>J _ V m (.refl _ _) R S';cases l with
      |aC w _ =>
       unfold bw;rw[bK (by have:=aaf w;lia)];exact g1
    | _=>exact cX e1)
  (λM a W C h5 z B=>PS.weak (wI (sE B O) (Bq (tZ O M a W) (sE z O) set_list (qk h5)) (zk C) rfl) Lm)
  (λM a W C h5 z B=>PS.weak (wI (sE B O) (Bq (tZ O M a W) (sE z O) set_dict (qk h5)) (zk C) rfl) G8)
  (λM a W B=>PS.weak (Ju O.nd (by rw[O.hN];exact M) (ni O a) (sE B O) (yZ W) (.inl (b _))) Ll)
  (λM a ho B=>PS.weak (JE (sE ho O) (sE B O) (mD a)) (G6 M))
  (λM W ho B=>PS.weak (z8 (sE ho O) (sE B O) (yZ W)) (G7 M))
  (λh B=>PS.weak (Fd (sE B O) (mD h)) λD U H q =>
   jM (k:=λs=>BT.kEx s) (λs h=>by simp only[aR]) q λm s h y Z v V R S r e1 J=>by simp only[BT.kEx] at e1;cases e1;exact J U V m (.refl _ _) R S)
  (λB=>PS.weak (wH (sE B O)) λD U H q =>
   jM (k:=λs=>BT.qR) (λs h=>by simp only[aR]) q λm s h y Z v V R S r e1 J=>by simp only[BT.qR] at e1;cases e1;exact J v V m (.refl _ _) R r)
  (λh A ha hb ia Q=>PS.weak (Na (sT A O h).1 ia Q) λD U H q=>by
   obtain⟨m,s,h,Z,R,S,e,J⟩:=q;simp only[aR]at e;obtain⟨t,g,e1,e2⟩:=zj e;refine⟨m,s,h,t,g,R,S,e1,λV m1 x1 R1=>?_⟩;simp only[BT.kIf]at e2;cases t with
   |true=>exact⟨m1,s,g,Z,R1,S.ext x1,e2,J.ext x1⟩
   | false=>exact ⟨m1,s,g,Z,R1,S.ext x1,e2,J.ext x1⟩)
  (λh A hb Q=>PS.weak (Bs O.own (sT A O h).1 Q) Lk)
  (λj l hi hz hs hb Q=>by obtain⟨g,u,n⟩:=sCT O (O.calm j) l (λq _=>.inl (b q.2));exact PS.weak (Jw O.own (O.calm j) (sCI hi O hz) u Q (zd hs)) (Ln n))
  (λzt s U H D I q=>by obtain⟨m,s,h,Z,R,S,e,J⟩:=q;simp only[aR]at e;exact cX e)
  (λzt s U H D I q=>by obtain⟨m,s,h,Z,R,S,e,J⟩:=q;simp only[aR]at e;exact cX e)
  (λzt s U H D I q=>by obtain⟨m,s,h,Z,R,S,e,J⟩:=q;simp only[aR]at e;exact cX e)
  (λB=>G9 O λY O2=>sE B O2)
  DW
  (λ_ P=>PSs.weak P DT)
  (λ_ P=>sJ P)
  (λ_ _ P ir=>PSs.weak (uQ P ir) DS)
  hh
def sSs{X:Cx}{sc:Vf}{N:List ay}(O:Ok X F G sc N)(q:∀x,X.fn x=ah){s:BT.S}{sts:List Vr}(J:CSs sc N s sts):PSs X sts (tDS X F G s):=by refine CSs.rec (motive_1:=λ_ _ _=>True) (motive_2:=λs sts _=>PSs X sts (tDS X F G s)) ?_ ?_ ?_ ?_ ?_ ?_ ?_ ?_ ?_ ?_ ?_ ?_ ?_ ?_ ?_ ?_ ?_ ?_ ?_ DW (λ_ D=>PSs.weak D DT) (λh _=>sJ (sS O q h)) (λh _ _ B=>PSs.weak (uQ (sS O q h) B) DS) J<;>(intros;trivial)
end
def vQ{P:UM}{w:U6}{m:List az}{H:Hp}{N:List ay}{vs:List V}{ws:List aM}(r:RWs P w K m H vs ws):RS P w K m H (L2.start N vs) (BT.iJ N.length ws):=by
 have B:=r.length;refine⟨by simp[L2.start,BT.iJ,B],λi y e=>?_⟩;simp only[BT.iJ]at e
 by_cases c:i<ws.length
 ·rw[UD (by simpa using c),U1]at e;obtain⟨z,e1,e2⟩:=dz e;cases e2;have:∀{vs:List V}{ws:List aM}{i:Nat},RWs P w K m H vs ws->ws[i]?=aa y->∃v,vs[i]?=aa v/\RW P w K m H v y:=by
   intro vs ws i r
   induction r generalizing i with
   |nil=>intro e;simp at e
   |cons r t q =>
    intro e;cases i with
    |zero=>simp at e;subst e;exact⟨_,rfl,r⟩|succ i=>simpa using q (by simpa using e)
  obtain⟨v,J,D⟩:=this r e1;refine⟨v,?_,D⟩;unfold L2.start;rw[UD (by simp;lia),U1,J];rfl
 ·rw[U4 (by simpa using c),WT]at e;split at e<;>cases e
def Lo{P:UM}{w:U6}{mg:ay->Option aA}{base:aq}{k L:Nat}{F:FT}{G:ay->Option aM}{bt:aP}{ns:List ay}{g:List aM->aL->Option (aM×aL)}(hT:BT.qS L=aa ⟨ns,ns,.ret bt⟩)
(hg:∀ws h r,g ws h=aa r->ws.length=ns.length/\BT.mZ (aR F G (.ret bt) (BT.iJ ns.length ws) h) (BT.fin h)=aa r)
(hO:∀(q:ay)(sc:Vf)(cl:List (ay×az)) (f c':az) (A:VE) (outer:List Env) (s:UA) (H:Hp),ns.Nodup->fG k (A.deeper (Xg q sc s.heap.objs.size f (.ref c') cl))->Ok (Du P w K mg base ns q sc cl f c' A outer s H) F G sc ns):vC P w K mg base (k+1) L g:=by
 intro A outer s H f us X D m ws cs h z h' Q E hr i rv R rw nc la rc e zr;obtain⟨bt',Y,fs,pa,be,sc,cl,pm,ctv,c',oc,os,t,q,l0,l1,l2,l3,l4,l5,l6,l7,l8,l9,M⟩:=la;rw[hT]at l0;cases l0;have Z:=OH l2;obtain⟨p,e1⟩:=hg _ _ _ e;have C:=M.cells l5;have Mn:=rv.length;have Mp:=rw.length;have Ih:=M.len;have Mq:D.length=cs.length:=by
  clear e e1 p M Ih
  induction rc with
  |nil=>rfl|cons _ _ ih=>simp[ih]
 have hu:us.length=Y.length:=by simp only[UR,UI]at p;lia
 refine PySem.W.kla_callFunE hr.depth (i.aJ _ _ l6.1).1 rfl Z.co Z.ge rfl ⟨c',oc,os,t,rfl,(i.aJ _ _ l7.1).1,l8,l9⟩ ?_;rw[GH l1 hu];refine au (wpAny_newFunctionEnv Z.cell (λy hy=>Z.loc y.1 (XS hy).1) (λh1 hns hsb=>?_) Z.kd);have S:∀b o,s.heap.get? b=aa o->h1.get? b=aa o:=λb o e=>hsb.extBut b o (U0 (UF e)) (Ux _ e);refine⟨i.mod.nolimit.keeps λb o e=>S b o (i.bs b o e).1,?_⟩;show ak _ _ (.expr be (Xg q sc s.heap.objs.size f (.ref c') cl)) _ _;refine PySem.W.kla_codeExpr ?_;have I:=GI (q:=q) (f:=f) (c':=c') (tk:=s.toks+(Y.zip us).length) l1 Z l4 l5 M hr.hd i rv hu hns S;have hr1:fG k (A.deeper (Xg q sc s.heap.objs.size f (.ref c') cl)):=hr.deeper _;have O:=hO q sc cl f c' A outer s H Z.nd hr1;simp only[aR]at e1;cases g1:aN F G bt (BT.iJ (Y++fs).length (ws++cs.map bC.w)) h with
 |none=>rw[g1]at e1;exact cX e1
 |some yg =>
  obtain⟨y,gh⟩:=yg;rw[g1]at e1;have e2:BT.fin h y gh=aa (z,h'):=e1;have hs:RS P w K m (hid cl H) (X.map aa++D.map aa) (BT.iJ (Y++fs).length (ws++cs.map bC.w)):=by
   have r0:=vQ (N:=Y++fs) ((rw.tr C.sq nc).app (RCs.ws (P:=P) (w:=w) (rc.tr C.sq)));have e3:L2.start (Y++fs) (X++D)=X.map aa++D.map aa:=by unfold L2.start;simp only[UR];rw[show Y.length+fs.length-(X.length+D.length)=0 by lia];simp
   rw[e3]at r0;exact r0
  refine V4 (sE l3 O [] _ _ _ (λv J=>∃j,Ext m (hid cl H) j J/\RH K j J gh/\RW P w K j J v y) I ⟨m,_,h,y,gh,C.rh R,hs,g1,λv J j x' R' r'=>⟨j,x',R',r'⟩⟩) (λu s' ⟨v,J,I',rv',j,x',R',r'⟩=>?_) (λe s' U=>Vo U);have N':∀x c,cl.lookup x=aa c->J c=af:=λx c e=>I'.freeC x c e;have le:Le J (ret cl H J):=KW N';obtain⟨m2,x2,R2,r2⟩:=kK e2 (C.rh R) x' R' r';have B:Un (frs outer) [] (hid cl H) J s.heap s'.heap:=I'.base;have nc':∀b,H b=af->¬ ∃y,cl.lookup y=aa b:=λb n ⟨y,V⟩=>by obtain⟨o,uu,a,_⟩:=C y b V;rw[n]at a;exact cX a
  refine⟨v,ret cl H J,I'.os,I'.bare,⟨λb o e n T U=>B.keep b o e (iM n) T U,λb o e n T U=>B.slot b o e (iM n) T U,λb o e n U=>?_,λb o e U=>B.there b o e U,λb xs e=>?_,λb o uu e=>?_,λb qs e=>?_⟩,λb uu e=>?_,rv',zr v _ m2 (C.KY N' x2 R2) (R2.le le) (r2.le le)⟩;rw[ig (nc' b n)];exact B.free b o e (iM n) U;rw[ig (C.out e rfl)];exact B.tups b xs (C.hid e rfl)
  ·by_cases l:∃y,cl.lookup y=aa b
   obtain⟨y,V⟩:=l;rw[pZ V];exact e;rw[ig l];exact B.frzs b o uu (by rw[fN l];exact e)
  rw[ig (C.out e rfl)];exact B.tbls b qs (C.hid e rfl)
  ·by_cases l:∃y,cl.lookup y=aa b
   ·obtain⟨y,V⟩:=l;rw[pZ V]at e;obtain⟨o,u2,a,k2⟩:=C y b V;rw[a]at e;cases e;have k3:=B.keep b o (i.aJ _ _ a).1 (xG V) (λT=>by rw[i.frf b T]at a;exact cX a) (by simp);exact⟨k3,_,k3⟩
   ·rw[ig l]at e;exact(I'.aJ b uu e).stay (λ_ _ _ q=>q) (λd q=>le _ _ q) λd xs q=>le _ _ q
def nO(K:Uv)(q:ay)(fd:V8)(fn:bz):Prop:=∀y,fn.ns.contains (bE y)=ah->q=y/\y∈BT.gF ∧
 (∃c P,Vs K y=aa (c,P)/\fd.code=.ref c/\Xv K c P=ah/\∀z∈BT.gF,∀D,Vs K z=aa (D,P)->z=y) ∧
 ∃B ob,Vd K UP "__builtins__"=aa (aa (.ref B))/\B≠Wn/\K.lookup B=aa ob/\ob.cls=.type "module"/\ob.dict=aa Wn/\ob.data=.plain
inductive OZ(K:Uv)(mg:ay->Option aA)(x:ay)(fn:bz):Prop
 |mk(f:az)(fd:V8)(st:Vr)(h1:mg x=aa (.ref f))(h2:Fun K x x st f fd)(B:gf fn.ns fn.ps (dh st))(D:Binds K fd fn.ps [])(q:CSs (dh st) fn.ns fn.body (dQ st))(J:nO K x fd fn):OZ K mg x fn
structure Def(K:Uv)(mg:ay->Option aA)(x:ay)(fn:bz):Prop where
 ex:OZ K mg x fn
inductive IW(K:Uv)(mg:ay->Option aA)(c m:ay)(fn:bz):Prop
 |mk(C f:az)(fd:V8)(x qual:ay)(st:Vr)(h1:nM K c C)(h2:mg c=aa (.ref C))(L:z7 K C m f)(J:(m="__init__"->Mk K C f))(D:Fun K x qual st f fd)(q:gf fn.ns fn.ps (dh st))(O:Binds K fd fn.ps [])(M:CSs (dh st) fn.ns fn.body (dQ st))(B:nO K qual fd fn):IW K mg c m fn
structure DX(K:Uv)(mg:ay->Option aA)(c m:ay)(fn:bz):Prop where
 ex:IW K mg c m fn
structure Txt(P:UM)(w:U6)(K:Uv)(mg:ay->Option aA)(T:BT.FK->Option bz)(G:ay->Option aM):Prop where
 defs:∀x fn,T (.f x)=aa fn->Def K mg x fn
 meths:∀c m fn,T (.m c m)=aa fn->DX K mg c m fn
 lams:∀L fn,T (.l L)=aa fn->BT.qS L=aa fn/\∃ns bt,fn=⟨ns,ns,.ret bt⟩/\∀y,ns.contains (bE y)=ai
 glob:∀x z,G x=aa z->∃u v,mg x=aa u/\RelV v u/\∀m H,RW P w K m H v z
 blt:∀x∈OE,mg x=af
def zm{T:BT.FK->Option bz}{G:ay->Option aM}{k:Nat}{x:BT.FK}{ws:List aM}{h:aL}{r:aM×aL}(e:aW T G k x ws h=aa r):∃fn,T x=aa fn:=by
 cases k with
 |zero=>exact cX e
 |succ k =>
  rw[aW]at e;cases q:T x with
  |none=>rw[q]at e;exact cX e|some fn=>exact⟨fn,rfl⟩
def Hh{P:UM}{w:U6}{mg:ay->Option aA}{base:aq}{x qual:ay}{f:az}{fd:V8}{N ps:List ay}{k:Nat}{sp:Sp}(F:Fun K x qual st f fd)(S:gf N ps (dh st))(len:∀vs H Q E,sp vs H Q E->vs.length=ps.length)
(B:∀ (cdv:aA) (A:VE) (outer:List Env) (s:UA) (H:Hp) (vs:List V) (Q:VK) (E:XK),fd.code=cdv->fG k (A.deeper (ZS qual (dh st) s.heap.objs.size f cdv))->Mod K mg base->sp vs H Q E →
  ∃ t,PSs (wU CX0 P w K mg base N qual (dh st) f cdv A outer s H E).nox (dQ st) t/\t { nx:=λ_ H'=>Q .aD H',rt:=Q } (L2.start N vs) H):jn P w K mg base CX0 (k+1) f fd ps sp:=by
 obtain⟨g,e,kV,O,Y,c,cdv,ct,osl,rfl,Z,M⟩:=F.ex;refine⟨len,λA outer s H D W vs Q E L U b r a=>?_⟩;have d:jn P w K mg base CX0 (k+1) f (VW x qual (f9 st) (dQ st) (dh st) .none kV O Y c cdv ct) ps sp:=Nx Z M S len λA outer s H vs Q E L J=>by obtain⟨t,h,q⟩:=B cdv A outer s H vs Q E rfl L U.mod J;exact⟨t,h.nox,q⟩
 exact d.run A outer s H D W vs Q E L U b r a
def IX{P:UM}{w:U6}{mg:ay->Option aA}{base:aq}{T:BT.FK->Option bz}{G:ay->Option aM}(X:Txt P w K mg T G){k:Nat}
(i:∀(x:BT.FK)(fn:bz),T x=aa fn->∀(f:az)(fd:V8)(nm qual:ay)(st:Vr),Fun K nm qual st f fd->gf fn.ns fn.ps (dh st)->CSs (dh st) fn.ns fn.body (dQ st)->nO K qual fd fn->jn P w K mg base CX0 (2*k) f fd fn.ps (spF P w K (aW T G k x)))
(u:∀L,(∃fn,T (.l L)=aa fn)->vC P w K mg base (2*k) L (aW T G k (.l L)))
{Y:Cx}{sc:Vf}{N:List ay}(e1:Y.prog=P)(e2:Y.w=w)(E:Y.K=K)(z:Y.mg=mg)(y:Y.base=base)(j:Y.env.scope=sc)(v:Y.N=N)(s:Y.N.Nodup)(F:Y.calm=ah)(U:fG (2*k+1) Y.A)(own:ZX (UT Y.prog Y.w) Y.A Y.env Y.xe)
(t:(∀x,Y.fn x=ah)->∀x,N.contains (bE x)=ah->LX Y x):Ok Y (aW T G k) G sc N:=by
 subst e1 e2 E z y;refine⟨j,v,s,λ_=>F,?_,own,X.glob,λg ws h r e=>?_,λc g ws h r e=>?_,λc ws h r e=>?_,X.blt,λL ws h r e=>⟨2*k,U.mono (VJ _),u L (zm e)⟩,t⟩
 ·have:=U.un;lia
 ·obtain⟨q,B⟩:=zm e;obtain⟨M,D,J,H,O,a,Z,W,V⟩:=(X.defs g q B).ex;exact⟨M,D,q.ps,2*k,H,O.kp,Z,U.mono (VJ _),i _ q B M D g g J O a W V⟩
 ·obtain⟨q,B⟩:=zm e;obtain⟨C,M,D,b,d,J,m,p,o,n,O,a,Z,W,V⟩:=(X.meths c g q B).ex;exact⟨C,M,D,q.ps,2*k,m,o,Z,U.mono (VJ _),i _ q B M D b d J O a W V⟩
 ·obtain⟨q,B⟩:=zm e;obtain⟨C,M,D,b,d,J,m,p,o,n,O,a,Z,W,V⟩:=(X.meths c _ q B).ex;exact⟨C,M,D,q.ps,2*k,m,p,n rfl,Z,U,i _ q B M D b d J O a W V⟩
def Hi{P:UM}{w:U6}{mg:ay->Option aA}{base:aq}{T:BT.FK->Option bz}{G:ay->Option aM}(X:Txt P w K mg T G):
 ∀(k:Nat),(∀(x:BT.FK)(fn:bz),T x=aa fn->∀(f:az)(fd:V8)(nm qual:ay)(st:Vr),Fun K nm qual st f fd->gf fn.ns fn.ps (dh st)->CSs (dh st) fn.ns fn.body (dQ st)->nO K qual fd fn->jn P w K mg base CX0 (2*k) f fd fn.ps (spF P w K (aW T G k x))) ∧
  ∀L,(∃fn,T (.l L)=aa fn)->vC P w K mg base (2*k) L (aW T G k (.l L)):=by
 intro k
 induction k with
 |zero =>
  refine⟨λx fn J f fd nm qual st h2 t h5 h6=>?_,λL hL=>?_⟩
  ·have no:∀D H Q E,¬spF P w K (aW T G 0 x) D H Q E:=λD H Q E h=>by obtain⟨m,ws,h,z,u,_,_,e,_⟩:=h;exact cX e
   exact⟨λD H Q E h=>bL h (no D H Q E),λA B s H args us D Q E _ _ _ _ h=>bL h (no D H Q E)⟩
  ·intro A B s H f us D cvs m ws cs h z u Q E U e0 rv R rw nc la rc e M;exact cX e
 |succ k j =>
  obtain⟨ih,il⟩:=j;refine⟨λx fn J f fd nm qual st h2 t h5 h6=>?_,λL hL=>?_⟩
  ·show jn P w K mg base CX0 (2*k+1+1) f fd fn.ps (spF P w K (aW T G (k+1) x));refine Hh h2 t (λD H Q E h=>?_) λI A B s H D Q E o U V h=>?_
   ·obtain⟨m,ws,h,z,u,R,r,e,M⟩:=h;rw[aW,J]at e;simp only at e;split at e;rename_i c;rw[r.length];exact c;exact cX e
   ·obtain⟨m,ws,h,z,u,R,r,e,M⟩:=h;rw[aW,J]at e;simp only at e;split at e
    ·have O:Ok (wU CX0 P w K mg base fn.ns qual (dh st) f I A B s H E).nox (aW T G k) G (dh st) fn.ns:=by refine IX X ih il rfl rfl rfl rfl rfl rfl rfl t.nd rfl U Yt λ_ y n=>?_;obtain⟨t1,t2,⟨c,Pt,t3,t4,t5,t6⟩,bm,ob,t7,t8,t9,i,d,b⟩:=h6 y n;exact⟨t2,⟨c,Pt,t3,o.symm.trans t4,ZW V.kin t5,t6⟩,by show qual++".<locals>."=_;rw[t1],bm,ob,Wk V.kin V.glob t7,t8,V.kin _ _ t9,i,d,b⟩
     refine⟨_,sSs O (λ_=>rfl) h5,?_⟩;cases C:aR (aW T G k) G fn.body (BT.iJ fn.ns.length ws) h with
     |none=>rw[C]at e;exact cX e
     |some fl =>
      rw[C]at e;refine⟨m,_,h,fl,R,vQ r,C,?_⟩;cases fl with
      |rt y g =>
       intro v S m' a N r';obtain⟨m2,Z,Y,W⟩:=kK e R a N r';exact M v S m2 Z Y W
      |nx s' g =>
       intro σ' S m' a N _;obtain⟨m2,Z,Y,W⟩:=kK (v:=.aD) e R a N (.p .aD);exact M .aD S m2 Z Y W
      |_=>exact cX e
    exact cX e
  ·obtain⟨fn,J⟩:=hL;obtain⟨hl,ns,bt,rfl,nt⟩:=X.lams L fn J;show vC P w K mg base (2*k+1+1) L (aW T G (k+1) (.l L));refine Lo (F:=aW T G k) (G:=G) hl (λws h r e=>?_) λq sc cl f c' A B s H nd U=>IX X ih il rfl rfl rfl rfl rfl rfl rfl nd rfl U Yt λ_ y n=>bL n (by rw[nt y];decide);rw[aW,J]at e;simp only at e;split at e;rename_i c;exact⟨c,e⟩;exact cX e
def Lp{P:UM}{w:U6}{mg:ay->Option aA}{base:aq}{T:BT.FK->Option bz}{G:ay->Option aM}(X:Txt P w K mg T G)(k:Nat)(x:BT.FK)(fn:bz)(q:T x=aa fn)(f:az)(fd:V8)(nm qual:ay)(st:Vr)(h2:Fun K nm qual st f fd)(J:gf fn.ns fn.ps (dh st))(D:CSs (dh st) fn.ns fn.body (dQ st))(B:nO K qual fd fn):
 jn P w K mg base CX0 (2*k) f fd fn.ps (spF P w K (aW T G k x)):=(Hi X k).1 x fn q f fd nm qual st h2 J D B
end BS
end
section
namespace BT
open PySem
def fJ:Fn:=⟨["part"],["part"], (.seq (.v (.z .eq (.y (.aE "INNER_COUNTS") (.y (.v 0) (.j (.int 0)))) (.j (.int 0))) (.ret (.aC .nil)) .nil) (.ret (.n (.v 0) (cW (.j (.int 1))) .nil)))⟩
def mE:Fn:=⟨[],[], (.ret (.aC (cR (.j (.int 0)) (.bin .mul (.aC (cW (.j (.int 0)))) (.bi .len ai (cW (.aE "LETTERS")))) (.bin .mul (.aC (cW (.j (.int 0)))) (.aE "CELL_COUNT")) (.aC .nil) (.j (.int 0)) (.aC .nil))))⟩
def iW:Fn:=⟨["term"],["term","parts","waiting","part"], (.seq (.set 1 (.aB ah .nil)) (.seq (.set 2 (.aB ah (cW (.v 0)))) (.seq (.j (.z .gt (.bi .len ai (cW (.v 2))) (.j (.int 0))) (.seq (.set 3 (.me .pop (.v 2) .nil)) (.seq (.ex (.me .append (.v 1) (cW (.v 3)))) (.ex (.me .extend (.v 2) (cW (.call "inner_sums" (cW (.v 3))))))))) (.ret (.v 1)))))⟩
def kM:Fn:=⟨["word","one","other"],["word","one","other"], (.seq (.v (.z .eq (.v 0) (.j (.str "less"))) (.ret (.ite (.z .lt (.v 1) (.v 2)) (.j (.int 1)) (.j (.int 0)))) .nil) (.seq (.v (.z .eq (.v 0) (.j (.str "add"))) (.ret (.bin .mod (.bin .add (.v 1) (.v 2)) (.aE "WORTH_COUNT"))) .nil) (.seq (.v (.z .eq (.v 0) (.j (.str "sub"))) (.ret (.bin .mod (.bin .sub (.v 1) (.v 2)) (.aE "WORTH_COUNT"))) .nil) (.ret (.bin .mod (.bin .mul (.v 1) (.v 2)) (.aE "WORTH_COUNT"))))))⟩
def jB:Fn:=⟨["thing"],["thing"], (.ret (.z .mem (.v 0) (.aE "LETTERS")))⟩
def iX:Fn:=⟨["state","thing"],["state","thing"], (.seq (.v (.call "is_name" (cW (.v 1))) (.ret (.y (.y (.v 0) (.aE "NAMES")) (.me .tindex (.aE "LETTERS") (cW (.v 1))))) .nil) (.seq (.ex (.call "check_thing" (cW (.v 1)))) (.ret (.y (.y (.v 0) (.aE "CELLS")) (.v 1)))))⟩
def fj:Fn:=⟨["part","worths","state"],["part","worths","state","word","last"], (.seq (.set 3 (.y (.v 0) (.j (.int 0)))) (.seq (.v (.z .eq (.v 3) (.j (.str "num"))) (.ret (.y (.v 0) (.j (.int 1)))) .nil) (.seq (.v (.z .eq (.v 3) (.j (.str "name"))) (.ret (.call "worth_in" (cV (.v 2) (.y (.v 0) (.j (.int 1)))))) .nil) (.seq (.set 4 (.me .pop (.v 1) .nil)) (.seq (.v (.z .eq (.v 3) (.j (.str "cell"))) (.ret (.y (.y (.v 2) (.aE "CELLS")) (.bin .mod (.v 4) (.aE "CELL_COUNT")))) .nil) (.ret (.call "of_two" (cU (.v 3) (.me .pop (.v 1) .nil) (.v 4)))))))))⟩
def iY:Fn:=⟨["term","state"],["term","state","worths","part"], (.seq (.set 2 (.aB ah .nil)) (.seq (.for [(3,"part")] .rev (cW (.call "laid_out" (cW (.v 0)))) (.ex (.me .append (.v 2) (cW (.call "worth_of" (cU (.v 3) (.v 2) (.v 1))))))) (.ret (.y (.v 2) (.j (.int 0))))))⟩
def jC:Fn:=⟨["term","state"],["term","state"], (.ret (.bin .mod (.call "reckoned" (cV (.v 0) (.v 1))) (.aE "CELL_COUNT")))⟩
def iO:Fn:=⟨["program","state"],["program","state","word"], (.seq (.v (.z .ge (.y (.v 1) (.aE "ROW")) (.bi .len ai (cW (.v 0)))) (.ret (.j (.bl ah))) .nil) (.seq (.set 2 (.y (.y (.v 0) (.y (.v 1) (.aE "ROW"))) (.j (.int 0)))) (.seq (.v (.z .eq (.v 2) (.j (.str "back"))) (.ret (.z .eq (.bi .len ai (cW (.y (.v 1) (.aE "CALLS")))) (.j (.int 0)))) .nil) (.seq (.v (.z .eq (.v 2) (.j (.str "call"))) (.ret (.z .ge (.bi .len ai (cW (.y (.v 1) (.aE "CALLS")))) (.aE "MOST_CALLS"))) .nil) (.ret (.z .eq (.v 2) (.j (.str "stop"))))))))⟩
def fO:Fn:=⟨["row","state"],["row","state","word"], (.seq (.set 2 (.y (.v 0) (.j (.int 0)))) (.seq (.v (.or (.z .eq (.v 2) (.j (.str "jump"))) (.z .eq (.v 2) (.j (.str "call")))) (.ret (.y (.v 0) (.j (.int 1)))) .nil) (.seq (.v (.z .eq (.v 2) (.j (.str "back"))) (.ret (.y (.y (.v 1) (.aE "CALLS")) (.neg (.j (.int 1))))) .nil) (.seq (.v (.and (.z .eq (.v 2) (.j (.str "unless"))) (.z .eq (.call "reckoned" (cV (.y (.v 0) (.j (.int 1))) (.v 1))) (.j (.int 0)))) (.ret (.y (.v 0) (.j (.int 2)))) .nil) (.ret (.bin .add (.y (.v 1) (.aE "ROW")) (.j (.int 1))))))))⟩
def gG:Fn:=⟨["worths","number","worth"],["worths","number","worth"], (.ret (.bin .add (.bin .add (.n (.v 0) .nil (cW (.v 1))) (.aC (cW (.v 2)))) (.n (.v 0) (cW (.bin .add (.v 1) (.j (.int 1)))) .nil)))⟩
def iw:Fn:=⟨["state","name","worth"],["state","name","worth"], (.ret (.call "with_worth" (cU (.y (.v 0) (.aE "NAMES")) (.me .tindex (.aE "LETTERS") (cW (.v 1))) (.v 2))))⟩
def iP:Fn:=⟨["asked","number"],["asked","number"], (.ret (.ite (.z .lt (.v 1) (.bi .len ai (cW (.v 0)))) (.y (.v 0) (.v 1)) (.j (.int 0))))⟩
def jD:Fn:=⟨["program","asked","state"],["program","asked","state","row","word","behind"], (.seq (.set 3 (.y (.v 0) (.y (.v 2) (.aE "ROW")))) (.seq (.set 4 (.y (.v 3) (.j (.int 0)))) (.seq (.set 5 (.bi .list ah (cW (.v 2)))) (.seq (.put 5 (.aE "ROW") (.call "place_behind" (cV (.v 3) (.v 2)))) (.seq (.v (.z .eq (.v 4) (.j (.str "set"))) (.put 5 (.aE "NAMES") (.call "with_name" (cU (.v 2) (.y (.v 3) (.j (.int 1))) (.call "reckoned" (cV (.y (.v 3) (.j (.int 2))) (.v 2)))))) (.v (.z .eq (.v 4) (.j (.str "put"))) (.put 5 (.aE "CELLS") (.call "with_worth" (cU (.y (.v 2) (.aE "CELLS")) (.call "cell_by" (cV (.y (.v 3) (.j (.int 1))) (.v 2))) (.call "reckoned" (cV (.y (.v 3) (.j (.int 2))) (.v 2)))))) (.v (.z .eq (.v 4) (.j (.str "ask"))) (.seq (.put 5 (.aE "NAMES") (.call "with_name" (cU (.v 2) (.y (.v 3) (.j (.int 1))) (.call "brought" (cV (.v 1) (.y (.v 2) (.aE "ASKED"))))))) (.put 5 (.aE "ASKED") (.bin .add (.y (.v 2) (.aE "ASKED")) (.j (.int 1))))) (.v (.z .eq (.v 4) (.j (.str "say"))) (.put 5 (.aE "SAID") (.bin .add (.y (.v 2) (.aE "SAID")) (.aC (cW (.call "reckoned" (cV (.y (.v 3) (.j (.int 1))) (.v 2))))))) (.v (.z .eq (.v 4) (.j (.str "call"))) (.put 5 (.aE "CALLS") (.bin .add (.y (.v 2) (.aE "CALLS")) (.aC (cW (.bin .add (.y (.v 2) (.aE "ROW")) (.j (.int 1))))))) (.v (.z .eq (.v 4) (.j (.str "back"))) (.put 5 (.aE "CALLS") (.n (.y (.v 2) (.aE "CALLS")) .nil (cW (.neg (.j (.int 1)))))) .nil)))))) (.ret (.bi .tuple ai (cW (.v 5)))))))))⟩
def zo:UN s=UN t↔s=t:=by
 constructor
 ·intro h;rw[Z4,Z4]at h;have J:(s.toList.map ZE)=(t.toList.map ZE):=by have:=bR (λx:ay=>x.cps.toList) h;simpa using this
  have inj:∀(a b:List Char),a.map ZE=b.map ZE->a=b:=by
   intro a
   induction a with
   |nil=>intro b h;cases b with
    |nil=>rfl|cons _ _=>simp at h
   |cons x L B=>intro b h;cases b with
    |nil=>simp at h
    |cons y q =>
     simp only[UQ,WG]at h;have:x=y:=Char.toNat_inj.mp h.1;rw[this,B q h.2]
  have D:=inj _ _ J;exact String.toList_inj.mp D
 intro h;rw[h]
@[simp]theorem QA(s t:String):(UN s==UN t)=(s==t):=by
 by_cases h:s=t
 subst h;simp
 ·have q:¬UN s=UN t:=λe=>h (zo.mp e);rw[beq_eq_false_iff_ne.mpr q,beq_eq_false_iff_ne.mpr h]
@[simp]theorem SB(s t:String):(UN s=UN t)=(s=t):=propext zo
@[simp]theorem Uo(h:List α)(a:α)(r:List α):(h++a::r)[h.length]?=aa a:=by simp
@[simp]theorem O0(h:List α)(a b:α)(r:List α):(h++a::b::r)[h.length+1]?=aa b:=by rw[U4 (by lia)];simp
@[simp]theorem Up(h:List α)(a x:α)(r:List α):(h++a::r).set h.length x=h++x::r:=by simp
@[simp]theorem Uq(h:List α)(a b x:α)(r:List α):(h++a::b::r).set (h.length+1) x=h++a::x::r:=by rw[List.set_append_right _ _ (by lia)];simp
def c7(h:HH)(w:W):fin h w h=aa (w,h):=by simp[fin]
def kY(h g:HH)(d:D):fin h (.p d) (h++g)=aa (.p d,h):=by
 unfold fin;cases g with
 |_=>simp
@[simp]theorem SC(h:HH)(a:Cl)(r:HH):lat (h++a::r) h.length=nY a:=by simp[lat]
@[simp]theorem Ur(h:HH)(a b:Cl)(r:HH):lat (h++a::b::r) (h.length+1)=nY b:=by unfold lat;rw[O0];rfl
@[simp]theorem Us(h:HH)(a:Cl)(r:HH):oat (h++a::r) h.length=o8 a:=by simp[oat]
@[simp]theorem Ut(h:HH)(a b:Cl)(r:HH):oat (h++a::b::r) (h.length+1)=o8 b:=by unfold oat;rw[O0];rfl
def Hj(e:lat h n=aa ys)(c:Cl):lat (h.set n c) n=nY c:=by
 unfold lat at e⊢;cases g:h[n]? with
 |none=>rw[g]at e;exact gy e|some q=>rw[List.getElem?_set_self',g];rfl
def O1(h:HH)(xs:List D)(g:HH):fin h (.r h.length) (h++.l xs::g)=aa (.p (.aB xs),h):=by unfold fin;simp
def zu(h h':HH)(w:W)(e:h'.length=h.length):fin h w h'=aa (w,h'):=by simp[fin,e]
structure Prg(T:FK->Option Fn)(G:ay->Option W):Prop where
 inner_sums:T "inner_sums"=aa fJ
 begun:T "begun"=aa mE
 laid_out:T "laid_out"=aa iW
 of_two:T "of_two"=aa kM
 worth_of:T "worth_of"=aa fj
 is_name:T "is_name"=aa jB
 worth_in:T "worth_in"=aa iX
 reckoned:T "reckoned"=aa iY
 cell_by:T "cell_by"=aa jC
 is_over:T "is_over"=aa iO
 place_behind:T "place_behind"=aa fO
 with_worth:T "with_worth"=aa gG
 with_name:T "with_name"=aa iw
 brought:T "brought"=aa iP
 stepped:T "stepped"=aa jD
 LETTERS:G "LETTERS"=aa (.p (.aC [.str "a",.str "b",.str "c",.str "d",.str "e",.str "f"]))
 CELL_COUNT:G "CELL_COUNT"=aa (.p (.int 4))
 WORTH_COUNT:G "WORTH_COUNT"=aa (.p (.int 10007))
 INNER:G "INNER_COUNTS"=aa (.k (.t [("num",.int 0),("name",.int 0),("cell",.int 1),("add",.int 2),("sub",.int 2),("mul",.int 2),("less",.int 2)]))
 ROW:G "ROW"=aa (.p (.int 0))
 NAMES:G "NAMES"=aa (.p (.int 1))
 CELLS:G "CELLS"=aa (.p (.int 2))
 CALLS:G "CALLS"=aa (.p (.int 3))
 ASKED:G "ASKED"=aa (.p (.int 4))
 SAID:G "SAID"=aa (.p (.int 5))
 MOST_CALLS:G "MOST_CALLS"=aa (.p (.int 6))
inductive Op
 |add|sub|mul|less
noncomputable def Op.w:Op->String
 |.add=>"add" |.sub=>"sub" |.mul=>"mul" |.less=>"less"
inductive Nm
 |a|b|c|d|e|f
noncomputable def Nm.w:Nm->String
 |.a=>"a" |.b=>"b" |.c=>"c" |.d=>"d" |.e=>"e" |.f=>"f"
noncomputable def Nm.ix:Nm->Nat
 |.a=>0|.b=>1|.c=>2|.d=>3|.e=>4|.f=>5
def Nm.zw(x:Nm):x.ix<6:=by cases x<;>decide
inductive Sm
 |num(n:Int)
 |nam(i:Nm)
 |cell(s:Sm)
 |two(o:Op)(s t:Sm)
def Sm.enc:Sm->D
 |.num n=>.aC [.str "num",.int n]|.nam i=>.aC [.str "name",.str i.w]|.cell s=>.aC [.str "cell",s.enc]|.two o s t=>.aC [.str o.w,s.enc,t.enc]
noncomputable def Sm.size:Sm->Nat
 |.num _=>1|.nam _=>1|.cell s=>s.size+1|.two _ s t=>s.size+t.size+1
noncomputable def Sm.lay:Sm->List Sm
 |.num n=>[.num n]|.nam i=>[.nam i]|.cell s=>.cell s::s.lay|.two o s t=>.two o s t::(t.lay++s.lay)
noncomputable def Sm.subs:Sm->List Sm
 |.num _=>[]|.nam _=>[]|.cell s=>[s]|.two _ s t=>[s,t]
def Wth(n:Int):Prop:=0<=n/\n<=10006
noncomputable def Sm.ok:Sm->Prop
 |.num n=>Wth n|.nam _=>True|.cell s=>s.ok|.two _ s t=>s.ok/\t.ok
def Sm.size_pos(s:Sm):1<=s.size:=by cases s<;>simp[Sm.size]
structure St where
 row:Nat
 names:List Int
 cells:List Int
 calls:List Nat
 aG:Nat
 said:List Int
noncomputable def cY(xs:List Int):List D:=xs.map D.int
noncomputable def cZ(xs:List Nat):List D:=xs.map λ(n:Nat)=>D.int (n:Int)
def St.enc(s:St):D:=.aC [.int s.row,.aC (cY s.names),.aC (cY s.cells),.aC (cZ s.calls),.int s.aG,.aC (cY s.said)]
structure St.ok(s:St):Prop where
 nlen:s.names.length=6
 clen:s.cells.length=4
 nw:∀x∈s.names,Wth x
 cw:∀x∈s.cells,Wth x
noncomputable def two(o:Op)(x y:Int):Int:=match o with
 |.add=>(x+y)%10007|.sub=>(x-y)%10007|.mul=>(x*y)%10007
 |.less=>if x<y then 1 else 0
def Sm.val(st:St):Sm->Int
 |.num n=>n|.nam i=>st.names.getD i.ix 0|.cell s=>st.cells.getD (s.val st%4).toNat 0|.two o s t=>BT.two o (s.val st) (t.val st)
def xR{xs:List Int}(h:∀x∈xs,Wth x)(i:Nat):Wth (xs.getD i 0):=by
 rw[Vv];cases e:xs[i]? with
 |none=>exact⟨by decide,by decide⟩|some x=>exact h x (UJ e)
def O3(o:Op):Wth (BT.two o x y):=by cases o<;>simp only[BT.two,Wth];lia;lia;lia;split<;>decide
theorem Sm.mF{st:St}(q:st.ok):∀{s:Sm},s.ok->Wth (s.val st)
 |.num _,h=>h|.nam i,_=>xR q.nw _|.cell _,_=>xR q.cw _|.two _ _ _,_=>O3 _
section
def AW(P:Prg T G)(k:Nat)(s:Sm)(h:HH):runN T G (k+1) "inner_sums" [.p s.enc] h=aa (.p (.aC (s.subs.map Sm.enc)),h):=by
 rw[run_eq P.inner_sums rfl];cases s with
 |two o s t =>
  have g:=P.INNER;have q:fz (UN o.w) [("num",.int 0),("name",.int 0),("cell",.int 1),("add",.int 2),("sub",.int 2),("mul",.int 2),("less",.int 2)]=aa (.int 2):=by cases o<;>simp[Op.w]
  generalize ([("num",.int 0),("name",.int 0),("cell",.int 1),("add",.int 2),("sub",.int 2),("mul",.int 2),("less",.int 2)]:List (ay×D))=I at *;simp[fJ,g,q,Sm.enc,Sm.subs,c7]
 |_=>simp[fJ,P.INNER,Sm.enc,Sm.subs,c7]
def xS(P:Prg T G)(k:Nat)(o:Op)(q:Wth x)(h:HH):
 runN T G (k+1) "of_two" [.p (.str o.w),.p (.int x),.p (.int y)] h=aa (.p (.int (two o x y)),h):=by
 rw[run_eq P.of_two rfl];have b:big x=ah:=by unfold big;exact bO (by have D:=q.1;have B:=q.2;lia)
 cases o<;>simp[kM,P.WORTH_COUNT,c7,Op.w,two,b]
 by_cases c:x<y<;>simp[c,c7]
noncomputable def qV:List D:=[.str "a",.str "b",.str "c",.str "d",.str "e",.str "f"]
def Hl(x:Nm):gA .mem (.str x.w) (.aC qV)=aa ah:=by cases x<;>simp[qV,Nm.w]
def DY(x:Nm):meD .tindex (.aC qV) [.str x.w]=aa (.int (x.ix:Int)):=by rw[Cg];cases x<;>simp[qV,Nm.w,Nm.ix,jQ]
def vR{i:Nat}(h:i<xs.length):dJ (.aC (cY xs)) (.int (i:Int))=aa (.int (xs.getD i 0)):=by show atP _ _=_;unfold atP place cY;rw[bJ (Int.natCast_nonneg _),bJ (by rw[UI];lia)];show(xs.map D.int)[((i:Int)).toNat]?=_;rw[VS,U1,Vv,UL h];rfl
theorem rX(st:St):dJ st.enc (.int 1)=aa (.aC (cY st.names)):=rfl
theorem AX(st:St):dJ st.enc (.int 2)=aa (.aC (cY st.cells)):=rfl
def vS(P:Prg T G)(k:Nat)(x:Nm)(h:HH):runN T G (k+1) "is_name" [.p (.str x.w)] h=aa (.p (.bl ah),h):=by rw[run_eq P.is_name rfl];have g:G "LETTERS"=aa (.p (.aC qV)):=P.LETTERS;have m:=Hl x;generalize qV=L at *;simp[-iG,jB,g,m,c7]
def uq(P:Prg T G)(k:Nat)(st:St)(M:st.ok)(x:Nm)(h:HH):runN T G (k+2) "worth_in" [.p st.enc,.p (.str x.w)] h=aa (.p (.int (st.names.getD x.ix 0)),h):=by rw[run_eq P.worth_in rfl];have r:=vS P k x;have q:=x.zw;have J:=vR (xs:=st.names) (i:=x.ix) (by rw[M.nlen];exact q);have D:=DY x;have B:=rX st;have g:G "LETTERS"=aa (.p (.aC qV)):=P.LETTERS;generalize qV=L at *;generalize st.enc=se at *;generalize cY st.names=sn at *;simp[-gY,iX,r,P.NAMES,g,J,D,B,c7]
def gn(P:Prg T G)(k:Nat)(st:St)(q:st.ok)(n:Nat)(h:HH):
 (∀i,runN T G (k+3) "worth_of" [.p (Sm.num i).enc,.r n,.p st.enc] h=aa (.p (.int i),h)) ∧
 (∀i,runN T G (k+3) "worth_of" [.p (Sm.nam i).enc,.r n,.p st.enc] h=aa (.p (.int (st.names.getD i.ix 0)),h)):=by
 refine⟨λi=>?_,λi=>?_⟩<;>rw[run_eq P.worth_of rfl];simp[fj,Sm.enc,c7]
 ·have r:=uq P k st q i;simp[fj,Sm.enc,c7,r]
def jY(P:Prg T G)(k:Nat)(st:St)(J:st.ok)(n:Nat)(h:HH)(s:Sm)(ws:List D)(v:Int)(e:lat h n=aa (ws++[.int v]))(L:0<=v):
 runN T G (k+1) "worth_of" [.p (Sm.cell s).enc,.r n,.p st.enc] h=aa (.p (.int (st.cells.getD (v%4).toNat 0)),h.set n (.l ws)):=by
 rw[run_eq P.worth_of rfl];have c:(((v%4).toNat:Nat):Int)=v%4:=by lia
 have q:=vR (xs:=st.cells) (i:=(v%4).toNat) (by rw[J.clen];lia);rw[c]at q;have B:=AX st;generalize st.enc=se at *;generalize cY st.cells=sn at *;generalize st.cells.getD (v%4).toNat 0=z at *;simp[fj,Sm.enc,P.CELLS,P.CELL_COUNT,e,q,B,zu]
def Op.other(o:Op):¬o.w="num"/\¬o.w="name"/\¬o.w="cell":=by cases o<;>decide
def kZ(P:Prg T G)(k:Nat)(st:St)(n:Nat)(h:HH)(o:Op)(s t:Sm)(ws:List D)(x y:Int)(L:Wth x)(e:lat h n=aa (ws++[.int x,.int y])):
 runN T G (k+2) "worth_of" [.p (Sm.two o s t).enc,.r n,.p st.enc] h=aa (.p (.int (two o x y)),h.set n (.l ws)):=by
 rw[run_eq P.worth_of rfl];have U:lat (h.set n (.l (ws++[.int x]))) n=aa (ws++[.int x]):=Hj e _;have e1:(ws++[D.int x,D.int y]).getLast?=aa (.int y):=by simp
 have e2:(ws++[D.int x,D.int y]).dropLast=ws++[.int x]:=by simp
 have r:=λM=>xS P k o (x:=x) (y:=y) L M;obtain⟨J,B,q⟩:=o.other;have O:(Sm.two o s t).enc=.aC [.str o.w,s.enc,t.enc]:=rfl;rw[O];generalize o.w=ow at *;generalize s.enc=se at *;generalize t.enc=te at *;simp[fj,e,e1,e2,U,J,B,q,r,zu,Z5]
def loC:E:=.z .gt (.bi .len ai (cW (.v 2))) (.j (.int 0))
def loB:S:=.seq (.set 3 (.me .pop (.v 2) .nil)) (.seq (.ex (.me .append (.v 1) (cW (.v 3)))) (.ex (.me .extend (.v 2) (cW (.call "inner_sums" (cW (.v 3)))))))
def sizes(l:List Sm):Nat:=(l.map Sm.size).sum
def xT(s:Sm)(l:List Sm):sizes (s.subs.reverse++l)+1=sizes (s::l):=by cases s<;>simp[sizes,Sm.subs,Sm.size]<;>lia
def DZ(s:Sm)(l:List Sm):(s::l).flatMap Sm.lay=s::(s.subs.reverse++l).flatMap Sm.lay:=by cases s<;>simp[Sm.lay,Sm.subs,List.flatMap_cons]
def Ho(s:Sm):s.subs.length<=2:=by cases s<;>simp[Sm.subs]
def rY(l:List Sm):l.length<=sizes l:=by
 induction l with
 |nil=>simp[sizes]
 |cons s l q =>
  have B:=s.size_pos;simp only[sizes,UQ,ZH,US]at q⊢;lia
def Hq(P:Prg T G)(k:Nat)(h:HH)(J:W):∀(m:Nat)(B:List Sm)(ps:List D)(x:Option W),sizes B<=m->ps.length+sizes B<=50000 →
 ∃L,iI (ev (runN T G (k+1)) G loC) (evS (runN T G (k+1)) G loB) (m+1) [aa J,aa (.r h.length),aa (.r (h.length+1)),x] (h++[.l ps,.l (B.reverse.map Sm.enc)]) =
  aa (.nx [aa J,aa (.r h.length),aa (.r (h.length+1)),L] (h++[.l (ps++(B.flatMap Sm.lay).map Sm.enc),.l []])):=by
 intro m
 induction m with
 |zero =>
  intro B ps x V _;have:B=[]:=by have:=rY B;exact W7 (by lia)
  subst this;exact⟨x,by simp[iI,loC,rd]⟩
 |succ m U =>
  intro B ps x V b;cases B with
  |nil=>exact⟨x,by simp[iI,loC,rd]⟩
  |cons s l =>
   have e:=xT s l;obtain⟨L,q⟩:=U (s.subs.reverse++l) (ps++[s.enc]) (aa (.p s.enc)) (by lia) (by simp only[UR,Vn];lia);refine⟨L,?_⟩;have r:=AW P k s;have O:l.length+s.subs.length<=100000:=by
    have f:=Ho s;have d:=rY l;have c:sizes (s::l)=s.size+sizes l:=by simp[sizes]
    lia
   have a:(0:Int)<(l.length:Int)+1:=by lia
   have M:ps.length<100000:=by lia
   have Y:ev (runN T G (k+1)) G loC [aa J,aa (.r h.length),aa (.r (h.length+1)),x] (h++[.l ps,.l ((s::l).reverse.map Sm.enc)])=aa (.p (.bl ah),h++[.l ps,.l ((s::l).reverse.map Sm.enc)]):=by simp[loC,rd,a]
   have Z:evS (runN T G (k+1)) G loB [aa J,aa (.r h.length),aa (.r (h.length+1)),x] (h++[.l ps,.l ((s::l).reverse.map Sm.enc)]) =
    aa (.nx [aa J,aa (.r h.length),aa (.r (h.length+1)),aa (.p s.enc)] (h++[.l (ps++[s.enc]),.l ((s.subs.reverse++l).reverse.map Sm.enc)])):=by
    simp[loB,r,O,M]
   rw[iI,Y,pP,xy,Z,iH,q,DZ,UQ,Ve,Vg]
theorem qo:iW=⟨["term"],["term","parts","waiting","part"],.seq (.set 1 (.aB ah .nil))
 (.seq (.set 2 (.aB ah (.cons (.v 0) .nil))) (.seq (.j loC loB) (.ret (.v 1))))⟩:=rfl
def mG(P:Prg T G)(k:Nat)(s:Sm)(D:s.size<=40000)(h:HH):runN T G (k+2) "laid_out" [.p s.enc] h=aa (.p (.aB (s.lay.map Sm.enc)),h):=by rw[run_eq P.laid_out rfl];obtain⟨B,q⟩:=Hq P k h (.p s.enc) 99999 [s] [] af (by simp only[sizes,UQ,V2,ZH,List.sum_nil];lia) (by simp only[sizes,UQ,V2,ZH,List.sum_nil,VV];lia);simp only[List.flatMap_cons,List.flatMap_nil,U8,WR,We,UQ,V2]at q;rw[qo];simp[turns,q,O1]
def rkB:S:=.ex (.me .append (.v 2) (cW (.call "worth_of" (cU (.v 3) (.v 2) (.v 1)))))
def Hr(P:Prg T G)(k:Nat)(h:HH)(q:W)(st:St)(M:st.ok):∀(s:Sm),s.ok->∀(ws:List D)(rest:List D)(x:Option W),ws.length+s.size<=50000 →
 ∃Z,d9 (evS (runN T G (k+3)) G rkB) [(3,"part")] ((s.lay.map Sm.enc).reverse++rest) [aa q,aa (.p st.enc),aa (.r h.length),x] (h++[.l ws]) =
  d9 (evS (runN T G (k+3)) G rkB) [(3,"part")] rest [aa q,aa (.p st.enc),aa (.r h.length),Z] (h++[.l (ws++[.int (s.val st)])]):=by
 intro s
 induction s with
 |num n =>
  intro _ ws rest x B;refine⟨aa (.p (Sm.num n).enc),?_⟩;have r:=(gn P k st M h.length (h++[.l ws])).1 n;have l:ws.length<100000:=by simp only[Sm.size]at B;lia
  have J:evS (runN T G (k+3)) G rkB [aa q,aa (.p st.enc),aa (.r h.length),aa (.p (Sm.num n).enc)] (h++[.l ws]) =
   aa (.nx [aa q,aa (.p st.enc),aa (.r h.length),aa (.p (Sm.num n).enc)] (h++[.l (ws++[.int n])])):=by
   simp[rkB,r,l]
  simp only[Sm.lay,UQ,V2,We,Vg,Sm.val];simp[J]
 |nam i =>
  intro _ ws rest x B;refine⟨aa (.p (Sm.nam i).enc),?_⟩;have r:=(gn P k st M h.length (h++[.l ws])).2 i;have l:ws.length<100000:=by simp only[Sm.size]at B;lia
  have J:evS (runN T G (k+3)) G rkB [aa q,aa (.p st.enc),aa (.r h.length),aa (.p (Sm.nam i).enc)] (h++[.l ws]) =
   aa (.nx [aa q,aa (.p st.enc),aa (.r h.length),aa (.p (Sm.nam i).enc)] (h++[.l (ws++[.int (st.names.getD i.ix 0)])])):=by
   simp[rkB,r,l]
  simp only[Sm.lay,UQ,V2,We,Vg,Sm.val];simp[J]
 |cell s a =>
  intro L ws rest x B;obtain⟨Y,e1⟩:=a L ws ((Sm.cell s).enc::rest) x (by simp only[Sm.size]at B;lia);refine⟨aa (.p (Sm.cell s).enc),?_⟩;have r:=jY P (k+2) st M h.length (h++[.l (ws++[.int (s.val st)])]) s ws (s.val st) (by simp) (Sm.mF (s:=s) M L).1;have l:ws.length<100000:=by simp only[Sm.size]at B;lia
  have J:evS (runN T G (k+3)) G rkB [aa q,aa (.p st.enc),aa (.r h.length),aa (.p (Sm.cell s).enc)] (h++[.l (ws++[.int (s.val st)])]) =
   aa (.nx [aa q,aa (.p st.enc),aa (.r h.length),aa (.p (Sm.cell s).enc)] (h++[.l (ws++[.int ((Sm.cell s).val st)])])):=by
   simp[rkB,r,l,Sm.val]
  simp only[Sm.lay,UQ,Xw,Ve,Vg];rw[e1];simp[J]
 |two o s t U O =>
  intro L ws rest x B;have V:=B;simp only[Sm.size]at V;obtain⟨Y,e1⟩:=U L.1 ws ((t.lay.map Sm.enc).reverse++((Sm.two o s t).enc::rest)) x (by lia);obtain⟨b,e2⟩:=O L.2 (ws++[.int (s.val st)]) ((Sm.two o s t).enc::rest) Y (by simp only[UR,Vn];have:=s.size_pos;lia);refine⟨aa (.p (Sm.two o s t).enc),?_⟩;have r:=kZ P (k+1) st h.length (h++[.l (ws++[.int (s.val st),.int (t.val st)])]) o s t ws (s.val st) (t.val st) (Sm.mF M L.1) (by simp);have l:ws.length<100000:=by lia
  have J:evS (runN T G (k+3)) G rkB [aa q,aa (.p st.enc),aa (.r h.length),aa (.p (Sm.two o s t).enc)] (h++[.l (ws++[.int (s.val st),.int (t.val st)])]) =
   aa (.nx [aa q,aa (.p st.enc),aa (.r h.length),aa (.p (Sm.two o s t).enc)] (h++[.l (ws++[.int ((Sm.two o s t).val st)])])):=by
   simp[rkB,r,l,Sm.val]
  simp only[Sm.lay,UQ,WS,Xw,Yc,Ve,Vg];rw[e1,e2];simp only[Ve,Vg];simp[J]
theorem qp:iY=⟨["term","state"],["term","state","worths","part"],.seq (.set 2 (.aB ah .nil))
 (.seq (.for [(3,"part")] .rev (.cons (.call "laid_out" (.cons (.v 0) .nil)) .nil) rkB) (.ret (.y (.v 2) (.j (.int 0)))))⟩:=rfl
def eU(P:Prg T G)(k:Nat)(s:Sm)(B:s.size<=40000)(J:s.ok)(st:St)(D:st.ok)(h:HH):
 runN T G (k+4) "reckoned" [.p s.enc,.p st.enc] h=aa (.p (.int (s.val st)),h):=by
 rw[run_eq P.reckoned rfl];obtain⟨L,q⟩:=Hr P k h (.p s.enc) st D s J [] [] af (by simp only[VV];lia);rw[qp];simp only[U8,WR]at q;have r:=mG P (k+1) s B;simp[r,iS,q,kY,rd]
end
section
variable{T:FK->Option Fn}{F:FK->List W->HH->Option (W×HH)}{G:ay->Option W}{i:Nat}{e e' c:E}{a b:S}{s s':Sl}{h g:HH}{w:W}{d d' z:D}
def IY(h1:evS F G a s h=aa (.nx s' g)):evS F G (.seq a b) s h=evS F G b s' g:=by simp[h1]
def fT(h1:aN F G e s h=aa (w,g)):evS F G (.seq (.set i e) b) s h=evS F G b (s.set i (aa w)) g:=by simp[h1]
def gT(h1:aN F G c s h=aa (.p (.bl ai),h)):evS F G (.seq (.v c a .nil) b) s h=evS F G b s h:=by simp[h1]
def jZ(h1:aN F G c s h=aa (.p (.bl ah),h))(h2:aN F G e s h=aa (w,g)):evS F G (.seq (.v c (.ret e) .nil) b) s h=aa (.rt w g):=by simp[h1,h2]
def xU(h2:aN F G e s h=aa (w,g)):evS F G (.ret e) s h=aa (.rt w g):=by simp[h2]
def j5(B:T f=aa fn)(q:ws.length=fn.ps.length)(h1:evS (runN T G k) G fn.body (iJ fn.ns.length ws) h=aa (.rt (.p d) h)):runN T G (k+1) f ws h=aa (.p d,h):=by rw[run_eq B q,h1];exact c7 h (.p d)
end
section
def gH(xs:List α)(i:Nat):atP xs (i:Int)=xs[i]?:=by
 unfold atP place
 by_cases h:i<xs.length
 ·have q:((i:Int)<(xs.length:Int)):=by lia
  simp[q,h]
 ·have q:¬((i:Int)<(xs.length:Int)):=by lia
  simp[q];lia
def j6(P:Prg T G)(k:Nat)(xs:List D)(i:Nat)(hi:i<xs.length)(Y:xs.length<=1000)(d:D)(h:HH):
 runN T G (k+1) "with_worth" [.p (.aC xs),.p (.int i),.p d] h=aa (.p (.aC (xs.set i d)),h):=by
 rw[run_eq P.with_worth rfl];have W:¬((i:Int)<0):=by lia
 have V:(i:Int)<=(xs.length:Int):=by lia
 have U:¬((i:Int)+1<0):=by lia
 have O:(i:Int)+1<=(xs.length:Int):=by lia
 have M:((i:Int)+1).toNat=i+1:=by lia
 have b:xs.length-(i+1)+(i+1)<=100000:=by lia
 have L:i+1+(xs.length-(i+1))<=100000:=by lia
 have J:min i xs.length=i:=by lia
 have B:i+1<=100000:=by lia
 have e:xs.take i++d::xs.drop (i+1)=xs.set i d:=by rw[List.set_eq_take_append_cons_drop,bJ hi]
 have a:(xs.take i).length=i:=by simp;lia
 have Z:(xs.drop (i+1)).length=xs.length-(i+1):=by simp
 have q:((xs.drop (i+1)).take (xs.length-(i+1)))=xs.drop (i+1):=by apply ZY;simp
 simp[gG,W,V,U,O,M,L,J,B,q,e,c7]
@[simp]theorem Ue(st:St):dJ st.enc (.int 0)=aa (.int st.row):=rfl
@[simp]theorem Ug(st:St):dJ st.enc (.int 1)=aa (.aC (cY st.names)):=rfl
@[simp]theorem Uh(st:St):dJ st.enc (.int 2)=aa (.aC (cY st.cells)):=rfl
@[simp]theorem Ui(st:St):dJ st.enc (.int 3)=aa (.aC (cZ st.calls)):=rfl
@[simp]theorem Uj(st:St):dJ st.enc (.int 4)=aa (.int st.aG):=rfl
@[simp]theorem Uk(st:St):dJ st.enc (.int 5)=aa (.aC (cY st.said)):=rfl
inductive Rw
 |set(x:Nm)(s:Sm)|put(s t:Sm)|ask(x:Nm)|say(s:Sm)|jump(p:Nat)|unless(s:Sm)(p:Nat)|call(p:Nat)|back|stop
def Rw.enc:Rw->D
 |.set x s=>.aC [.str "set",.str x.w,s.enc]|.put s t=>.aC [.str "put",s.enc,t.enc]|.ask x=>.aC [.str "ask",.str x.w]|.say s=>.aC [.str "say",s.enc]|.jump p=>.aC [.str "jump",.int p]|.unless s p=>.aC [.str "unless",s.enc,.int p]|.call p=>.aC [.str "call",.int p]|.back=>.aC [.str "back"]|.stop=>.aC [.str "stop"]
def jb(s:Sm):Prop:=s.ok/\s.size<=15
noncomputable def Rw.ok(n:Nat):Rw->Prop
 |.set _ s=>jb s|.put s t=>jb s/\jb t|.ask _=>True|.say s=>jb s|.jump p=>p<=n|.unless s p=>jb s/\p<=n|.call p=>p<=n|.back=>True|.stop=>True
noncomputable abbrev Pg:=List Rw
def gB(p:Pg):D:=.aC (p.map Rw.enc)
def Pg.ok(p:Pg):Prop:=∀r∈p,r.ok p.length
def Rw.next(aG:List Int)(st:St):Rw->St
 |.set x s=>{st with row:=st.row+1,names:=st.names.set x.ix (s.val st)}|.put s t=>{st with row:=st.row+1,cells:=st.cells.set (s.val st%4).toNat (t.val st)}|.ask x=>{st with row:=st.row+1,names:=st.names.set x.ix (aG.getD st.aG 0),aG:=st.aG+1}|.say s=>{st with row:=st.row+1,said:=st.said++[s.val st]}|.jump p=>{st with row:=p}|.unless s p=>{st with row:=if s.val st=0 then p else st.row+1}|.call p=>{st with row:=p,calls:=st.calls++[st.row+1]}|.back=>{st with row:=st.calls.getLast?.getD 0,calls:=st.calls.dropLast}|.stop=>st
noncomputable def Rw.over(st:St):Rw->Bool
 |.back=>st.calls.length==0|.call _=>decide (6<=st.calls.length)|.stop=>ah|_=>ai
def over(p:Pg)(st:St):Bool:=match p[st.row]? with
 |some r=>r.over st|none=>ah
def step(p:Pg)(aG:List Int)(st:St):St:=match p[st.row]? with
 |some r=>r.next aG st
 |none=>st
noncomputable def St.zero:St:=⟨0,[0,0,0,0,0,0],[0,0,0,0],[],0,[]⟩
def oN:St.zero.ok:=⟨rfl,rfl,by simp[St.zero,Wth],by simp[St.zero,Wth]⟩
def sts(p:Pg)(aG:List Int):Nat->St->List St
 |0,st=>[st]
 |n+1,st=>if over p st then [st]else st::sts p aG n (step p aG st)
def rZ(P:Prg T G)(k:Nat)(h:HH):runN T G (k+1) "begun" [] h=aa (.p St.zero.enc,h):=by rw[run_eq P.begun rfl];simp[mE,P.LETTERS,P.CELL_COUNT,c7,St.zero,St.enc,cY,cZ,rep,UU,List.flatten]
def vU(P:Prg T G)(k:Nat)(aG:List Int)(n:Nat)(h:HH):runN T G (k+1) "brought" [.p (.aB (cY aG)),.p (.int n)] h=aa (.p (.int (aG.getD n 0)),h):=by
 rw[run_eq P.brought rfl]
 by_cases c:n<aG.length
 ·have q:(n:Int)<(aG.length:Int):=by lia
  simp[iP,cY,c,q,c7]
 ·have q:¬(n:Int)<(aG.length:Int):=by lia
  have e:aG[n]?=af:=UO (by lia);simp[iP,cY,q,c7,e]
def k8(P:Prg T G)(k:Nat)(st:St)(J:st.ok)(x:Nm)(d:Int)(h:HH):
 runN T G (k+2) "with_name" [.p st.enc,.p (.str x.w),.p (.int d)] h=aa (.p (.aC (cY (st.names.set x.ix d))),h):=by
 rw[run_eq P.with_name rfl];have r:=λi=>j6 P k (cY st.names) i;have l:(cY st.names).length=6:=by simp[cY,J.nlen]
 have e:(cY st.names).set x.ix (.int d)=cY (st.names.set x.ix d):=by simp[cY,List.map_set]
 have q:=r x.ix (by rw[l];exact x.zw) (by lia) (.int d);rw[e]at q;have g:G "LETTERS"=aa (.p (.aC qV)):=P.LETTERS;have D:=DY x;have B:=rX st;generalize qV=L at *;generalize st.enc=se at *;generalize M:(x.ix:Int)=z at *;simp[iw,P.NAMES,g,D,B,c7,q]
def nQ(P:Prg T G)(k:Nat)(s:Sm)(B:jb s)(st:St)(D:st.ok)(h:HH):runN T G (k+5) "cell_by" [.p s.enc,.p st.enc] h=aa (.p (.int (s.val st%4)),h):=by rw[run_eq P.cell_by rfl];have q:=eU P k s (by have:=B.2;lia) B.1 st D;simp[jC,q,P.CELL_COUNT,c7]
noncomputable def Rw.word:Rw->String
 |.set _ _=>"set" |.put _ _=>"put" |.ask _=>"ask" |.say _=>"say" |.jump _=>"jump" |.unless _ _=>"unless" |.call _=>"call" |.back=>"back" |.stop=>"stop"
def Rw.ur(r:Rw):dJ r.enc (.int 0)=aa (.str r.word):=by cases r<;>rfl
def plT:S:=(.seq (.v (.or (.z .eq (.v 2) (.j (.str "jump"))) (.z .eq (.v 2) (.j (.str "call")))) (.ret (.y (.v 0) (.j (.int 1)))) .nil) (.seq (.v (.z .eq (.v 2) (.j (.str "back"))) (.ret (.y (.y (.v 1) (.aE "CALLS")) (.neg (.j (.int 1))))) .nil) (.seq (.v (.and (.z .eq (.v 2) (.j (.str "unless"))) (.z .eq (.call "reckoned" (cV (.y (.v 0) (.j (.int 1))) (.v 1))) (.j (.int 0)))) (.ret (.y (.v 0) (.j (.int 2)))) .nil) (.ret (.bin .add (.y (.v 1) (.aE "ROW")) (.j (.int 1)))))))
theorem vV:fO=⟨["row","state"],["row","state","word"],
 (.seq (.set 2 (.y (.v 0) (.j (.int 0)))) plT)⟩:=rfl
def Hs(P:Prg T G)(F:FK->List W->HH->Option (W×HH))(q:W)(st:St)(h:HH)(v:String)(L:¬v="jump")(J:¬v="call")(D:¬v="back")(B:¬v="unless"):evS F G plT [aa q,aa (.p st.enc),aa (.p (.str v))] h=aa (.rt (.p (.int ((st.row:Int)+1))) h):=by have M:dJ st.enc (.int 0)=aa (.int (st.row:Int)):=rfl;generalize st.enc=se at *;simp[plT,L,J,D,B,P.ROW,M]
def IZ(F:FK->List W->HH->Option (W×HH))(d:D)(B:W)(h:HH)(v:String)(q:Int)(J:v="jump"\/v="call")(i1:dJ d (.int 1)=aa (.int q)):evS F G plT [aa (.p d),aa B,aa (.p (.str v))] h=aa (.rt (.p (.int q)) h):=by rcases J with rfl|rfl<;>simp[plT,i1]
def AY(P:Prg T G)(k:Nat)(n:Nat)(r:Rw)(J:r.ok n)(st:St)(Y:st.ok)(aG:List Int)(L:r.over st=ai)(h:HH):
 runN T G (k+5) "place_behind" [.p r.enc,.p st.enc] h=aa (.p (.int (r.next aG st).row),h):=by
 have M:=r.ur;have B:runN T G (k+5) "place_behind" [.p r.enc,.p st.enc] h=mZ (evS (runN T G (k+4)) G plT [aa (.p r.enc),aa (.p st.enc),aa (.p (.str r.word))] h) (fin h):=by rw[run_eq P.place_behind rfl,vV];generalize r.enc=re at *;simp[M]
 have D:∀q:Int,mZ (aa (.rt (.p (.int q)) h)) (fin h)=aa (.p (.int q),h):=λq=>by simp[c7]
 rw[B];cases r with
 |«unless» s p =>
  have q:=eU P k s (by have:=J.1.2;lia) J.1.1 st Y;have V:dJ (Rw.unless s p).enc (.int 1)=aa s.enc:=rfl;have U:dJ (Rw.unless s p).enc (.int 2)=aa (.int (p:Int)):=rfl;have W:dJ st.enc (.int 0)=aa (.int (st.row:Int)):=rfl;generalize (Rw.unless s p).enc=re at *;generalize st.enc=se at *;generalize s.enc=sn at *
  by_cases c:s.val st=0<;>simp[plT,Rw.word,Rw.next,q,c,W,V,U,c7,P.ROW]
 |back =>
  have c:st.calls≠[]:=by intro e;simp[Rw.over,e]at L
  have:∃l x,st.calls=l++[x]:=⟨st.calls.dropLast,st.calls.getLast c,(List.dropLast_concat_getLast c).symm⟩;obtain⟨l,x,e⟩:=this;have O:dJ st.enc (.int 3)=aa (.aC (cZ st.calls)):=rfl;have ix:dJ (.aC (cZ st.calls)) (.int (-1))=aa (.int (x:Int)):=by
   have e2:-((l.length:Int)+1)<=-1:=by lia
   have Z:(-1+((l.length:Int)+1)).toNat=l.length:=by lia
   simp[cZ,e,e2,Z]
  have nx:((Rw.back).next aG st).row=x:=by simp[Rw.next,e]
  rw[nx];generalize st.enc=se at *;generalize cZ st.calls=nl at *;simp[-gY,plT,Rw.word,P.CALLS,O,ix,c7]
 |stop=>simp[Rw.over]at L|jump p=>rw[Rw.word,IZ _ _ _ _ _ (p:Int) (.inl rfl) rfl,D];rfl|call p=>rw[Rw.word,IZ _ _ _ _ _ (p:Int) (.inr rfl) rfl,D];rfl|_=>rw[Rw.word,Hs P _ _ _ _ _ (by decide) (by decide) (by decide) (by decide),D];rfl
def ovT:S:=(.seq (.v (.z .eq (.v 2) (.j (.str "back"))) (.ret (.z .eq (.bi .len ai (cW (.y (.v 1) (.aE "CALLS")))) (.j (.int 0)))) .nil) (.seq (.v (.z .eq (.v 2) (.j (.str "call"))) (.ret (.z .ge (.bi .len ai (cW (.y (.v 1) (.aE "CALLS")))) (.aE "MOST_CALLS"))) .nil) (.ret (.z .eq (.v 2) (.j (.str "stop"))))))
theorem qW:iO=⟨["program","state"],["program","state","word"],
 (.seq (.v (.z .ge (.y (.v 1) (.aE "ROW")) (.bi .len ai (.cons (.v 0) .nil))) (.ret (.j (.bl ah))) .nil)
 (.seq (.set 2 (.y (.y (.v 0) (.y (.v 1) (.aE "ROW"))) (.j (.int 0))))
 ovT))⟩:=rfl
def Hu(F:FK->List W->HH->Option (W×HH))(B q:W)(h:HH)(v:String)(J:¬v="back")(D:¬v="call"):evS F G ovT [aa B,aa q,aa (.p (.str v))] h=aa (.rt (.p (.bl (decide (v="stop")))) h):=by
 by_cases c:v="stop"
 ·subst c;simp[ovT]
 ·skip
  simp[ovT,J,D,c]
def vW(P:Prg T G)(k:Nat)(p:Pg)(st:St)(h:HH):runN T G (k+1) "is_over" [.p (gB p),.p st.enc] h=aa (.p (.bl (over p st)),h):=by
 have M:biD .len [gB p]=aa (.int p.length):=by simp[gB]
 by_cases c:st.row<p.length
 ·have J:¬(p.length:Int)<=(st.row:Int):=by lia
  have W:(st.row:Int)<(p.length:Int):=by lia
  have e:p[st.row]?=aa p[st.row]:=UL c;have row:dJ (gB p) (.int st.row)=aa (p[st.row]).enc:=by simp[gB,W,e]
  have V:over p st=(p[st.row]).over st:=by rw[over,e]
  rw[V];generalize p[st.row]=r at row⊢;have L:=r.ur;have B:runN T G (k+1) "is_over" [.p (gB p),.p st.enc] h=mZ (evS (runN T G k) G ovT [aa (.p (gB p)),aa (.p st.enc),aa (.p (.str r.word))] h) (fin h):=by rw[run_eq P.is_over rfl,qW];generalize r.enc=re at row L;simp[M,row,L,P.ROW,J]
  rw[B];have O:biD .len [.aC (cZ st.calls)]=aa (.int (st.calls.length:Int)):=by simp[cZ]
  have U:dJ st.enc (.int 3)=aa (.aC (cZ st.calls)):=rfl;cases r with
  |back =>
   have D:(((st.calls.length:Nat):Int)==0)=(st.calls.length==0):=by
    cases st.calls with
    |nil=>rfl|cons a l=>rw[beq_eq_false_iff_ne.mpr (by simp only[US];lia)];rfl
   simp[-rK,ovT,Rw.word,P.CALLS,U,O,D,c7,Rw.over]
  |call q =>
   have D:decide ((6:Int)<=(st.calls.length:Int))=decide (6<=st.calls.length):=decide_eq_decide.mpr (by lia);simp[-rK,ovT,Rw.word,P.CALLS,P.MOST_CALLS,U,O,D,c7,Rw.over]
  |_ =>
   rw[Rw.word,Hu _ _ _ _ _ (by decide) (by decide)];simp[c7,Rw.over]
 ·have J:(p.length:Int)<=(st.row:Int):=by lia
  have e:p[st.row]?=af:=UO (by lia);rw[run_eq P.is_over rfl];simp[iO,M,P.ROW,J,c7,over,e]
def ints_set(xs:List Int)(i:Nat)(v:Int):(cY xs).set i (.int v)=cY (xs.set i v):=by simp[cY,List.map_set]
def j7(xs:List Int):(cY xs).length=xs.length:=by simp[cY]
def ints_snoc(xs:List Int)(v:Int):cY xs++[.int v]=cY (xs++[v]):=by simp[cY]
def AZ(xs:List Nat)(v:Nat):cZ xs++[.int (v:Int)]=cZ (xs++[v]):=by simp[cZ]
def vX(xs:List Nat):cut (cZ xs) af (aa (-1))=cZ xs.dropLast:=by
 have e:(-1+(xs.length:Int)).toNat=xs.length-1:=by lia
 simp[cut,clip,cZ,e,List.dropLast_eq_take]
structure St.small(st:St):Prop where
 sl:st.said.length<=5000
 cl:st.calls.length<=5000
def encL(st:St):List D:=[.int st.row,.aC (cY st.names),.aC (cY st.cells),.aC (cZ st.calls),.int st.aG,.aC (cY st.said)]
theorem D0(st:St):biD .list [st.enc]=aa (.aB (encL st)):=rfl
def Lq:S:=(.put 5 (.aE "CALLS") (.n (.y (.v 2) (.aE "CALLS")) .nil (cW (.neg (.j (.int 1))))))
def Lr:S:=(.v (.z .eq (.v 4) (.j (.str "back"))) Lq .nil)
def Ls:S:=(.put 5 (.aE "CALLS") (.bin .add (.y (.v 2) (.aE "CALLS")) (.aC (cW (.bin .add (.y (.v 2) (.aE "ROW")) (.j (.int 1)))))))
def Hv:S:=(.v (.z .eq (.v 4) (.j (.str "call"))) Ls Lr)
def Lu:S:=(.put 5 (.aE "SAID") (.bin .add (.y (.v 2) (.aE "SAID")) (.aC (cW (.call "reckoned" (cV (.y (.v 3) (.j (.int 1))) (.v 2)))))))
def D3:S:=(.v (.z .eq (.v 4) (.j (.str "say"))) Lu Hv)
def Lv:S:=(.seq (.put 5 (.aE "NAMES") (.call "with_name" (cU (.v 2) (.y (.v 3) (.j (.int 1))) (.call "brought" (cV (.v 1) (.y (.v 2) (.aE "ASKED"))))))) (.put 5 (.aE "ASKED") (.bin .add (.y (.v 2) (.aE "ASKED")) (.j (.int 1)))))
def A2:S:=(.v (.z .eq (.v 4) (.j (.str "ask"))) Lv D3)
def Ly:S:=(.put 5 (.aE "CELLS") (.call "with_worth" (cU (.y (.v 2) (.aE "CELLS")) (.call "cell_by" (cV (.y (.v 3) (.j (.int 1))) (.v 2))) (.call "reckoned" (cV (.y (.v 3) (.j (.int 2))) (.v 2))))))
def xV:S:=(.v (.z .eq (.v 4) (.j (.str "put"))) Ly A2)
def Lz:S:=(.put 5 (.aE "NAMES") (.call "with_name" (cU (.v 2) (.y (.v 3) (.j (.int 1))) (.call "reckoned" (cV (.y (.v 3) (.j (.int 2))) (.v 2))))))
def lE:S:=(.v (.z .eq (.v 4) (.j (.str "set"))) Lz xV)
def LC:S:=(.seq lE (.ret (.bi .tuple ai (cW (.v 5)))))
theorem qX:jD=⟨["program","asked","state"],["program","asked","state","row","word","behind"],
 (.seq (.set 3 (.y (.v 0) (.y (.v 2) (.aE "ROW"))))
 (.seq (.set 4 (.y (.v 3) (.j (.int 0))))
 (.seq (.set 5 (.bi .list ah (.cons (.v 2) .nil)))
 (.seq (.put 5 (.aE "ROW") (.call "place_behind" (.cons (.v 3) (.cons (.v 2) .nil))))
 LC))))⟩:=rfl
theorem LD(F:FK->List W->HH->Option (W×HH))(A B:S)(s:Sl)(h:HH):evS F G (.seq A B) s h=nJ (evS F G A s h) (evS F G B):=rfl
def pick(F:FK->List W->HH->Option (W×HH))(L J D q:W)(v w:String)(rest:Sl)(h:HH)(A B:S):evS F G (.v (.z .eq (.v 4) (.j (.str w))) A B) (aa L::aa J::aa D::aa q::aa (.p (.str v))::rest) h=if v=w then evS F G A (aa L::aa J::aa D::aa q::aa (.p (.str v))::rest) h else evS F G B (aa L::aa J::aa D::aa q::aa (.p (.str v))::rest) h:=by
 have e:eqv (.str v) (.str w)=decide (v=w):=by
  by_cases c:v=w
  rw[bO c,c];simp
  ·rw[bN c];have:¬UN v=UN w:=λz=>c (by simpa using z);simp[this,c]
 by_cases c:v=w
 ·rw[bO c]at e;rw[bJ c];simp[-eqv,e]
 ·rw[bN c]at e;rw[bK c];simp[-eqv,e]
def to0(F:FK->List W->HH->Option (W×HH))(J D B q:W)(rest:Sl)(h:HH):evS F G lE (aa J::aa D::aa B::aa q::aa (.p (.str "set"))::rest) h=evS F G Lz (aa J::aa D::aa B::aa q::aa (.p (.str "set"))::rest) h:=by rw[lE,pick,bJ rfl]
def to1(F:FK->List W->HH->Option (W×HH))(J D B q:W)(rest:Sl)(h:HH):evS F G lE (aa J::aa D::aa B::aa q::aa (.p (.str "put"))::rest) h=evS F G Ly (aa J::aa D::aa B::aa q::aa (.p (.str "put"))::rest) h:=by rw[lE,pick,bK (by decide),xV,pick,bJ rfl]
def to2(F:FK->List W->HH->Option (W×HH))(J D B q:W)(rest:Sl)(h:HH):evS F G lE (aa J::aa D::aa B::aa q::aa (.p (.str "ask"))::rest) h=evS F G Lv (aa J::aa D::aa B::aa q::aa (.p (.str "ask"))::rest) h:=by rw[lE,pick,bK (by decide),xV,pick,bK (by decide),A2,pick,bJ rfl]
def to3(F:FK->List W->HH->Option (W×HH))(J D B q:W)(rest:Sl)(h:HH):evS F G lE (aa J::aa D::aa B::aa q::aa (.p (.str "say"))::rest) h=evS F G Lu (aa J::aa D::aa B::aa q::aa (.p (.str "say"))::rest) h:=by rw[lE,pick,bK (by decide),xV,pick,bK (by decide),A2,pick,bK (by decide),D3,pick,bJ rfl]
def to4(F:FK->List W->HH->Option (W×HH))(J D B q:W)(rest:Sl)(h:HH):evS F G lE (aa J::aa D::aa B::aa q::aa (.p (.str "call"))::rest) h=evS F G Ls (aa J::aa D::aa B::aa q::aa (.p (.str "call"))::rest) h:=by rw[lE,pick,bK (by decide),xV,pick,bK (by decide),A2,pick,bK (by decide),D3,pick,bK (by decide),Hv,pick,bJ rfl]
def to5(F:FK->List W->HH->Option (W×HH))(J D B q:W)(rest:Sl)(h:HH):evS F G lE (aa J::aa D::aa B::aa q::aa (.p (.str "back"))::rest) h=evS F G Lq (aa J::aa D::aa B::aa q::aa (.p (.str "back"))::rest) h:=by rw[lE,pick,bK (by decide),xV,pick,bK (by decide),A2,pick,bK (by decide),D3,pick,bK (by decide),Hv,pick,bK (by decide),Lr,pick,bJ rfl]
def toN(F:FK->List W->HH->Option (W×HH))(J D B q:W)(rest:Sl)(h:HH)(v:String)(L:v∉["set","put","ask","say","call","back"]):evS F G lE (aa J::aa D::aa B::aa q::aa (.p (.str v))::rest) h=aa (.nx (aa J::aa D::aa B::aa q::aa (.p (.str v))::rest) h):=by simp only[Xb,WE,or_false,not_or]at L;obtain⟨Z,Y,V,U,O,M⟩:=L;rw[lE,pick,bK Z,xV,pick,bK Y,A2,pick,bK V,D3,pick,bK U,Hv,pick,bK O,Lr,pick,bK M];rfl
def vY(P:Prg T G)(k:Nat)(p:Pg)(Z:Pg.ok p)(aG:List Int)(st:St)(D:st.ok)(W:st.small)(L:over p st=ai)(h:HH):
 runN T G (k+6) "stepped" [.p (gB p),.p (.aB (cY aG)),.p st.enc] h=aa (.p (step p aG st).enc,h):=by
 have c:st.row<p.length:=by
  rcases UX st.row p.length with q|q
  exact q;rw[over,UO q]at L;exact w9 L
 have e:p[st.row]?=aa p[st.row]:=UL c;have g:(st.row:Int)<(p.length:Int):=by lia
 have B:=Z _ (XH c);have J:(p[st.row]).over st=ai:=by rw[over,e]at L;exact L
 have O:=AY P k p.length p[st.row] B st D aG J;rw[step,e];have j:=W.sl;have i:=W.cl
 revert O B J
 generalize p[st.row]=r at *;intro B J O;have row:dJ (gB p) (.int st.row)=aa r.enc:=by simp[gB,g,e]
 have M:runN T G (k+6) "stepped" [.p (gB p),.p (.aB (cY aG)),.p st.enc] h =
  mZ (evS (runN T G (k+5)) G LC [aa (.p (gB p)),aa (.p (.aB (cY aG))),aa (.p st.enc),aa (.p r.enc),aa (.p (.str r.word)),aa (.r h.length)] (h++[.l [.int (r.next aG st).row,.aC (cY st.names),.aC (cY st.cells),.aC (cZ st.calls),.int st.aG,.aC (cY st.said)]])) (fin h):=by
  rw[run_eq P.stepped rfl,qX];simp[row,r.ur,P.ROW,D0,encL,O]
 rw[M,LC,LD];cases r with
 |set x s =>
  have q:=eU P (k+1) s (by have:=B.2;lia) B.1 st D;have w:=k8 P (k+3) st D x (s.val st);simp only[Rw.enc,Rw.next,Rw.word,to0];simp[Lz,P.ROW,P.NAMES,q,w,rd,kY,Rw.next];simp[St.enc]
 |put s t =>
  have q:=nQ P k s B.1 st D;have Y:=eU P (k+1) t (by have:=B.2.2;lia) B.2.1 st D;have v:=Sm.mF (s:=s) D B.1.1;have a:(s.val st%4).toNat<(cY st.cells).length:=by rw[j7,D.clen];lia
  have w:=j6 P (k+4) (cY st.cells) (s.val st%4).toNat a (by rw[j7,D.clen];lia) (.int (t.val st));have f:(((s.val st%4).toNat:Nat):Int)=s.val st%4:=by lia
  rw[f,ints_set]at w;simp only[Rw.enc,Rw.next,Rw.word,to1];simp[Ly,P.ROW,P.CELLS,q,Y,w,rd,kY,Rw.next];simp[St.enc]
 |ask x =>
  have b:=vU P (k+4) aG st.aG;have w:=k8 P (k+3) st D x (aG.getD st.aG 0);simp only[Rw.enc,Rw.next,Rw.word,to2];simp only[Vv]at b w⊢;simp[Lv,P.ROW,P.NAMES,P.ASKED,b,w,rd,kY,Rw.next];simp[St.enc]
 |say s =>
  have q:=eU P (k+1) s (by have:=B.2;lia) B.1 st D;simp only[Rw.enc,Rw.next,Rw.word,to3];have U:(cY st.said).length+1<=100000:=by rw[j7];lia
  simp[Lu,P.ROW,P.SAID,q,rd,kY,Rw.next,U,ints_snoc];simp[St.enc]
 |call q =>
  simp only[Rw.enc,Rw.next,Rw.word,to4];have U:(cZ st.calls).length+1<=100000:=by simp[cZ];lia
  have V:cZ st.calls++[.int ((st.row:Int)+1)]=cZ (st.calls++[st.row+1]):=by rw[←AZ];simp
  simp[Ls,P.ROW,P.CALLS,rd,kY,Rw.next,U,V];simp[St.enc]
 |back =>
  simp only[Rw.enc,Rw.next,Rw.word,to5];have V:=vX st.calls;have d:mW (.aC (cZ st.calls)) af (aa (-1))=aa (.aC (cZ st.calls.dropLast)):=by rw[xj,V]
  simp[-xj,Lq,P.ROW,P.CALLS,rd,kY,Rw.next,d];simp[St.enc]
 |stop=>simp[Rw.over]at J
 |_ =>
  simp only[Rw.enc,Rw.next,Rw.word];rw[toN _ _ _ _ _ _ _ _ (by decide)];simp[P.ROW,rd,kY,Rw.next];simp[St.enc]
end
def Ask(aG:List Int):Prop:=∀x∈aG,Wth x
def D4{xs:List Int}{i:Nat}{v:Int}(h:∀x∈xs,Wth x)(D:Wth v):∀x∈xs.set i v,Wth x:=λx B=>by
 rcases List.mem_or_eq_of_mem_set B with q|q
 exact h x q;rw[q];exact D
structure At(n:Nat)(st:St):Prop where
 ok:st.ok
 said:st.said.length<=n
 calls:st.calls.length<=6
def At.small{st:St}(a:At n st)(h:n<=5000):st.small:=⟨by have:=a.said;lia,by have:=a.calls;lia⟩
def Hw:At 0 St.zero:=⟨oN,UE _,by decide⟩
def zx{n:Nat}{p:Pg}{aG:List Int}{st:St}(L:Pg.ok p)(M:Ask aG)(a:At n st)(J:over p st=ai):At (n+1) (step p aG st):=by
 have c:st.row<p.length:=by
  rcases UX st.row p.length with q|q
  exact q;rw[over,UO q]at J;cases J
 have e:p[st.row]?=aa p[st.row]:=UL c;have D:=L _ (XH c);have B:(p[st.row]).over st=ai:=by rw[over,e]at J;exact J
 rw[step,e];dsimp only
 revert D B
 generalize p[st.row]=r;intro D B;obtain⟨ok,O,cl⟩:=a;cases r with
 |set x s=>exact⟨⟨by simp[Rw.next,ok.nlen],ok.clen,D4 ok.nw (Sm.mF ok D.1),ok.cw⟩,by simp[Rw.next];lia,cl⟩|put s t=>exact⟨⟨ok.nlen,by simp[Rw.next,ok.clen],ok.nw,D4 ok.cw (Sm.mF ok D.2.1)⟩,by simp[Rw.next];lia,cl⟩|ask x=>exact⟨⟨by simp[Rw.next,ok.nlen],ok.clen,D4 ok.nw (xR M _),ok.cw⟩,by simp[Rw.next];lia,cl⟩|say s=>exact⟨⟨ok.nlen,ok.clen,ok.nw,ok.cw⟩,by simp[Rw.next];lia,cl⟩
 |call q =>
  simp[Rw.over]at B;exact⟨⟨ok.nlen,ok.clen,ok.nw,ok.cw⟩,by simp[Rw.next];lia,by simp[Rw.next];lia⟩
 |back=>exact⟨⟨ok.nlen,ok.clen,ok.nw,ok.cw⟩,by simp[Rw.next];lia,by simp[Rw.next];lia⟩|stop=>simp[Rw.over]at B|_=>exact⟨⟨ok.nlen,ok.clen,ok.nw,ok.cw⟩,by simp[Rw.next];lia,cl⟩
section
end
def gU:Fn:=⟨["_law_script","_law_k"],["_law_script","_law_k"], (.seq (.v (.z .eq (.v 0) (.aB ai .nil)) (.ret (.bin .mul (.j (.int 7)) (.v 1))) .nil) (.ret (.bin .add (.y (.v 0) (.bin .mod (.v 1) (.bi .len ai (cW (.v 0))))) (.bin .mul (.j (.int 6553)) (.bin .fdiv (.v 1) (.bi .len ai (cW (.v 0))))))))⟩
def iy:Fn:=⟨["_law_script","_law_k","_law_many"],["_law_script","_law_k","_law_many","_law_cell_here"], (.seq (.set 3 (.bin .mod (.bin .add (.bin .mul (.bin .mod (.call "_law_cell" (cV (.v 0) (.v 1))) (.j (.int 2147483563))) (.j (.int 69069))) (.bin .mul (.j (.int 104723)) (.bin .add (.v 1) (.j (.int 1))))) (.j (.int 2147483563)))) (.seq (.set 3 (.bin .mod (.bin .add (.bin .mul (.v 3) (.v 3)) (.bin .fdiv (.v 3) (.j (.int 3)))) (.j (.int 2147483399)))) (.ret (.bin .mod (.bin .fdiv (.bin .mod (.bin .add (.bin .mul (.v 3) (.v 3)) (.bin .fdiv (.v 3) (.j (.int 7)))) (.j (.int 2147483647))) (.j (.int 11))) (.v 2)))))⟩
def smL:S:=(.seq (.v (.z .eq (.call "_law_drawn" (cU (.v 0) (.bin .add (.v 1) (.j (.int 1))) (.j (.int 2)))) (.j (.int 0))) (.ret (.aC (cV (.j (.str "num")) (.y (.aB ai (cR (.j (.int 0)) (.j (.int 1)) (.j (.int 2)) (.j (.int 3)) (.j (.int 10)) (.j (.int 10006)))) (.call "_law_drawn" (cU (.v 0) (.bin .add (.v 1) (.j (.int 2))) (.j (.int 6)))))))) .nil) (.ret (.aC (cV (.j (.str "name")) (.y (.j (.str "abcf")) (.call "_law_drawn" (cU (.v 0) (.bin .add (.v 1) (.j (.int 2))) (.j (.int 4)))))))))
def smR:S:=(.seq (.set 4 (.call "_law_sum" (cU (.v 0) (.bin .add (.bin .mul (.v 1) (.j (.int 2))) (.j (.int 5))) (.bin .sub (.v 2) (.j (.int 1)))))) (.seq (.v (.z .lt (.v 3) (.j (.int 6))) (.ret (.aC (cV (.j (.str "cell")) (.v 4)))) .nil) (.ret (.aC (cU (.y (.aB ai (cT (.j (.str "add")) (.j (.str "sub")) (.j (.str "mul")) (.j (.str "less")))) (.bin .sub (.v 3) (.j (.int 6)))) (.v 4) (.call "_law_sum" (cU (.v 0) (.bin .add (.bin .mul (.v 1) (.j (.int 2))) (.j (.int 19))) (.bin .sub (.v 2) (.j (.int 1))))))))))
def fU:Fn:=⟨["_law_script","_law_at","_law_deep"],["_law_script","_law_at","_law_deep","_law_way","_law_one"], (.seq (.set 3 (.call "_law_drawn" (cU (.v 0) (.v 1) (.j (.int 10))))) (.seq (.v (.or (.z .eq (.v 2) (.j (.int 0))) (.z .lt (.v 3) (.j (.int 4)))) smL .nil) smR))⟩
def jE:Fn:=⟨["_law_script","_law_at","_law_size"],["_law_script","_law_at","_law_size","_law_way","_law_place","_law_name","_law_one"], (.seq (.set 3 (.call "_law_drawn" (cU (.v 0) (.v 1) (.j (.int 16))))) (.seq (.set 4 (.call "_law_drawn" (cU (.v 0) (.bin .add (.v 1) (.j (.int 1))) (.bin .add (.v 2) (.j (.int 1)))))) (.seq (.set 5 (.y (.j (.str "abc")) (.call "_law_drawn" (cU (.v 0) (.bin .add (.v 1) (.j (.int 2))) (.j (.int 3)))))) (.seq (.set 6 (.call "_law_sum" (cU (.v 0) (.bin .add (.v 1) (.j (.int 3))) (.j (.int 2))))) (.seq (.v (.z .lt (.v 3) (.j (.int 5))) (.ret (.aC (cU (.j (.str "set")) (.v 5) (.v 6)))) .nil) (.seq (.v (.z .lt (.v 3) (.j (.int 7))) (.ret (.aC (cU (.j (.str "put")) (.call "_law_sum" (cU (.v 0) (.bin .add (.v 1) (.j (.int 9))) (.j (.int 1)))) (.v 6)))) .nil) (.seq (.v (.z .lt (.v 3) (.j (.int 9))) (.ret (.y (.aB ai (cV (.aC (cV (.j (.str "ask")) (.v 5))) (.aC (cV (.j (.str "say")) (.v 6))))) (.bin .sub (.v 3) (.j (.int 7))))) .nil) (.seq (.v (.z .lt (.v 3) (.j (.int 12))) (.ret (.y (.aB ai (cU (.aC (cV (.j (.str "jump")) (.v 4))) (.aC (cU (.j (.str "unless")) (.v 6) (.v 4))) (.aC (cU (.j (.str "unless")) (.aC (cV (.j (.str "name")) (.v 5))) (.v 4))))) (.bin .sub (.v 3) (.j (.int 9))))) .nil) (.ret (.y (.aB ai (cT (.aC (cV (.j (.str "call")) (.v 4))) (.aC (cV (.j (.str "call")) (.v 4))) (.aC (cW (.j (.str "back")))) (.y (.aB ai (cV (.aC (cW (.j (.str "stop")))) (.aC (cW (.j (.str "back")))))) (.bin .mod (.v 4) (.j (.int 2)))))) (.bin .sub (.v 3) (.j (.int 12)))))))))))))⟩
def iz:Fn:=⟨["_law_script","_law_at"],["_law_script","_law_at"], (.ret (.comp ai .rng1 (cW (.call "_law_drawn" (cU (.v 0) (.v 1) (.j (.int 4))))) ["_law_k"] [(0,"_law_script"),(1,"_law_at")] .nil (.y (.aB ai (cT (.j (.int 0)) (.j (.int 1)) (.j (.int 5)) (.j (.int 10006)))) (.call "_law_drawn" (cU (.v 1) (.bin .add (.bin .add (.v 2) (.j (.int 1))) (.v 0)) (.j (.int 4)))))))⟩
structure Lw(T:FK->Option Fn):Prop where
 cell:T "_law_cell"=aa gU
 drawn:T "_law_drawn"=aa iy
 sum:T "_law_sum"=aa fU
 row:T "_law_row"=aa jE
 aG:T "_law_asked"=aa iz
noncomputable def zy(ns:List Int)(k:Int):Int:=if ns=[]then 7*k else ns.getD (k%ns.length).toNat 0+6553*(k/ns.length)
def drw(ns:List Int)(k many:Int):Int :=
 let a:=(zy ns k%2147483563*69069+104723*(k+1))%2147483563
 let b:=(a*a+a/3)%2147483399
 (b*b+b/7)%2147483647/11%many
def fV(ns:List Int)(k:Int)(h:0<many):0<=drw ns k many:=Int.emod_nonneg _ (by lia)
def fW(ns:List Int)(k:Int)(h:0<many):drw ns k many<many:=Int.emod_lt_of_pos _ h
def nq(q:0<=i)(h1:i<18446744073709551616):big i=ah:=by unfold big;exact bO (by lia)
section
def Hx(ns:List Int):eqv (.aB (cY ns)) (.aB [])=decide (ns=[]):=by cases ns<;>simp[cY]
def D5(L:Lw T)(m:Nat)(ns:List Int)(U:ns.length<=1000)(k:Int)(h:HH):runN T G (m+1) "_law_cell" [.p (.aB (cY ns)),.p (.int k)] h=aa (.p (.int (zy ns k)),h):=by
 rw[run_eq L.cell rfl]
 by_cases c:ns=[]
 ·subst c;simp[gU,cY,zy,big,c7]
 ·have J:0<ns.length:=List.length_pos_iff.mpr c;have q:eqv (.aB (cY ns)) (.aB [])=ai:=by rw[Hx];exact bN c
  have B:(0:Int)<(ns.length:Int):=by lia
  have p2:(ns.length:Int)<1073741824:=by lia
  have M:=Int.emod_nonneg k (b:=(ns.length:Int)) (by lia);have m2:=Int.emod_lt_of_pos k B;have O:(k%(ns.length:Int)).toNat<ns.length:=by lia
  have D:ns.length<1073741824:=by lia
  simp[gU,-eqv,q,j7,B,p2,J,D,M,m2,big,c7,zy,c];simp[cY,O,c7,J,D,M,m2,big,B,p2]
def f7(L:Lw T)(m:Nat)(ns:List Int)(B:ns.length<=1000)(k many:Int)(q:0<many)(h:HH):
 runN T G (m+2) "_law_drawn" [.p (.aB (cY ns)),.p (.int k),.p (.int many)] h=aa (.p (.int (drw ns k many)),h):=by
 rw[run_eq L.drawn rfl];have r:=D5 (G:=G) L m ns B k;have O:big 69069=ah:=by decide
 have M:big 104723=ah:=by decide
 have J:∀x:Int,big (x%2147483563)=ah:=λx=>nq (by lia) (by lia);have D:∀x:Int,big (x%2147483399)=ah:=λx=>nq (by lia) (by lia);simp[iy,r,O,M,J,D,c7,q,drw]
def uv:UN "abcf"=⟨#[97,98,99,102]⟩:=by decide +kernel
def D6:UN "abc"=⟨#[97,98,99]⟩:=by decide +kernel
def o_a:UN "a"=⟨#[97]⟩:=by decide +kernel
def o_b:UN "b"=⟨#[98]⟩:=by decide +kernel
def o_c:UN "c"=⟨#[99]⟩:=by decide +kernel
def o_f:UN "f"=⟨#[102]⟩:=by decide +kernel
def zA(i:Int)(q:0<=i)(h1:i<4):∃x:Nm,dJ (.str "abcf") (.int i)=aa (.str x.w):=by
 have:i=0\/i=1\/i=2\/i=3:=by lia
 rcases this with rfl|rfl|rfl|rfl
 exact⟨.a,by rw[Nm.w,uv,o_a];rfl⟩;exact⟨.b,by rw[Nm.w,uv,o_b];rfl⟩;exact⟨.c,by rw[Nm.w,uv,o_c];rfl⟩;exact⟨.f,by rw[Nm.w,uv,o_f];rfl⟩
def LG(i:Int)(q:0<=i)(h1:i<3):∃x:Nm,dJ (.str "abc") (.int i)=aa (.str x.w):=by
 have:i=0\/i=1\/i=2:=by lia
 rcases this with rfl|rfl|rfl
 exact⟨.a,by rw[Nm.w,D6,o_a];rfl⟩;exact⟨.b,by rw[Nm.w,D6,o_b];rfl⟩;exact⟨.c,by rw[Nm.w,D6,o_c];rfl⟩
def zB(i:Int)(q:0<=i)(h1:i<6):∃n:Int,Wth n/\dJ (.aB [.int 0,.int 1,.int 2,.int 3,.int 10,.int 10006]) (.int i)=aa (.int n):=by
 have:i=0\/i=1\/i=2\/i=3\/i=4\/i=5:=by lia
 rcases this with rfl|rfl|rfl|rfl|rfl|rfl
 exact⟨0,⟨by decide,by decide⟩,rfl⟩;exact⟨1,⟨by decide,by decide⟩,rfl⟩;exact⟨2,⟨by decide,by decide⟩,rfl⟩;exact⟨3,⟨by decide,by decide⟩,rfl⟩;exact⟨10,⟨by decide,by decide⟩,rfl⟩;exact⟨10006,⟨by decide,by decide⟩,rfl⟩
def LH(i:Int)(q:0<=i)(h1:i<4):∃o:Op,dJ (.aB [.str "add",.str "sub",.str "mul",.str "less"]) (.int i)=aa (.str o.w):=by
 have:i=0\/i=1\/i=2\/i=3:=by lia
 rcases this with rfl|rfl|rfl|rfl
 exact⟨.add,rfl⟩;exact⟨.sub,rfl⟩;exact⟨.mul,rfl⟩;exact⟨.less,rfl⟩
def D7(L:Lw T)(ns:List Int)(J:ns.length<=1000)(p n:Int)(k:Nat)(rest:Sl)(h:HH)(c:drw ns (p+1) 2=0)(M:dJ (.aB [.int 0,.int 1,.int 2,.int 3,.int 10,.int 10006]) (.int (drw ns (p+2) 6))=aa (.int n)):
 evS (runN T G (k+2)) G smL (aa (.p (.aB (cY ns)))::aa (.p (.int p))::rest) h=aa (.rt (.p (Sm.num n).enc) h):=by
 have O:=λq B (D:0<B)=>f7 (G:=G) L k ns J q B D;simp[-fC,-jR,smL,O,c,M,Sm.enc]
def D8(L:Lw T)(ns:List Int)(J:ns.length<=1000)(p:Int)(x:Nm)(k:Nat)(rest:Sl)(h:HH)(c:¬drw ns (p+1) 2=0)(ex:dJ (.str "abcf") (.int (drw ns (p+2) 4))=aa (.str x.w)):
 evS (runN T G (k+2)) G smL (aa (.p (.aB (cY ns)))::aa (.p (.int p))::rest) h=aa (.rt (.p (Sm.nam x).enc) h):=by
 have M:=λq B (D:0<B)=>f7 (G:=G) L k ns J q B D;simp[-fC,-jR,smL,M,c,ex,Sm.enc]
def uw(L:Lw T)(ns:List Int)(J:ns.length<=1000):∀(B:Nat)(p:Int),∃s:Sm,s.ok/\s.size+1<=2^(B+1)/\∀(m:Nat)(h:HH),
 runN T G (m+B+3) "_law_sum" [.p (.aB (cY ns)),.p (.int p),.p (.int B)] h=aa (.p s.enc,h):=by
 intro B
 induction B with
 |zero =>
  intro p;have M:=λm q many (V:0<many)=>f7 (G:=G) L m ns J q many V;obtain⟨x,ex⟩:=zA (drw ns (p+2) 4) (fV _ _ (by decide)) (fW _ _ (by decide));obtain⟨n,hn,W⟩:=zB (drw ns (p+2) 6) (fV _ _ (by decide)) (fW _ _ (by decide));have D:∀(s:Sm)(m:Nat)(h:HH),(∀rest,evS (runN T G (m+2)) G smL (aa (.p (.aB (cY ns)))::aa (.p (.int p))::rest) h=aa (.rt (.p s.enc) h))->runN T G (m+0+3) "_law_sum" [.p (.aB (cY ns)),.p (.int p),.p (.int ((0:Nat):Int))] h=aa (.p s.enc,h):=λs m h q=>by rw[run_eq L.sum rfl];simp[fU,M,q,c7]
  by_cases c:drw ns (p+1) 2=0
  exact⟨.num n,hn,by simp[Sm.size],λm h=>D _ m h λrest=>D7 L ns J p n m rest h c W⟩;exact⟨.nam x,trivial,by simp[Sm.size],λm h=>D _ m h λrest=>D8 L ns J p x m rest h c ex⟩
 |succ B d =>
  intro p;have M:=λm q many (V:0<many)=>f7 (G:=G) L m ns J q many V;obtain⟨x,ex⟩:=zA (drw ns (p+2) 4) (fV _ _ (by decide)) (fW _ _ (by decide));obtain⟨n,hn,W⟩:=zB (drw ns (p+2) 6) (fV _ _ (by decide)) (fW _ _ (by decide));obtain⟨s,b,w,U⟩:=d (p*2+5);obtain⟨t,j,v,O⟩:=d (p*2+19);have e:∀m,m+(B+1)+2=m+B+3:=λm=>by lia
  have a:=λm h=>(e m).symm ▸ U m h;have tr:=λm h=>(e m).symm ▸ O m h;have Y:¬((B:Int)+1=0):=by lia
  have f:((B:Int)+1-1)=B:=by lia
  have i:big 2=ah:=by decide
  have u:=fV ns p (many:=10) (by decide);have r:=fW ns p (many:=10) (by decide);have y:2^(B+1+1)=2^(B+1)+2^(B+1):=by lia
  by_cases Z:drw ns p 10<4
  ·have D:∀(s:Sm)(m:Nat)(h:HH),(∀rest,evS (runN T G (m+B+1+2)) G smL (aa (.p (.aB (cY ns)))::aa (.p (.int p))::rest) h=aa (.rt (.p s.enc) h))->runN T G (m+(B+1)+3) "_law_sum" [.p (.aB (cY ns)),.p (.int p),.p (.int ((B+1:Nat):Int))] h=aa (.p s.enc,h):=λs m h q=>by rw[run_eq L.sum rfl];have l:=M (m+(B+1));have q:∀rest,evS (runN T G (m+(B+1)+2)) G smL (aa (.p (.aB (cY ns)))::aa (.p (.int p))::rest) h=aa (.rt (.p s.enc) h):=q;simp[fU,l,Z,Y,q,c7]
   by_cases c:drw ns (p+1) 2=0
   exact⟨.num n,hn,by simp only[Sm.size];lia,λm h=>D _ m h λrest=>D7 L ns J p n (m+B+1) rest h c W⟩;exact⟨.nam x,trivial,by simp only[Sm.size];lia,λm h=>D _ m h λrest=>D8 L ns J p x (m+B+1) rest h c ex⟩
  ·by_cases g:drw ns p 10<6
   ·refine⟨.cell s,b,by simp only[Sm.size];lia,λm h=>?_⟩;rw[run_eq L.sum rfl];simp[-fC,-jR,fU,smR,M,Z,g,Y,f,i,a,c7,Sm.enc]
   ·obtain⟨o,k⟩:=LH (drw ns p 10-6) (by lia) (by lia);refine⟨.two o s t,⟨b,j⟩,by simp only[Sm.size];lia,λm h=>?_⟩;rw[run_eq L.sum rfl];simp[-fC,-jR,fU,smR,M,Z,g,Y,f,i,a,tr,k,c7,Sm.enc]
end
def Ja:S:=(.ret (.y (.aB ai (cT (.aC (cV (.j (.str "call")) (.v 4))) (.aC (cV (.j (.str "call")) (.v 4))) (.aC (cW (.j (.str "back")))) (.y (.aB ai (cV (.aC (cW (.j (.str "stop")))) (.aC (cW (.j (.str "back")))))) (.bin .mod (.v 4) (.j (.int 2)))))) (.bin .sub (.v 3) (.j (.int 12)))))
def rA3:S:=(.ret (.y (.aB ai (cU (.aC (cV (.j (.str "jump")) (.v 4))) (.aC (cU (.j (.str "unless")) (.v 6) (.v 4))) (.aC (cU (.j (.str "unless")) (.aC (cV (.j (.str "name")) (.v 5))) (.v 4))))) (.bin .sub (.v 3) (.j (.int 9)))))
def D9:S:=(.seq (.v (.z .lt (.v 3) (.j (.int 12))) rA3 .nil) Ja)
def rA2:S:=(.ret (.y (.aB ai (cV (.aC (cV (.j (.str "ask")) (.v 5))) (.aC (cV (.j (.str "say")) (.v 6))))) (.bin .sub (.v 3) (.j (.int 7)))))
def zC:S:=(.seq (.v (.z .lt (.v 3) (.j (.int 9))) rA2 .nil) D9)
def rA1:S:=(.ret (.aC (cU (.j (.str "put")) (.call "_law_sum" (cU (.v 0) (.bin .add (.v 1) (.j (.int 9))) (.j (.int 1)))) (.v 6))))
def vZ:S:=(.seq (.v (.z .lt (.v 3) (.j (.int 7))) rA1 .nil) zC)
def rA0:S:=(.ret (.aC (cU (.j (.str "set")) (.v 5) (.v 6))))
def xW:S:=(.seq (.v (.z .lt (.v 3) (.j (.int 5))) rA0 .nil) vZ)
theorem qY:jE=⟨["_law_script","_law_at","_law_size"],["_law_script","_law_at","_law_size","_law_way","_law_place","_law_name","_law_one"],
 (.seq (.set 3 (.call "_law_drawn" (.cons (.v 0) (.cons (.v 1) (.cons (.j (.int 16)) .nil)))))
 (.seq (.set 4 (.call "_law_drawn" (.cons (.v 0) (.cons (.bin .add (.v 1) (.j (.int 1))) (.cons (.bin .add (.v 2) (.j (.int 1))) .nil)))))
 (.seq (.set 5 (.y (.j (.str "abc")) (.call "_law_drawn" (.cons (.v 0) (.cons (.bin .add (.v 1) (.j (.int 2))) (.cons (.j (.int 3)) .nil))))))
 (.seq (.set 6 (.call "_law_sum" (.cons (.v 0) (.cons (.bin .add (.v 1) (.j (.int 3))) (.cons (.j (.int 2)) .nil)))))
 xW))))⟩:=rfl
section
def Hy(L:Lw T)(ns:List Int)(Y:ns.length<=1000)(p:Int)(size:Nat):∃r:Rw,r.ok size/\∀(m:Nat)(h:HH),
 runN T G (m+6) "_law_row" [.p (.aB (cY ns)),.p (.int p),.p (.int size)] h=aa (.p r.enc,h):=by
 have a:=λm q many (i:0<many)=>f7 (G:=G) L m ns Y q many i;obtain⟨x,ex⟩:=LG (drw ns (p+2) 3) (fV _ _ (by decide)) (fW _ _ (by decide));obtain⟨s,g,n,f⟩:=uw (G:=G) L ns Y 2 (p+3);obtain⟨t,e,l,tr⟩:=uw (G:=G) L ns Y 1 (p+9);have k:=fV ns p (many:=16) (by decide);have j:=fW ns p (many:=16) (by decide);have sz:(0:Int)<(size:Int)+1:=by lia
 have v:=fV ns (p+1) sz;have o:=fW ns (p+1) sz;obtain⟨B,hpl⟩:∃B:Nat,drw ns (p+1) ((size:Int)+1)=(B:Int):=⟨(drw ns (p+1) ((size:Int)+1)).toNat,by lia⟩;have J:B<=size:=by lia
 have M:jb s:=⟨g,by lia⟩;have tok:jb t:=⟨e,by lia⟩;have U:=λm h=>f (m+0) h;have O:=λm h=>tr (m+1) h;simp at U O;have b:=λm h=>a m (p+1) ((size:Int)+1) sz h;rw[hpl]at b;have D:∀(m:Nat)(h:HH),runN T G (m+6) "_law_row" [.p (.aB (cY ns)),.p (.int p),.p (.int size)] h =
  mZ (evS (runN T G (m+5)) G xW [aa (.p (.aB (cY ns))),aa (.p (.int p)),aa (.p (.int size)),aa (.p (.int (drw ns p 16))),aa (.p (.int (B:Int))),aa (.p (.str x.w)),aa (.p s.enc)] h) (fin h):=λm h=>by
  rw[run_eq L.row rfl,qY];simp[-jR,b,a,ex,U]
 by_cases V:drw ns p 16<5
 ·refine⟨.set x s,M,λm h=>?_⟩;rw[D];simp[-fC,-jR,xW,rA0,V,c7,Rw.enc]
 ·by_cases W:drw ns p 16<7
  ·refine⟨.put t s,⟨tok,M⟩,λm h=>?_⟩;rw[D];simp[-fC,-jR,xW,vZ,rA1,O,V,W,c7,Rw.enc]
  ·by_cases Z:drw ns p 16<9
   ·obtain⟨r,ro,ix⟩:∃r:Rw,r.ok size/\dJ (.aB [.aC [.str "ask",.str x.w],.aC [.str "say",s.enc]]) (.int (drw ns p 16-7))=aa r.enc:=by
     have c:drw ns p 16=7\/drw ns p 16=8:=by lia
     rcases c with c|c<;>rw[c]
     exact⟨.ask x,trivial,rfl⟩;exact⟨.say s,M,rfl⟩
    refine⟨r,ro,λm h=>?_⟩;rw[D];simp[-fC,xW,vZ,zC,rA2,V,W,Z,ix,c7]
   ·by_cases d:drw ns p 16<12
    ·obtain⟨r,ro,ix⟩:∃r:Rw,r.ok size/\dJ (.aB [.aC [.str "jump",.int B],.aC [.str "unless",s.enc,.int B],.aC [.str "unless",.aC [.str "name",.str x.w],.int B]]) (.int (drw ns p 16-9))=aa r.enc:=by
      have c:drw ns p 16=9\/drw ns p 16=10\/drw ns p 16=11:=by lia
      rcases c with c|c|c<;>rw[c]
      exact⟨.jump B,J,rfl⟩;exact⟨.unless s B,⟨M,J⟩,rfl⟩;exact⟨.unless (.nam x) B,⟨⟨trivial,by simp[Sm.size]⟩,J⟩,rfl⟩
     refine⟨r,ro,λm h=>?_⟩;rw[D];simp[-fC,xW,vZ,zC,D9,rA3,V,W,Z,d,ix,c7]
    ·obtain⟨u,uo,iu⟩:∃u:Rw,u.ok size/\dJ (.aB [.aC [.str "stop"],.aC [.str "back"]]) (.int ((B:Int)%2))=aa u.enc:=by
      have z:(B:Int)%2=0\/(B:Int)%2=1:=by lia
      rcases z with z|z<;>rw[z]
      exact⟨.stop,trivial,rfl⟩;exact⟨.back,trivial,rfl⟩
     obtain⟨r,ro,ix⟩:∃r:Rw,r.ok size/\dJ (.aB [.aC [.str "call",.int B],.aC [.str "call",.int B],.aC [.str "back"],u.enc]) (.int (drw ns p 16-12))=aa r.enc:=by
      have c:drw ns p 16=12\/drw ns p 16=13\/drw ns p 16=14\/drw ns p 16=15:=by lia
      rcases c with c|c|c|c<;>rw[c]
      exact⟨.call B,J,rfl⟩;exact⟨.call B,J,rfl⟩;exact⟨.back,trivial,rfl⟩;exact⟨u,uo,rfl⟩
     refine⟨r,ro,λm h=>?_⟩;rw[D];simp[-fC,xW,vZ,zC,D9,Ja,V,W,Z,d,iu,ix,c7]
def comp_map(f:List D->HH->Option (Option D×HH))(g:D->D):∀(ds:List D)(h:HH),(∀d∈ds,∀h,f [d] h=aa (aa (g d),h))->dN f 1 ds h=aa (ds.map g,h):=by
 intro ds
 induction ds with
 |nil=>intro h _;rfl
 |cons d r B =>
  intro h q;have e1:=q d UH h;have e2:=B h λx J=>q x (UC _ J);rw[dN,gi];simp[e1,e2]
def v7(h:d∈upto 0 n):∃k:Nat,k<n/\d=.int k:=by simp[upto]at h;obtain⟨k,q,e⟩:=h;exact⟨k,q,e.symm⟩
def v8(n:Nat)(g:D->D):(upto 0 n).map g=(UZ n).map λ(k:Nat)=>g (.int k):=by simp[upto,Function.comp_def]
def Hz:E:=.y (.aB ai (cT (.j (.int 0)) (.j (.int 1)) (.j (.int 5)) (.j (.int 10006)))) (.call "_law_drawn" (cU (.v 1) (.bin .add (.bin .add (.v 2) (.j (.int 1))) (.v 0)) (.j (.int 4))))
theorem oh:iz=⟨["_law_script","_law_at"],["_law_script","_law_at"],.ret (.comp ai .rng1 (.cons (.call "_law_drawn" (.cons (.v 0) (.cons (.v 1) (.cons (.j (.int 4)) .nil)))) .nil) ["_law_k"] [(0,"_law_script"),(1,"_law_at")] .nil Hz)⟩:=rfl
def A3(L:Lw T)(ns:List Int)(Z:ns.length<=1000)(p:Int):∃aG:List Int,Ask aG/\aG.length<=3/\∀(m:Nat)(h:HH),
 runN T G (m+3) "_law_asked" [.p (.aB (cY ns)),.p (.int p)] h=aa (.p (.aB (cY aG)),h):=by
 have V:=λm q many (Y:0<many)=>f7 (G:=G) L m ns Z q many Y;have M:∀i:Int,0<=i->i<4->∃n:Int,Wth n/\dJ (.aB [.int 0,.int 1,.int 5,.int 10006]) (.int i)=aa (.int n):=by
  intro i t s;have:i=0\/i=1\/i=2\/i=3:=by lia
  rcases this with rfl|rfl|rfl|rfl
  exact⟨0,⟨by decide,by decide⟩,rfl⟩;exact⟨1,⟨by decide,by decide⟩,rfl⟩;exact⟨5,⟨by decide,by decide⟩,rfl⟩;exact⟨10006,⟨by decide,by decide⟩,rfl⟩
 have c:∀k:Nat,∃n:Int,Wth n/\dJ (.aB [.int 0,.int 1,.int 5,.int 10006]) (.int (drw ns (p+1+k) 4))=aa (.int n):=λk =>
  M _ (fV _ _ (by decide)) (fW _ _ (by decide))
 obtain⟨g,U⟩:=Y3 c;have o:=fV ns p (many:=4) (by decide);have l:=fW ns p (many:=4) (by decide);refine⟨(UZ (drw ns p 4).toNat).map g,?_,by simp;lia,λm h=>?_⟩
 ·intro x O;simp at O;obtain⟨k,_,rfl⟩:=O;exact(U k).1
 ·rw[run_eq L.aG rfl,oh];have f:drw ns p 4<=100000:=by lia
  have j:-100000<=drw ns p 4:=by lia
  have a:∀(k:Nat)(h:HH),ev (runN T G (m+2)) G Hz [aa (.p (.int k)),aa (.p (.aB (cY ns))),aa (.p (.int p))] h=aa (.p (.int (g k)),h):=λk h=>by have e:=(U k).2;simp[-fC,Hz,V,e]
  have J:=comp_map (eV (λ_ h=>aa ([],h)) (ev (runN T G (m+2)) G Hz) [aa (.p (.aB (cY ns))),aa (.p (.int p))]) (λd=>match d with | .int k=>.int (g k.toNat)|_=>.aD) (upto 0 (drw ns p 4).toNat) h (by
   intro d b h;obtain ⟨k,r,rfl⟩:=v7 b;simp[eZ,a])
  have W:(drw ns p 4).toNat<=100000:=by lia
  rw[v8]at J;have B:(UZ (drw ns p 4).toNat).map (λ(k:Nat)=>match D.int (k:Int)with|.int k=>D.int (g k.toNat)|_=>.aD)=cY ((UZ (drw ns p 4).toNat).map g):=by simp[cY,Function.comp_def]
  rw[B]at J;simp[V,j,f,J,j7,W,c7,iS]
def Ea:E:=.call "_law_row" (cU (.v 1) (.bin .add (.bin .add (.v 2) (.j (.int 10))) (.bin .mul (.j (.int 40)) (.v 0))) (.v 3))
structure Drawn(p:Pg):Prop where
 ok:Pg.ok p
 lo:1<=p.length
 hi:p.length<=9
def j8(n:Int)(o:Op):Pg:=[.ask .a,.call 4,.say (.nam .a),.jump 0,.put (.nam .a) (.num n),.call 7,.back,.set .b (.two o (.nam .b) (.nam .a)),.back]
def ux(n:Int)(o:Op)(h:Wth n):Drawn (j8 n o):=by refine⟨?_,by simp[j8],by simp[j8]⟩;intro r q;simp only[j8,Xb,WE,or_false]at q;rcases q with rfl|rfl|rfl|rfl|rfl|rfl|rfl|rfl|rfl<;>simp[Rw.ok,j8,jb,Sm.ok,Sm.size,h]
def qt(L:Lw T)
(ns:List Int)(M:ns.length<=1000)(p:Int)
(D:∀ (m:Nat) (h:HH) (n:Int) (o:Op),drw ns (p+1) 4=0->n=drw ns (p+2) 9->dJ (.aB [.str "add",.str "sub"]) (.int (drw ns (p+3) 2))=aa (.str o.w) →
  (∀m q many,0<many->∀h,runN T G (m+2) "_law_drawn" [.p (.aB (cY ns)),.p (.int q),.p (.int many)] h=aa (.p (.int (drw ns q many)),h)) →
  runN T G (m+7) "_law_program" [.p (.aB (cY ns)),.p (.int p)] h=aa (.p (gB (j8 n o)),h))
(B:∀ (m:Nat) (h:HH) (pg:Pg),drw ns (p+1) 4≠0->pg.length=(1+drw ns p 9).toNat →
  (∀m q many,0<many->∀h,runN T G (m+2) "_law_drawn" [.p (.aB (cY ns)),.p (.int q),.p (.int many)] h=aa (.p (.int (drw ns q many)),h)) →
  (∀h,dN (eV (λ_ h=>aa ([],h)) (ev (runN T G (m+6)) G Ea) [aa (.p (.aB (cY ns))),aa (.p (.int p)),aa (.p (.int (1+drw ns p 9)))]) 1 (upto 0 (1+drw ns p 9).toNat) h=aa (pg.map Rw.enc,h)) →
  runN T G (m+7) "_law_program" [.p (.aB (cY ns)),.p (.int p)] h=aa (.p (gB pg),h)):
 ∃pg:Pg,Drawn pg/\∀(m:Nat)(h:HH),runN T G (m+7) "_law_program" [.p (.aB (cY ns)),.p (.int p)] h=aa (.p (gB pg),h):=by
 have U:=λm q many (W:0<many)=>f7 (G:=G) L m ns M q many W
 by_cases c:drw ns (p+1) 4=0
 ·have i:=fV ns (p+3) (many:=2) (by decide);have f:=fW ns (p+3) (many:=2) (by decide);have s:=fV ns (p+2) (many:=9) (by decide);have e1:=fW ns (p+2) (many:=9) (by decide);have z:drw ns (p+3) 2=0\/drw ns (p+3) 2=1:=by lia
  have:∃o:Op,dJ (.aB [.str "add",.str "sub"]) (.int (drw ns (p+3) 2))=aa (.str o.w):=by
   rcases z with z|z<;>rw[z]
   exact⟨.add,rfl⟩;exact⟨.sub,rfl⟩
  obtain⟨o,a⟩:=this;exact⟨j8 (drw ns (p+2) 9) o,ux _ _ ⟨by lia,by lia⟩,λm h=>D m h _ o c rfl a U⟩
 ·have i:=fV ns p (many:=9) (by decide);have f:=fW ns p (many:=9) (by decide);obtain⟨sz,hsz⟩:∃sz:Nat,1+drw ns p 9=(sz:Int):=⟨(1+drw ns p 9).toNat,by lia⟩;have j:∀k:Nat,∃r:Rw,r.ok sz/\∀(m:Nat)(h:HH),runN T G (m+6) "_law_row" [.p (.aB (cY ns)),.p (.int (p+10+40*(k:Int))),.p (.int sz)] h=aa (.p r.enc,h) :=
   λk=>Hy L ns M _ sz
  obtain⟨g,O⟩:=Y3 j;refine⟨(UZ sz).map g,⟨?_,by simp;lia,by simp;lia⟩,λm h=>B m h _ c (by simp;lia) U λh=>?_⟩
  ·intro r J;simp at J;obtain⟨k,_,rfl⟩:=J;simpa using (O k).1
  ·rw[hsz];have b:big 40=ah:=by decide
   have Y:∀(k:Nat)(h:HH),ev (runN T G (m+6)) G Ea [aa (.p (.int k)),aa (.p (.aB (cY ns))),aa (.p (.int p)),aa (.p (.int sz))] h=aa (.p (g k).enc,h):=λk h=>by have e:=(O k).2;simp[Ea,e,b]
   have V:=comp_map (eV (λ_ h=>aa ([],h)) (ev (runN T G (m+6)) G Ea) [aa (.p (.aB (cY ns))),aa (.p (.int p)),aa (.p (.int sz))]) (λd=>match d with | .int k=>(g k.toNat).enc|_=>.aD) (upto 0 sz) h (by
    intro d Z h;obtain ⟨k,l,rfl⟩:=v7 Z;simp[eZ,Y])
   rw[v8]at V;simp only[VS,Xk];rw[V];rfl
end
section
def prB:S:=(.ret (.bi .tuple ai (cW (.comp ai .rng1 (cW (.v 2)) ["_law_k"] [(0,"_law_script"),(1,"_law_at"),(2,"_law_size")] .nil Ea))))
mutual
theorem qu:∀d:D,eqv d d=ah
 |.aD=>rfl
 |.bl b=>by simp
 |.int i=>by simp
 |.str x=>by simp
 |.aC q=>by simp[kN q]
 |.aB q=>by simp[kN q]
theorem kN:∀ds:List D,qP ds ds=ah
 |[]=>rfl
 |d::r=>by simp[qu d,kN r]
end
def mH(n:Nat)(xs:List Int):(cY xs).all (dok n)=ah:=by simp[cY,VN]
def qv(n:Nat)(xs:List Nat):(cZ xs).all (dok n)=ah:=by simp[cZ,VN]
def ne_self(h:dok 100 x=ah):gA .ne x x=aa ai:=by rw[kE,bJ (mX h),qu];rfl
@[simp]theorem LJ(ds:List D):qP ds ds=ah:=kN ds
@[simp]theorem MQ(d:D):eqv d d=ah:=qu d
@[simp]theorem MR(x:D)(xs:List Int):dZ x (.aC (cY xs))=ah:=mX (mH 99 xs)
@[simp]theorem MS(x:D)(xs:List Nat):dZ x (.aC (cZ xs))=ah:=mX (qv 99 xs)
@[simp]theorem O4(x:D)(xs ys:List Int):dZ x (.aC [.aC (cY xs),.aC (cY ys)])=ah:=mX (by simp[mH])
def Eb(xs ys:List Int):gA .ne (.aC [.aC (cY xs),.aC (cY ys)]) (.aC [.aC (cY xs),.aC (cY ys)])=aa ai:=ne_self (by simp[mH])
end
section
variable{T:FK->Option Fn}{G:ay->Option W}
def O5:S:=(.seq (.set 3 (.aC (cU (.j (.str "put")) (.aC (cV (.j (.str "name")) (.j (.str "a")))) (.aC (cV (.j (.str "num")) (.call "_law_drawn" (cU (.v 0) (.bin .add (.v 1) (.j (.int 2))) (.j (.int 9))))))))) (.seq (.set 4 (.y (.aB ai (cV (.j (.str "add")) (.j (.str "sub")))) (.call "_law_drawn" (cU (.v 0) (.bin .add (.v 1) (.j (.int 3))) (.j (.int 2)))))) (.seq (.set 5 (.aC (cS (.aC (cV (.j (.str "ask")) (.j (.str "a")))) (.aC (cV (.j (.str "call")) (.j (.int 4)))) (.aC (cV (.j (.str "say")) (.aC (cV (.j (.str "name")) (.j (.str "a")))))) (.aC (cV (.j (.str "jump")) (.j (.int 0)))) (.v 3)))) (.ret (.bin .add (.v 5) (.aC (cT (.aC (cV (.j (.str "call")) (.j (.int 7)))) (.aC (cW (.j (.str "back")))) (.aC (cU (.j (.str "set")) (.j (.str "b")) (.aC (cU (.v 4) (.aC (cV (.j (.str "name")) (.j (.str "b")))) (.aC (cV (.j (.str "name")) (.j (.str "a")))))))) (.aC (cW (.j (.str "back")))))))))))
def dY:Fn:=⟨["_law_script","_law_at"],["_law_script","_law_at","_law_size","_law_put_here","_law_sign","_law_rows"], (.seq (.set 2 (.bin .add (.j (.int 1)) (.call "_law_drawn" (cU (.v 0) (.v 1) (.j (.int 9)))))) (.seq (.v (.z .eq (.call "_law_drawn" (cU (.v 0) (.bin .add (.v 1) (.j (.int 1))) (.j (.int 4)))) (.j (.int 0))) O5 .nil) prB))⟩
def uy(L:Lw T)(M:T "_law_program"=aa dY)(ns:List Int)(O:ns.length<=1000)(p:Int):
 ∃pg:Pg,Drawn pg/\∀(m:Nat)(h:HH),runN T G (m+7) "_law_program" [.p (.aB (cY ns)),.p (.int p)] h=aa (.p (gB pg),h):=by
 refine qt L ns O p (λm h n o c V U D=>?_) (λm h pg c b D W=>?_)
 ·rw[run_eq M rfl];have d:=λq many B h=>D (m+4) q many B h;rw[dY];simp[-fC,O5,d,c,U,c7,gB,j8,Rw.enc,Sm.enc,←V,Nm.w]
 ·rw[run_eq M rfl];have d:=λq many B h=>D (m+4) q many B h;have f:=fV ns p (many:=9) (by decide);have e:=fW ns p (many:=9) (by decide);have a:-100000<=1+drw ns p 9:=by lia
  have Z:1+drw ns p 9<=100000:=by lia
  have Y:pg.length<=100000:=by lia
  have J:=W h;rw[dY];simp[-eV,prB,d,c,a,Z,Y,J,c7,gB,iS]
end
section
variable{T:FK->Option Fn}{G:ay->Option W}
def xX(x:Nm):WB (UN "abcdef") (UN x.w) 0 (UN "abcdef").length 1=[x.ix]:=by cases x<;>decide +kernel
def qZ(x:Nm):meD .sindex (.str "abcdef") [.str x.w]=aa (.int x.ix):=by have o:=xX x;rw[Ci,o]
def ix0(a:D)(r:List D):dJ (.aC (a::r)) (.int 0)=aa a:=by simp
def ix1(a b:D)(r:List D):dJ (.aC (a::b::r)) (.int 1)=aa b:=by
 have:(1:Int)<(r.length:Int)+1+1:=by lia
 simp[this]
@[simp]theorem SD(st:St):mW st.enc (aa 1) (aa 3)=aa (.aC [.aC (cY st.names),.aC (cY st.cells)]):=rfl
end
def itr(p:Pg)(aG:List Int):Nat->St
 |0=>St.zero|n+1=>step p aG (itr p aG n)
structure Run(p:Pg)(aG:List Int)(most e:Nat):Prop where
 le:e<=most
 on:∀i,i<e->over p (itr p aG i)=ai
 last:e=most\/over p (itr p aG e)=ah
theorem Ec(p:Pg)(aG:List Int):∀(r j:Nat),∃e,e<=r/\sts p aG r (itr p aG j)=(UZ (e+1)).map (λi=>itr p aG (j+i))/\(∀i,i<e->over p (itr p aG (j+i))=ai)/\(e=r\/over p (itr p aG (j+e))=ah)
 |0,j=>⟨0,UE _,rfl,λi q=>bL q (Zl _),.inl rfl⟩
 |r+1,j=>by
  rw[sts]
  by_cases c:over p (itr p aG j)=ah
  ·rw[bJ c];exact⟨0,Vx _,rfl,λi q=>bL q (Zl _),.inr c⟩
  ·rw[bK c];obtain⟨e,M,J,D,B⟩:=Ec p aG r (j+1);have L:over p (itr p aG j)=ai:=by simpa using c
   refine⟨e+1,by lia,?_,λi q=>?_,?_⟩
   ·show itr p aG j::sts p aG r (itr p aG (j+1))=_;rw[J,WY (n:=e+1),UQ,Xk];congr 1;apply VU;intro i _;show itr p aG (j+1+i)=itr p aG (j+(i+1));congr 1;lia
   ·cases i with
    |zero=>exact L
    |succ i =>
     have:=D i (by lia);rw[show j+(i+1)=j+1+i by lia];exact this
   ·rcases B with B|B
    exact .inl (by lia);exact .inr (by rw[show j+(e+1)=j+1+e by lia];exact B)
def HA(p:Pg)(aG:List Int)(q:Nat):∃e,Run p aG q e/\sts p aG q St.zero=(UZ (e+1)).map (itr p aG):=by obtain⟨e,M,L,J,D⟩:=Ec p aG q 0;refine⟨e,⟨M,λi B=>by have:=J i B;simpa using this,by simpa using D⟩,?_⟩;have:sts p aG q St.zero=sts p aG q (itr p aG 0):=rfl;rw[this,L];apply VU;intro i _;simp
theorem iQ(q:Pg.ok p)(B:Ask aG)(R:Run p aG most e):∀i,i<=e->At i (itr p aG i)
 |0,_=>Hw|i+1,h=>zx q B (iQ q B R i (by lia)) (R.on i (by lia))
structure Tp where
 p:Pg
 aG:List Int
 aK:Nat
 most:Nat
 aH:List St
 far:Nat
 aI:St
 now:Nat
def Tp.fs(t:Tp)(r:Nat):List (ay×W):=[("program",.p (gB t.p)),("asked",.p (.aB (cY t.aG))),("gap",.p (.int t.aK)),("most",.p (.int t.most)),("kept",.r r),("farthest",.p (.int t.far)),("front",.p t.aI.enc),("now",.p (.int t.now))]
section
variable(t:Tp)(r:Nat)
@[simp]theorem LK:eN "program" (t.fs r)=aa (.p (gB t.p)):=by simp[Tp.fs]
@[simp]theorem O6:eN "asked" (t.fs r)=aa (.p (.aB (cY t.aG))):=by simp[Tp.fs]
@[simp]theorem SE:eN "gap" (t.fs r)=aa (.p (.int t.aK)):=by simp[Tp.fs]
@[simp]theorem QB:eN "most" (t.fs r)=aa (.p (.int t.most)):=by simp[Tp.fs]
@[simp]theorem HB:eN "kept" (t.fs r)=aa (.r r):=by simp[Tp.fs]
@[simp]theorem SG:eN "farthest" (t.fs r)=aa (.p (.int t.far)):=by simp[Tp.fs]
@[simp]theorem O7:eN "front" (t.fs r)=aa (.p t.aI.enc):=by simp[Tp.fs]
@[simp]theorem SH:eN "now" (t.fs r)=aa (.p (.int t.now)):=by simp[Tp.fs]
@[simp]theorem SI:(t.fs r).length=8:=rfl
def HC(v:Nat):eH "gap" (.p (.int v)) (t.fs r)=({t with aK:=v}:Tp).fs r:=by simp[Tp.fs]
def Ed(q:Nat):eH "kept" (.r q) (t.fs r)=t.fs q:=by simp[Tp.fs]
def HD(v:Nat):eH "farthest" (.p (.int v)) (t.fs r)=({t with far:=v}:Tp).fs r:=by simp[Tp.fs]
def A4(v:St):eH "front" (.p v.enc) (t.fs r)=({t with aI:=v}:Tp).fs r:=by simp[Tp.fs]
def iA(h:(["program","asked","gap","most","kept","farthest","front","now"]:List String).contains m=ai):eN m (t.fs r)=af:=by simp only[List.contains_cons,List.contains_nil,Ys,Bool.or_eq_false_iff,beq_eq_false_iff_ne,ne_eq]at h;obtain⟨U,O,M,L,J,D,B,q⟩:=h;simp[Tp.fs,U,O,M,L,J,D,B,q]
end
structure TAt(h:HH)(n r:Nat)(t:Tp):Prop where
 ob:oat h n=aa (UN "Tape",t.fs r)
 li:lat h r=aa (t.aH.map St.enc)
def qw(e:oat h n=aa q):n<h.length:=by
 unfold oat at e;rcases UX n h.length with z|z
 exact z;rw[UO z]at e;exact gy e
def xY(e:lat h n=aa q):n<h.length:=by
 unfold lat at e;rcases UX n h.length with z|z
 exact z;rw[UO z]at e;exact gy e
def Jb(e:oat h n=aa q)(e':lat h r=aa xs):n≠r:=by
 rintro rfl
 unfold oat at e;unfold lat at e';cases g:h[n]? with
 |none=>rw[g]at e;exact gy e|some c=>rw[g]at e e';cases c<;>simp at e e'
def mJ{h:HH}{n:Nat}(hn:n<h.length)(c:Cl):oat (h.set n c) n=o8 c:=by unfold oat;rw[Vj hn];rfl
def xZ(hn:i≠n)(c:Cl):oat (h.set n c) i=oat h i:=by unfold oat;rw[U7 (Vu hn)]
def Ef{h:HH}{n:Nat}(hn:n<h.length)(c:Cl):lat (h.set n c) n=nY c:=by unfold lat;rw[Vj hn];rfl
def qx(hn:i≠n)(c:Cl):lat (h.set n c) i=lat h i:=by unfold lat;rw[U7 (Vu hn)]
def LM(e:h'[i]?=h[i]?):lat h' i=lat h i:=by unfold lat;rw[e]
def Eg(e:h'[i]?=h[i]?):oat h' i=oat h i:=by unfold oat;rw[e]
def HE(hi:i<h.length):lat (h++g) i=lat h i:=LM (UD hi)
def zD(hi:i<h.length):oat (h++g) i=oat h i:=Eg (UD hi)
structure Go(n:Nat)(h:HH)(r:Nat)(t:Tp)(h':HH)(r':Nat)(t':Tp):Prop where
 a:TAt h n r t
 b:TAt h' n r' t'
 len:(h'.length=h.length/\r'=r)\/(h.length<=r')
 le:h.length<=h'.length
 fr:∀i,i≠n->i≠r->i<h.length->h'[i]?=h[i]?
def Go.refl(a:TAt h n r t):Go n h r t h r t:=⟨a,a,.inl ⟨rfl,rfl⟩,UE _,λ_ _ _ _=>rfl⟩
def Go.trans(x:Go n h r t h1 r1 t1)(y:Go n h1 r1 t1 h2 r2 t2):Go n h r t h2 r2 t2:=by
 refine⟨x.a,y.b,?_,U3 x.le y.le,λi h1 h2 L=>?_⟩
 ·rcases x.len with⟨B,D⟩|B
  ·rcases y.len with⟨q,J⟩|q
   exact .inl ⟨q.trans B,J.trans D⟩;exact .inr (by lia)
  ·rcases y.len with⟨q,J⟩|q
   exact .inr (by lia);exact .inr (by have:=x.le;lia)
 ·have:i≠r1:=by
   rcases x.len with⟨B,D⟩|B
   rw[D];exact h2;lia
  rw[y.fr i h1 this (by have:=x.le;lia)];exact x.fr i h1 h2 L
def fX(x:Go n h r t h' r' t')(w:W):fin h w h'=aa (w,h'):=by
 unfold fin
 by_cases c:h'.length=h.length
 rw[bJ c]
 ·rw[bK c];rw[bK];intro z;rcases x.len with⟨B,J⟩|B
  exact c B
  ·have hn:=qw x.a.ob;have e:h'[n]?=h[n]?:=by have q:=WM (l:=h') hn;rw[z]at q;exact q.symm
   have e2:oat h' n=oat h n:=Eg e;rw[x.a.ob,x.b.ob]at e2;have D:=bR (λq:Option (ay×List (ay×W))=>q.bind λy=>eN "kept" y.2) e2;simp only[VA,HB,Wc,W.r.injEq]at D;have:=xY x.a.li;lia
def iZ:Fn:=⟨["thing"],["thing"], (.ret (.and (.bi .isInt ai (cW (.v 0))) (.not (.bi .isBool ai (cW (.v 0))))))⟩
def iB:Fn:=⟨["self","program","asked","every","most"],["self","program","asked","every","most"], (.seq (.setf (.v 0) "program" (.v 1)) (.seq (.setf (.v 0) "asked" (.bi .list ai (cW (.v 2)))) (.seq (.setf (.v 0) "gap" (.bi .max2 ai (cV (.v 3) (.j (.int 1))))) (.seq (.setf (.v 0) "most" (.bi .max2 ai (cV (.v 4) (.j (.int 0))))) (.seq (.setf (.v 0) "kept" (.aB ah (cW (.call "begun" .nil)))) (.seq (.setf (.v 0) "farthest" (.j (.int 0))) (.seq (.setf (.v 0) "front" (.call "begun" .nil)) (.setf (.v 0) "now" (.j (.int 0))))))))))⟩
def jF:Fn:=⟨["self","moment"],["self","moment","state","step"], (.seq (.ex (.aF (.v 0) "check" (cW (.v 1)))) (.seq (.set 2 (.y (.i (.v 0) "kept") (.bin .fdiv (.v 1) (.i (.v 0) "gap")))) (.seq (.for [(3,"step")] .rng1 (cW (.bin .mod (.v 1) (.i (.v 0) "gap"))) (.set 2 (.aF (.v 0) "behind" (cW (.v 2))))) (.ret (.v 2)))))⟩
def i6:Fn:=⟨["self"],["self"], (.seq (.ex (.aF (.v 0) "reach" (cW (.i (.v 0) "most")))) (.ret (.i (.v 0) "farthest")))⟩
def gq:Fn:=⟨["self","state"],["self","state"], (.ret (.call "stepped" (cU (.i (.v 0) "program") (.i (.v 0) "asked") (.v 1))))⟩
def eW:Fn:=⟨["self","moment","state"],["self","moment","state"], (.ret (.or (.z .ge (.v 1) (.i (.v 0) "most")) (.call "is_over" (cV (.i (.v 0) "program") (.v 2)))))⟩
def gr:Fn:=⟨["self","state"],["self","state"], (.seq (.ex (.me .append (.i (.v 0) "kept") (cW (.v 1)))) (.v (.z .gt (.bi .len ai (cW (.i (.v 0) "kept"))) (.aE "MOST_MARKS")) (.seq (.setf (.v 0) "kept" (.stp ah 2 (.i (.v 0) "kept"))) (.augf (.v 0) "gap" .mul (.j (.int 2)))) .nil))⟩
def gI:Fn:=⟨["self","moment"],["self","moment"], (.j (.and (.z .lt (.i (.v 0) "farthest") (.v 1)) (.not (.aF (.v 0) "is_last" (cV (.i (.v 0) "farthest") (.i (.v 0) "front"))))) (.seq (.setf (.v 0) "front" (.aF (.v 0) "behind" (cW (.i (.v 0) "front")))) (.seq (.augf (.v 0) "farthest" .add (.j (.int 1))) (.v (.z .eq (.bin .mod (.i (.v 0) "farthest") (.i (.v 0) "gap")) (.j (.int 0))) (.ex (.aF (.v 0) "keep" (cW (.i (.v 0) "front")))) .nil))))⟩
def gW:Fn:=⟨["self","moment"],["self","moment"], (.seq (.v (.or (.not (.call "is_whole" (cW (.v 1)))) (.or (.z .lt (.v 1) (.j (.int 0))) (.z .gt (.v 1) (.i (.v 0) "most")))) (.ret (.j (.bl ai))) .nil) (.seq (.ex (.aF (.v 0) "reach" (cW (.v 1)))) (.ret (.z .le (.v 1) (.i (.v 0) "farthest")))))⟩
def fK:Fn:=⟨["self","moment"],["self","moment"], (.v (.not (.aF (.v 0) "has" (cW (.v 1)))) .bad .nil)⟩
structure TpP(T:FK->Option Fn)(G:ay->Option W):Prop where
 prg:Prg T G
 is_whole:T "is_whole"=aa iZ
 init:T (.m "Tape" "__init__")=aa iB
 behind:T (.m "Tape" "behind")=aa gq
 is_last:T (.m "Tape" "is_last")=aa eW
 keep:T (.m "Tape" "keep")=aa gr
 reach:T (.m "Tape" "reach")=aa gI
 has:T (.m "Tape" "has")=aa gW
 check:T (.m "Tape" "check")=aa fK
 at_:T (.m "Tape" "at")=aa jF
 MOST_MARKS:G "MOST_MARKS"=aa (.p (.int 8))
section
def mK(P:TpP T G)(k:Nat)(i:Int)(h:HH):runN T G (k+1) "is_whole" [.p (.int i)] h=aa (.p (.bl ah),h):=by rw[run_eq P.is_whole rfl];simp[iZ,c7]
def jG(P:TpP T G)(k:Nat)(a:TAt h n r t)(B:Pg.ok t.p){st:St}(D:j<=5000)(q:At j st)(J:over t.p st=ai):runN T G (k+7) (.m "Tape" "behind") [.o n,.p st.enc] h=aa (.p (step t.p t.aG st).enc,h):=by rw[run_eq P.behind rfl];have s:=vY P.prg k t.p B t.aG st q.ok (q.small D) J;simp[gq,a.ob,s,c7]
def v9(P:TpP T G)(k:Nat)(a:TAt h n r t)(q:Nat)(st:St):runN T G (k+2) (.m "Tape" "is_last") [.o n,.p (.int q),.p st.enc] h=aa (.p (.bl (decide (t.most<=q)||over t.p st)),h):=by
 rw[run_eq P.is_last rfl];have o:=vW P.prg k t.p st
 by_cases c:t.most<=q
 ·have B:(t.most:Int)<=(q:Int):=by lia
  simp[eW,a.ob,c,B,c7]
 ·have B:¬(t.most:Int)<=(q:Int):=by lia
  simp[eW,a.ob,o,c,B,c7]
def Eh:XN (Vc af af (aa 2) 9).1 (Vc af af (aa 2) 9).2.1 (Vc af af (aa 2) 9).2.2=[0,2,4,6,8]:=by decide +kernel
def LN(M W L V J U B O q:D):pM 2 [M,W,L,V,J,U,B,O,q]=[M,L,J,B,q]:=by show(XN (Vc af af (aa 2) 9).1 (Vc af af (aa 2) 9).2.1 (Vc af af (aa 2) 9).2.2).filterMap _=_;rw[Eh];rfl
noncomputable def Tp.keep(t:Tp)(st:St):Tp:=if t.aH.length<8 then {t with aH:=t.aH++[st]}else {t with aH:=(UZ 5).filterMap λi=>(t.aH++[st])[2*i]?,aK:=2*t.aK}
def Ei(P:TpP T G)(k:Nat)(a:TAt h n r t)(I:t.aK<=100000)(H:t.aH.length<=8)(st:St):
 ∃h' v,runN T G (k+1) (.m "Tape" "keep") [.o n,.p st.enc] h=aa (.p .aD,h')/\Go n h r t h' v (t.keep st):=by
 have z:=Jb a.ob a.li;have hn:=qw a.ob;have A:=xY a.li;have e1:lat (h.set r (Cl.l (t.aH.map St.enc++[st.enc]))) r=aa (t.aH.map St.enc++[st.enc]):=Ef A _;have e2:oat (h.set r (Cl.l (t.aH.map St.enc++[st.enc]))) n=aa (UN "Tape",t.fs r):=(xZ z _).trans a.ob;have b:t.aH.length<100000:=by lia
 by_cases c:t.aH.length<8
 ·have Z:¬(8:Int)<(t.aH.length:Int)+1:=by lia
  have B:Go n h r t (h.set r (Cl.l (t.aH.map St.enc++[st.enc]))) r (t.keep st):=by refine⟨a,⟨?_,?_⟩,.inl ⟨by simp,rfl⟩,by simp,λi e Y d=>U7 (Vu Y)⟩;rw[Tp.keep,bJ c];exact e2;rw[Tp.keep,bJ c,e1];simp
  refine⟨_,r,?_,B⟩;rw[run_eq P.keep rfl];have f:=fX B (.p .aD);simp[gr,a.ob,a.li,e1,e2,P.MOST_MARKS,rd,Z,b,f]
 ·have E:t.aH.length=8:=by lia
  obtain⟨W,V,U,O,M,L,J,D,ek⟩:∃W V U O M L J D,t.aH=[W,V,U,O,M,L,J,D]:=by
   match t.aH,E with
   |[W,V,U,O,M,L,J,D],_=>exact⟨W,V,U,O,M,L,J,D,rfl⟩
  have ev:pM 2 (t.aH.map St.enc++[st.enc])=((t.keep st).aH).map St.enc:=by rw[Tp.keep,bK c,ek];exact LN _ _ _ _ _ _ _ _ _
  have Z:(8:Int)<(t.aH.length:Int)+1:=by lia
  have C:∀g:HH,oat ((h.set r (Cl.l (t.aH.map St.enc++[st.enc])))++g) n=aa (UN "Tape",t.fs r):=λg=>(zD (by simpa using hn)).trans e2;have s:(h.set r (Cl.l (t.aH.map St.enc++[st.enc]))).length=h.length:=by simp
  have F:big (t.aK:Int)=ah:=by unfold big;exact bO (by lia)
  have B:Go n h r t ((h.set r (Cl.l (t.aH.map St.enc++[st.enc]))++[Cl.l ((t.keep st).aH.map St.enc)]).set n (.o "Tape" ((t.keep st).fs h.length))) h.length (t.keep st):=by
   have q:n<(h.set r (Cl.l (t.aH.map St.enc++[st.enc]))++[Cl.l ((t.keep st).aH.map St.enc)]).length:=by simp;lia
   refine⟨a,⟨mJ q _,?_⟩,.inr (UE _),by simp,λi e Y d=>?_⟩
   ·rw[qx (Vu (U0 hn))];have:=SC (h.set r (Cl.l (t.aH.map St.enc++[st.enc]))) (Cl.l ((t.keep st).aH.map St.enc)) [];rw[s]at this;exact this
   rw[U7 (Vu e),UD (by simpa using d),U7 (Vu Y)]
  refine⟨_,_,?_,B⟩;rw[run_eq P.keep rfl];have f:=fX B (.p .aD);have k2:(t.keep st).fs h.length=({t with aK:=2*t.aK}:Tp).fs h.length:=by rw[Tp.keep,bK c];rfl
  have w:eH "gap" (.p (.int ((t.aK:Int)*2))) (t.fs h.length)=(t.keep st).fs h.length:=by rw[k2,←HC t h.length (2*t.aK)];congr 3;show(t.aK:Int)*2=((2*t.aK:Nat):Int);lia
  have q:n<(h.set r (Cl.l (t.aH.map St.enc++[st.enc]))++[Cl.l ((t.keep st).aH.map St.enc)]).length:=by simp;lia
  have j:=mJ q (.o "Tape" (t.fs h.length));rw[JU]at j;have u:∀x y:Cl,((h.set r (Cl.l (t.aH.map St.enc++[st.enc]))++[Cl.l ((t.keep st).aH.map St.enc)]).set n x).set n y=(h.set r (Cl.l (t.aH.map St.enc++[st.enc]))++[Cl.l ((t.keep st).aH.map St.enc)]).set n y:=λx y=>by rw[Z5]
  simp[gr,a.ob,a.li,e1,e2,C,s,P.MOST_MARKS,rd,Z,b,ev,Ed,j,F,w,u,f]
end
structure TI(t:Tp)(e gv:Nat):Prop where
 run:Run t.p t.aG t.most e
 ok:Pg.ok t.p
 ask:Ask t.aG
 g0:0<t.aK
 g1:t.aK<=1000
 m1:t.most<=1000
 far:t.far<=e
 aI:t.aI=itr t.p t.aG t.far
 len:t.aH.length=t.far/t.aK+1
 l8:t.aH.length<=8
 aH:∀j,j<t.aH.length->t.aH[j]?=aa (itr t.p t.aG (j*t.aK))
 now:t.now<=t.far
 pw:∃j,t.aK=gv*2^j/\(0<j->8<=t.far/(t.aK/2))
structure Sm8(t t':Tp):Prop where
 p:t'.p=t.p
 aG:t'.aG=t.aG
 most:t'.most=t.most
 now:t'.now=t.now
def Sm8.refl(t:Tp):Sm8 t t:=⟨rfl,rfl,rfl,rfl⟩
def Sm8.trans{t u v:Tp}(x:Sm8 t u)(y:Sm8 u v):Sm8 t v:=⟨y.p.trans x.p,y.aG.trans x.aG,y.most.trans x.most,y.now.trans x.now⟩
def Tp.on(t:Tp):Tp:={t with aI:=step t.p t.aG t.aI,far:=t.far+1}
def Tp.nx(t:Tp):Tp:=if(t.far+1)%t.aK=0 then t.on.keep t.on.aI else t.on
def Ej{f g:Nat}(q:0<g)(c:¬(f+1)%g=0):(f+1)/g=f/g:=by
 have J:=Zm f g;have D:f%g<g:=YH _ q;have e:f+1=g*(f/g)+(f%g+1):=by lia
 have B:f%g+1<g:=by
  rcases UX (f%g+1) g with z|z
  exact z
  ·exfalso;apply c;have:f%g+1=g:=by lia
   rw[e,this,Nat.mul_add_mod,Nat.mod_self]
 rw[e,Nat.mul_add_div q,Nat.div_eq_of_lt B];lia
def Ek{f g:Nat}(q:0<g)(c:(f+1)%g=0):(f+1)/g=f/g+1/\(f/g+1)*g=f+1:=by
 have J:=Zm f g;have D:f%g<g:=YH _ q;have B:f%g+1=g:=by
  rcases UX (f%g+1) g with z|z
  ·exfalso;have e:f+1=g*(f/g)+(f%g+1):=by lia
   rw[e,Nat.mul_add_mod,Nat.mod_eq_of_lt z]at c;lia
  lia
 have e:f+1=(f/g+1)*g:=by rw[Nat.add_mul,WN (f/g) g];lia
 exact⟨by rw[e,Yu _ q],e.symm⟩
def TI.nx{t:Tp}{e Y:Nat}(I:TI t e Y)(h:t.far<e):TI t.nx e Y/\Sm8 t t.nx/\t.nx.far=t.far+1:=by
 have g0:=I.g0;have U:step t.p t.aG t.aI=itr t.p t.aG (t.far+1):=by rw[I.aI];rfl
 have mono:∀g:Nat,t.far/g<=(t.far+1)/g:=λg=>aap (VJ _);unfold Tp.nx
 by_cases c:(t.far+1)%t.aK=0
 ·rw[bJ c];obtain⟨l,b⟩:=Ek g0 c;have M:t.on.aI=itr t.p t.aG (t.far+1):=U;have Z:∀j,j<t.aH.length+1->(t.aH++[itr t.p t.aG (t.far+1)])[j]?=aa (itr t.p t.aG (j*t.aK)):=λj B=>by
   rcases UX j t.aH.length with z|z
   rw[UD z];exact I.aH j z
   ·have f:j=t.aH.length:=by lia
    subst f;rw[U4 (UE _),YK];have:t.aH.length*t.aK=t.far+1:=by rw[I.len];exact b
    rw[this];rfl
  unfold Tp.keep
  by_cases d:t.aH.length<8
  ·have J:t.on.aH.length<8:=d;rw[bJ J];refine⟨⟨I.run,I.ok,I.ask,g0,I.g1,I.m1,h,U,?_,?_,λj B=>?_,?_,?_⟩,⟨rfl,rfl,rfl,rfl⟩,rfl⟩
   ·show(t.aH++[t.on.aI]).length=(t.far+1)/t.aK+1;rw[l,UR,I.len];rfl
   ·show(t.aH++[t.on.aI]).length<=8;rw[UR];simp;lia
   ·have D:j<t.aH.length+1:=by
     have:(t.aH++[t.on.aI]).length=t.aH.length+1:=by simp
     rw[←this];exact B
    show(t.aH++[t.on.aI])[j]?=aa (itr t.p t.aG (j*t.aK));rw[M];exact Z j D
   show t.now<=t.far+1;have:=I.now;lia
   ·obtain⟨j,O,V⟩:=I.pw;exact⟨j,O,λB=>U3 (V B) (mono _)⟩
  ·have J:¬t.on.aH.length<8:=d;rw[bK J];have l8:t.aH.length=8:=by have:=I.l8;lia
   have a:t.far+1=8*t.aK:=by rw[←b,←I.len,l8]
   have le:=I.run.le;have m1:=I.m1;have L:∀i,i<5->(t.aH++[itr t.p t.aG (t.far+1)])[2*i]?=aa (itr t.p t.aG (i*(2*t.aK))):=λi m=>by rw[Z (2*i) (by lia)];congr 2;rw[WN 2 i,Nat.mul_assoc]
   have W:(UZ 5).filterMap (λi=>(t.aH++[t.on.aI])[2*i]?)=(UZ 5).map λi=>itr t.p t.aG (i*(2*t.aK)):=by rw[M,show UZ 5=[0,1,2,3,4] from rfl];simp only[U5,List.filterMap_nil,L 0 (by decide),L 1 (by decide),L 2 (by decide),L 3 (by decide),L 4 (by decide),UQ,V2]
   have k:(t.far+1)/(2*t.aK)=4:=by rw[a,show 8*t.aK=4*(2*t.aK) by lia];exact Yu _ (by lia)
   refine⟨⟨I.run,I.ok,I.ask,?_,?_,I.m1,h,U,?_,?_,λj B=>?_,?_,?_⟩,⟨rfl,rfl,rfl,rfl⟩,rfl⟩;show 0<2*t.aK;lia;show 2*t.aK<=1000;lia
   ·show((UZ 5).filterMap λi=>(t.aH++[t.on.aI])[2*i]?).length=(t.far+1)/(2*t.aK)+1;rw[W,k];simp
   ·show((UZ 5).filterMap λi=>(t.aH++[t.on.aI])[2*i]?).length<=8;rw[W];simp
   ·have D:j<5:=by have q:j<((UZ 5).filterMap λi=>(t.aH++[t.on.aI])[2*i]?).length:=B;rw[W]at q;simpa using q
    show((UZ 5).filterMap λi=>(t.aH++[t.on.aI])[2*i]?)[j]?=aa (itr t.p t.aG (j*(2*t.aK)));rw[W,U1,WI D];rfl
   show t.now<=t.far+1;have:=I.now;lia
   ·obtain⟨j,O,V⟩:=I.pw;refine⟨j+1,?_,λ_=>?_⟩
    ·show 2*t.aK=Y*2^(j+1);rw[O,Nat.pow_succ];rw[WN 2,Nat.mul_assoc]
    ·show 8<=(t.far+1)/(2*t.aK/2);rw[Nat.mul_div_cancel_left _ (by lia:0<2),a,Yu _ g0];exact UE _
 ·rw[bK c];refine⟨⟨I.run,I.ok,I.ask,g0,I.g1,I.m1,h,U,?_,I.l8,I.aH,?_,?_⟩,⟨rfl,rfl,rfl,rfl⟩,rfl⟩
  ·show t.aH.length=(t.far+1)/t.aK+1;rw[I.len,Ej g0 c]
  show t.now<=t.far+1;have:=I.now;lia
  ·obtain⟨j,O,V⟩:=I.pw;exact⟨j,O,λB=>U3 (V B) (mono _)⟩
section
variable{T:FK->Option Fn}{G:ay->Option W}
def rcC:E:=(.and (.z .lt (.i (.v 0) "farthest") (.v 1)) (.not (.aF (.v 0) "is_last" (cV (.i (.v 0) "farthest") (.i (.v 0) "front")))))
def rcB:S:=(.seq (.setf (.v 0) "front" (.aF (.v 0) "behind" (cW (.i (.v 0) "front")))) (.seq (.augf (.v 0) "farthest" .add (.j (.int 1))) (.v (.z .eq (.bin .mod (.i (.v 0) "farthest") (.i (.v 0) "gap")) (.j (.int 0))) (.ex (.aF (.v 0) "keep" (cW (.i (.v 0) "front")))) .nil)))
def sf(t:Tp)(r:Nat):eN "is_last" (t.fs r)=af:=iA t r rfl
def mL(t:Tp)(r:Nat):eN "behind" (t.fs r)=af:=iA t r rfl
def LP(t:Tp)(r:Nat):eN "keep" (t.fs r)=af:=iA t r rfl
def uz(t:Tp)(r:Nat):eN "reach" (t.fs r)=af:=iA t r rfl
def Jc(t:Tp)(r:Nat):eN "has" (t.fs r)=af:=iA t r rfl
def uA(t:Tp)(r:Nat):eN "check" (t.fs r)=af:=iA t r rfl
def A5(t:Tp)(r:Nat):eN "at" (t.fs r)=af:=iA t r rfl
def O8(t:Tp)(r:Nat):eN "end" (t.fs r)=af:=iA t r rfl
def O9{n r:Nat}{t:Tp}{h:HH}(a:TAt h n r t)(t':Tp)(k:t'.aH=t.aH):Go n h r t (h.set n (.o "Tape" (t'.fs r))) r t':=by have hn:=qw a.ob;have q:=Jb a.ob a.li;exact⟨a,⟨mJ hn _,by rw[qx (Vu q),k];exact a.li⟩,.inl ⟨by simp,rfl⟩,by simp,λi B _ _=>U7 (Vu B)⟩
def HF(P:TpP T G)(k:Nat){n r:Nat}{t:Tp}{h:HH}{e g:Nat}(a:TAt h n r t)(I:TI t e g)(d:t.far<e)(w:W):
 ∃h' U,evS (runN T G (k+7)) G rcB [aa (.o n),aa w] h=aa (.nx [aa (.o n),aa w] h')/\Go n h r t h' U t.nx:=by
 have hn:=qw a.ob;have J:=iQ I.ok I.ask I.run t.far (by lia);have le:=I.run.le;have m1:=I.m1;have m:=jG P k a I.ok (j:=t.far) (st:=t.aI) (by lia) (by rw[I.aI];exact J) (by rw[I.aI];exact I.run.on _ d);have q:=O9 a t.on rfl;have e1:oat (h.set n (.o "Tape" (({t with aI:=step t.p t.aG t.aI}:Tp).fs r))) n=aa (UN "Tape",({t with aI:=step t.p t.aG t.aI}:Tp).fs r):=mJ hn _;have V:=A4 t r (step t.p t.aG t.aI);have Y:eH "farthest" (.p (.int ((t.far:Int)+1))) (({t with aI:=step t.p t.aG t.aI}:Tp).fs r)=t.on.fs r:=HD ({t with aI:=step t.p t.aG t.aI}:Tp) r (t.far+1);have e2:oat (h.set n (.o "Tape" (t.on.fs r))) n=aa (UN "Tape",t.on.fs r):=mJ hn _;have g0:(0:Int)<(t.aK:Int):=by have:=I.g0;lia
 have M:∀x y:Cl,(h.set n x).set n y=h.set n y:=λx y=>by rw[Z5]
 have of:t.on.far=t.far+1:=rfl;have L:t.on.aK=t.aK:=rfl;have B:evS (runN T G (k+7)) G rcB [aa (.o n),aa w] h=evS (runN T G (k+7)) G (.v (.z .eq (.bin .mod (.i (.v 0) "farthest") (.i (.v 0) "gap")) (.j (.int 0))) (.ex (.aF (.v 0) "keep" (.cons (.i (.v 0) "front") .nil))) .nil) [aa (.o n),aa w] (h.set n (.o "Tape" (t.on.fs r))):=by rw[rcB];simp[a.ob,m,mL,V,e1,Y,M]
 rw[B];unfold Tp.nx;have s:(((t.far+1)%t.aK:Nat):Int)=((t.far:Int)+1)%(t.aK:Int):=by simp
 by_cases c:(t.far+1)%t.aK=0
 ·rw[bJ c];have D:((t.far:Int)+1)%(t.aK:Int)=0:=by lia
  obtain⟨f,O,Z,k2⟩:=Ei P (k+6) q.b (by show t.aK<=100000;have:=I.g1;lia) (by show t.aH.length<=8;exact I.l8) t.on.aI;refine⟨f,O,?_,q.trans k2⟩;simp[e2,of,L,g0,I.g0,D,LP,Z]
 ·rw[bK c];have D:¬((t.far:Int)+1)%(t.aK:Int)=0:=by lia
  refine⟨_,r,?_,q⟩;have l:(((t.far:Int)+1)%(t.aK:Int)==0)=ai:=by simpa using D
  simp[e2,of,L,g0,I.g0,l]
def oO(P:TpP T G)(k:Nat){n r:Nat}{t:Tp}{h:HH}{e J:Nat}(a:TAt h n r t)(I:TI t e J)(m:Nat):
 aN (runN T G (k+7)) G rcC [aa (.o n),aa (.p (.int m))] h=aa (.p (.bl (decide (t.far<min m e))),h):=by
 have B:=v9 P (k+5) a t.far t.aI;have le:=I.run.le
 by_cases c:t.far<m
 ·have D:(t.far:Int)<(m:Int):=by lia
  by_cases M:t.far<e
  ·have o:over t.p t.aI=ai:=by rw[I.aI];exact I.run.on _ M
   have q:(decide (t.most<=t.far)||over t.p t.aI)=ai:=by rw[o,Ys];exact bN (by lia)
   rw[q]at B;have d:decide (t.far<min m e)=ah:=bO (by lia);rw[d];simp[rcC,a.ob,D,c,sf,B]
  ·have L:t.far=e:=by have:=I.far;lia
   have q:(decide (t.most<=t.far)||over t.p t.aI)=ah:=by
    rcases I.run.last with z|z
    rw[bO (by lia)];rfl;rw[I.aI,L,z,Bool.or_true]
   rw[q]at B;have d:decide (t.far<min m e)=ai:=bN (by lia);rw[d];simp[rcC,a.ob,D,c,sf,B]
 ·have D:¬(t.far:Int)<(m:Int):=by lia
  have d:decide (t.far<min m e)=ai:=bN (by lia);rw[d];simp[rcC,a.ob,D,c]
def HG(P:TpP T G)(k:Nat)(n:Nat)(e B m:Nat):∀(d f:Nat)(h:HH)(r:Nat)(t:Tp),TAt h n r t->TI t e B->min m e-t.far<=d->d<=f →
 ∃h' V t',iI (aN (runN T G (k+7)) G rcC) (evS (runN T G (k+7)) G rcB) (f+1) [aa (.o n),aa (.p (.int m))] h=aa (.nx [aa (.o n),aa (.p (.int m))] h')/\Go n h r t h' V t'/\TI t' e B/\Sm8 t t'/\t'.far=max t.far (min m e):=by
 intro d
 induction d with
 |zero =>
  intro f h r t a I Z Y;have q:=oO P k a I m;rw[bN (by lia)]at q;refine⟨h,r,t,?_,.refl a,I,.refl t,by lia⟩;rw[iI,q,pP,tL]
 |succ d W =>
  intro f h r t a I Z Y
  by_cases c:t.far<min m e
  ·have q:=oO P k a I m;rw[bO c]at q;obtain⟨i,U,s,D⟩:=HF P k a I (by lia) (.p (.int m));obtain⟨v,M,x⟩:=I.nx (by lia);cases f with
   |zero=>lia
   |succ f =>
    obtain⟨g,O,J,l,j,u,L,w⟩:=W f i U t.nx D.b v (by lia) (by lia);refine⟨g,O,J,?_,D.trans j,u,M.trans L,by lia⟩;rw[iI,q,pP,xy,s,iH,l]
  ·have q:=oO P k a I m;rw[bN c]at q;refine⟨h,r,t,?_,.refl a,I,.refl t,by lia⟩;rw[iI,q,pP,tL]
theorem nR:gI=⟨["self","moment"],["self","moment"],.j rcC rcB⟩:=rfl
inductive q8{α:Type}(x:Option (α×HH))(y:α)(n:Nat)(h:HH)(r:Nat)(t:Tp)(e gv:Nat):Prop
 |mk(h':HH)(B:Nat)(t':Tp)(q:x=aa (y,h'))(g:Go n h r t h' B t')(i:TI t' e gv)(m:Sm8 t t'):q8 x y n h r t e gv
inductive q9{α:Type}(x:Option (α×HH))(y:α)(n:Nat)(h:HH)(r:Nat)(t:Tp)(e gv f:Nat):Prop
 |mk(h':HH)(B:Nat)(t':Tp)(q:x=aa (y,h'))(g:Go n h r t h' B t')(i:TI t' e gv)(m:Sm8 t t')(a:t'.far=f):q9 x y n h r t e gv f
def sj(P:TpP T G)(k:Nat){n r:Nat}{t:Tp}{h:HH}{e q:Nat}(a:TAt h n r t)(I:TI t e q)(m:Nat):
 q9 (runN T G (k+8) (.m "Tape" "reach") [.o n,.p (.int m)] h) (.p .aD) n h r t e q (max t.far (min m e)):=by
 have le:=I.run.le;have m1:=I.m1;obtain⟨J,D,B,b,g,L,s,f⟩:=HG P k n e q m 99999 99999 h r t a I (by lia) (UE _);refine⟨J,D,B,?_,g,L,s,f⟩;rw[run_eq P.reach rfl,nR];have fn:=fX g (.p .aD);simp[turns,b,fn]
def HJ(P:TpP T G)(k:Nat){n r:Nat}{t:Tp}{h:HH}{e B:Nat}(a:TAt h n r t)(I:TI t e B)(m:Nat)(U:m<=t.most):
 q9 (runN T G (k+9) (.m "Tape" "has") [.o n,.p (.int m)] h) (.p (.bl (decide (m<=e)))) n h r t e B (max t.far (min m e)):=by
 obtain⟨J,D,q,b,g,O,s,f⟩:=sj P k a I m;refine⟨J,D,q,?_,g,O,s,f⟩;rw[run_eq P.has rfl];have w:=mK P (k+7) m;have M:¬((m:Int)<0):=by lia
 have L:¬((t.most:Int)<(m:Int)):=by lia
 have fn:=λw=>fX g w;have far:=I.far;have d:decide ((m:Int)<=(q.far:Int))=decide (m<=e):=by
  by_cases c:m<=e
  rw[bO c];exact bO (by lia);rw[bN c];exact bN (by lia)
 simp[gW,w,M,a.ob,L,uz,b,g.b.ob,fn];simpa using d
def kO(P:TpP T G)(k:Nat){n r:Nat}{t:Tp}{h:HH}{e B:Nat}(a:TAt h n r t)(I:TI t e B)(m:Nat)(q:m<=e):
 q9 (runN T G (k+10) (.m "Tape" "check") [.o n,.p (.int m)] h) (.p .aD) n h r t e B (max t.far m):=by
 obtain⟨L,J,D,b,g,M,s,f⟩:=HJ P k a I m (U3 q I.run.le);rw[bO q]at b;refine⟨L,J,D,?_,g,M,s,by lia⟩;rw[run_eq P.check rfl];have fn:=fX g (.p .aD);simp[fK,a.ob,Jc,b,fn]
def atB:S:=(.set 2 (.aF (.v 0) "behind" (cW (.v 2))))
theorem zE(P:TpP T G)(k:Nat){n r:Nat}{t:Tp}{h:HH}{e U:Nat}(a:TAt h n r t)(I:TI t e U)(B:W):∀(q j:Nat)(x:Option W)(lo:Int),j+q<=e →
 ∃D,d9 (evS (runN T G (k+7)) G atB) [(3,"step")] (upto lo q) [aa (.o n),aa B,aa (.p (itr t.p t.aG j).enc),x] h=aa (.nx [aa (.o n),aa B,aa (.p (itr t.p t.aG (j+q)).enc),D] h)
 |0,j,x,lo,_=>⟨x,rfl⟩
 |q+1,j,x,lo,hj=>by
  have le:=I.run.le;have m1:=I.m1;obtain⟨D,b⟩:=zE P k a I B q (j+1) (aa (.p (.int lo))) (lo+1) (by lia);refine⟨D,?_⟩;have J:=jG P k a I.ok (j:=j) (st:=itr t.p t.aG j) (by lia) (iQ I.ok I.ask I.run j (by lia)) (I.run.on j (by lia));have L:upto lo (q+1)=.int lo::upto (lo+1) q:=by unfold upto;rw[WY,UQ,Xk];simp only[YX,Int.add_zero,WG,true_and];apply VU;intro i _;simp;lia
  rw[L];have M:step t.p t.aG (itr t.p t.aG j)=itr t.p t.aG (j+1):=rfl;rw[M]at J;have V:j+1+q=j+(q+1):=by lia
  rw[V]at b;have O:evS (runN T G (k+7)) G atB [aa (.o n),aa B,aa (.p (itr t.p t.aG j).enc),aa (.p (.int lo))] h=aa (.nx [aa (.o n),aa B,aa (.p (itr t.p t.aG (j+1)).enc),aa (.p (.int lo))] h):=by simp[atB,a.ob,mL,J]
  simp[O,b]
theorem El:jF=⟨["self","moment"],["self","moment","state","step"],(.seq (.ex (.aF (.v 0) "check" (.cons (.v 1) .nil)))
 (.seq (.set 2 (.y (.i (.v 0) "kept") (.bin .fdiv (.v 1) (.i (.v 0) "gap"))))
 (.seq (.for [(3,"step")] .rng1 (.cons (.bin .mod (.v 1) (.i (.v 0) "gap")) .nil) atB)
 (.ret (.v 2)))))⟩:=rfl
def at_of(P:TpP T G)(k:Nat){n r L:Nat}{t t':Tp}{h h':HH}{e U:Nat}(a:TAt h n r t)(m:Nat)(d:m<=e)(b:runN T G (k+10) (.m "Tape" "check") [.o n,.p (.int m)] h=aa (.p .aD,h'))(g:Go n h r t h' L t')(q:TI t' e U)(s:Sm8 t t')(f:t'.far=max t.far m):
 runN T G (k+11) (.m "Tape" "at") [.o n,.p (.int m)] h=aa (.p (itr t.p t.aG m).enc,h'):=by
 rw[run_eq P.at_ rfl,El];have fn:=λw=>fX g w;have g0:=q.g0;have g1:=q.g1;have dm:=Zm m t'.aK;have Z:=YH m g0;have M:m/t'.aK<t'.aH.length:=by rw[q.len];have:m/t'.aK<=t'.far/t'.aK:=aap (by lia);lia
 have D:=q.aH _ M;have le:=q.run.le;have m1:=q.m1;rw[s.p,s.aG]at D;have O:(0:Int)<(t'.aK:Int):=by lia
 have V:(t'.aK:Int)<1073741824:=by lia
 have e1:(m:Int)/(t'.aK:Int)=((m/t'.aK:Nat):Int):=by simp
 have e2:(m:Int)%(t'.aK:Int)=((m%t'.aK:Nat):Int):=by simp
 have ix:dJ (.aB (t'.aH.map St.enc)) (.int ((m/t'.aK:Nat):Int))=aa (itr t.p t.aG (m/t'.aK*t'.aK)).enc:=by show atP _ _=_;rw[gH,U1,D];rfl
 obtain⟨Y,B⟩:=zE P (k+3) g.b q (.p (.int m)) (m%t'.aK) (m/t'.aK*t'.aK) af 0 (by rw[WN];lia);rw[s.p,s.aG]at B;have W:m/t'.aK*t'.aK+m%t'.aK=m:=by rw[WN];exact dm
 rw[W]at B;have J:gO .rng1 [.int ((m%t'.aK:Nat):Int)]=aa (upto 0 (m%t'.aK)):=by
  rw[jg];have c:((-100000<=(((m%t'.aK:Nat):Int)):Bool)&&(((m%t'.aK:Nat):Int)<=100000:Bool))=ah:=by simp only[Uz,bM];lia
  rw[bJ c];rfl
 simp[-fC,-jg,-Int.natCast_ediv,-Int.natCast_emod,a.ob,uA,b,g.b.ob,g.b.li,rd,O,g0,V,e1,e2,ix,J,iS,B,fn]
def qy(P:TpP T G)(k:Nat){n r:Nat}{t:Tp}{h:HH}{e B:Nat}(a:TAt h n r t)(I:TI t e B)(m:Nat)(q:m<=e):
 q9 (runN T G (k+11) (.m "Tape" "at") [.o n,.p (.int m)] h) (.p (itr t.p t.aG m).enc) n h r t e B (max t.far m):=by
 obtain⟨M,L,J,b,g,D,s,f⟩:=kO P k a I m q;exact⟨M,L,J,at_of P k a m q b g D s f,g,D,s,f⟩
end
noncomputable def longer(p:Pg):Pg:=p++[.stop,.say (.num 5)]
def Em(n:Nat)(st:St):dok (n+2) st.enc=ah:=by simp[St.enc,yE,mH,qv]
def HK(L:List St):dok 100 (.aB (L.map St.enc))=ah:=by rw[yF,VN];intro d q;simp at q;obtain⟨st,_,rfl⟩:=q;exact Em 97 st
@[simp]theorem QC(x:D)(st:St):dZ x st.enc=ah:=mX (Em 98 st)
@[simp]theorem Pa(x:D)(L:List St):dZ x (.aB (L.map St.enc))=ah:=mX (HK L)
def fk:Fn:=⟨["_law_asked_sum","_law_state"],["_law_asked_sum","_law_state","_law_word","_law_one","_law_other"], (.seq (.set 2 (.y (.v 0) (.j (.int 0)))) (.seq (.v (.z .eq (.v 2) (.j (.str "num"))) (.ret (.y (.v 0) (.j (.int 1)))) .nil) (.seq (.v (.z .eq (.v 2) (.j (.str "name"))) (.ret (.y (.y (.v 1) (.j (.int 1))) (.me .sindex (.j (.str "abcdef")) (cW (.y (.v 0) (.j (.int 1))))))) .nil) (.seq (.set 3 (.call "_law_worth" (cV (.y (.v 0) (.j (.int 1))) (.v 1)))) (.seq (.v (.z .eq (.v 2) (.j (.str "cell"))) (.ret (.y (.y (.v 1) (.j (.int 2))) (.bin .mod (.v 3) (.j (.int 4))))) .nil) (.seq (.set 4 (.call "_law_worth" (cV (.y (.v 0) (.j (.int 2))) (.v 1)))) (.seq (.v (.z .eq (.v 2) (.j (.str "add"))) (.ret (.bin .mod (.bin .add (.v 3) (.v 4)) (.j (.int 10007)))) .nil) (.seq (.v (.z .eq (.v 2) (.j (.str "sub"))) (.ret (.bin .mod (.bin .sub (.v 3) (.v 4)) (.j (.int 10007)))) .nil) (.ret (.ite (.z .eq (.v 2) (.j (.str "mul"))) (.bin .mod (.bin .mul (.v 3) (.v 4)) (.j (.int 10007))) (.bi .int ai (cW (.z .lt (.v 3) (.v 4))))))))))))))⟩
section
variable{T:FK->Option Fn}{G:ay->Option W}
def En{st:St}(B:st.ok)(x:Nm):dJ (.aC (cY st.names)) (.int x.ix)=aa (.int (st.names.getD x.ix 0)):=by
 have q:x.ix<st.names.length:=by rw[B.nlen];exact x.zw
 rw[gY,gH];simp[cY,q]
def Eo{st:St}(B:st.ok)(v:Int):dJ (.aC (cY st.cells)) (.int (v%4))=aa (.int (st.cells.getD (v%4).toNat 0)):=by
 have q:(v%4).toNat<st.cells.length:=by rw[B.clen];lia
 have e:dJ (.aC (cY st.cells)) (.int (((v%4).toNat:Nat):Int))=aa (.int (st.cells.getD (v%4).toNat 0)):=by rw[gY,gH];simp[cY,q]
 have e2:(((v%4).toNat:Nat):Int)=v%4:=by lia
 rw[e2]at e;exact e
def qz(B:T "_law_worth"=aa fk)(st:St)(L:st.ok):∀(s:Sm),s.ok->∀(m:Nat)(h:HH),runN T G (m+s.size) "_law_worth" [.p s.enc,.p st.enc] h=aa (.p (.int (s.val st)),h):=by
 intro s
 induction s with
 |num n =>
  intro _ m h;exact j5 B rfl ((fT (w:=.p (.str "num")) rfl).trans (jZ rfl rfl))
 |nam i =>
  intro _ m h;have e:=qZ i;have x:=En L i;refine j5 B rfl ((fT (w:=.p (.str "name")) rfl).trans ((gT rfl).trans (jZ rfl ?_)));simp[-gY,-Vv,Sm.enc,e,x,Sm.val,ix0,ix1]
 |cell s U =>
  intro q m h;rw[Sm.size,←Yv];have r:=U q m h;have x:=Eo L (s.val st);refine j5 B rfl ((fT (w:=.p (.str "cell")) rfl).trans ((gT rfl).trans ((gT rfl).trans ((fT (w:=.p (.int (s.val st))) (g:=h) ?_).trans (jZ rfl ?_)))));exact r
  ·show(dJ (.aC (cY st.cells)) (.int (s.val st%4))).map _=_;rw[x];rfl
 |two o s t J D =>
  intro q m h;rw[Sm.size,←Yv];have O:=J q.1 (m+t.size) h;have M:=D q.2 (m+s.size) h;have e1:m+t.size+s.size=m+(s.size+t.size):=by lia
  have e2:m+s.size+t.size=m+(s.size+t.size):=by lia
  rw[e1]at O;rw[e2]at M;have b:big (s.val st)=ah:=by have:=Sm.mF (s:=s) L q.1;exact nq this.1 (by have:=this.2;lia)
  refine j5 B rfl ((fT (w:=.p (.str o.w)) rfl).trans ((gT ?_).trans ((gT ?_).trans ((fT (w:=.p (.int (s.val st))) (g:=h) ?_).trans ((gT ?_).trans ((fT (w:=.p (.int (t.val st))) (g:=h) ?_).trans ?_))))));cases o<;>rfl;cases o<;>rfl;exact O;cases o<;>rfl;exact M
  ·cases o with
   |add=>exact jZ rfl rfl|sub=>exact(gT rfl).trans (jZ rfl rfl)
   |mul =>
    refine(gT rfl).trans ((gT rfl).trans (xU ?_));show aN _ G _ [aa (.p (Sm.two .mul s t).enc),aa (.p st.enc),aa (.p (.str "mul")),aa (.p (.int (s.val st))),aa (.p (.int (t.val st)))] h=_;simp[Sm.val,BT.two,b]
   |less =>
    refine(gT rfl).trans ((gT rfl).trans (xU ?_));show aN _ G _ [aa (.p (Sm.two .less s t).enc),aa (.p st.enc),aa (.p (.str "less")),aa (.p (.int (s.val st))),aa (.p (.int (t.val st)))] h=_;simp[Sm.val,BT.two]
@[simp]theorem SJ(st:St):mW st.enc (aa 3) af=aa (.aC [.aC (cZ st.calls),.int st.aG,.aC (cY st.said)]):=rfl
section
variable{F:FK->List W->HH->Option (W×HH)}
end
end
section
def Ep(i:Nat)(hi:i<h.length)(B:h'[i]?≠h[i]?)(w:W):fin h w h'=aa (w,h'):=by
 unfold fin
 by_cases c:h'.length=h.length
 rw[bJ c]
 ·rw[bK c,bK];intro z;apply B;have q:=WM (l:=h') hi;rw[z]at q;exact q.symm
def Tp.new(p:Pg)(aG:List Int)(ev q:Nat):Tp:=⟨p,aG,ev,q,[St.zero],0,St.zero,0⟩
def Er(P:TpP T G)(k:Nat)(p:Pg)(aG:List Int)(ev q:Nat)(M:1<=ev)(h:HH):
 runN T G (k+2) (.m "Tape" "__init__") [.o h.length,.p (gB p),.p (.aB (cY aG)),.p (.int ev),.p (.int q)] (h++[.o "Tape" []])=aa (.p .aD,h++[.o "Tape" ((Tp.new p aG ev q).fs (h.length+1)),.l [St.zero.enc]]):=by
 rw[run_eq P.init rfl];have b:=rZ P.prg k;have L:(if(1:Int)>(ev:Int)then(1:Int)else(ev:Int))=(ev:Int):=bK (by lia);have J:(if(0:Int)>(q:Int)then(0:Int)else(q:Int))=(q:Int):=bK (by lia);have f:∀(c:Cl)(g:HH)(w:W),c≠.o "Tape" []->fin (h++[.o "Tape" []]) w (h++c::g)=aa (w,h++c::g):=λc g w D=>by refine Ep h.length (by simp) ?_ w;simp;exact D
 have B:=f (.o "Tape" ((Tp.new p aG ev q).fs (h.length+1))) [.l [St.zero.enc]] (.p .aD) (by simp[Tp.fs]);have fs:(Tp.new p aG ev q).fs (h.length+1)=([("program",.p (gB p)),("asked",.p (.aB (cY aG))),("gap",.p (.int ev)),("most",.p (.int q)),("kept",.r (h.length+1)),("farthest",.p (.int 0)),("front",.p St.zero.enc),("now",.p (.int 0))]:List (ay×W)):=by simp[Tp.fs,Tp.new]
 rw[fs]at B⊢;rw[iB];simp only[iJ,UQ,V2,US,VV];simp[L,J,b,B]
def LQ{ev:Nat}(q:Pg.ok p)(D:Ask aG)(R:Run p aG most e)(h1:1<=ev)(h2:ev<=1000)(J:most<=1000):TI (Tp.new p aG ev most) e ev :=
 ⟨R,q,D,h1,h2,J,Vx _,rfl,by simp[Tp.new],by simp[Tp.new],λj B=>by
  have:j=0:=by simpa [Tp.new]using B
  subst this;simp[Tp.new,itr],Vx _,⟨0,by simp[Tp.new],λz=>bL z (VD _)⟩⟩
def LR(h:HH)(p:Pg)(aG:List Int)(ev q:Nat):TAt (h++[.o "Tape" ((Tp.new p aG ev q).fs (h.length+1)),.l [St.zero.enc]]) h.length (h.length+1) (Tp.new p aG ev q) :=
 ⟨by simp,by simp[Tp.new]⟩
def TAt.app(a:TAt h n r t):TAt (h++g) n r t:=⟨(zD (qw a.ob)).trans a.ob,(HE (xY a.li)).trans a.li⟩
end
noncomputable def ltC:E:=(.and (.z .isN (.v 3) (.j .aD)) (.z .ge (.v 1) (.j (.int 0))))
section
structure TpE(T:FK->Option Fn):Prop where
 end_:T (.m "Tape" "end")=aa i6
def Et(P:TpP T G)(M:TpE T)(k:Nat)(a:TAt h n r t)(I:TI t e gv):
 q9 (runN T G (k+9) (.m "Tape" "end") [.o n] h) (.p (.int e)) n h r t e gv e:=by
 obtain⟨J,D,q,b,g,L,s,f⟩:=sj P k a I t.most;have le:=I.run.le;have O:=I.far;have B:q.far=e:=by lia
 refine⟨J,D,q,?_,g,L,s,B⟩;rw[run_eq M.end_ rfl];have fn:=λw=>fX g w;simp[i6,a.ob,uz,b,g.b.ob,B,fn]
end
def qA:Fn:=⟨["thing"],["thing"], (.ret (.and (.call "is_whole" (cW (.v 0))) (.chain .le .lt (.j (.int 0)) (.v 0) (.aE "CELL_COUNT"))))⟩
def j9:Fn:=⟨["thing"],["thing"], (.v (.and (.not (.call "is_name" (cW (.v 0)))) (.not (.call "is_cell" (cW (.v 0))))) .bad .nil)⟩
def fL:Fn:=⟨["row","state"],["row","state","word"], (.seq (.set 2 (.y (.v 0) (.j (.int 0)))) (.seq (.v (.or (.z .eq (.v 2) (.j (.str "set"))) (.z .eq (.v 2) (.j (.str "ask")))) (.ret (.y (.v 0) (.j (.int 1)))) .nil) (.ret (.ite (.z .eq (.v 2) (.j (.str "put"))) (.call "cell_by" (cV (.y (.v 0) (.j (.int 1))) (.v 1))) (.j .aD)))))⟩
def fQ:Fn:=⟨["tape","state"],["tape","state"], (.ret (.call "written_by" (cV (.y (.i (.v 0) "program") (.y (.v 1) (.aE "ROW"))) (.v 1))))⟩
def gJ:Fn:=⟨["tape","moment"],["tape","moment"], (.seq (.ex (.aF (.v 0) "check" (cW (.v 1)))) (.ex (.aF (.v 0) "check" (cW (.bin .sub (.v 1) (.j (.int 1)))))))⟩
def fq:Fn:=⟨["tape","moment"],["tape","moment"], (.seq (.ex (.call "check_step" (cV (.v 0) (.v 1)))) (.ret (.call "written_next" (cV (.v 0) (.aF (.v 0) "at" (cW (.bin .sub (.v 1) (.j (.int 1)))))))))⟩
structure WrP(T:FK->Option Fn):Prop where
 written_by:T "written_by"=aa fL
 written_next:T "written_next"=aa fQ
 check_step:T "check_step"=aa gJ
 thing_written:T "thing_written"=aa fq
inductive Th
 |nm(x:Nm)|cl(i:Nat)(h:i<4)
def Th.enc:Th->D
 |.nm x=>.str x.w|.cl i _=>.int i
def Th.val(st:St):Th->Int
 |.nm x=>st.names.getD x.ix 0|.cl i _=>st.cells.getD i 0
def gX:Option Th->D
 |none=>.aD|some th=>th.enc
def Nm.Jd{x y:Nm}(h:UN x.w=UN y.w):x=y:=by cases x<;>cases y<;>first|rfl|(simp[Nm.w]at h)
def Pb(o:Option Th)(th:Th):eqv (gX o) th.enc=ah↔o=aa th:=by
 cases o with
 |none=>cases th<;>simp[gX,Th.enc]
 |some t =>
  cases t with
  |nm x =>
   cases th with
   |nm y =>
    simp only[gX,Th.enc,eqv,bS,Wc,Th.nm.injEq];exact⟨Nm.Jd,λh=>by rw[h]⟩
   |cl i h=>simp[gX,Th.enc]
  |cl i h =>
   cases th with
   |nm y=>simp[gX,Th.enc]
   |cl j q =>
    simp only[gX,Th.enc,eqv,bS,Wc,Th.cl.injEq];lia
def wb(st:St):Rw->Option Th
 |.set x _=>aa (.nm x)|.ask x=>aa (.nm x)|.put s _=>aa (.cl (s.val st%4).toNat (by lia))|_=>af
def wn(t:Tp)(i:Nat):Option Th:=(t.p[(itr t.p t.aG i).row]?).bind (wb (itr t.p t.aG i))
def sy{aG:List Int}{st:St}{r:Rw}{th:Th}(h:wb st r≠aa th):th.val (r.next aG st)=th.val st:=by
 cases r with
 |set x s =>
  cases th with
  |nm y =>
   have hn:x.ix≠y.ix:=λz=>h (by
    have:x=y:=by cases x<;>cases y<;>first|rfl|(simp[Nm.ix]at z)
    rw[this];rfl)
   simp[Th.val,Rw.next,U7 hn]
  |cl i q=>rfl
 |ask x =>
  cases th with
  |nm y =>
   have hn:x.ix≠y.ix:=λz=>h (by
    have:x=y:=by cases x<;>cases y<;>first|rfl|(simp[Nm.ix]at z)
    rw[this];rfl)
   simp[Th.val,Rw.next,U7 hn]
  |cl i q=>rfl
 |put s u =>
  cases th with
  |nm y=>rfl
  |cl i q =>
   have hn:(s.val st%4).toNat≠i:=λz=>h (by subst z;rfl);simp[Th.val,Rw.next,U7 hn]
 |_=>cases th<;>rfl
def qB{t:Tp}{i:Nat}{th:Th}(h:wn t i≠aa th):th.val (itr t.p t.aG (i+1))=th.val (itr t.p t.aG i):=by
 show th.val (step t.p t.aG (itr t.p t.aG i))=_;unfold step;unfold wn at h;cases e:t.p[(itr t.p t.aG i).row]? with
 |none=>rfl|some r=>rw[e]at h;exact sy h
section
variable{T:FK->Option Fn}{G:ay->Option W}
def kg(P:Prg T G)(D:WrP T)(k:Nat)(m:Nat)(r:Rw)(q:r.ok m){st:St}(B:st.ok)(h:HH):runN T G (k+6) "written_by" [.p r.enc,.p st.enc] h=aa (.p (gX (wb st r)),h):=by
 rw[run_eq D.written_by rfl];cases r with
 |put s u =>
  have c:=nQ P k s q.1 st B h;have e:((s.val st%4).toNat:Int)=s.val st%4:=by lia
  simp[fL,Rw.enc,c,wb,gX,Th.enc,e,c7]
 |_=>simp[fL,Rw.enc,wb,gX,Th.enc,c7]
def uB{t:Tp}{e:Nat}(R:Run t.p t.aG t.most e){i:Nat}(hi:i<e):∃r,t.p[(itr t.p t.aG i).row]?=aa r:=by
 have on:=R.on i hi;unfold over at on;cases g:t.p[(itr t.p t.aG i).row]? with
 |none=>rw[g]at on;exact w9 on|some x=>exact⟨x,rfl⟩
def nu(P:TpP T G)(J:WrP T)(k:Nat){n r:Nat}{t:Tp}{h:HH}{e O:Nat}(a:TAt h n r t)(I:TI t e O)(i:Nat)(hi:i<e):runN T G (k+7) "written_next" [.o n,.p (itr t.p t.aG i).enc] h=aa (.p (gX (wn t i)),h):=by
 rw[run_eq J.written_next rfl];obtain⟨q,B⟩:=uB I.run hi;have D:=iQ I.ok I.ask I.run i (by lia);have w:=kg P.prg J k t.p.length q (I.ok _ (UJ B)) D.ok h;have M:dJ (itr t.p t.aG i).enc (.int 0)=aa (.int ((itr t.p t.aG i).row:Int)):=rfl;have L:dJ (gB t.p) (.int ((itr t.p t.aG i).row:Int))=aa q.enc:=by show atP _ _=_;rw[gH,U1,B];rfl
 have e1:wn t i=wb (itr t.p t.aG i) q:=by unfold wn;rw[B];rfl
 rw[e1];simp[-gY,fQ,a.ob,P.prg.ROW,M,L,w,c7]
def kh(P:TpP T G)(d:WrP T)(k:Nat){n r:Nat}{t:Tp}{h:HH}{e B:Nat}(a:TAt h n r t)(I:TI t e B)(m:Nat)(h1:1<=m)(V:m<=e):
 q8 (runN T G (k+11) "check_step" [.o n,.p (.int m)] h) (.p .aD) n h r t e B:=by
 obtain⟨Y,j,i,c,q,g,O,u⟩:=kO P k a I m V;obtain⟨W,U,L,D,Z,f,M,s⟩:=kO P k q.b g (m-1) (by lia);have J:=q.trans Z;refine⟨W,U,L,?_,J,f,O.trans M⟩;rw[run_eq d.check_step rfl];have fn:=fX J (.p .aD);have e1:(m:Int)-1=((m-1:Nat):Int):=by lia
 generalize l:((m-1:Nat):Int)=z at D e1;simp[gJ,a.ob,uA,c,q.b.ob,e1,D,fn]
def gu(P:TpP T G)(M:WrP T)(k:Nat){n r:Nat}{t:Tp}{h:HH}{e U:Nat}(a:TAt h n r t)(I:TI t e U)(m:Nat)(h1:1<=m)(d:m<=e):
 q8 (runN T G (k+12) "thing_written" [.o n,.p (.int m)] h) (.p (gX (wn t (m-1)))) n h r t e U:=by
 obtain⟨g,s,l,i,D,j,B⟩:=kh P M k a I m h1 d;obtain⟨f,c,O,L,V,W,Z,v⟩:=qy P k D.b j (m-1) (by lia);have Y:=D.trans V;have q:=B.trans Z;have J:=nu P M (k+4) V.b W (m-1) (by lia);rw[q.p,q.aG]at J;rw[B.p,B.aG]at L;have e2:wn O (m-1)=wn t (m-1):=by unfold wn;rw[q.p,q.aG]
 rw[e2]at J;refine⟨f,c,O,?_,Y,W,q⟩;rw[run_eq M.thing_written rfl];have fn:=λw=>fX Y w;have e1:(m:Int)-1=((m-1:Nat):Int):=by lia
 generalize u:((m-1:Nat):Int)=z at L e1;simp[fq,i,D.b.ob,A5,e1,L,J,fn]
def gc(t:Tp)(th:Th)(w:Int):Nat->Bool:=λi=>!(th.val (itr t.p t.aG i)==w)
end
section
noncomputable def each(f:Nat->D)(e:Nat):List D:=(UZ (e+1)).map f
end
def kP:Fn:=⟨["tape","moment","term"],["tape","moment","term"], (.ret (.call "reckoned" (cV (.v 2) (.aF (.v 0) "at" (cW (.v 1))))))⟩
structure SuP(T:FK->Option Fn):Prop where
 sum_at:T "sum_at"=aa kP
def mO{cond:Es}(e1:evs F G sa s h=aa (ws,h1))(e2:(rds ws h1).bind (gO sr)=aa ds)(J:frees s fv=aa fs)(D:iS ws=ah)(B:dN (eV (evs F G cond) (aN F G elt) fs) tg.length ds h1=aa (xs,h2))(q:xs.length<=100000):aN F G (.comp ai sr sa tg fv cond elt) s h=aa (.p (.aB xs),h2):=by show bnd (evs F G sa s h) (pN ai sr tg.length (frees s fv) (evs F G cond) (aN F G elt))=_;rw[e1,dU];unfold pN;rw[e2,J];show(if iS ws=ah then _ else _)=_;rw[bJ D,B,dU];unfold gP;rw[bJ (show xs.length<=lim from q)];rfl
def LS(f:List D->HH->Option (Option D×HH))(mk:α->D)(g:α->Option D)(h:HH):∀(l:List α),(∀x∈l,f [mk x] h=aa (g x,h))->dN f 1 (l.map mk) h=aa (l.filterMap g,h):=by
 intro l
 induction l with
 |nil=>intro _;rfl
 |cons x r B =>
  intro q;rw[UQ,dN,gi];show bnd (f [mk x] h) (Ak (dN f 1 (r.map mk)))=_;rw[q x UH,dU,tw,B λy J=>q y (UC _ J),dU,pK,U5];cases g x<;>rfl
def Eu(f:List D->HH->Option (Option D×HH))(mk:α->D)(g:α->Option D)(q:HH->Prop):∀(l:List α),(∀x∈l,∀h,q h->∃h',f [mk x] h=aa (g x,h')/\q h')->∀h,q h->∃h',dN f 1 (l.map mk) h=aa (l.filterMap g,h')/\q h':=by
 intro l
 induction l with
 |nil=>intro _ h B;exact⟨h,rfl,B⟩
 |cons x r L =>
  intro J h B;obtain⟨W,e1,O⟩:=J x UH h B;obtain⟨V,e2,M⟩:=L (λy U=>J y (UC _ U)) W O;refine⟨V,?_,M⟩;rw[UQ,dN,gi];show bnd (f [mk x] h) (Ak (dN f 1 (r.map mk)))=_;rw[e1,dU,tw,e2,dU,pK,U5];cases g x<;>rfl
section
@[simp]theorem Uu(h:HH)(a:Cl)(r:HH):dat (h++a::r) h.length=sV a:=by simp[dat]
def qC(P:TpP T G)(S:SuP T)(k:Nat)(a:TAt h n r t)(I:TI t e gv)(s:Sm)(O:s.size<=40000)(W:s.ok)(m:Nat)(q:m<=e):
 q8 (runN T G (k+12) "sum_at" [.o n,.p (.int m),.p s.enc] h) (.p (.int (s.val (itr t.p t.aG m)))) n h r t e gv:=by
 obtain⟨B,M,J,V,D,Y,L,Z⟩:=qy P k a I m q;have U:=eU P.prg (k+7) s O W (itr t.p t.aG m) (iQ I.ok I.ask I.run m q).ok B;refine⟨B,M,J,?_,D,Y,L⟩;rw[run_eq S.sum_at rfl];have fn:=λw=>fX D w;simp[kP,a.ob,A5,V,U,fn]
end
def Ew(f:List D->HH->Option (Option D×HH))(n:Nat)(mk:α->D)(q:α->List D)(g:α->Option D)(h:HH):∀(l:List α),(∀x∈l,target n (mk x)=aa (q x)/\f (q x) h=aa (g x,h))->dN f n (l.map mk) h=aa (l.filterMap g,h):=by
 intro l
 induction l with
 |nil=>intro _;rfl
 |cons x r J =>
  intro B;obtain⟨O,M⟩:=B x UH;rw[UQ,dN,O];show bnd (f (q x) h) (Ak (dN f n (r.map mk)))=_;rw[M,dU,tw,J λy L=>B y (UC _ L),dU,pK,U5];cases g x<;>rfl
section
end
def jH:Fn:=⟨["term","state"],["term","state","things","worths","part"], (.seq (.set 2 .dnew) (.seq (.set 3 (.aB ah .nil)) (.seq (.for [(4,"part")] .rev (cW (.call "laid_out" (cW (.v 0)))) (.seq (.v (.z .eq (.y (.v 4) (.j (.int 0))) (.j (.str "name"))) (.putd 2 (.y (.v 4) (.j (.int 1))) (.j (.bl ah))) (.v (.z .eq (.y (.v 4) (.j (.int 0))) (.j (.str "cell"))) (.putd 2 (.bin .mod (.y (.v 3) (.neg (.j (.int 1)))) (.aE "CELL_COUNT")) (.j (.bl ah))) .nil)) (.ex (.me .append (.v 3) (cW (.call "worth_of" (cU (.v 4) (.v 3) (.v 1)))))))) (.ret (.v 2)))))⟩
def gE:Fn:=⟨["row","state"],["row","state","things"], (.seq (.set 2 .dnew) (.seq (.v (.or (.z .eq (.y (.v 0) (.j (.int 0))) (.j (.str "set"))) (.z .eq (.y (.v 0) (.j (.int 0))) (.j (.str "put")))) (.ex (.m2 .upd (.v 2) (.frz (.call "read_by" (cV (.y (.v 0) (.j (.int 2))) (.v 1)))))) .nil) (.seq (.v (.z .eq (.y (.v 0) (.j (.int 0))) (.j (.str "put"))) (.ex (.m2 .upd (.v 2) (.frz (.call "read_by" (cV (.y (.v 0) (.j (.int 1))) (.v 1)))))) .nil) (.ret (.v 2)))))⟩
structure RdP(T:FK->Option Fn):Prop where
 read_by:T "read_by"=aa jH
 read_in:T "read_in"=aa gE
def Th.ky:Th->Ky
 |.nm x=>.inr x.w|.cl i _=>.inl i
def Th.LU(th:Th):jq th.enc=aa th.ky:=by cases th<;>rfl
def Th.Ex{a b:Th}(h:a.ky=b.ky):a=b:=by
 cases a with
 |nm x =>
  cases b with
  |nm y =>
   simp only[Th.ky,Sum.inr.injEq]at h;rw[Nm.Jd h]
  |cl j q=>exact nomatch h
 |cl i B =>
  cases b with
  |nm y=>exact nomatch h
  |cl j q =>
   simp only[Th.ky,Sum.inl.injEq]at h;have:i=j:=by lia
   subst this;rfl
def Sm.rd(st:St):Sm->List Th
 |.num _=>[]|.nam x=>[.nm x]|.cell s=>s.rd st++[.cl (s.val st%4).toNat (by lia)]|.two _ s t=>s.rd st++t.rd st
def Rw.rd(st:St):Rw->List Th
 |.set _ s=>s.rd st|.put s t=>t.rd st++s.rd st|_=>[]
def sA(kvs:List (Ky×D))(k:Ky):(dR kvs k).isSome=ah↔k∈kvs.map (·.1):=by unfold dR;rw[Option.isSome_map,List.find?_isSome];simp only[bM,Xj]
def LV(kvs:List (Ky×D))(k:Ky):(kvs.any λq=>decide (q.1=k))=ah↔k∈kvs.map (·.1):=by rw[List.any_eq_true];simp only[bM,Xj]
def nv(kvs:List (Ky×D))(k:Ky)(v:D)(x:Ky):x∈(ff kvs k v).map (·.1)↔x∈kvs.map (·.1)\/x=k:=by
 unfold ff;split
 ·rename_i c;have e:(kvs.map λB=>if B.1=k then(B.1,v)else B).map (·.1)=kvs.map (·.1):=by rw[Xk];apply VU;intro q _;show(if q.1=k then(q.1,v)else q).1=q.1;split<;>rfl
  rw[e];exact⟨.inl,λh=>h.elim id λh=>by rw[h];exact(LV kvs k).mp c⟩
 simp[WS]
def sC(kvs:List (Ky×D))(k:Ky)(v:D):(ff kvs k v).length<=kvs.length+1:=by unfold ff;split<;>simp
def sD(kvs:List (Ky×D))(k x:Ky):x∈(kW kvs k).map (·.1)↔x∈kvs.map (·.1)/\x≠k:=by unfold kW;simp only[Xj,List.mem_filter,bM];exact⟨λ⟨q,⟨h1,h2⟩,h3⟩=>⟨⟨q,h1,h3⟩,h3 ▸ h2⟩,λ⟨⟨q,h1,h2⟩,h3⟩=>⟨q,⟨h1,h2 ▸ h3⟩,h2⟩⟩
structure Sb(kvs:List (Ky×D))(b:Nat)(P:Th->Prop):Prop where
 len:kvs.length<=b
 keys:∀k∈kvs.map (·.1),∃th:Th,k=th.ky
 mem:∀th:Th,th.ky∈kvs.map (·.1)↔P th
def Sb.nil:Sb [] 0 (λ_=>False):=⟨UE _,λk h=>bL h (by simp),λth=>by simp⟩
def Sb.iff{kvs:List (Ky×D)}{b:Nat}{P Q:Th->Prop}(h:Sb kvs b P)(e:∀th,P th↔Q th):Sb kvs b Q:=⟨h.len,h.keys,λth=>(h.mem th).trans (e th)⟩
def Sb.le{kvs:List (Ky×D)}{b c:Nat}{P:Th->Prop}(h:Sb kvs b P)(e:b<=c):Sb kvs c P:=⟨U3 h.len e,h.keys,h.mem⟩
def Sb.put{kvs:List (Ky×D)}{b:Nat}{P:Th->Prop}(h:Sb kvs b P)(th:Th)(v:D):Sb (ff kvs th.ky v) (b+1) (λx=>P x\/x=th):=by
 refine⟨U3 (sC ..) (YW h.len),λk B=>?_,λx=>?_⟩
 ·rcases (nv ..).mp B with q|q
  exact h.keys k q;exact⟨th,q⟩
 ·rw[nv,h.mem x];exact or_congr_right ⟨Th.Ex,λe=>by rw[e]⟩
def Sb.del{kvs:List (Ky×D)}{b:Nat}{P:Th->Prop}(h:Sb kvs b P)(th:Th):Sb (kW kvs th.ky) b (λx=>P x/\x≠th):=by refine⟨U3 (Wo _ _) h.len,λk q=>h.keys k ((sD ..).mp q).1,λx=>?_⟩;rw[sD,h.mem x];exact and_congr_right λ_=>⟨λe z=>e (by rw[z]),λe z=>e (Th.Ex z)⟩
def Sb.upd:∀{us kvs:List (Ky×D)}{b c:Nat}{P Q:Th->Prop},Sb kvs b P->Sb us c Q->Sb (us.foldl (λa p=>ff a p.1 p.2) kvs) (b+c) (λx=>P x\/Q x):=by
 intro us;have J:∀(us kvs:List (Ky×D)),(us.foldl (λa p=>ff a p.1 p.2) kvs).length<=kvs.length+us.length/\∀x,x∈(us.foldl (λa p=>ff a p.1 p.2) kvs).map (·.1)↔x∈kvs.map (·.1)\/x∈us.map (·.1):=by
  intro us
  induction us with
  |nil=>intro kvs;exact⟨by simp,λx=>by simp⟩
  |cons p us M =>
   intro kvs;obtain⟨L,B⟩:=M (ff kvs p.1 p.2);have:=sC kvs p.1 p.2;refine⟨by rw[Wp,US];lia,λx=>?_⟩;rw[Wp,B x,nv,UQ,Xb];exact or_assoc
 intro kvs b c P Q h g;obtain⟨L,B⟩:=J us kvs;refine⟨U3 L (Nat.add_le_add h.len g.len),λk O=>?_,λx=>?_⟩
 ·rcases (B k).mp O with q|q
  exact h.keys k q;exact g.keys k q
 rw[B,h.mem x,g.mem x]
def A6(h:HH)(kvs:List (Ky×D))(g:HH):dat (h++.d kvs::g) h.length=aa kvs:=by simp[dat]
def uC(h:HH)(c:Cl)(xs:List D):lat (h++[c,.l xs]) (h.length+1)=aa xs:=by simp[lat]
def Ey(h:HH)(c d e:Cl):(h++[c,d]).set h.length e=h++[e,d]:=by simp
def nU(h:HH)(c d e:Cl):(h++[c,d]).set (h.length+1) e=h++[c,e]:=by simp[List.set_append]
def Ez(h:HH)(kvs:List (Ky×D))(g:HH):fin h (.r h.length) (h++.d kvs::g)=aa (.r h.length,h++[.d kvs]):=by simp[fin]
def rbB:S:=(.seq (.v (.z .eq (.y (.v 4) (.j (.int 0))) (.j (.str "name"))) (.putd 2 (.y (.v 4) (.j (.int 1))) (.j (.bl ah))) (.v (.z .eq (.y (.v 4) (.j (.int 0))) (.j (.str "cell"))) (.putd 2 (.bin .mod (.y (.v 3) (.neg (.j (.int 1)))) (.aE "CELL_COUNT")) (.j (.bl ah))) .nil)) (.ex (.me .append (.v 3) (cW (.call "worth_of" (cU (.v 4) (.v 3) (.v 1)))))))
section
variable{T:FK->Option Fn}{G:ay->Option W}
def LW(P:Prg T G)(k:Nat)(h:HH)(q:W)(st:St)(B:st.ok)(n:Int)(ws:List D)(kvs:List (Ky×D))(l:ws.length<100000):
 evS (runN T G (k+3)) G rbB [aa q,aa (.p st.enc),aa (.r h.length),aa (.r (h.length+1)),aa (.p (Sm.num n).enc)] (h++[.d kvs,.l ws]) =
  aa (.nx [aa q,aa (.p st.enc),aa (.r h.length),aa (.r (h.length+1)),aa (.p (Sm.num n).enc)] (h++[.d kvs,.l (ws++[.int n])])):=by
 have r:=(gn P k st B (h.length+1) (h++[.d kvs,.l ws])).1 n;have e:(Sm.num n).enc=.aC [.str "num",.int n]:=rfl;rw[e]at r⊢;simp[rbB,r,l,uC,nU]
def LY(P:Prg T G)(k:Nat)(h:HH)(q:W)(st:St)(B:st.ok)(x:Nm)(ws:List D)(kvs:List (Ky×D))(l:ws.length<100000)(l2:kvs.length<100000):
 evS (runN T G (k+3)) G rbB [aa q,aa (.p st.enc),aa (.r h.length),aa (.r (h.length+1)),aa (.p (Sm.nam x).enc)] (h++[.d kvs,.l ws]) =
  aa (.nx [aa q,aa (.p st.enc),aa (.r h.length),aa (.r (h.length+1)),aa (.p (Sm.nam x).enc)] (h++[.d (ff kvs (Th.nm x).ky (.bl ah)),.l (ws++[.int (st.names.getD x.ix 0)])])):=by
 have r:=(gn P k st B (h.length+1) (h++[.d (ff kvs (Th.nm x).ky (.bl ah)),.l ws])).2 x;have e:(Sm.nam x).enc=.aC [.str "name",.str x.w]:=rfl;rw[e]at r⊢;simp only[Th.ky]at r⊢;simp[rbB,r,l,l2,uC,A6,Ey,nU]
def HL(P:Prg T G)(k:Nat)(h:HH)(B:W)(st:St)(q:st.ok)(s:Sm)(J:s.ok)(ws:List D)(kvs:List (Ky×D))(l:ws.length<100000)(l2:kvs.length<100000):
 evS (runN T G (k+3)) G rbB [aa B,aa (.p st.enc),aa (.r h.length),aa (.r (h.length+1)),aa (.p (Sm.cell s).enc)] (h++[.d kvs,.l (ws++[.int (s.val st)])]) =
  aa (.nx [aa B,aa (.p st.enc),aa (.r h.length),aa (.r (h.length+1)),aa (.p (Sm.cell s).enc)] (h++[.d (ff kvs (Th.cl (s.val st%4).toNat (by lia)).ky (.bl ah)),.l (ws++[.int ((Sm.cell s).val st)])])):=by
 have r:=jY P (k+2) st q (h.length+1) (h++[.d (ff kvs (Th.cl (s.val st%4).toNat (by lia)).ky (.bl ah)),.l (ws++[.int (s.val st)])]) s ws (s.val st) (uC ..) (Sm.mF (s:=s) q J).1;rw[nU]at r;have e:(Sm.cell s).enc=.aC [.str "cell",s.enc]:=rfl;have ev:((s.val st%4).toNat:Int)=s.val st%4:=by lia
 have L:dJ (.aB (ws++[.int (s.val st)])) (.int (-1))=aa (.int (s.val st)):=by
  show atP _ _=_;have O:(-1:Int)+((ws++[D.int (s.val st)]).length:Int)=(ws.length:Int):=by simp;lia
  have M:place (ws++[D.int (s.val st)]).length (-1)=aa ws.length:=by unfold place;rw[bK (by decide),bJ (by simp;lia),O,VS]
  unfold atP;rw[M];simp
 have U:0<=s.val st:=(Sm.mF (s:=s) q J).1;rw[e]at r⊢;simp only[Th.ky,ev]at r⊢;show _=aa (Fl.nx _ (h++[Cl.d _,Cl.l (ws++[.int (st.cells.getD (s.val st%4).toNat 0)])]));simp[-fC,rbB,r,l,l2,uC,A6,Ey,nU,rd,L,P.CELL_COUNT]
def LZ(P:Prg T G)(k:Nat)(h:HH)(q:W)(st:St)(M:st.ok)(o:Op)(s t:Sm)(L:s.ok)(ws:List D)(kvs:List (Ky×D))(l:ws.length<100000):
 evS (runN T G (k+3)) G rbB [aa q,aa (.p st.enc),aa (.r h.length),aa (.r (h.length+1)),aa (.p (Sm.two o s t).enc)] (h++[.d kvs,.l (ws++[.int (s.val st),.int (t.val st)])]) =
  aa (.nx [aa q,aa (.p st.enc),aa (.r h.length),aa (.r (h.length+1)),aa (.p (Sm.two o s t).enc)] (h++[.d kvs,.l (ws++[.int ((Sm.two o s t).val st)])])):=by
 have r:=kZ P (k+1) st (h.length+1) (h++[.d kvs,.l (ws++[.int (s.val st),.int (t.val st)])]) o s t ws (s.val st) (t.val st) (Sm.mF (s:=s) M L) (uC ..);rw[nU]at r;have e:(Sm.two o s t).enc=.aC [.str o.w,s.enc,t.enc]:=rfl;obtain⟨O,J,B⟩:=o.other;rw[e]at r⊢;show _=aa (Fl.nx _ (h++[Cl.d _,Cl.l (ws++[.int (BT.two o (s.val st) (t.val st))])]));generalize o.w=ow at *;simp[rbB,r,l,uC,nU,J,B]
def HM(P:Prg T G)(k:Nat)(h:HH)(O:W)(st:St)(a:st.ok):∀(s:Sm),s.ok->∀(ws:List D)(kvs:List (Ky×D)) (b:Nat) (A:Th->Prop) (rest:List D) (x:Option W),Sb kvs b A->ws.length+s.size<=50000->b+s.size<=50000 →
 ∃j J,Sb J (b+s.size) (λth=>A th\/th∈s.rd st)/\d9 (evS (runN T G (k+3)) G rbB) [(4,"part")] ((s.lay.map Sm.enc).reverse++rest) [aa O,aa (.p st.enc),aa (.r h.length),aa (.r (h.length+1)),x] (h++[.d kvs,.l ws]) =
  d9 (evS (runN T G (k+3)) G rbB) [(4,"part")] rest [aa O,aa (.p st.enc),aa (.r h.length),aa (.r (h.length+1)),j] (h++[.d J,.l (ws++[.int (s.val st)])]):=by
 intro s
 induction s with
 |num n =>
  intro _ ws kvs b A rest x B Y Z;refine⟨aa (.p (Sm.num n).enc),kvs,(B.le (Nat.le_add_right _ _)).iff λth=>by simp[Sm.rd],?_⟩;have M:=LW P k h O st a n ws kvs (by lia);simp only[Sm.lay,UQ,V2,We,Vg,Sm.val];simp[M]
 |nam i =>
  intro _ ws kvs b A rest x B Y Z;refine⟨aa (.p (Sm.nam i).enc),_,(B.put (.nm i) (.bl ah)).iff λth=>by simp[Sm.rd],?_⟩;have:=B.len;have M:=LY P k h O st a i ws kvs (by lia) (by lia);simp only[Sm.lay,UQ,V2,We,Vg,Sm.val];simp[M]
 |cell s m =>
  intro U ws kvs b A rest x B Y Z;simp only[Sm.size]at Y Z;obtain⟨g,L,q,e1⟩:=m U ws kvs b A ((Sm.cell s).enc::rest) x B (by lia) (by lia);refine⟨aa (.p (Sm.cell s).enc),_,(q.put (.cl (s.val st%4).toNat (by lia)) (.bl ah)).iff λth=>by simp[Sm.rd,or_assoc],?_⟩;have:=q.len;have M:=HL P k h O st a s U ws L (by lia) (by lia);simp only[Sm.lay,UQ,Xw,Ve,Vg];rw[e1];simp[M]
 |two o s t f e =>
  intro U ws kvs b A rest x B Y Z;simp only[Sm.size]at Y Z;obtain⟨g,L,q,e1⟩:=f U.1 ws kvs b A ((t.lay.map Sm.enc).reverse++((Sm.two o s t).enc::rest)) x B (by lia) (by lia);obtain⟨u,V,c,e2⟩:=e U.2 (ws++[.int (s.val st)]) L _ _ ((Sm.two o s t).enc::rest) g q (by simp only[UR,Vn];have:=s.size_pos;lia) (by lia);refine⟨aa (.p (Sm.two o s t).enc),V,(c.le (by simp only[Sm.size];lia)).iff λth=>by simp[Sm.rd,or_assoc],?_⟩;have M:=LZ P k h O st a o s t U.1 ws V (by lia);simp only[Sm.lay,UQ,WS,Xw,Yc,Ve,Vg];rw[e1,e2];simp only[Ve,Vg];simp[M]
theorem rf:jH=⟨["term","state"],["term","state","things","worths","part"],.seq (.set 2 .dnew) (.seq (.set 3 (.aB ah .nil))
 (.seq (.for [(4,"part")] .rev (.cons (.call "laid_out" (.cons (.v 0) .nil)) .nil) rbB) (.ret (.v 2))))⟩:=rfl
def nV(P:Prg T G)(R:RdP T)(k:Nat)(s:Sm)(D:s.size<=40000)(L:s.ok)(st:St)(J:st.ok)(h:HH):
 ∃kvs,Sb kvs s.size (λth=>th∈s.rd st)/\runN T G (k+4) "read_by" [.p s.enc,.p st.enc] h=aa (.r h.length,h++[.d kvs]):=by
 obtain⟨M,kvs,B,q⟩:=HM P k h (.p s.enc) st J s L [] [] 0 _ [] af Sb.nil (by simp only[VV];lia) (by lia);refine⟨kvs,(B.le (by lia)).iff λth=>by simp,?_⟩;rw[run_eq R.read_by rfl,rf];simp only[U8,WR]at q;have r:=mG P (k+1) s D;have e1:h++[Cl.d []]++[Cl.l []]=h++[Cl.d [],Cl.l []]:=by simp
 simp[r,iS,q,rd,Ez]
def kj(P:Prg T G)(R:RdP T)(k:Nat)(s:Sm)(B:s.size<=40000)(J:s.ok)(st:St)(D:st.ok)(h:HH):
 ∃kvs,Sb kvs s.size (λth=>th∈s.rd st)/\bnd (runN T G (k+4) "read_by" [.p s.enc,.p st.enc] h) (Ct h)=aa (.k (.m kvs),h):=by
 obtain⟨kvs,q,e⟩:=nV P R k s B J st D h;exact⟨kvs,q,by rw[e];exact Cu []⟩
def we(P:Prg T G)(R:RdP T)(k:Nat)(n:Nat)(r:Rw)(b:r.ok n){st:St}(V:st.ok)(h:HH):
 ∃kvs,Sb kvs 60 (λth=>th∈r.rd st)/\runN T G (k+5) "read_in" [.p r.enc,.p st.enc] h=aa (.r h.length,h++[.d kvs]):=by
 have B:∀kvs:List (Ky×D),fin h (.r h.length) (h++[.d kvs])=aa (.r h.length,h++[.d kvs]):=λkvs=>Ez h kvs [];have Z:∀kvs:List (Ky×D),dat (h++[.d kvs]) h.length=aa kvs:=λkvs=>A6 h kvs [];rw[run_eq R.read_in rfl];cases r with
 |set x s =>
  obtain⟨W,i⟩:jb s:=b;obtain⟨L,J,e⟩:=kj P R k s (by lia) W st V (h++[.d []]);have q:=Sb.nil.upd J;refine⟨_,(q.le (by lia)).iff λth=>by simp[Rw.rd],?_⟩;have:=J.len;have c:L.length<=100000:=by lia
  have U:(Rw.set x s).enc=.aC [.str "set",.str x.w,s.enc]:=rfl;rw[U];simp[gE,pO,e,Z,c,B]
 |put a s =>
  obtain⟨ha,hs⟩:jb a/\jb s:=b;obtain⟨W,i⟩:=hs;obtain⟨M,g⟩:=ha;obtain⟨L,J,e⟩:=kj P R k s (by lia) W st V (h++[.d []]);have q:=Sb.nil.upd J;obtain⟨f,Y,e2⟩:=kj P R k a (by lia) M st V (h++[.d (L.foldl (λc p=>ff c p.1 p.2) [])]);have O:=q.upd Y;refine⟨_,(O.le (by lia)).iff λth=>by simp[Rw.rd],?_⟩;have:=J.len;have:=Y.len;have:=q.len;have c:L.length<=100000:=by lia
  have j:(L.foldl (λc p=>ff c p.1 p.2) []).length+f.length<=100000:=by lia
  have U:(Rw.put a s).enc=.aC [.str "put",a.enc,s.enc]:=rfl;rw[U];simp[gE,pO,e,e2,Z,c,j,B]
 |_ =>
  refine⟨[],(Sb.nil.le (by lia)).iff λth=>by simp[Rw.rd],?_⟩;simp[gE,Rw.enc,B]
end
section
variable{T:FK->Option Fn}{G:ay->Option W}
def ya(P:TpP T G)(k:Nat){n r:Nat}{t:Tp}{h:HH}{e B:Nat}(a:TAt h n r t)(I:TI t e B)(m:Nat)(D:m<=t.far):
 runN T G (k+8) (.m "Tape" "reach") [.o n,.p (.int m)] h=aa (.p .aD,h):=by
 have q:=oO P k a I m;rw[bN (by lia)]at q;rw[run_eq P.reach rfl,nR];have e1:iI (aN (runN T G (k+7)) G rcC) (evS (runN T G (k+7)) G rcB) 100000 [aa (.o n),aa (.p (.int m))] h=aa (.nx [aa (.o n),aa (.p (.int m))] h):=by rw[show(100000:Nat)=99999+1 from rfl,iI,q,pP,tL]
 simp[turns,e1,c7]
def EA(P:TpP T G)(k:Nat){n r:Nat}{t:Tp}{h:HH}{e B:Nat}(a:TAt h n r t)(I:TI t e B)(m:Nat)(q:m<=t.far):
 runN T G (k+9) (.m "Tape" "has") [.o n,.p (.int m)] h=aa (.p (.bl ah),h):=by
 have b:=ya P k a I m q;have M:=I.far;have le:=I.run.le;rw[run_eq P.has rfl];have w:=mK P (k+7) m;have L:¬((m:Int)<0):=by lia
 have J:¬((t.most:Int)<(m:Int)):=by lia
 have D:(m:Int)<=(t.far:Int):=by lia
 simp[gW,w,L,J,D,q,a.ob,uz,b,c7]
def yb(P:TpP T G)(k:Nat){n r:Nat}{t:Tp}{h:HH}{e B:Nat}(a:TAt h n r t)(I:TI t e B)(m:Nat)(q:m<=t.far):
 runN T G (k+10) (.m "Tape" "check") [.o n,.p (.int m)] h=aa (.p .aD,h):=by
 have b:=EA P k a I m q;rw[run_eq P.check rfl];simp[fK,a.ob,Jc,b,c7]
def HN(P:TpP T G)(k:Nat){n r:Nat}{t:Tp}{h:HH}{e B:Nat}(a:TAt h n r t)(I:TI t e B)(m:Nat)(q:m<=t.far):
 runN T G (k+11) (.m "Tape" "at") [.o n,.p (.int m)] h=aa (.p (itr t.p t.aG m).enc,h) :=
 at_of P k a m (U3 q I.far) (yb P k a I m q) (Go.refl a) I (Sm8.refl t) (by lia)
end
def sqB:S:=(.seq (.ex (.m2 .app (.v 4) (.callv 2 (cV (.y (.i (.v 0) "program") (.y (.v 3) (.aE "ROW"))) (.v 3))))) (.set 3 (.aF (.v 0) "behind" (cW (.v 3)))))
def dS:Fn:=⟨["self","moment","reader"],["self","moment","reader","state","told","step"], (.seq (.ex (.aF (.v 0) "check" (cW (.v 1)))) (.blk (.seq (.set 3 (.y (.i (.v 0) "kept") (.j (.int 0)))) (.seq (.set 4 (.aB ah .nil)) (.seq (.for [(5,"step")] .rng1 (cW (.v 1)) (.seq (.ex (.m2 .app (.v 4) (.callv 2 (cV (.y (.i (.v 0) "program") (.y (.v 3) (.aE "ROW"))) (.v 3))))) (.set 3 (.aF (.v 0) "behind" (cW (.v 3)))))) (.ret (.v 4)))))))⟩
theorem qD:dS=⟨["self","moment","reader"],["self","moment","reader","state","told","step"],
 (.seq (.ex (.aF (.v 0) "check" (.cons (.v 1) .nil)))
 (.blk (.seq (.set 3 (.y (.i (.v 0) "kept") (.j (.int 0))))
 (.seq (.set 4 (.aB ah .nil))
 (.seq (.for [(5,"step")] .rng1 (.cons (.v 1) .nil) sqB)
 (.ret (.v 4)))))))⟩:=rfl
def A7(t:Tp)(i:Nat):Option Rw:=t.p[(itr t.p t.aG i).row]?
structure Rds(T:FK->Option Fn)(G:ay->Option W)(n:Nat)(t:Tp)(q:FK)(cs:List Cp)(C:Nat->Cl->Prop)(e:Nat):Prop where
 zero:C 0 (.l [])
 ok:∀i c,C i c->i<e->∀g:HH,pO .app g.length (g++[c])=ah
 next:∀i c,C i c->i<e->∀k h r t' rw,TAt h n r t'->Sm8 t t'->A7 t i=aa rw->∃w,runN T G (k+10) q (.p rw.enc::.p (itr t.p t.aG i).enc::cs.map Cp.w) h=aa (w,h)/\∃c',C (i+1) c'/\∀g:HH,oM2 .app g.length w (g++[c])=aa (.p .aD,g++[c'])
section
variable{T:FK->Option Fn}{G:ay->Option W}
def qE(t:Tp)(r:Nat):eN "steps_to" (t.fs r)=af:=iA t r rfl
theorem zF(P:TpP T G)(k:Nat){n r:Nat}{t:Tp}{h:HH}{e H:Nat}(a:TAt h n r t)(I:TI t e H){q:FK}{M:List Cp}{C:Nat->Cl->Prop}(U:Rds T G n t q M C e)(B:W):∀(d j:Nat)(c:Cl)(x:Option W)(lo:Int),C j c->j+d<=e →
 ∃O c',C (j+d) c'/\d9 (evS (runN T G (k+10)) G sqB) [(5,"step")] (upto lo d) [aa (.o n),aa B,aa (.c q M),aa (.p (itr t.p t.aG j).enc),aa (.r h.length),x] (h++[c]) =
  aa (.nx [aa (.o n),aa B,aa (.c q M),aa (.p (itr t.p t.aG (j+d)).enc),aa (.r h.length),O] (h++[c']))
 |0,j,c,x,lo,hc,_=>⟨x,c,hc,rfl⟩
 |d+1,j,c,x,lo,hc,hj=>by
  have le:=I.run.le;have m1:=I.m1;have A:=a.app (g:=[c]);obtain⟨D,J⟩:=uB I.run (i:=j) (by lia);obtain⟨w,Q,Y,V,Z⟩:=U.next j c hc (by lia) k (h++[c]) r t D A (.refl t) J
  have Z:=Z h;have ok:=U.ok j c hc (by lia) h;obtain⟨O,c',L,b⟩:=zF P k a I U B d (j+1) Y (aa (.p (.int lo))) (lo+1) V (by lia);have N:j+1+d=j+(d+1):=by lia
  rw[N]at L b;refine⟨O,c',L,?_⟩;have l:=a.app (g:=[Y]);have f:=jG P (k+3) l I.ok (j:=j) (st:=itr t.p t.aG j) (by lia) (iQ I.ok I.ask I.run j (by lia)) (I.run.on j (by lia));have s:step t.p t.aG (itr t.p t.aG j)=itr t.p t.aG (j+1):=rfl;rw[s]at f;have m:upto lo (d+1)=.int lo::upto (lo+1) d:=by unfold upto;rw[WY,UQ,Xk];simp only[YX,Int.add_zero,WG,true_and];apply VU;intro i _;simp;lia
  rw[m];have v:dJ (itr t.p t.aG j).enc (.int 0)=aa (.int ((itr t.p t.aG j).row:Int)):=rfl;have u:dJ (gB t.p) (.int ((itr t.p t.aG j).row:Int))=aa D.enc:=by show atP _ _=_;rw[gH,U1,J];rfl
  have F:evS (runN T G (k+10)) G sqB [aa (.o n),aa B,aa (.c q M),aa (.p (itr t.p t.aG j).enc),aa (.r h.length),aa (.p (.int lo))] (h++[c])=aa (.nx [aa (.o n),aa B,aa (.c q M),aa (.p (itr t.p t.aG (j+1)).enc),aa (.r h.length),aa (.p (.int lo))] (h++[Y])):=by
   generalize R:(itr t.p t.aG j).enc=z at *;generalize E:gB t.p=y at *;have K:eN "program" (t.fs r)=aa (.p y):=by rw[←E];rfl
   simp[-gY,sqB,ok,A.ob,l.ob,P.prg.ROW,K,v,u,Q,Z,mL,f]
  simp[F,b]
def mP(P:TpP T G)(N:T (.m "Tape" "steps_to")=aa dS)(k:Nat){n r:Nat}{t:Tp}{h:HH}{e d:Nat}(a:TAt h n r t)(I:TI t e d){q:FK}{V:List Cp}{C:Nat->Cl->Prop}(M:Rds T G n t q V C e)(m:Nat)(F:m<=e)
(R:∀c,C m c->∃w,(∀(g:HH),xw g (aa c)=aa (w,g))/\(∀n,w≠.r n)/\∀n,w≠.o n):
 ∃c w,C m c/\(∀(g:HH),xw g (aa c)=aa (w,g))/\q9 (runN T G (k+11) (.m "Tape" "steps_to") [.o n,.p (.int m),.c q V] h) w n h r t e d (max t.far m):=by
 obtain ⟨L,z,D,b,g,O,s,f⟩:=kO P k a I m F;have U:Rds T G n D q V C e:=⟨M.zero,M.ok,λi c K H k2 Q y u J X v E=>by
  have e1:A7 t i=aa J:=by rw[←E];unfold A7;rw[s.p,s.aG]
  have:=M.next i c K H k2 Q y u J X (s.trans v) e1
  rw[s.p,s.aG];exact this⟩
 obtain⟨x',W,B,Y⟩:=zF P k g.b O U (.p (.int m)) m 0 (.l []) af 0 M.zero (by lia);rw[aad]at B Y;obtain⟨w,j,nr,no⟩:=R W B;refine⟨W,w,B,j,L,z,D,?_,g,O,s,f⟩;have A:0<D.aH.length:=by rw[O.len];exact aae _
 have Z:=O.aH 0 A;rw[Nat.zero_mul]at Z;have ix:dJ (.aB (D.aH.map St.enc)) (.int 0)=aa (itr D.p D.aG 0).enc:=by show atP _ ((0:Nat):Int)=_;rw[gH,U1,Z];rfl
 have le:=I.run.le;have m1:=I.m1;have x:gO .rng1 [.int (m:Int)]=aa (upto 0 m):=by
  rw[jg];have c:((-100000<=(m:Int):Bool)&&((m:Int)<=100000:Bool))=ah:=by simp only[Uz,bM];lia
  rw[bJ c];rfl
 have fn:=λw=>fX g w;have S:fin L (.r L.length) (L++[W])=aa (w,L):=by simp[fin,j]
 rw[run_eq N rfl,qD];simp[-fC,-jg,a.ob,uA,b,g.b.ob,g.b.li,rd,ix,x,iS,Y,F9,S,fn]
end
def jdB:S:=(.seq (.set 7 (.p2 .y (.v 3) (.bin .sub (.v 6) (.j (.int 1))))) (.seq (.set 8 (.p2 .mem (.p2 .y (.v 7) (.j (.int 0))) (.v 4))) (.seq (.v (.v 8) (.seq (.ex (.m2 .pop (.v 4) (.p2 .y (.v 7) (.j (.int 0))))) (.ex (.m2 .upd (.v 4) (.p2 .y (.v 7) (.j (.int 1)))))) .nil) (.v (.z .notN (.p2 .y (.v 7) (.j (.int 0))) (.j .aD)) (.ex (.me .append (.v 5) (cW (.aC (cV (.v 6) (.v 8)))))) .nil))))
def jj:Fn:=⟨["tape","moment","term"],["tape","moment","term","steps","wanted","told","number","step","is_reason","<judged>"], (.seq (.set 3 (.methL (.v 0) "steps_to" (cW (.v 1)) 13 [])) (.blk (.seq (.set 4 (.call "read_by" (cV (.v 2) (.aF (.v 0) "at" (cW (.v 1)))))) (.seq (.set 5 (.aB ah .nil)) (.seq (.for [(6,"number")] .rng3 (cU (.v 1) (.j (.int 0)) (.neg (.j (.int 1)))) (.seq (.set 7 (.p2 .y (.v 3) (.bin .sub (.v 6) (.j (.int 1))))) (.seq (.set 8 (.p2 .mem (.p2 .y (.v 7) (.j (.int 0))) (.v 4))) (.seq (.v (.v 8) (.seq (.ex (.m2 .pop (.v 4) (.p2 .y (.v 7) (.j (.int 0))))) (.ex (.m2 .upd (.v 4) (.p2 .y (.v 7) (.j (.int 1)))))) .nil) (.v (.z .notN (.p2 .y (.v 7) (.j (.int 0))) (.j .aD)) (.ex (.me .append (.v 5) (cW (.aC (cV (.v 6) (.v 8)))))) .nil))))) (.ret (.stp ai (-1) (.v 5))))))))⟩
theorem uD:jj=⟨["tape","moment","term"],["tape","moment","term","steps","wanted","told","number","step","is_reason","<judged>"],
 (.seq (.set 3 (.methL (.v 0) "steps_to" (.cons (.v 1) .nil) 13 []))
 (.blk (.seq (.set 4 (.call "read_by" (.cons (.v 2) (.cons (.aF (.v 0) "at" (.cons (.v 1) .nil)) .nil))))
 (.seq (.set 5 (.aB ah .nil))
 (.seq (.for [(6,"number")] .rng3 (.cons (.v 1) (.cons (.j (.int 0)) (.cons (.neg (.j (.int 1))) .nil))) jdB)
 (.ret (.stp ai (-1) (.v 5))))))))⟩:=rfl
structure JdP(T:FK->Option Fn):Prop where
 rd:RdP T
 steps_to:T (.m "Tape" "steps_to")=aa dS
 judged:T "judged"=aa jj
 l13:T (.l 13)=aa yM
def oi(t:Tp)(i:Nat):List Th:=match A7 t i with
 |some r=>r.rd (itr t.p t.aG i)|none=>[]
def HP{t t':Tp}(s:Sm8 t t')(i:Nat):oi t' i=oi t i:=by unfold oi A7;rw[s.p,s.aG]
def sF{t t':Tp}(s:Sm8 t t')(i:Nat):wn t' i=wn t i:=by unfold wn;rw[s.p,s.aG]
def wtD(t:Tp)(Q:Th->Prop)(m:Nat):Nat->Th->Prop
 |0,th=>Q th
 |d+1,th=>match wn t (m-d-1)with
  |none=>wtD t Q m d th|some x=>(wtD t Q m d x/\((wtD t Q m d th/\th≠x)\/th∈oi t (m-d-1)))\/(¬wtD t Q m d x/\wtD t Q m d th)
theorem yc{t t':Tp}(s:Sm8 t t')(Q:Th->Prop)(m:Nat):∀(d:Nat)(th:Th),wtD t' Q m d th=wtD t Q m d th
 |0,th=>rfl
 |d+1,th=>by
  unfold wtD;rw[sF s,HP s];cases wn t (m-d-1)with
  |none=>exact yc s Q m d th|some x=>simp only[yc s Q m d]
def isR(t:Tp)(Q:Th->Prop)(m i:Nat):Prop:=∃x,wn t (i-1)=aa x/\wtD t Q m (m-i) x
open Classical in
noncomputable def ny(t:Tp)(Q:Th->Prop)(m j:Nat):D:=.aC [.int ((j:Int)+1),.bl (decide (isR t Q m (j+1)))]
open Classical in
def L0{t:Tp}{Q:Th->Prop}{m j:Nat}(h:isR t Q m (j+1)):ny t Q m j=.aC [.int ((j:Int)+1),.bl ah]:=by unfold ny;rw[bO h]
open Classical in
def L1{t:Tp}{Q:Th->Prop}{m j:Nat}(h:¬isR t Q m (j+1)):ny t Q m j=.aC [.int ((j:Int)+1),.bl ai]:=by unfold ny;rw[bN h]
def jud(t:Tp)(Q:Th->Prop)(m:Nat):List D:=((UZ m).filter λj=>(wn t j).isSome).map (ny t Q m)
def mQ(t:Tp)(Q:Th->Prop)(m j:Nat):List D:=(((UZ m).filter λi=>decide (j<=i)&&(wn t i).isSome).map (ny t Q m)).reverse
def L3(t:Tp)(Q:Th->Prop)(m:Nat):mQ t Q m m=[]:=by
 unfold mQ;rw[List.filter_eq_nil_iff.mpr (λi q=>by have:=List.mem_range.mp q;simp;lia)]
 rfl
def L4(t:Tp)(Q:Th->Prop)(m:Nat):mQ t Q m 0=(jud t Q m).reverse:=by unfold mQ jud;simp
def EB(m j:Nat)(p:Nat->Bool)(O:j<m):(UZ m).filter (λi=>decide (j<=i)&&p i)=(if p j then [j]else [])++(UZ m).filter (λi=>decide (j+1<=i)&&p i):=by
 induction m with
 |zero=>lia
 |succ m J =>
  rw[Y8,Yr,Yr]
  by_cases c:j=m
  ·subst c;have D:(UZ j).filter (λi=>decide (j<=i)&&p i)=[]:=List.filter_eq_nil_iff.mpr λi q=>by have:=List.mem_range.mp q;simp;lia
   have B:(UZ j).filter (λi=>decide (j+1<=i)&&p i)=[]:=List.filter_eq_nil_iff.mpr λi q=>by have:=List.mem_range.mp q;simp;lia
   rw[D,B];cases g:p j<;>simp[g]
  ·rw[J (by lia),Ve];have M:j<=m:=by lia
   have L:j+1<=m:=by lia
   congr 2;rw[V1,V1,bO M,bO L];rfl
def L5(t:Tp)(Q:Th->Prop)(m j:Nat)(q:j<m):mQ t Q m j=mQ t Q m (j+1)++(if(wn t j).isSome then [ny t Q m j]else []):=by unfold mQ;rw[EB m j _ q,WS,Yc];cases (wn t j).isSome<;>rfl
def Prs(t:Tp)(i:Nat)(ps:List Pr):Prop:=ps.length=i/\∀j,j<i->∃q,ps[j]?=aa (gX (wn t j),q)/\Sb q 60 (λth=>th∈oi t j)
def CP(t:Tp)(i:Nat)(c:Cl):Prop:=(i=0/\c=.l [])\/(0<i/\∃q,c=.s q/\Prs t i q)
section
variable{T:FK->Option Fn}{G:ay->Option W}
def A8(P:TpP T G)(O:WrP T)(J:JdP T)(k:Nat){t:Tp}{e:Nat}(ok:Pg.ok t.p){i:Nat}{st:St}(L:st.ok){B:Rw}(D:B∈t.p)(h:HH):
 ∃kvs,Sb kvs 60 (λth=>th∈B.rd st)/\runN T G (k+10) (.l 13) [.p B.enc,.p st.enc] h=aa (.k (.q (gX (wb st B)) kvs),h):=by
 have w:=kg P.prg O (k+3) t.p.length B (ok _ D) L h;obtain⟨kvs,M,b⟩:=we P.prg J.rd (k+4) t.p.length B (ok _ D) L h;refine⟨kvs,M,?_⟩;have z:=Cu (h:=h) (kvs:=kvs) [];rw[run_eq J.l13 rfl];generalize st.enc=y at *;generalize B.enc=x at *;simp[yM,w,b,z,c7]
def Pc(P:TpP T G)(f:WrP T)(J:JdP T){n:Nat}{t:Tp}{e d:Nat}(I:TI t e d):Rds T G n t (.l 13) [] (CP t) e:=by
 refine⟨.inl ⟨rfl,rfl⟩,λi c M Z g=>?_,λi c M Z k h r m B a s L=>?_⟩
 ·rcases M with⟨_,rfl⟩|⟨_,ps,rfl,_⟩
  simp[pO,lat];simp[pO,sat]
 ·have O:=iQ I.ok I.ask I.run i (by lia);obtain⟨q,D,b⟩:=A8 P f J k (t:=t) (e:=e) I.ok (i:=i) O.ok (UJ L) h;have e1:wb (itr t.p t.aG i) B=wn t i:=by unfold wn;rw[show t.p[(itr t.p t.aG i).row]?=aa B from L];rfl
  have e2:B.rd (itr t.p t.aG i)=oi t i:=by unfold oi;rw[L]
  rw[e1]at b;rw[e2]at D;refine⟨_,b,?_⟩;have le:=I.run.le;have m1:=I.m1;rcases M with⟨rfl,rfl⟩|⟨h0,ps,rfl,pl,pp⟩
  ·refine⟨.s [(gX (wn t 0),q)],.inr ⟨by lia,_,rfl,rfl,λj Y=>?_⟩,λg=>by simp[pat]⟩;have:j=0:=by lia
   subst this;exact⟨q,rfl,D⟩
  ·refine⟨.s (ps++[(gX (wn t i),q)]),.inr ⟨by lia,_,rfl,by simp[pl],λj Y=>?_⟩,λg=>?_⟩
   ·by_cases c:j<i
    ·obtain⟨W,V,U⟩:=pp j c;exact⟨W,by rw[UD (by lia)];exact V,U⟩
    ·have:j=i:=by lia
     subst this;exact⟨q,by rw[U4 (by lia),pl];simp,D⟩
   ·have c:ps.length<100000:=by lia
    simp[pat,c]
def zG(x:Th)(n:Nat)(h:HH):oP2 .mem (.p x.enc) (.r n) h=(dat h n).bind λkvs=>aa (.p (.bl (dR kvs x.ky).isSome),h):=by cases x<;>rfl
def wg(x:Th):jf x.enc=ai:=by cases x<;>rfl
def L6(j:Nat):down ((j:Int)+1) (j+1)=.int ((j:Int)+1)::down j j:=by unfold down;rw[WY,UQ,Xk];simp only[YX,Int.sub_zero,WG,true_and];apply VU;intro i _;simp;lia
noncomputable def jdS(n:Nat)(B q:W)(ps:List Pr)(H:Nat)(x y z:Option W):Sl:=[aa (.o n),aa B,aa q,aa (.k (.s ps)),aa (.r H),aa (.r (H+1)),x,y,z,af]
def HQ{F:FK->List W->HH->Option (W×HH)}(n:Nat)(L J:W){ps:List Pr}{j:Nat}{kw:List (Ky×D)}(V:ps[j]?=aa (.aD,kw))(h:HH)(kvs:List (Ky×D))(B:List D)(y z:Option W):
 ∃O M,evS F G jdB (jdS n L J ps h.length (aa (.p (.int ((j:Int)+1)))) y z) (h++[.d kvs,.l B])=aa (.nx (jdS n L J ps h.length (aa (.p (.int ((j:Int)+1)))) O M) (h++[.d kvs,.l B])):=by
 refine⟨aa (.k (.q .aD kw)),aa (.p (.bl ai)),?_⟩;have U:atP ps (j:Int)=aa (.aD,kw):=(gH ps j).trans V;simp[-atP,jdB,jdS,U,A6]
def Pd{F:FK->List W->HH->Option (W×HH)}(n:Nat)(L J:W){ps:List Pr}{j:Nat}{kw:List (Ky×D)}{x:Th}(a:ps[j]?=aa (x.enc,kw))(h:HH)(kvs:List (Ky×D))(B:List D)(y z:Option W)(Z:(dR kvs x.ky).isSome=ai)(b:B.length<100000):
 ∃O M,evS F G jdB (jdS n L J ps h.length (aa (.p (.int ((j:Int)+1)))) y z) (h++[.d kvs,.l B])=aa (.nx (jdS n L J ps h.length (aa (.p (.int ((j:Int)+1)))) O M) (h++[.d kvs,.l (B++[.aC [.int ((j:Int)+1),.bl ai]])])):=by
 refine⟨aa (.k (.q x.enc kw)),aa (.p (.bl ai)),?_⟩;have Y:atP ps (j:Int)=aa (x.enc,kw):=(gH ps j).trans a;have U:=wg x;have V:=zG x;generalize x.enc=xe at *;simp[-atP,-Option.isSome_eq_false_iff,-Option.isNone_iff_eq_none,jdB,jdS,Y,A6,V,Z,U,uC,nU,b]
def L7{F:FK->List W->HH->Option (W×HH)}(n:Nat)(L J:W){ps:List Pr}{j:Nat}{kw:List (Ky×D)}{x:Th}(e:ps[j]?=aa (x.enc,kw))(h:HH)(kvs:List (Ky×D))(B:List D)(y z:Option W)(a:(dR kvs x.ky).isSome=ah)(f:B.length<100000)(g:(kW kvs x.ky).length+kw.length<=100000):
 ∃O M,evS F G jdB (jdS n L J ps h.length (aa (.p (.int ((j:Int)+1)))) y z) (h++[.d kvs,.l B])=aa (.nx (jdS n L J ps h.length (aa (.p (.int ((j:Int)+1)))) O M) (h++[.d (kw.foldl (λc p=>ff c p.1 p.2) (kW kvs x.ky)),.l (B++[.aC [.int ((j:Int)+1),.bl ah]])])):=by
 refine⟨aa (.k (.q x.enc kw)),aa (.p (.bl ah)),?_⟩;have Z:atP ps (j:Int)=aa (x.enc,kw):=(gH ps j).trans e;have U:=wg x;have V:=zG x;have Y:=x.LU;obtain⟨v,b⟩:=Option.isSome_iff_exists.mp a;generalize x.enc=xe at *;simp[-atP,jdB,jdS,Z,A6,V,b,U,uC,nU,Ey,f,g,Y,pO]
def HR{F:FK->List W->HH->Option (W×HH)}(n:Nat)(Z Y:W){t:Tp}{Q:Th->Prop}{m:Nat}{ps:List Pr}(P:Prs t m ps)(h:HH):∀(j:Nat)(kvs:List (Ky×D)) (b:Nat) (x y z:Option W),Sb kvs b (wtD t Q m (m-j))->j<=m->m<=1000->b+60*j<=90000 →
 ∃I V U f,d9 (evS F G jdB) [(6,"number")] (down (j:Int) j) (jdS n Z Y ps h.length x y z) (h++[.d kvs,.l (mQ t Q m j)])=aa (.nx (jdS n Z Y ps h.length I V U) (h++[.d f,.l (mQ t Q m 0)])):=by
 intro j
 induction j with
 |zero=>intro kvs b x y z a R o S;exact⟨x,y,z,kvs,rfl⟩
 |succ j u =>
  intro kvs b x y z a R o S;obtain⟨N,e,E⟩:=P.2 j (by lia);have e1:m-j=(m-(j+1))+1:=by lia
  have e2:m-(m-(j+1))-1=j:=by lia
  have H:(mQ t Q m (j+1)).length<100000:=by unfold mQ;rw[List.length_reverse,UI];exact Xl (Wo _ _) (by rw[Xx];lia)
  have g:=L5 t Q m j (by lia);have T:(((j+1:Nat)):Int)=(j:Int)+1:=by lia
  rw[T,L6];have st:∀w,sets [(6,("number":ay))] [w] (jdS n Z Y ps h.length x y z)=jdS n Z Y ps h.length (aa (.p w)) y z:=λw=>rfl;have X:=E.len;cases hw:wn t j with
  |none =>
   rw[hw]at e g;obtain⟨V,U,i⟩:=HQ (F:=F) (G:=G) n Z Y e h kvs (mQ t Q m (j+1)) y z;have M:Sb kvs b (wtD t Q m (m-j)):=by rw[e1];refine a.iff λth=>?_;rw[wtD,e2,hw]
   obtain⟨L,J,B,O,r⟩:=u kvs b (aa (.p (.int ((j:Int)+1)))) V U M (by lia) o (by lia);refine⟨L,J,B,O,?_⟩;rw[g]at r;simp only[aac,WV,if_false,U8]at r;rw[d9];simp only[Vn,gi,st,i,iH];exact r
  |some w =>
   rw[hw]at e g
   by_cases c:wtD t Q m (m-(j+1)) w
   ·have A:(dR kvs w.ky).isSome=ah:=(sA ..).mpr ((a.mem w).mpr c);have C:=a.del w;have K:=C.upd E;have l1:=C.len;obtain⟨V,U,i⟩:=L7 (F:=F) (G:=G) n Z Y e h kvs (mQ t Q m (j+1)) y z A H (by lia);have M:Sb (N.foldl (λc p=>ff c p.1 p.2) (kW kvs w.ky)) (b+60) (wtD t Q m (m-j)):=by rw[e1];refine K.iff λth=>?_;rw[wtD,e2,hw];simp[c]
    obtain⟨L,J,B,O,r⟩:=u _ (b+60) (aa (.p (.int ((j:Int)+1)))) V U M (by lia) o (by lia);refine⟨L,J,B,O,?_⟩;have s:ny t Q m j=.aC [.int ((j:Int)+1),.bl ah]:=L0 ⟨w,hw,c⟩;rw[g,s]at r;simp only[Yb,if_true]at r;rw[d9];simp only[Vn,gi,st,i,iH];exact r
   ·have A:(dR kvs w.ky).isSome=ai:=Bool.eq_false_iff.mpr λz=>c ((a.mem w).mp ((sA ..).mp z));obtain⟨V,U,i⟩:=Pd (F:=F) (G:=G) n Z Y e h kvs (mQ t Q m (j+1)) y z A H;have M:Sb kvs b (wtD t Q m (m-j)):=by rw[e1];refine a.iff λth=>?_;rw[wtD,e2,hw];simp[c]
    obtain⟨L,J,B,O,r⟩:=u kvs b (aa (.p (.int ((j:Int)+1)))) V U M (by lia) o (by lia);refine⟨L,J,B,O,?_⟩;have s:ny t Q m j=.aC [.int ((j:Int)+1),.bl ai]:=L1 λ⟨v,k,q⟩=>by have k:wn t j=aa v:=k;rw[hw]at k;cases k;exact c q
    rw[g,s]at r;simp only[Yb,if_true]at r;rw[d9];simp only[Vn,gi,st,i,iH];exact r
def rdS(t:Tp)(s:Sm)(m:Nat):Th->Prop:=λth=>th∈s.rd (itr t.p t.aG m)
def EC(xs:List D):pM (-1) xs=xs.reverse:=by unfold pM;rw[PySem.W.krv_bounds];show(XN ((xs.length:Int)-1) (-1) (-1)).filterMap (λi=>xs[i]?)=_;rw[PySem.W.krv_sliceRange,PySem.W.krv_range,List.filterMap_reverse];have:=PySem.W.krv_all xs.toArray;simp only[UB,Z6]at this;rw[this]
def qF(P:TpP T G)(R:WrP T)(J:JdP T)(k:Nat){n r:Nat}{t:Tp}{h:HH}{e j:Nat}(a:TAt h n r t)(I:TI t e j)(s:Sm)(W:jb s)(m:Nat)(i:m<=e):
 q9 (runN T G (k+12) "judged" [.o n,.p (.int m),.p s.enc] h) (.p (.aB (jud t (rdS t s m) m))) n h r t e j (max t.far m):=by
 have le:=I.run.le;have m1:=I.m1;obtain⟨c,w,O,Y,q,H,A,b,g,v,U,f⟩:=mP P J.steps_to k a I (Pc P R J (n:=n) I) m i λc O=>by
  rcases O with⟨_,rfl⟩|⟨_,ps,rfl,_⟩
  exact⟨.p (.aB []),λg=>rfl,λn z=>(nomatch z),λn z=>nomatch z⟩;exact⟨.k (.s ps),λg=>rfl,λn z=>(nomatch z),λn z=>nomatch z⟩
 refine⟨q,H,A,?_,g,v,U,f⟩;have u:=HN P k g.b v m (by lia);rw[U.p,U.aG]at u;obtain⟨B,C,Q⟩:=nV P.prg J.rd (k+7) s (by have:=W.2;lia) W.1 _ (iQ I.ok I.ask I.run m i).ok q;have K:xq w q=aa (w,q):=by
  rcases O with⟨_,rfl⟩|⟨_,ps,rfl,_⟩
  cases Y q;rfl;cases Y q;rfl
 have E:gO .rng3 [.int (m:Int),.int 0,.int (-1)]=aa (down (m:Int) m):=by rw[rM,bJ (by lia)];simp
 have L:∃x y z M,d9 (evS (runN T G (k+11)) G jdB) [(6,"number")] (down (m:Int) m) [aa (.o n),aa (.p (.int m)),aa (.p s.enc),aa w,aa (.r q.length),aa (.r (q.length+1)),af,af,af,af] (q++[.d B,.l []])=aa (.nx [aa (.o n),aa (.p (.int m)),aa (.p s.enc),aa w,aa (.r q.length),aa (.r (q.length+1)),x,y,z,af] (q++[.d M,.l (jud t (rdS t s m) m).reverse])):=by
  rcases O with⟨rfl,rfl⟩|⟨_,ps,rfl,pp⟩
  exact⟨af,af,af,B,rfl⟩
  ·cases Y q;have V:Sb B 60 (wtD t (rdS t s m) m (m-m)):=by rw[YK];exact(C.le (by have:=W.2;lia)).iff λth=>aaL
   obtain⟨x,y,z,D,L⟩:=HR (F:=runN T G (k+11)) (G:=G) n (.p (.int m)) (.p s.enc) pp q m B 60 af af af V (UE _) (by lia) (by lia);rw[L3,L4]at L;exact⟨x,y,z,D,L⟩
 obtain⟨x,y,z,D,L⟩:=L;have Z:=EC (jud t (rdS t s m) m).reverse;rw[List.reverse_reverse]at Z;have fn:=λw=>fX g w;have N:fin q (.p (.aB (jud t (rdS t s m) m))) (q++[.d D,.l (jud t (rdS t s m) m).reverse])=aa (.p (.aB (jud t (rdS t s m) m)),q):=kY q _ _;have S:q++[Cl.d B]++[Cl.l []]=q++[Cl.d B,Cl.l []]:=by simp
 rw[run_eq J.judged rfl,uD];simp[a.ob,qE,b,K,g.b.ob,A5,u,Q,E,iS,L,uC,rd,Z,F9,N,fn]
end
noncomputable def nI(xs:List Nat):List Int:=xs.map λ(n:Nat)=>(n:Int)
def wj(xs:List Nat):cZ xs=cY (nI xs):=by simp[cZ,cY,nI]
theorem iF:∀(xs:List Nat),intsOf (cZ xs)=aa (nI xs)
 |[]=>rfl
 |x::xs=>by show(intsOf (cZ xs)).map ((x:Int) :: ·)=_;rw[iF xs];rfl
theorem wk(w:Int):∀(xs σ:List Int),w∈xs.foldl (fun σ v=>if σ.any (·==v)then σ else σ++[v]) σ↔w∈σ\/w∈xs
 |[],σ=>by simp
 |v::xs,σ=>by
  have:w∈(if σ.any (·==v)then σ else σ++[v])↔w∈σ\/w=v:=by
   split
   ·rename_i c;obtain⟨x,q,e⟩:=List.any_eq_true.mp c;cases beq_iff_eq.mp e;exact⟨.inl,λz=>z.elim id λz=>z ▸ q⟩
   simp
  rw[Wp,wk w xs,this,Xb,or_assoc]
def ED(x:Nat)(l:List Nat):(x:Int)∈nI l↔x∈l:=by
 unfold nI;rw[Xj];constructor
 ·rintro ⟨y,h1,h2⟩
  have e:y=x:=by lia
  rw[←e];exact h1
 exact λh=>⟨x,h,rfl⟩
def EE{S:List Nat}(q:S.Pairwise (· < ·)):(nI S).Pairwise (· < ·):=Zp _ (λa b h=>by lia) q
def HS{l S:List Nat}(B:∀x,x∈l↔x∈S)(q:S.Pairwise (· < ·))(D:l.length<64):biD .sset [.aB (cZ l)]=aa (.aB (cZ S)):=by
 have e:nI S=sortI (ded (nI l)):=by refine aak ?_ ((EE q).imp λz=>by lia) (lY _);refine((Zn ((EE q).imp λz=>by lia) (BX.rS _)).mpr λw=>?_).trans (sortI_perm _).symm;rw[ded,wk];simp only[WE,false_or];unfold nI;simp only[Xj];exact⟨λ⟨y,h1,h2⟩=>⟨y,(B y).mpr h1,h2⟩,λ⟨y,h1,h2⟩=>⟨y,(B y).mp h1,h2⟩⟩
 rw[vg,iF,VA,bJ (by unfold nI;rw[UI];exact D),←e,wj];rfl
def L8{l S:List Nat}(B:l.Perm S)(q:S.Pairwise (· < ·))(D:l.length<64):biD .sorted [.aB (cZ l)]=aa (.aB (cZ S)):=by have e:nI S=sortI (nI l):=aak ((B.symm.map _).trans (sortI_perm _).symm) ((EE q).imp λz=>by lia) (lY _);rw[pJ,iF,VA,bJ (by unfold nI;rw[UI];exact D),←e,wj];rfl
noncomputable def mvs(m:Nat)(p:Nat->Bool):List Nat:=((UZ m).filter λj=>p (j+1)).map (·+1)
def gK{m:Nat}{p:Nat->Bool}{x:Nat}:x∈mvs m p↔1<=x/\x<=m/\p x=ah:=by unfold mvs;simp only[Xj,List.mem_filter,List.mem_range];exact⟨λ⟨j,⟨h1,h2⟩,h3⟩=>by subst h3;exact⟨by lia,by lia,h2⟩,λ⟨h1,h2,h3⟩=>⟨x-1,⟨by lia,by rw[show x-1+1=x by lia];exact h3⟩,by lia⟩⟩
def uE(m:Nat)(p:Nat->Bool):(mvs m p).Pairwise (· < ·):=by unfold mvs;refine Zp _ (λa b h=>Nat.succ_lt_succ h) ?_;exact(ZZ (n:=m)).filter _
def i7(m:Nat)(p:Nat->Bool):(mvs m p).length<=m:=by unfold mvs;rw[UI];exact U3 (Wo _ _) (by rw[Xx];exact UE _)
def qG(m:Nat)(p:Nat->Bool):mvs (m+1) p=mvs m p++(if p (m+1)then [m+1]else []):=by unfold mvs;rw[Y8,Yr,WS];cases h:p (m+1)<;>simp[h]
def A9{m:Nat}{p q:Nat->Bool}(h:∀x,1<=x->x<=m->p x=q x):mvs m p=mvs m q:=by unfold mvs;congr 1;exact YB λj B=>h (j+1) (by lia) (by have:=List.mem_range.mp B;lia)
open Classical in
noncomputable def fY(t:Tp)(Q:Th->Prop)(m x:Nat):Bool:=decide (isR t Q m x)
def iR{t:Tp}{Q:Th->Prop}{m x:Nat}:fY t Q m x=ah↔isR t Q m x:=by unfold fY;simp
def wrs(t:Tp)(x:Nat):Bool:=(wn t (x-1)).isSome
def rsn(t:Tp)(Q:Th->Prop)(m:Nat):List Nat:=mvs m (fY t Q m)
def ndl(t:Tp)(Q:Th->Prop)(m:Nat):List Nat:=mvs m λx=>wrs t x&&!fY t Q m x
def wm{t:Tp}{Q:Th->Prop}{m x:Nat}(h:fY t Q m x=ah):wrs t x=ah:=by obtain⟨w,q,_⟩:=iR.mp h;unfold wrs;rw[q];rfl
def zH{t t':Tp}(s:Sm8 t t')(Q:Th->Prop)(m x:Nat):fY t' Q m x=fY t Q m x:=by
 have e:isR t' Q m x=isR t Q m x:=by unfold isR;simp only[sF s,yc s]
 unfold fY;rw[e]
def yd{t t':Tp}(s:Sm8 t t')(x:Nat):wrs t' x=wrs t x:=by unfold wrs;rw[sF s]
def nA{t t':Tp}(s:Sm8 t t')(Q:Th->Prop)(m:Nat):rsn t' Q m=rsn t Q m:=by unfold rsn;rw[show fY t' Q m=fY t Q m from funext λx=>zH s Q m x]
def EF{t t':Tp}(s:Sm8 t t')(Q:Th->Prop)(m:Nat):ndl t' Q m=ndl t Q m:=by unfold ndl;congr 1;funext x;rw[zH s,yd s]
def lF{t t':Tp}(s:Sm8 t t')(c:Sm)(m:Nat):rdS t' c m=rdS t c m:=by unfold rdS;rw[s.p,s.aG]
def jI:Fn:=⟨["tape","moment","term"],["tape","moment","term"], (.ret (.comp ai .seq (cW (.call "judged" (cU (.v 0) (.v 1) (.v 2)))) ["number","is_reason"] [] (cW (.v 1)) (.v 0)))⟩
def i8:Fn:=⟨["tape","moment","term"],["tape","moment","term"], (.ret (.comp ai .seq (cW (.call "judged" (cU (.v 0) (.v 1) (.v 2)))) ["number","is_reason"] [] (cW (.not (.v 1))) (.v 0)))⟩
open Classical in
def zI(t:Tp)(Q:Th->Prop)(m j:Nat):ny t Q m j=.aC [.int ((j:Int)+1),.bl (fY t Q m (j+1))]:=by unfold ny fY;rfl
section
variable{T:FK->Option Fn}{G:ay->Option W}
def nB(l:List Nat)(p:Nat->Bool):l.filterMap (λj=>if p j=ah then aa (D.int ((j:Int)+1))else af)=cZ ((l.filter p).map (·+1)):=by
 induction l with
 |nil=>rfl
 |cons x l q =>
  rw[U5,V1];cases h:p x;simp[q];simp[q,cZ]
def nW(P:TpP T G)(i:WrP T)(J:JdP T)(Z:T "reasons"=aa jI)(k:Nat){n r:Nat}{t:Tp}{h:HH}{e L:Nat}(a:TAt h n r t)(I:TI t e L)(s:Sm)(V:jb s)(m:Nat)(W:m<=e):
 q9 (runN T G (k+13) "reasons" [.o n,.p (.int m),.p s.enc] h) (.p (.aB (cZ (rsn t (rdS t s m) m)))) n h r t e L (max t.far m):=by
 obtain⟨B,U,M,b,g,l,O,f⟩:=qF P i J k a I s V m W;refine⟨B,U,M,?_,g,l,O,f⟩;have le:=I.run.le;have m1:=I.m1;have fn:=λw=>fX g w;have c:dN (eV (evs (runN T G (k+12)) G (.cons (.v 1) .nil)) (aN (runN T G (k+12)) G (.v 0)) []) 2 (jud t (rdS t s m) m) B=aa (cZ (rsn t (rdS t s m) m),B):=by
  have q:=Ew (eV (evs (runN T G (k+12)) G (.cons (.v 1) .nil)) (aN (runN T G (k+12)) G (.v 0)) []) 2 (ny t (rdS t s m) m) (λj=>[.int ((j:Int)+1),.bl (fY t (rdS t s m) m (j+1))]) (λj=>if fY t (rdS t s m) m (j+1)=ah then aa (.int ((j:Int)+1))else af) B ((UZ m).filter λj=>(wn t j).isSome) λj u=>by refine⟨by rw[zI];rfl,?_⟩;cases fY t (rdS t s m) m (j+1)<;>simp[eV,eZ]
  rw[nB,aaK]at q;unfold jud rsn mvs;rw[q];congr 4;apply YB;intro j _;cases Y:fY t (rdS t s m) m (j+1);rfl
  ·have:=wm Y;unfold wrs at this;simpa using this
 have d:(cZ (rsn t (rdS t s m) m)).length<=100000:=by have:=i7 m (fY t (rdS t s m) m);simp only[cZ,UI];unfold rsn;lia
 have D:=mO (F:=runN T G (k+12)) (G:=G) (sr:=.seq) (sa:=.cons (.call "judged" (.cons (.v 0) (.cons (.v 1) (.cons (.v 2) .nil)))) .nil) (tg:=["number","is_reason"]) (fv:=[]) (cond:=.cons (.v 1) .nil) (elt:=.v 0) (s:=[aa (.o n),aa (.p (.int m)),aa (.p s.enc)]) (h:=h) (ws:=[.p (.aB (jud t (rdS t s m) m))]) (h1:=B) (fs:=[]) (by simp[b]) rfl rfl rfl c d;rw[run_eq Z rfl];have D:aN (runN T G (k+12)) G (.comp ai .seq (.cons (.call "judged" (.cons (.v 0) (.cons (.v 1) (.cons (.v 2) .nil)))) .nil) ["number","is_reason"] [] (.cons (.v 1) .nil) (.v 0)) [aa (.o n),aa (.p (.int m)),aa (.p s.enc)] h=_:=D;show mZ (bnd (aN (runN T G (k+12)) G (.comp ai .seq (.cons (.call "judged" (.cons (.v 0) (.cons (.v 1) (.cons (.v 2) .nil)))) .nil) ["number","is_reason"] [] (.cons (.v 1) .nil) (.v 0)) [aa (.o n),aa (.p (.int m)),aa (.p s.enc)] h) qR) (fin h)=_;rw[D];exact fn _
def mR(P:TpP T G)(d:WrP T)(J:JdP T)(W:T "needless"=aa i8)(k:Nat){n r:Nat}{t:Tp}{h:HH}{e D:Nat}(a:TAt h n r t)(I:TI t e D)(s:Sm)(U:jb s)(m:Nat)(V:m<=e):
 q9 (runN T G (k+13) "needless" [.o n,.p (.int m),.p s.enc] h) (.p (.aB (cZ (ndl t (rdS t s m) m)))) n h r t e D (max t.far m):=by
 obtain⟨B,O,L,b,g,i,M,f⟩:=qF P d J k a I s U m V;refine⟨B,O,L,?_,g,i,M,f⟩;have le:=I.run.le;have m1:=I.m1;have fn:=λw=>fX g w;have c:dN (eV (evs (runN T G (k+12)) G (.cons (.not (.v 1)) .nil)) (aN (runN T G (k+12)) G (.v 0)) []) 2 (jud t (rdS t s m) m) B=aa (cZ (ndl t (rdS t s m) m),B):=by
  have q:=Ew (eV (evs (runN T G (k+12)) G (.cons (.not (.v 1)) .nil)) (aN (runN T G (k+12)) G (.v 0)) []) 2 (ny t (rdS t s m) m) (λj=>[.int ((j:Int)+1),.bl (fY t (rdS t s m) m (j+1))]) (λj=>if(!fY t (rdS t s m) m (j+1))=ah then aa (.int ((j:Int)+1))else af) B ((UZ m).filter λj=>(wn t j).isSome) λj l=>by refine⟨by rw[zI];rfl,?_⟩;cases fY t (rdS t s m) m (j+1)<;>simp[eV,eZ]
  rw[nB,aaK]at q;unfold jud ndl mvs;rw[q];congr 4;apply YB;intro j _;rw[Bool.and_comm];rfl
 have Z:(cZ (ndl t (rdS t s m) m)).length<=100000:=by have:=i7 m λx=>wrs t x&&!fY t (rdS t s m) m x;simp only[cZ,UI];unfold ndl;lia
 have Y:=mO (F:=runN T G (k+12)) (G:=G) (sr:=.seq) (sa:=.cons (.call "judged" (.cons (.v 0) (.cons (.v 1) (.cons (.v 2) .nil)))) .nil) (tg:=["number","is_reason"]) (fv:=[]) (cond:=.cons (.not (.v 1)) .nil) (elt:=.v 0) (s:=[aa (.o n),aa (.p (.int m)),aa (.p s.enc)]) (h:=h) (ws:=[.p (.aB (jud t (rdS t s m) m))]) (h1:=B) (fs:=[]) (by simp[b]) rfl rfl rfl c Z;rw[run_eq W rfl];show mZ (bnd (aN (runN T G (k+12)) G (.comp ai .seq (.cons (.call "judged" (.cons (.v 0) (.cons (.v 1) (.cons (.v 2) .nil)))) .nil) ["number","is_reason"] [] (.cons (.not (.v 1)) .nil) (.v 0)) [aa (.o n),aa (.p (.int m)),aa (.p s.enc)] h) qR) (fin h)=_;rw[show aN (runN T G (k+12)) G (.comp ai .seq (.cons (.call "judged" (.cons (.v 0) (.cons (.v 1) (.cons (.v 2) .nil)))) .nil) ["number","is_reason"] [] (.cons (.not (.v 1)) .nil) (.v 0)) [aa (.o n),aa (.p (.int m)),aa (.p s.enc)] h=_ from Y];exact fn _
end
def rmB:S:=(.seq (.set 5 (.y (.v 3) (.bin .sub (.v 2) (.j (.int 1))))) (.set 4 (.aF (.v 0) "behind" (cW (.aC (cR (.y (.v 5) (.aE "ROW")) (.y (.v 4) (.aE "NAMES")) (.y (.v 4) (.aE "CELLS")) (.y (.v 5) (.aE "CALLS")) (.y (.v 5) (.aE "ASKED")) (.aC .nil)))))))
def rmK:S:=.ex (.call "check_step" (cV (.v 0) (.v 2)))
def jk:Fn:=⟨["tape","moments"],["tape","moments","moment","heads","state","head","<remade>"], (.seq (.for [(2,"moment")] .seq (cW (.v 1)) (.ex (.call "check_step" (cV (.v 0) (.v 2))))) (.seq (.set 3 (.methL (.v 0) "steps_to" (cW (.bi .maxd ai (cV (.v 1) (.j (.int 0))))) 14 [])) (.seq (.set 4 (.call "begun" .nil)) (.seq (.for [(2,"moment")] .seq (cW (.bi .sset ai (cW (.v 1)))) (.seq (.set 5 (.y (.v 3) (.bin .sub (.v 2) (.j (.int 1))))) (.set 4 (.aF (.v 0) "behind" (cW (.aC (cR (.y (.v 5) (.aE "ROW")) (.y (.v 4) (.aE "NAMES")) (.y (.v 4) (.aE "CELLS")) (.y (.v 5) (.aE "CALLS")) (.y (.v 5) (.aE "ASKED")) (.aC .nil)))))))) (.ret (.aC (cV (.y (.v 4) (.aE "NAMES")) (.y (.v 4) (.aE "CELLS")))))))))⟩
theorem uF:jk=⟨["tape","moments"],["tape","moments","moment","heads","state","head","<remade>"],
 (.seq (.for [(2,"moment")] .seq (.cons (.v 1) .nil) rmK)
 (.seq (.set 3 (.methL (.v 0) "steps_to" (.cons (.bi .maxd ai (.cons (.v 1) (.cons (.j (.int 0)) .nil))) .nil) 14 []))
 (.seq (.set 4 (.call "begun" .nil))
 (.seq (.for [(2,"moment")] .seq (.cons (.bi .sset ai (.cons (.v 1) .nil)) .nil) rmB)
 (.ret (.aC (.cons (.y (.v 4) (.aE "NAMES")) (.cons (.y (.v 4) (.aE "CELLS")) .nil))))))))⟩:=rfl
structure RmP(T:FK->Option Fn):Prop where
 remade:T "remade"=aa jk
 steps_to:T (.m "Tape" "steps_to")=aa dS
 l14:T (.l 14)=aa yN
def mix(t:Tp)(i:Nat)(st:St):St:=⟨(itr t.p t.aG i).row,st.names,st.cells,(itr t.p t.aG i).calls,(itr t.p t.aG i).aG,[]⟩
def rmd(t:Tp):List Nat->St->St
 |[],st=>st|x::l,st=>rmd t l (step t.p t.aG (mix t (x-1) st))
theorem uG(t:Tp):∀(l r:List Nat)(st:St),rmd t (l++r) st=rmd t r (rmd t l st)
 |[],r,st=>rfl|x::l,r,st=>uG t l r _
def Ma{t t':Tp}(s:Sm8 t t')(i:Nat)(st:St):mix t' i st=mix t i st:=by unfold mix;rw[s.p,s.aG]
theorem uH{t t':Tp}(s:Sm8 t t'):∀(l:List Nat)(st:St),rmd t' l st=rmd t l st
 |[],st=>rfl
 |x::l,st=>by show rmd t' l (step t'.p t'.aG (mix t' (x-1) st))=_;rw[Ma s,s.p,s.aG,uH s l];rfl
def wo(t:Tp)(i:Nat)(st:St):over t.p (mix t i st)=over t.p (itr t.p t.aG i):=by
 unfold over;show(match t.p[(itr t.p t.aG i).row]? with|some r=>r.over (mix t i st)|none=>ah)=_;cases t.p[(itr t.p t.aG i).row]? with
 |none=>rfl|some r=>cases r<;>rfl
def ye{t:Tp}{e:Nat}(ok:Pg.ok t.p)(ask:Ask t.aG)(R:Run t.p t.aG t.most e){i:Nat}(hi:i<=e){st:St}(q:st.ok):At i (mix t i st):=by have a:=iQ ok ask R i hi;exact⟨⟨q.nlen,q.clen,q.nw,q.cw⟩,Vx _,a.calls⟩
def wu{t:Tp}{e:Nat}(ok:Pg.ok t.p)(ask:Ask t.aG)(R:Run t.p t.aG t.most e){i:Nat}(hi:i<e){st:St}(q:st.ok):(step t.p t.aG (mix t i st)).ok :=
 (zx ok ask (ye ok ask R (VQ hi) q) ((wo t i st).trans (R.on i hi))).ok
theorem yf{t:Tp}{e:Nat}(ok:Pg.ok t.p)(ask:Ask t.aG)(R:Run t.p t.aG t.most e):∀(l:List Nat)(st:St),(∀x∈l,1<=x/\x<=e)->st.ok->(rmd t l st).ok
 |[],st,_,ho=>ho
 |x::l,st,hl,ho=>by have:=hl x UH;exact yf ok ask R l _ (λy q=>hl y (UC _ q)) (wu ok ask R (by lia) ho)
def hdD(t:Tp)(i:Nat):D:=.aC [.int (itr t.p t.aG i).row,.aC (cY (itr t.p t.aG i).names),.aC (cY (itr t.p t.aG i).cells),.aC (cZ (itr t.p t.aG i).calls),.int (itr t.p t.aG i).aG]
def hds(t:Tp)(M:Nat):List D:=(UZ M).map (hdD t)
section
variable{T:FK->Option Fn}{G:ay->Option W}
theorem zJ(P:TpP T G)(M:WrP T)(k:Nat){n:Nat}{e J:Nat}(q:W):∀(l:List Nat)(h:HH)(r:Nat)(t:Tp) (x:Option W),TAt h n r t->TI t e J->(∀y∈l,1<=y/\y<=e) →
 ∃B h' g t',d9 (evS (runN T G (k+11)) G rmK) [(2,"moment")] (cZ l) [aa (.o n),aa q,x,af,af,af,af] h=aa (.nx [aa (.o n),aa q,B,af,af,af,af] h')/\Go n h r t h' g t'/\TI t' e J/\Sm8 t t'
 |[],h,r,t,x,a,I,_=>⟨x,h,r,t,rfl,Go.refl a,I,Sm8.refl t⟩
 |y::l,h,r,t,x,a,I,hl=>by
  obtain⟨U,O⟩:=hl y UH;obtain⟨D,f,Y,v,L,A,c⟩:=kh P M k a I y U O;obtain⟨B,j,d,V,u,m,w,Z⟩:=zJ P M k q l D f Y (aa (.p (.int y))) L.b A λz i=>hl z (UC _ i);refine⟨B,j,d,V,?_,L.trans m,w,c.trans Z⟩;have s:evS (runN T G (k+11)) G rmK [aa (.o n),aa q,aa (.p (.int y)),af,af,af,af] h=aa (.nx [aa (.o n),aa q,aa (.p (.int y)),af,af,af,af] D):=by simp[rmK,v]
  show d9 _ _ (.int (y:Int)::cZ l) _ _=_;rw[d9];simp only[Vn,gi,sets,aaJ,aaI,s,iH];exact u
def Pe(P:TpP T G)(M:RmP T){n:Nat}{t:Tp}{e L:Nat}(I:TI t e L):Rds T G n t (.l 14) [] (λi c=>c=.l (hds t i)) e:=by
 have le:=I.run.le;have m1:=I.m1;refine⟨rfl,λi c B J g=>by subst B;simp[pO,lat],λi c B J k h r O q a s U=>?_⟩;subst B;have D:mW (itr t.p t.aG i).enc af (aa 5)=aa (hdD t i):=by unfold St.enc hdD;rw[xj];rfl
 have b:runN T G (k+10) (.l 14) [.p q.enc,.p (itr t.p t.aG i).enc] h=aa (.p (hdD t i),h):=by rw[run_eq M.l14 rfl];generalize (itr t.p t.aG i).enc=y at *;simp[yN,P.prg.SAID,D,c7]
 refine⟨_,b,.l (hds t (i+1)),rfl,λg=>?_⟩;have e1:hds t (i+1)=hds t i++[hdD t i]:=by unfold hds;rw[Y8,WS];rfl
 have c:(hds t i).length<100000:=by unfold hds;rw[UI,Xx];lia
 rw[e1];simp[lat,c]
theorem zK(P:TpP T G)(k:Nat){n r:Nat}{t:Tp}{h:HH}{e f:Nat}(a:TAt h n r t)(I:TI t e f)(B:W){M:Nat}(d:M<=e):∀(S:List Nat)(st:St)(x y:Option W),st.ok->(∀z∈S,1<=z/\z<=M) →
 ∃J D,d9 (evS (runN T G (k+11)) G rmB) [(2,"moment")] (cZ S) [aa (.o n),aa B,x,aa (.p (.aB (hds t M))),aa (.p st.enc),y,af] h=aa (.nx [aa (.o n),aa B,J,aa (.p (.aB (hds t M))),aa (.p (rmd t S st).enc),D,af] h)
 |[],st,x,y,_,_=>⟨x,y,rfl⟩
 |z::S,st,x,y,ho,hS=>by
  obtain⟨m,l⟩:=hS z UH;have le:=I.run.le;have m1:=I.m1;obtain⟨J,D,b⟩:=zK P k a I B d S (step t.p t.aG (mix t (z-1) st)) (aa (.p (.int z))) (aa (.p (hdD t (z-1)))) (wu I.ok I.ask I.run (by lia) ho) λq c=>hS q (UC _ c);refine⟨J,D,?_⟩;have L:=jG P (k+4) a I.ok (j:=z-1) (st:=mix t (z-1) st) (by lia) (ye I.ok I.ask I.run (by lia) ho) ((wo t (z-1) st).trans (I.run.on (z-1) (by lia)));have g:(mix t (z-1) st).enc=.aC [.int (itr t.p t.aG (z-1)).row,.aC (cY st.names),.aC (cY st.cells),.aC (cZ (itr t.p t.aG (z-1)).calls),.int (itr t.p t.aG (z-1)).aG,.aC []]:=rfl;rw[g]at L;have Z:dJ (.aB (hds t M)) (.int (z-1))=aa (hdD t (z-1)):=by show atP _ _=_;rw[show((z:Int)-1)=((z-1:Nat):Int) by lia,gH];unfold hds;rw[U1,WI (by lia)];rfl
  have Y:dJ (hdD t (z-1)) (.int 0)=aa (.int (itr t.p t.aG (z-1)).row):=rfl;have V:dJ (hdD t (z-1)) (.int 3)=aa (.aC (cZ (itr t.p t.aG (z-1)).calls)):=rfl;have U:dJ (hdD t (z-1)) (.int 4)=aa (.int (itr t.p t.aG (z-1)).aG):=rfl;have O:dJ st.enc (.int 1)=aa (.aC (cY st.names)):=rfl;have k2:dJ st.enc (.int 2)=aa (.aC (cY st.cells)):=rfl;have i:evS (runN T G (k+11)) G rmB [aa (.o n),aa B,aa (.p (.int z)),aa (.p (.aB (hds t M))),aa (.p st.enc),y,af] h=aa (.nx [aa (.o n),aa B,aa (.p (.int z)),aa (.p (.aB (hds t M))),aa (.p (step t.p t.aG (mix t (z-1) st)).enc),aa (.p (hdD t (z-1))),af] h):=by generalize hdD t (z-1)=hd at *;generalize st.enc=se at *;generalize (step t.p t.aG (mix t (z-1) st)).enc=sn at *;generalize hds t M=hm at *;simp[-fC,-gY,rmB,rd,Z,Y,V,U,O,k2,P.prg.ROW,P.prg.NAMES,P.prg.CELLS,P.prg.CALLS,P.prg.ASKED,a.ob,mL,L]
  show d9 _ _ (.int (z:Int)::cZ S) _ _=_;rw[d9];simp only[Vn,gi,sets,aaJ,aaI,i,iH];exact b
def HU{e:Nat}:∀{l:List Nat},(∀x∈l,1<=x/\x<=e)->∃M:Nat,biD .maxd [.aB (cZ l),.int 0]=aa (.int (M:Int))/\M<=e/\∀x∈l,x<=M:=by
 intro l L;rw[vh,iF];cases q:sY (nI l)with
 |none =>
  cases l with
  |nil=>exact⟨0,by rw[Wi,q];rfl,Vx _,λx B=>nomatch B⟩|cons x l=>exact gy q.symm
 |some M =>
  obtain⟨D,O⟩:=kG q;unfold nI at D;obtain⟨y,J,e1⟩:=List.mem_map.mp D;subst e1;refine⟨y,by rw[Wi,q];rfl,(L y J).2,λx B=>?_⟩;have:=O (x:Int) ((ED x l).mpr B);lia
def lG(P:TpP T G)(Wr:WrP T)(W:RmP T)(k:Nat){n r:Nat}{t:Tp}{h:HH}{e f:Nat}(a:TAt h n r t)(I:TI t e f){l S:List Nat}(J:∀x∈l,1<=x/\x<=e)(D:∀x,x∈l↔x∈S)(K:S.Pairwise (· < ·))(hz:l.length<64):
 q8 (runN T G (k+12) "remade" [.o n,.p (.aB (cZ l))] h) (.p (.aC [.aC (cY (rmd t S St.zero).names),.aC (cY (rmd t S St.zero).cells)])) n h r t e f:=by
 obtain⟨y,h1,r1,Z,X,q,v,C⟩:=zJ P Wr k (.p (.aB (cZ l))) l h r t af a I J;obtain⟨M,F,d,O⟩:=HU J;obtain⟨c,w,L,Q,U,E,Y,m,V,u,B,f2⟩:=mP P W.steps_to k q.b v (Pe P W (n:=n) v) M d λc L=>by subst L;exact⟨.p (.aB (hds Z M)),λg=>rfl,λn z=>(nomatch z),λn z=>nomatch z⟩
 subst L;cases Q U;have s:=C.trans B;have N:hds Z M=hds Y M:=by unfold hds;congr 1;funext i;unfold hdD;rw[B.p,B.aG]
 rw[N]at m;have R:=rZ P.prg (k+10) U;obtain⟨x3,y3,j⟩:=zK P k V.b u (.p (.aB (cZ l))) d S St.zero y af oN λz hz=>⟨(J z ((D z).mpr hz)).1,O z ((D z).mpr hz)⟩;rw[uH s]at j;refine⟨U,E,Y,?_,q.trans V,u,s⟩;have A:=HS D K hz;have fn:=λw=>fX (q.trans V) w;have H:dJ (rmd t S St.zero).enc (.int 1)=aa (.aC (cY (rmd t S St.zero).names)):=rfl;have k2:dJ (rmd t S St.zero).enc (.int 2)=aa (.aC (cY (rmd t S St.zero).cells)):=rfl;generalize (rmd t S St.zero).enc=se at *;rw[run_eq W.remade rfl,uF];simp[-gY,rd,iS,X,F,q.b.ob,qE,m,R,A,j,H,k2,P.prg.NAMES,P.prg.CELLS,fn]
end
theorem fu{st st':St}:∀(s:Sm),(∀th∈s.rd st,th.val st'=th.val st)->s.val st'=s.val st/\s.rd st'=s.rd st
 |.num _,_=>⟨rfl,rfl⟩|.nam x,h=>⟨h (.nm x) UH,rfl⟩
 |.cell s,h=>by obtain⟨B,J⟩:=fu s λth q=>h th (Vl _ q);have D:=h (.cl (s.val st%4).toNat (by lia)) (UW _ UH);refine⟨?_,by simp only[Sm.rd,B,J]⟩;show st'.cells.getD (s.val st'%4).toNat 0=st.cells.getD (s.val st%4).toNat 0;rw[B];exact D
 |.two o a b,h=>by obtain⟨B,J⟩:=fu a λth q=>h th (Vl _ q);obtain⟨D,L⟩:=fu b λth q=>h th (UW _ q);exact⟨by simp only[Sm.val,B,D],by simp only[Sm.rd,J,L]⟩
def Je{st st':St}(hn:st'.names=st.names)(q:st'.cells=st.cells)(th:Th):th.val st'=th.val st:=by cases th<;>simp only[Th.val,hn,q]
def EG{st st':St}(hn:st'.names=st.names)(q:st'.cells=st.cells)(s:Sm):s.val st'=s.val st:=(fu s λth _=>Je hn q th).1
def wvl(aG:List Int)(st:St):Rw->Int
 |.set _ s=>s.val st|.put _ u=>u.val st|.ask _=>aG.getD st.aG 0|_=>0
def wA{aG:List Int}{st:St}(q:st.ok){r:Rw}{th:Th}(h:wb st r=aa th):th.val (r.next aG st)=wvl aG st r:=by
 have nm:∀(x:Nm)(v:Int),(st.names.set x.ix v).getD x.ix 0=v:=λx v=>by have:=x.zw;rw[Vv,Vj (by rw[q.nlen];exact this)];rfl
 cases r with
 |set x s=>cases h;exact nm x _|ask x=>cases h;exact nm x _
 |put s u =>
  cases h;show(st.cells.set (s.val st%4).toNat (u.val st)).getD (s.val st%4).toNat 0=_;rw[Vv,Vj (by rw[q.clen];lia)];rfl
 |_=>cases h
def EI{aG:List Int}{st st':St}{r:Rw}(h:∀th∈r.rd st,th.val st'=th.val st)(B:st'.aG=st.aG):wb st' r=wb st r/\wvl aG st' r=wvl aG st r:=by
 cases r with
 |set x s=>exact⟨rfl,(fu s h).1⟩|ask x=>exact⟨rfl,by simp only[wvl,B]⟩
 |put s u =>
  have J:=(fu u λth q=>h th (Vl _ q)).1;have D:=(fu s λth q=>h th (UW _ q)).1;exact⟨by simp only[wb,D],J⟩
 |_=>exact⟨rfl,rfl⟩
def zL(t:Tp)(i:Nat)(st:St)(th:Th):th.val (mix t i st)=th.val st:=Je rfl rfl th
section
variable{t:Tp}{e:Nat}
def Mb(ok:Pg.ok t.p)(ask:Ask t.aG)(R:Run t.p t.aG t.most e){i:Nat}(hi:i<e){st:St}(O:st.ok)(U:∀th∈oi t i,th.val st=th.val (itr t.p t.aG i))(th:Th):
 (wn t i=aa th->th.val (step t.p t.aG (mix t i st))=th.val (itr t.p t.aG (i+1)))/\(wn t i≠aa th->th.val (step t.p t.aG (mix t i st))=th.val st):=by
 obtain⟨r,q⟩:=uB R hi;have e1:step t.p t.aG (mix t i st)=r.next t.aG (mix t i st):=by unfold step;rw[show t.p[(mix t i st).row]?=aa r from q]
 have e2:itr t.p t.aG (i+1)=r.next t.aG (itr t.p t.aG i):=by show step t.p t.aG (itr t.p t.aG i)=_;unfold step;rw[q]
 have J:wn t i=wb (itr t.p t.aG i) r:=by unfold wn;rw[q];rfl
 have B:∀th∈r.rd (itr t.p t.aG i),th.val (mix t i st)=th.val (itr t.p t.aG i):=λth M=>by rw[zL];refine U th ?_;unfold oi A7;rw[q];exact M
 obtain⟨D,L⟩:=EI (aG:=t.aG) (st:=itr t.p t.aG i) (st':=mix t i st) B rfl;refine⟨λh=>?_,λh=>?_⟩
 ·rw[J]at h;rw[e1,e2,wA (iQ ok ask R i (by lia)).ok h,wA (ye ok ask R (by lia) O).ok (D.trans h),L]
 ·rw[J,←D]at h;rw[e1,sy h,zL]
theorem qH{Q:Th->Prop}{m i:Nat}(hi:i<m)(th:Th):wtD t Q m (m-i) th=match wn t i with
 |none=>wtD t Q m (m-(i+1)) th
 |some x=>(wtD t Q m (m-(i+1)) x/\((wtD t Q m (m-(i+1)) th/\th≠x)\/th∈oi t i))\/(¬wtD t Q m (m-(i+1)) x/\wtD t Q m (m-(i+1)) th):=by
 rw[show m-i=(m-(i+1))+1 by lia,wtD,show m-(m-(i+1))-1=i by lia]
 all_goals cases wn t i<;>rfl
def slice(ok:Pg.ok t.p)(ask:Ask t.aG)(R:Run t.p t.aG t.most e){Q:Th->Prop}{m:Nat}(V:m<=e):∀i,i<=m->∀th,wtD t Q m (m-i) th->th.val (rmd t (mvs i (fY t Q m)) St.zero)=th.val (itr t.p t.aG i):=by
 intro i
 induction i with
 |zero=>intro _ th _;rfl
 |succ i B =>
  intro W th hw;have B:=B (by lia);rw[qG];cases J:fY t Q m (i+1)with
  |true =>
   obtain⟨x,q,L⟩:=iR.mp J;have q:wn t i=aa x:=q;simp only[if_true];rw[uG];show th.val (step t.p t.aG (mix t i (rmd t (mvs i (fY t Q m)) St.zero)))=_;have O:=yf ok ask R (mvs i (fY t Q m)) St.zero (λy D=>by have:=gK.mp D;lia) oN;have U:∀y∈oi t i,y.val (rmd t (mvs i (fY t Q m)) St.zero)=y.val (itr t.p t.aG i):=λy D=>by refine B y ?_;rw[qH (by lia),q];exact .inl ⟨L,.inr D⟩
   have d:=Mb ok ask R (by lia) O U th
   by_cases c:wn t i=aa th
   exact d.1 c
   ·rw[d.2 c,qB c];refine B th ?_;rw[qH (by lia),q];exact .inl ⟨L,.inl ⟨hw,λz=>c (by rw[q,z])⟩⟩
  |false =>
   simp only[WV,if_false,U8];have M:¬isR t Q m (i+1):=λz=>by rw[iR.mpr z]at J;exact w9 J
   have c:wn t i≠aa th:=λz=>M ⟨th,z,hw⟩;rw[qB c];refine B th ?_;rw[qH (by lia)];cases q:wn t i with
   |none=>exact hw|some x=>exact .inr ⟨λz=>M ⟨x,q,z⟩,hw⟩
def Ba(ok:Pg.ok t.p)(ask:Ask t.aG)(R:Run t.p t.aG t.most e)(s:Sm){m:Nat}(B:m<=e):s.val (rmd t (rsn t (rdS t s m) m) St.zero)=s.val (itr t.p t.aG m) :=
 (fu s λth q=>slice ok ask R B m (UE _) th (by rw[YK];exact q)).1
def Mc(ok:Pg.ok t.p)(ask:Ask t.aG)(R:Run t.p t.aG t.most e):∀i,i<=e->(rmd t (mvs i (wrs t)) St.zero).names=(itr t.p t.aG i).names/\(rmd t (mvs i (wrs t)) St.zero).cells=(itr t.p t.aG i).cells:=by
 intro i
 induction i with
 |zero=>intro _;exact⟨rfl,rfl⟩
 |succ i U =>
  intro Y;obtain⟨D,B⟩:=U (by lia);obtain⟨r,q⟩:=uB R (i:=i) (by lia);have e2:itr t.p t.aG (i+1)=r.next t.aG (itr t.p t.aG i):=by show step t.p t.aG (itr t.p t.aG i)=_;unfold step;rw[q]
  have W:wn t i=wb (itr t.p t.aG i) r:=by unfold wn;rw[q];rfl
  rw[qG];have V:wrs t (i+1)=(wn t i).isSome:=rfl;rw[V];cases hw:wn t i with
  |none =>
   simp only[aac,WV,if_false,U8];rw[D,B,e2];rw[W]at hw;cases r<;>first|exact⟨rfl,rfl⟩|exact(gy hw.symm)
  |some x =>
   simp only[Yb,if_true];rw[uG];show(step t.p t.aG (mix t i (rmd t (mvs i (wrs t)) St.zero))).names=_/\(step t.p t.aG (mix t i (rmd t (mvs i (wrs t)) St.zero))).cells=_;generalize rmd t (mvs i (wrs t)) St.zero=st at D B;have e1:step t.p t.aG (mix t i st)=r.next t.aG (mix t i st):=by unfold step;rw[show t.p[(mix t i st).row]?=aa r from q]
   have L:(mix t i st).names=(itr t.p t.aG i).names:=D;have J:(mix t i st).cells=(itr t.p t.aG i).cells:=B;have O:(mix t i st).aG=(itr t.p t.aG i).aG:=rfl;have M:∀s:Sm,s.val (mix t i st)=s.val (itr t.p t.aG i):=λs=>EG L J s;rw[e1,e2];cases r<;>simp[Rw.next,L,J,O,M]
def Bb(R:Run t.p t.aG t.most e)(s:Sm){m:Nat}(J:m<e)(h:∀x,wn t m=aa x->x∉s.rd (itr t.p t.aG m)):s.val (itr t.p t.aG (m+1))=s.val (itr t.p t.aG m)/\rdS t s (m+1)=rdS t s m:=by obtain⟨D,B⟩:=fu (st:=itr t.p t.aG m) (st':=itr t.p t.aG (m+1)) s λth q=>qB λz=>h th z q;exact⟨D,by unfold rdS;rw[B]⟩
theorem EJ(t:Tp)(Q:Th->Prop)(m d:Nat)(th:Th):wtD t Q m (d+1) th=match wn t (m-d-1)with
 |none=>wtD t Q m d th|some x=>(wtD t Q m d x/\((wtD t Q m d th/\th≠x)\/th∈oi t (m-d-1)))\/(¬wtD t Q m d x/\wtD t Q m d th):=rfl
theorem qI{Q:Th->Prop}{m:Nat}(h:∀x,wn t m=aa x->¬Q x):∀d th,wtD t Q (m+1) (d+1) th↔wtD t Q m d th
 |0,th=>by
  rw[EJ t Q (m+1) 0 th,show m+1-0-1=m by lia];cases hw:wn t m with
  |none=>exact aaL
  |some x =>
   have:=h x hw;show(Q x/\_)\/(¬Q x/\Q th)↔Q th;exact⟨λz=>z.elim (λz=>bL z.1 this) λz=>z.2,λz=>.inr ⟨this,z⟩⟩
 |d+1,th=>by
  rw[EJ t Q (m+1) (d+1) th,EJ t Q m d th,show m+1-(d+1)-1=m-d-1 by lia];cases wn t (m-d-1)with
  |none=>exact qI h d th|some x=>simp only[qI h d]
def EK{Q:Th->Prop}{m:Nat}(h:∀x,wn t m=aa x->¬Q x):rsn t Q (m+1)=rsn t Q m:=by
 unfold rsn;rw[qG];have n:fY t Q (m+1) (m+1)=ai:=Bool.eq_false_iff.mpr λz=>by obtain⟨x,B,q⟩:=iR.mp z;rw[YK]at q;exact h x B q
 rw[n];simp only[WV,if_false,U8];refine A9 λx B q=>?_;have:isR t Q (m+1) x↔isR t Q m x:=by unfold isR;rw[show m+1-x=(m-x)+1 by lia];simp only[qI h]
 exact Bool.eq_iff_iff.mpr (iR.trans (this.trans iR.symm))
theorem wB{Q:Th->Prop}{m x:Nat}(h:∀y,x<y->y<=m->¬isR t Q m y):∀d,d<=m-x->∀th,wtD t Q m d th↔Q th
 |0,_,th=>aaL
 |d+1,hd,th=>by
  rw[wtD];have B:=wB h d (by lia);cases hw:wn t (m-d-1)with
  |none=>exact B th
  |some z =>
   have D:¬wtD t Q m d z:=λq=>h (m-d) (by lia) (by lia) ⟨z,hw,by rw[show m-(m-d)=d by lia];exact q⟩;exact⟨λq=>q.elim (λq=>bL q.1 D) λq=>(B th).mp q.2,λq=>.inr ⟨D,(B th).mpr q⟩⟩
def HV{Q:Th->Prop}{m x:Nat}(h:∀y,x<=y->y<=m->¬isR t Q m y)(h1:1<=x)(B:x<=m){z:Th}(hz:wn t (x-1)=aa z):¬Q z:=λq =>
 h x (UE _) B ⟨z,hz,(wB (λy J D=>h y (by lia) D) (m-x) (UE _) z).mpr q⟩
end
def gw:Fn:=⟨["_law_asked_sum","_law_state"],["_law_asked_sum","_law_state","_law_found"], (.seq (.v (.z .eq (.y (.v 0) (.j (.int 0))) (.j (.str "num"))) (.ret (.aB ai .nil)) .nil) (.seq (.v (.z .eq (.y (.v 0) (.j (.int 0))) (.j (.str "name"))) (.ret (.aB ai (cW (.y (.v 0) (.j (.int 1)))))) .nil) (.seq (.set 2 (.call "_law_reads" (cV (.y (.v 0) (.j (.int 1))) (.v 1)))) (.seq (.v (.z .eq (.y (.v 0) (.j (.int 0))) (.j (.str "cell"))) (.ret (.bin .add (.v 2) (.aB ai (cW (.bin .mod (.call "_law_worth" (cV (.y (.v 0) (.j (.int 1))) (.v 1))) (.j (.int 4))))))) .nil) (.ret (.bin .add (.v 2) (.call "_law_reads" (cV (.y (.v 0) (.j (.int 2))) (.v 1)))))))))⟩
def Pf:E:=(.comp ai .seq (cW (.call "needless" (cU (.v 2) (.v 5) (.v 4)))) ["_law_at"] [(6,"_law_used")] (cW (.z .gt (.v 0) (.bi .max1 ai (cW (.bin .add (.v 1) (.aB ai (cW (.j (.int 0))))))))) (.v 0))
def Ph:E:=(.comp ai .rng2 (cV (.j (.int 1)) (.bin .add (.v 5) (.j (.int 1)))) ["_law_at"] [(2,"_law_tape")] (cW (.z .notN (.call "thing_written" (cV (.v 1) (.v 0))) (.j .aD))) (.v 0))
def Mf:E:=(.z .ne (.v 11) (.bi .sorted ai (cW (.bin .add (.v 6) (.call "needless" (cU (.v 2) (.v 5) (.v 4)))))))
def Mg:E:=(.z .ne (.aC (cV (.v 12) (.v 13))) (.n (.aF (.v 2) "at" (cW (.v 5))) (cW (.j (.int 1))) (cW (.j (.int 3)))))
def HW:E:=(.or (.z .ne (.call "reasons" (cU (.v 2) (.bin .add (.v 5) (.j (.int 1))) (.v 4))) (.v 6)) (.z .ne (.call "sum_at" (cU (.v 2) (.bin .add (.v 5) (.j (.int 1))) (.v 4))) (.v 9)))
def Bc:E:=(.and (.z .lt (.v 5) (.v 3)) (.z .nmem (.call "thing_written" (cV (.v 2) (.bin .add (.v 5) (.j (.int 1))))) (.v 10)))
def HX:E:=(.bin .add (.n (.v 6) (cW (.neg (.j (.int 1)))) .nil) (.n (.v 6) .nil (cW (.neg (.j (.int 1))))))
def Mh:E:=(.z .ne (.call "reckoned" (cV (.v 4) (.aC (cR (.j (.int 0)) (.v 12) (.v 13) (.aC .nil) (.j (.int 0)) (.aC .nil))))) (.v 9))
def HY:E:=(.and (.z .eq (.v 6) (.aB ai .nil)) (.or (.z .ne (.v 7) (.bin .add (.v 5) (.j (.int 1)))) (.z .ne (.call "remade" (cV (.v 2) (.aB ai .nil))) (.n (.aF (.v 2) "at" (cW (.j (.int 0)))) (cW (.j (.int 1))) (cW (.j (.int 3)))))))
def Pi:E:=(.comp ai .seq (cW (.v 8)) ["_law_at"] [(2,"_law_tape"),(10,"_law_reads_here")] (cW (.z .mem (.call "thing_written" (cV (.v 1) (.v 0))) (.v 2))) (.v 0))
def Mi:E:=(.bi .min1 ai (cW (.bin .add (.v 6) (.aB ai (cW (.bin .add (.v 5) (.j (.int 1))))))))
def Mj:S:=(.seq (.v Mh (.ret (.j (.bl ai))) .nil) (.seq (.v HY (.ret (.j (.bl ai))) .nil) (.ret (.z .eq Pi (.aB ai .nil)))))
def SK:S:=(.seq (.v Bc (.v HW (.ret (.j (.bl ai))) .nil) .nil) (.seq (.unp [(12,"_law_names"),(13,"_law_cells")] (.call "remade" (cV (.v 2) HX))) Mj))
def Pj:S:=(.seq (.v Mf (.ret (.j (.bl ai))) .nil) (.seq (.unp [(12,"_law_names"),(13,"_law_cells")] (.call "remade" (cV (.v 2) (.v 11)))) (.seq (.v Mg (.ret (.j (.bl ai))) .nil) SK)))
def Pk:S:=(.seq (.set 9 (.call "sum_at" (cU (.v 2) (.v 5) (.v 4)))) (.seq (.set 10 (.call "_law_reads" (cV (.v 4) (.aF (.v 2) "at" (cW (.v 5)))))) (.seq (.set 11 Ph) Pj)))
def HZ:S:=(.seq (.set 6 (.call "reasons" (cU (.v 2) (.v 5) (.v 4)))) (.seq (.set 7 Mi) (.seq (.set 8 Pf) Pk)))
def ko:Fn:=⟨["_law_script"],["_law_script","_law_program_here","_law_tape","_law_end","_law_one","_law_moment","_law_used","_law_first","_law_early","_law_mine","_law_reads_here","_law_every","_law_names","_law_cells"], (.seq (.set 1 (.call "_law_program" (cV (.v 0) (.j (.int 20))))) (.seq (.set 2 (.make "Tape" (cT (.v 1) (.call "_law_asked" (cV (.v 0) (.j (.int 450)))) (.bin .add (.j (.int 1)) (.call "_law_drawn" (cU (.v 0) (.j (.int 441)) (.j (.int 5))))) (.call "_law_drawn" (cU (.v 0) (.j (.int 440)) (.j (.int 15))))))) (.seq (.set 3 (.aF (.v 2) "end" .nil)) (.seq (.set 4 (.call "_law_sum" (cU (.v 0) (.j (.int 460)) (.j (.int 2))))) (.seq (.set 5 (.call "_law_drawn" (cU (.v 0) (.j (.int 443)) (.bin .add (.v 3) (.j (.int 1)))))) HZ)))))⟩
structure RsP(T:FK->Option Fn)(G:ay->Option W):Prop where
 tp:TpP T G
 end_:TpE T
 wr:WrP T
 jd:JdP T
 rm:RmP T
 rs:T "reasons"=aa jI
 nd:T "needless"=aa i8
 su:SuP T
structure SL(T:FK->Option Fn):Prop where
 lw:Lw T
 program:T "_law_program"=aa dY
 worth:T "_law_worth"=aa fk
 reads:T "_law_reads"=aa gw
 law:T "law"=aa ko
section
variable{T:FK->Option Fn}{G:ay->Option W}
def qJ(L:Lw T)(ns:List Int)(D:ns.length<=1000)(q many:Int)(B:0<many):∃z:Nat,(z:Int)<many/\∀k h,runN T G (k+2) "_law_drawn" [.p (.aB (cY ns)),.p (.int q),.p (.int many)] h=aa (.p (.int (z:Int)),h):=by have M:=fV ns q B;have J:=fW ns q B;refine⟨(drw ns q many).toNat,by lia,λk h=>?_⟩;have:=f7 (G:=G) L k ns D q many B h;rw[this];congr 4;lia
theorem nC{st:St}:∀s:Sm,(s.rd st).length<=s.size
 |.num _=>Vx _|.nam _=>UE _
 |.cell s=>by have:=nC (st:=st) s;simp only[Sm.rd,Sm.size,UR,Vn];lia
 |.two _ a b=>by have:=nC (st:=st) a;have:=nC (st:=st) b;simp only[Sm.rd,Sm.size,UR];lia
def rj(B:T "_law_reads"=aa gw)(Y:T "_law_worth"=aa fk)(st:St)(W:st.ok):∀(s:Sm),s.ok->s.size<=1000->∀(m:Nat)(h:HH),runN T G (m+s.size) "_law_reads" [.p s.enc,.p st.enc] h=aa (.p (.aB ((s.rd st).map Th.enc)),h):=by
 intro s
 induction s with
 |num n =>
  intro _ _ m h;exact j5 B rfl (jZ rfl rfl)
 |nam i =>
  intro _ _ m h;exact j5 B rfl ((gT rfl).trans (jZ rfl rfl))
 |cell s V =>
  intro q M m h;simp only[Sm.size]at M;rw[Sm.size,←Yv];have r:=V q (by lia) m h;have w:=qz (G:=G) Y st W s q m h;have l:=nC (st:=st) s;have e:((s.val st%4).toNat:Int)=s.val st%4:=by lia
  refine j5 B rfl ((gT rfl).trans ((gT rfl).trans ((fT (w:=.p (.aB ((s.rd st).map Th.enc))) (g:=h) ?_).trans (jZ rfl ?_))));exact r;show aN _ G _ [aa (.p (Sm.cell s).enc),aa (.p st.enc),aa (.p (.aB ((s.rd st).map Th.enc)))] h=_;have c:(s.rd st).length+1<=100000:=by lia
  have L:dJ (Sm.cell s).enc (.int 1)=aa s.enc:=rfl;generalize (Sm.cell s).enc=se at *;simp[-gY,L,w,c,Sm.rd,Th.enc,e]
 |two o s t J D =>
  intro q M m h;simp only[Sm.size]at M;rw[Sm.size,←Yv];have U:=J q.1 (by lia) (m+t.size) h;have O:=D q.2 (by lia) (m+s.size) h;have e1:m+t.size+s.size=m+(s.size+t.size):=by lia
  have e2:m+s.size+t.size=m+(s.size+t.size):=by lia
  rw[e1]at U;rw[e2]at O;have f:=nC (st:=st) s;have d:=nC (st:=st) t;obtain⟨b,a,Z⟩:=o.other;refine j5 B rfl ((gT ?_).trans ((gT ?_).trans ((fT (w:=.p (.aB ((s.rd st).map Th.enc))) (g:=h) ?_).trans ((gT ?_).trans (xU ?_)))));cases o<;>rfl;cases o<;>rfl;exact U;cases o<;>rfl
  ·have c:(s.rd st).length+(t.rd st).length<=100000:=by lia
   have L:dJ (Sm.two o s t).enc (.int 2)=aa t.enc:=rfl;show aN _ G _ [aa (.p (Sm.two o s t).enc),aa (.p st.enc),aa (.p (.aB ((s.rd st).map Th.enc)))] h=_;generalize (Sm.two o s t).enc=se at *;simp[-gY,L,O,c,Sm.rd]
def Ia(f:List D->HH->Option (Option D×HH))(p:Nat->Bool)(h:HH)(l:List Nat)(B:∀i∈l,f [.int (i:Int)] h=aa (if p i=ah then aa (.int (i:Int))else af,h)):dN f 1 (cZ l) h=aa (cZ (l.filter p),h):=by
 have c:=LS f (λi:Nat=>D.int (i:Int)) (λi:Nat=>if p i=ah then aa (D.int (i:Int))else af) h l B;have e:l.filterMap (λi:Nat=>if p i=ah then aa (D.int (i:Int))else af)=cZ (l.filter p):=by
  clear c B
  induction l with
  |nil=>rfl
  |cons x l q =>
   rw[U5,V1];cases g:p x;simp[q];simp[q,cZ]
 rw[e]at c;exact c
def ef(l:List Nat):(cZ l).length=l.length:=by simp[cZ]
def kQ(l r:List Nat):cZ (l++r)=cZ l++cZ r:=by simp[cZ]
def Ml(l:List Nat):dok 100 (.aB (cZ l))=ah:=qv 99 l
def Jf(l:List Nat):gA .ne (.aB (cZ l)) (.aB (cZ l))=aa ai:=ne_self (Ml l)
def EL{F:FK->List W->HH->Option (W×HH)}{e:E}{s:Sl}{h g:HH}{i j:Nat}{x y:ay}{a b:D}(h1:aN F G e s h=aa (.p (.aC [a,b]),g)):evS F G (.unp [(i,x),(j,y)] e) s h=aa (.nx ((s.set i (aa (.p a))).set j (aa (.p b))) g):=by simp[h1]
def wC{F:FK->List W->HH->Option (W×HH)}{a b:E}{s:Sl}{h h1 h2:HH}{f:ay}{x y:W}{r:W×HH}(e1:aN F G a s h=aa (x,h1))(e2:aN F G b s h1=aa (y,h2))(q:F (.f f) [x,y] h2=aa r):aN F G (.call f (.cons a (.cons b .nil))) s h=aa r:=by simp[e1,e2,q]
def Pn(s:Sl)(h:HH)(k:Sl->HH->Option Fl):nJ (aa (.nx s h)) k=k s h:=Eq.trans rfl rfl
def uI{F:FK->List W->HH->Option (W×HH)}{c:E}{a b:S}{s:Sl}{h g:HH}(h1:aN F G c s h=aa (.p (.bl ai),g)):evS F G (.seq (.v c a .nil) b) s h=evS F G b s g:=by simp[h1]
def V53(Y V:W)(n e:Nat)(s:Sm)(m:Nat)(U O M L J D B q:Option W):Sl:=[aa Y,aa V,aa (.o n),aa (.p (.int (e:Int))),aa (.p s.enc),aa (.p (.int (m:Int))),U,O,M,L,J,D,B,q]
def lN(l:List Nat):Option W:=aa (.p (.aB (cZ l)))
def Po(F:FK->List W->HH->Option (W×HH))(d Z:W)(n e:Nat)(s:Sm)(m:Nat)(Y V O M L J B:Option W)(h:HH)(U:List Nat)(i:U.length<=1000):
 ∃f:Int,aN F G Mi (V53 d Z n e s m (lN U) Y V O M L J B) h=aa (.p (.int f),h)/\(U=[]->f=(m:Int)+1):=by
 have e1:cZ U++[D.int ((m:Int)+1)]=cZ (U++[m+1]):=by rw[kQ];rfl
 cases q:FO (nI (U++[m+1]))with
 |none =>
  have:nI (U++[m+1])≠[]:=by unfold nI;simp
  cases g:nI (U++[m+1])with
  |nil=>exact bL g this|cons a l=>rw[g]at q;exact gy q.symm
 |some f =>
  have b:biD .min1 [.aB (cZ (U++[m+1]))]=aa (.int f):=by rw[vj,iF,VA,q];rfl
  refine⟨f,?_,λz=>?_⟩
  ·have c:U.length+1<=100000:=by lia
   simp[Mi,V53,lN,ef,c,e1,b,rd]
  ·subst z;have:aa ((m:Int)+1)=aa f:=q;exact(UK this).symm
def Pp(A:RsP T G)(k:Nat)(H F:W){n r:Nat}{t:Tp}{h:HH}{e o:Nat}(a:TAt h n r t)(I:TI t e o)(s:Sm)(S:jb s)(m:Nat)(X:m<=e)(E C w V U O L:Option W):
 ∃(J:Nat),(∀y∈rsn t (rdS t s m) m,y<=J)/\q8 (aN (runN T G (k+13)) G Pf (V53 H F n e s m (lN (rsn t (rdS t s m) m)) E C w V U O L) h) (.p (.aB (cZ ((ndl t (rdS t s m) m).filter λx=>decide (J<x))))) n h r t e o:=by
 obtain⟨Z,P,K,b,g,I',N,f⟩:=mR A.tp A.wr A.jd A.nd k a I s S m X;have le:=I.run.le;have m1:=I.m1;have lU:=i7 m (fY t (rdS t s m) m);have e1:cZ (rsn t (rdS t s m) m)++[D.int 0]=cZ (rsn t (rdS t s m) m++[0]):=by rw[kQ];rfl
 cases B:sY (nI (rsn t (rdS t s m) m++[0]))with
 |none =>
  have:nI (rsn t (rdS t s m) m++[0])≠[]:=by unfold nI;simp
  cases g:nI (rsn t (rdS t s m) m++[0])with
  |nil=>exact bL g this|cons a l=>rw[g]at B;exact gy B.symm
 |some M =>
  obtain⟨d,Q⟩:=kG B;unfold nI at d;obtain⟨J,_,eM⟩:=List.mem_map.mp d;subst eM;refine⟨J,λy R=>?_,Z,P,K,?_,g,I',N⟩
  ·have:=Q (y:Int) ((ED y _).mpr (Vl _ R));lia
  ·have u:biD .max1 [.aB (cZ (rsn t (rdS t s m) m++[0]))]=aa (.int (J:Int)):=by rw[vm,iF,VA,B];rfl
   have c:=Ia (eV (evs (runN T G (k+13)) G (.cons (.z .gt (.v 0) (.bi .max1 ai (.cons (.bin .add (.v 1) (.aB ai (.cons (.j (.int 0)) .nil))) .nil))) .nil)) (aN (runN T G (k+13)) G (.v 0)) [lN (rsn t (rdS t s m) m)]) (λx=>decide (J<x)) Z (ndl t (rdS t s m) m) λi hi=>by
    have cl:(rsn t (rdS t s m) m).length+1<=100000:=by unfold rsn;lia
    by_cases q:J<i
    ·have Y:(J:Int)<(i:Int):=by lia
     simp[eV,eZ,lN,ef,cl,e1,u,rd,q,Y]
    ·have Y:¬(J:Int)<(i:Int):=by lia
     simp[eV,eZ,lN,ef,cl,e1,u,rd,q,Y]
   have l2:=i7 m λx=>wrs t x&&!fY t (rdS t s m) m x;exact mO (ws:=[.p (.aB (cZ (ndl t (rdS t s m) m)))]) (h1:=Z) (fs:=[lN (rsn t (rdS t s m) m)]) (by simp[V53,b]) rfl rfl rfl c (by
    rw[ef];exact U3 (Wo _ _) (by unfold ndl;lia))
def Pq(m:Nat):upto 1 m=(UZ m).map λi:Nat=>D.int ((i:Int)+1):=by unfold upto;apply VU;intro i _;rw[Int.add_comm]
def yh(o:Option Th):jf (gX o)=o.isNone:=by
 cases o with
 |none=>rfl|some x=>cases x<;>rfl
def Pu(A:RsP T G)(k:Nat)(l g:W){n r:Nat}{t:Tp}{h:HH}{e V:Nat}(a:TAt h n r t)(I:TI t e V)(s:Sm)(m:Nat)(X:m<=e)(f d Z Y O M L J:Option W):
 ∃h' U t',aN (runN T G (k+13)) G Ph (V53 l g n e s m f d Z Y O M L J) h=aa (.p (.aB (cZ (mvs m (wrs t)))),h')/\TAt h' n U t'/\TI t' e V/\Sm8 t t':=by
 have le:=I.run.le;have m1:=I.m1;obtain ⟨h',c,U,t',Q,S,y⟩:=Eu (eV (evs (runN T G (k+13)) G (.cons (.z .notN (.call "thing_written" (.cons (.v 1) (.cons (.v 0) .nil))) (.j .aD)) .nil)) (aN (runN T G (k+13)) G (.v 0)) [aa (.o n)]) (λi:Nat=>D.int ((i:Int)+1)) (λi=>if (wn t i).isSome=ah then aa (D.int ((i:Int)+1)) else af) (λh=>∃ r t',TAt h n r t'/\TI t' e V/\Sm8 t t') (UZ m) (λi hi h ⟨r1,t1,a1,I1,s1⟩=>by
  have H:=List.mem_range.mp hi;obtain⟨K,E,u,q,N,R,w⟩:=gu A.tp A.wr (k+1) a1 I1 (i+1) (by lia) (by lia);rw[Nat.add_sub_cancel,sF s1]at q;have e2:((i+1:Nat):Int)=(i:Int)+1:=by lia
  rw[e2]at q;refine⟨K,?_,E,u,N.b,R,s1.trans w⟩;have B:=yh (wn t i);cases hw:wn t i with
  |none=>rw[hw]at q B;simp[eV,eZ,q,B]
  | some x=>rw[hw] at q B;simp[eV,eZ,q,B]) h ⟨r,t,a,I,.refl t⟩
 refine⟨h',U,t',?_,Q,S,y⟩;rw[nB (UZ m) λi=>(wn t i).isSome]at c;have C:gO .rng2 [.int 1,.int ((m:Int)+1)]=aa (upto 1 m):=by
  rw[rL];have P:((-100000<=(1:Int):Bool)&&((1:Int)<=100000:Bool)&&(-100000<=((m:Int)+1):Bool)&&(((m:Int)+1)<=100000:Bool))=ah:=by simp only[Uz,bM];lia
  rw[bJ P];simp
 rw[← Pq] at c;have F:=i7 m (wrs t);exact mO (ws:=[.p (.int 1),.p (.int ((m:Int)+1))]) (h1:=h) (fs:=[aa (.o n)]) (by simp[V53]) (by simpa [rd] using C) rfl rfl c (by
  rw[ef];exact U3 F (by lia))
def wD(t:Tp)(Q:Th->Prop)(m:Nat):(rsn t Q m++ndl t Q m).Perm (mvs m (wrs t)):=by
 have D:∀p:Nat->Bool,(mvs m p).Nodup:=λp=>(uE m p).imp λh=>U0 h;refine(Zn (List.nodup_append.mpr ⟨D _,D _,λx L y J z=>?_⟩) (D _)).mpr λx=>?_
 ·subst z;have B:=(gK.mp L).2.2;have q:=(gK.mp J).2.2;rw[B]at q;simp at q
 ·rw[List.mem_append,gK,gK,gK];constructor
  ·rintro (⟨B,q,h3⟩|⟨B,q,h3⟩)
   exact⟨B,q,wm h3⟩;exact⟨B,q,by simp at h3;exact h3.1⟩
  ·rintro ⟨B,q,h3⟩
   cases M:fY t Q m x with
   |true=>exact .inl ⟨B,q,rfl⟩|false=>exact .inr ⟨B,q,by simp[h3]⟩
def Pv(A:RsP T G)(k:Nat)(V U:W){n r:Nat}{t:Tp}{h:HH}{e J:Nat}(a:TAt h n r t)(I:TI t e J)(s:Sm)(o:jb s)(m:Nat)(u:m<=e)(v:e<=60)(O M L D B q:Option W):
 q8 (aN (runN T G (k+13)) G Mf (V53 V U n e s m (lN (rsn t (rdS t s m) m)) O M L D (lN (mvs m (wrs t))) B q) h) (.p (.bl ai)) n h r t e J:=by
 obtain⟨w,i,Y,b,g,y,d,f⟩:=mR A.tp A.wr A.jd A.nd k a I s o m u;refine⟨w,i,Y,?_,g,y,d⟩;have l:=(wD t (rdS t s m) m).length_eq;have z:=i7 m (wrs t);rw[UR]at l;have Z:=L8 (wD t (rdS t s m) m) (uE m (wrs t)) (by rw[UR];lia);have x:cZ (rsn t (rdS t s m) m)++cZ (ndl t (rdS t s m) m)=cZ (rsn t (rdS t s m) m++ndl t (rdS t s m) m):=(kQ _ _).symm;have c:(rsn t (rdS t s m) m).length+(ndl t (rdS t s m) m).length<=100000:=by lia
 have j:=Jf (mvs m (wrs t));simp[-kE,Mf,V53,lN,b,ef,c,x,Z,rd,j]
def Pw(A:RsP T G)(k:Nat)(V U:W){n r:Nat}{t:Tp}{h:HH}{e D:Nat}(a:TAt h n r t)(I:TI t e D)(s:Sm)(m:Nat)(j:m<=e)(O M L J B q:Option W):
 q8 (aN (runN T G (k+13)) G Mg (V53 V U n e s m O M L J B q (aa (.p (.aC (cY (itr t.p t.aG m).names)))) (aa (.p (.aC (cY (itr t.p t.aG m).cells))))) h) (.p (.bl ai)) n h r t e D:=by
 obtain⟨l,d,Y,b,g,o,Z,f⟩:=qy A.tp (k+2) a I m j;refine⟨l,d,Y,?_,g,o,Z⟩;have c:mW (itr t.p t.aG m).enc (aa 1) (aa 3)=aa (.aC [.aC (cY (itr t.p t.aG m).names),.aC (cY (itr t.p t.aG m).cells)]):=rfl;have i:=Eb (itr t.p t.aG m).names (itr t.p t.aG m).cells;generalize (itr t.p t.aG m).enc=se at *;simp[-kE,Mg,V53,a.ob,A5,b,c,i,rd]
def Px(A:RsP T G)(k:Nat)(g f:W){n r:Nat}{t:Tp}{h:HH}{e Y:Nat}(a:TAt h n r t)(I:TI t e Y)(s:Sm)(O:jb s)(m:Nat)(w:m<e)(V:∀x,wn t m=aa x->x∉s.rd (itr t.p t.aG m))(d c L J D B:Option W):
 q8 (aN (runN T G (k+13)) G HW (V53 g f n e s m (lN (rsn t (rdS t s m) m)) d c (aa (.p (.int (s.val (itr t.p t.aG m))))) L J D B) h) (.p (.bl ai)) n h r t e Y:=by
 obtain⟨N,K,H,U,Z,F,M,P⟩:=nW A.tp A.wr A.jd A.rs k a I s O (m+1) (by lia);obtain⟨y,l,i,q,z,E,j⟩:=qC A.tp A.su (k+1) Z.b F s (by have:=O.2;lia) O.1 (m+1) (by lia);rw[M.p,M.aG]at q;obtain⟨v,u⟩:=Bb I.run s w V;rw[u,EK (Q:=rdS t s m) V]at U;rw[v]at q;refine⟨y,l,i,?_,Z.trans z,E,M.trans j⟩;have o:=Jf (rsn t (rdS t s m) m);have C:((m+1:Nat):Int)=(m:Int)+1:=by lia
 rw[C]at U q;simp[-kE,HW,V53,lN,U,q,o,rd];simp
def sG(l:List Th)(o:Option Th):gA .nmem (gX o) (.aB (l.map Th.enc))=aa (!((l.map Th.enc).any λy=>eqv y (gX o)))/\gA .mem (gX o) (.aB (l.map Th.enc))=aa ((l.map Th.enc).any λy=>eqv y (gX o)):=by
 have ok:((l.map Th.enc).all λy=>dZ y (gX o))=ah:=by rw[List.all_map,VN];intro x _;show dZ x.enc (gX o)=ah;cases x<;>simp[Th.enc]
 exact⟨by rw[f6,bJ ok],by rw[gC,bJ ok]⟩
def EM(x y:Th):eqv x.enc y.enc=ah↔x=y:=(Pb (aa x) y).trans ⟨λz=>UK z,λz=>by rw[z]⟩
def EN(l:List Th)(x:Th):((l.map Th.enc).any λy=>eqv y (gX (aa x)))=ah↔x∈l:=by
 rw[List.any_map,List.any_eq_true];constructor
 ·rintro ⟨y,h1,h2⟩
  have:y=x:=(EM y x).mp h2;rw[←this];exact h1
 ·intro h;exact⟨x,h,(EM x x).mpr rfl⟩
def rdW(t:Tp)(s:Sm)(m:Nat):Option W:=aa (.p (.aB ((s.rd (itr t.p t.aG m)).map Th.enc)))
def Mm(A:RsP T G)(k:Nat)(Y V:W){n r:Nat}{t:Tp}{h:HH}{e o:Nat}(a:TAt h n r t)(I:TI t e o)(s:Sm)(N:jb s)(m:Nat)(hm:m<=e)(U O J D B:Option W)(b:S):
 ∃h' K t',evS (runN T G (k+13)) G (.seq (.v Bc (.v HW (.ret (.j (.bl ai))) .nil) .nil) b) (V53 Y V n e s m (lN (rsn t (rdS t s m) m)) U O (aa (.p (.int (s.val (itr t.p t.aG m))))) (rdW t s m) J D B) h =
  evS (runN T G (k+13)) G b (V53 Y V n e s m (lN (rsn t (rdS t s m) m)) U O (aa (.p (.int (s.val (itr t.p t.aG m))))) (rdW t s m) J D B) h'/\Go n h r t h' K t'/\TI t' e o/\Sm8 t t':=by
 generalize M:V53 Y V n e s m (lN (rsn t (rdS t s m) m)) U O (aa (.p (.int (s.val (itr t.p t.aG m))))) (rdW t s m) J D B=sl
 by_cases c:m<e
 ·obtain⟨l,H,C,i,f,w,L⟩:=gu A.tp A.wr (k+1) a I (m+1) (by lia) (by lia);rw[Nat.add_sub_cancel]at i;have R:((m+1:Nat):Int)=(m:Int)+1:=by lia
  rw[R]at i;have g:(m:Int)<(e:Int):=by lia
  have q:=(sG (s.rd (itr t.p t.aG m)) (wn t m)).1;have e1:aN (runN T G (k+13)) G Bc sl h=aa (.p (.bl (!(((s.rd (itr t.p t.aG m)).map Th.enc).any λy=>eqv y (gX (wn t m))))),l):=by rw[←M];simp[-f6,-eqv,Bc,V53,rdW,c,g,i,q,rd]
  cases Z:(((s.rd (itr t.p t.aG m)).map Th.enc).any λy=>eqv y (gX (wn t m)))with
  |true =>
   rw[Z]at e1;refine⟨l,H,C,?_,f,w,L⟩;simp[e1]
  |false =>
   rw[Z]at e1;have d:∀x,wn t m=aa x->x∉s.rd (itr t.p t.aG m):=λx hw d=>by rw[hw,(EN _ x).mpr d]at Z;exact w9 Z
   obtain⟨P,F,z,u,Q,X,E⟩:=Px A k Y V f.b w s N m c (by rw[sF L,L.p,L.aG];exact d) U O (rdW t s m) J D B;rw[lF L,nA L,L.p,L.aG,M]at u;refine⟨P,F,z,?_,f.trans Q,X,L.trans E⟩;simp[e1,u]
 ·refine⟨h,r,t,?_,.refl a,I,.refl t⟩;have g:¬(m:Int)<(e:Int):=by lia
  have e1:aN (runN T G (k+13)) G Bc sl h=aa (.p (.bl ai),h):=by rw[←M];simp[Bc,V53,c,g]
  simp[e1]
noncomputable def rot(l:List Nat):List Nat:=l.drop (l.length-1)++l.dropLast
def zM(l:List Nat)(x:Nat):x∈rot l↔x∈l:=by
 unfold rot;rcases List.eq_nil_or_concat l with z|⟨ys,v,z⟩
 subst z;simp
 ·have q:l=ys++[v]:=by simpa using z
  subst q;simp[or_comm]
def Py(F:FK->List W->HH->Option (W×HH))(Y V:W)(n e:Nat)(s:Sm)(m:Nat)(O M L J D B q:Option W)(h:HH)(U:List Nat)(g:U.length<=1000):
 aN F G HX (V53 Y V n e s m (lN U) O M L J D B q) h=aa (.p (.aB (cZ (rot U))),h):=by
 have c:mW (.aB (cZ U)) (aa (-1)) af=aa (.aB (cZ (U.drop (U.length-1)))):=by
  rw[xm];have d:clip (cZ U).length 0 (aa (-1))=U.length-1:=by show(if(-1:Int)<0 then((-1:Int)+((cZ U).length:Int)).toNat else if(-1:Int)<=((cZ U).length:Int)then(-1:Int).toNat else(cZ U).length)=_;rw[bJ (by decide),ef];lia
  have a:clip (cZ U).length (cZ U).length af=(cZ U).length:=rfl;unfold cut;rw[d,a];have:(cZ U).drop (U.length-1)=cZ (U.drop (U.length-1)):=by unfold cZ;rw[List.map_drop]
  rw[this,ZY (by rw[ef,ef,W6];exact UE _)]
 have b:mW (.aB (cZ U)) af (aa (-1))=aa (.aB (cZ U.dropLast)):=by rw[xm,vX]
 have Z:(U.drop (U.length-1)).length+U.dropLast.length<=100000:=by rw[W6,X6];lia
 have e1:cZ (U.drop (U.length-1))++cZ U.dropLast=cZ (rot U):=(kQ _ _).symm;have f:lV .add (.aB (cZ (U.drop (U.length-1)))) (.aB (cZ U.dropLast))=aa (.aB (cZ (rot U))):=by rw[jr,ef,ef,bJ (show _<=lim from Z),e1]
 simp[-xm,-jr,HX,V53,lN,c,b,f,rd]
def Pz(A:RsP T G)(k:Nat)(Y V:W)(n e:Nat)(s:Sm)(L:jb s)(m:Nat)(U O M D B:Option W)(h:HH)(st:St)(q:st.ok)(v:Int)(Z:s.val st=v):
 aN (runN T G (k+13)) G Mh (V53 Y V n e s m U O M (aa (.p (.int v))) D B (aa (.p (.aC (cY st.names)))) (aa (.p (.aC (cY st.cells))))) h=aa (.p (.bl ai),h):=by
 have J:(⟨0,st.names,st.cells,[],0,[]⟩:St).ok:=⟨q.nlen,q.clen,q.nw,q.cw⟩;have b:=eU A.tp.prg (k+9) s (by have:=L.2;lia) L.1 ⟨0,st.names,st.cells,[],0,[]⟩ J h;have e1:(⟨0,st.names,st.cells,[],0,[]⟩:St).enc=.aC [.int 0,.aC (cY st.names),.aC (cY st.cells),.aC [],.int 0,.aC []]:=rfl;have e2:s.val ⟨0,st.names,st.cells,[],0,[]⟩=v:=(EG (st:=st) (st':=⟨0,st.names,st.cells,[],0,[]⟩) rfl rfl s).trans Z;rw[e1,e2]at b;simp[Mh,V53,b,rd]
def PB(A:RsP T G)(k:Nat)(u j:W){n r:Nat}{t:Tp}{h:HH}{e d:Nat}(a:TAt h n r t)(I:TI t e d)(s:Sm)(m:Nat)(U:List Nat)(f:Int)(M:U=[]->f=(m:Int)+1)(i g J D B q:Option W):
 q8 (aN (runN T G (k+13)) G HY (V53 u j n e s m (lN U) (aa (.p (.int f))) i g J D B q) h) (.p (.bl ai)) n h r t e d:=by
 cases U with
 |nil =>
  have M:=M rfl;subst M;obtain⟨c,X,R,N,O,Q,z⟩:=lG A.tp A.wr A.rm (k+1) a I (l:=[]) (S:=[]) (λx F=>nomatch F) (λx=>aaL) .nil (by simp);obtain⟨Z,C,v,K,H,P,y,f2⟩:=qy A.tp (k+2) O.b Q 0 (Vx _);refine⟨Z,C,v,?_,O.trans H,P,z.trans y⟩;have Y:runN T G (k+13) "remade" [.o n,.p (.aB [])] h=aa (.p (.aC [.aC (cY St.zero.names),.aC (cY St.zero.cells)]),c):=N;have V:runN T G (k+13) (.m "Tape" "at") [.o n,.p (.int 0)] c=aa (.p St.zero.enc,Z):=K;have w:mW St.zero.enc (aa 1) (aa 3)=aa (.aC [.aC (cY St.zero.names),.aC (cY St.zero.cells)]):=rfl;have ne:=Eb St.zero.names St.zero.cells;have L:gA .ne (.int ((m:Int)+1)) (.int ((m:Int)+1))=aa ai:=ne_self rfl;have E:cZ []=[]:=rfl;generalize St.zero.enc=se at *;simp[-kE,HY,V53,lN,E,Y,O.b.ob,A5,V,w,ne,L,rd]
 |cons x U =>
  refine⟨h,r,t,?_,.refl a,I,.refl t⟩;have e1:cZ (x::U)=.int (x:Int)::cZ U:=rfl;simp[HY,V53,lN,e1,rd]
def PC(A:RsP T G)(k:Nat)(H F:W){n r:Nat}{t:Tp}{h:HH}{e g:Nat}(a:TAt h n r t)(I:TI t e g)(s:Sm)(m:Nat)(hm:m<=e)(J:Nat)(hx:∀y∈rsn t (rdS t s m) m,y<=J)(C w u U O M:Option W):
 ∃h',aN (runN T G (k+13)) G Pi (V53 H F n e s m C w (lN ((ndl t (rdS t s m) m).filter λx=>decide (J<x))) u (rdW t s m) U O M) h=aa (.p (.aB []),h'):=by
 obtain ⟨h',c,r',L,a',I',s'⟩:=Eu (eV (evs (runN T G (k+13)) G (.cons (.z .mem (.call "thing_written" (.cons (.v 1) (.cons (.v 0) .nil))) (.v 2)) .nil)) (aN (runN T G (k+13)) G (.v 0)) [aa (.o n),rdW t s m]) (λi:Nat=>D.int (i:Int)) (λ_=>af) (λh=>∃ r L,TAt h n r L/\TI L e g/\Sm8 t L) ((ndl t (rdS t s m) m).filter λx=>decide (J < x)) (λi hi h ⟨r1,t1,a1,I1,s1⟩=>by
  obtain⟨V,B⟩:=List.mem_filter.mp hi;have B:J<i:=bP B;obtain⟨d,Q,Z⟩:=gK.mp V;obtain⟨h2,P,K,j,g2,I2,N⟩:=gu A.tp A.wr (k+1) a1 I1 i d (by lia);rw[sF s1]at j;refine⟨h2,?_,P,K,g2.b,I2,s1.trans N⟩;have E:wrs t i=ah:=by simp at Z;exact Z.1
  obtain⟨z,f⟩:=Option.isSome_iff_exists.mp (show(wn t (i-1)).isSome=ah from E);have R:¬rdS t s m z:=HV (λy h3 h4 h5=>by have:=hx y (gK.mpr ⟨by lia,h4,iR.mpr h5⟩);lia) d Q f
  have Y:=(sG (s.rd (itr t.p t.aG m)) (wn t (i-1))).2;have S:(((s.rd (itr t.p t.aG m)).map Th.enc).any λy=>eqv y (gX (wn t (i-1))))=ai:=by rw[f];exact Bool.eq_false_iff.mpr λq=>R ((EN _ z).mp q)
  rw[S] at Y;simp[-gC,eV,eZ,rdW,j,Y,rd]) h ⟨r,t,a,I,.refl t⟩
 refine⟨h',?_⟩;have fm:∀l:List Nat,l.filterMap (λ_=>(af:Option D))=[]:=λl=>by
  induction l with
  |nil=>rfl|cons x l X=>rw[U5];exact X
 rw[fm]at c;exact mO (ws:=[.p (.aB (cZ ((ndl t (rdS t s m) m).filter λx=>decide (J<x))))]) (h1:=h) (fs:=[aa (.o n),rdW t s m]) (by simp[V53,lN]) rfl rfl rfl c (by simp)
def Ib(A:RsP T G)(hW:T "_law_worth"=aa fk)(hR:T "_law_reads"=aa gw)(k:Nat)(J D:W){n r:Nat}{t:Tp}{h:HH}{e gv:Nat}(a:TAt h n r t)(I:TI t e gv)(s:Sm)(L:jb s)(P:s.size<=13)(m:Nat)(B:m<=e)(N:e<=60):
 ∃h',evS (runN T G (k+13)) G HZ (V53 J D n e s m af af af af af af af af) h=aa (.rt (.p (.bl ah)) h'):=by
 have le:=I.run.le;have m1:=I.m1;have lU:=i7 m (fY t (rdS t s m) m);have lW:=i7 m (wrs t);have um:∀x∈rsn t (rdS t s m) m,1<=x/\x<=e:=λx V=>by have:=gK.mp V;lia
 obtain⟨h1,r1,t1,b1,g1,I1,U,f1⟩:=nW A.tp A.wr A.jd A.rs k a I s L m B;obtain⟨f,b2,hf⟩:=Po (G:=G) (runN T G (k+13)) J D n e s m af af af af af af af h1 (rsn t (rdS t s m) m) (by unfold rsn;lia);obtain⟨M,Y,h2,r2,t2,b3,g2,I2,s2⟩:=Pp A k J D g1.b I1 s L m B (aa (.p (.int f))) af af af af af af;rw[lF U,nA U,EF U]at b3;rw[lF U,nA U]at Y;have S2:=U.trans s2;obtain⟨h3,r3,t3,b4,g3,I3,s3⟩:=qC A.tp A.su (k+1) g2.b I2 s (by have:=L.2;lia) L.1 m B;rw[S2.p,S2.aG]at b4;have S3:=S2.trans s3;obtain⟨h4,r4,t4,b5,g4,I4,s4,f4⟩:=qy A.tp (k+2) g3.b I3 m B;rw[S3.p,S3.aG]at b5;have S4:=S3.trans s4;have b6:=rj (G:=G) hR hW (itr t.p t.aG m) (iQ I.ok I.ask I.run m B).ok s L.1 (by have:=L.2;lia) (k+13-s.size) h4;rw[Nat.sub_add_cancel (U3 P (Nat.le_add_left 13 k))]at b6;obtain⟨h5,r5,t5,b7,a5,I5,s5⟩:=Pu A k J D g4.b I4 s m B (lN (rsn t (rdS t s m) m)) (aa (.p (.int f))) (lN ((ndl t (rdS t s m) m).filter λx=>decide (M<x))) (aa (.p (.int (s.val (itr t.p t.aG m))))) (rdW t s m) af af af;have ew:wrs t4=wrs t:=funext λx=>yd S4 x;rw[ew]at b7;have u:=S4.trans s5;obtain⟨h6,r6,t6,b8,g6,I6,s6⟩:=Pv A k J D a5 I5 s L m B N (aa (.p (.int f))) (lN ((ndl t (rdS t s m) m).filter λx=>decide (M<x))) (aa (.p (.int (s.val (itr t.p t.aG m))))) (rdW t s m) af af;rw[lF u,nA u,show wrs t5=wrs t from funext λx=>yd u x]at b8;have S6:=u.trans s6;obtain⟨h7,r7,t7,b9,g7,I7,s7⟩:=lG A.tp A.wr A.rm (k+1) g6.b I6 (l:=mvs m (wrs t)) (S:=mvs m (wrs t)) (λx V=>by have:=gK.mp V;lia) (λx=>aaL) (uE m (wrs t)) (by lia);obtain⟨C,z⟩:=Mc I.ok I.ask I.run m B;rw[uH S6,C,z]at b9;have S7:=S6.trans s7;obtain⟨h8,r8,t8,j,g8,I8,s8⟩:=Pw A k J D g7.b I7 s m B (lN (rsn t (rdS t s m) m)) (aa (.p (.int f))) (lN ((ndl t (rdS t s m) m).filter λx=>decide (M<x))) (aa (.p (.int (s.val (itr t.p t.aG m))))) (rdW t s m) (lN (mvs m (wrs t)));rw[S7.p,S7.aG]at j;have O:=S7.trans s8;obtain⟨K,r9,t9,i,g9,I9,s9⟩:=Mm A k J D g8.b I8 s L m B (aa (.p (.int f))) (lN ((ndl t (rdS t s m) m).filter λx=>decide (M<x))) (lN (mvs m (wrs t))) (aa (.p (.aC (cY (itr t.p t.aG m).names)))) (aa (.p (.aC (cY (itr t.p t.aG m).cells)))) (.seq (.unp [(12,"_law_names"),(13,"_law_cells")] (.call "remade" (.cons (.v 2) (.cons HX .nil)))) Mj);have erd:rdW t8 s m=rdW t s m:=by unfold rdW;rw[O.p,O.aG]
 rw[lF O,nA O,O.p,O.aG,erd]at i;have S9:=O.trans s9;have b12:=Py (G:=G) (runN T G (k+13)) J D n e s m (aa (.p (.int f))) (lN ((ndl t (rdS t s m) m).filter λx=>decide (M<x))) (aa (.p (.int (s.val (itr t.p t.aG m))))) (rdW t s m) (lN (mvs m (wrs t))) (aa (.p (.aC (cY (itr t.p t.aG m).names)))) (aa (.p (.aC (cY (itr t.p t.aG m).cells)))) K (rsn t (rdS t s m) m) (by unfold rsn;lia);have rl:(rot (rsn t (rdS t s m) m)).length<64:=by unfold rot;rw[UR,W6,X6];unfold rsn;lia
 obtain⟨R,r10,t10,d,g10,I10,H⟩:=lG A.tp A.wr A.rm (k+1) g9.b I9 (l:=rot (rsn t (rdS t s m) m)) (S:=rsn t (rdS t s m) m) (λx V=>um x ((zM _ x).mp V)) (zM _) (uE m _) rl;rw[uH S9]at d;have S10:=S9.trans H;have b14:=Pz A k J D n e s L m (lN (rsn t (rdS t s m) m)) (aa (.p (.int f))) (lN ((ndl t (rdS t s m) m).filter λx=>decide (M<x))) (rdW t s m) (lN (mvs m (wrs t))) R (rmd t (rsn t (rdS t s m) m) St.zero) (yf I.ok I.ask I.run _ _ um oN) _ (Ba I.ok I.ask I.run s B);obtain⟨h11,r11,E,b15,X,I11,F⟩:=PB A k J D g10.b I10 s m (rsn t (rdS t s m) m) f hf (lN ((ndl t (rdS t s m) m).filter λx=>decide (M<x))) (aa (.p (.int (s.val (itr t.p t.aG m))))) (rdW t s m) (lN (mvs m (wrs t))) (aa (.p (.aC (cY (rmd t (rsn t (rdS t s m) m) St.zero).names)))) (aa (.p (.aC (cY (rmd t (rsn t (rdS t s m) m) St.zero).cells))));have q:=S10.trans F;obtain⟨Q,c⟩:=PC A k J D X.b I11 s m B M (by rw[lF q,nA q];exact Y) (lN (rsn t (rdS t s m) m)) (aa (.p (.int f))) (aa (.p (.int (s.val (itr t.p t.aG m))))) (lN (mvs m (wrs t))) (aa (.p (.aC (cY (rmd t (rsn t (rdS t s m) m) St.zero).names)))) (aa (.p (.aC (cY (rmd t (rsn t (rdS t s m) m) St.zero).cells))));have Z:rdW E s m=rdW t s m:=by unfold rdW;rw[q.p,q.aG]
 rw[lF q,EF q,Z]at c;refine⟨Q,?_⟩;unfold HZ;refine(fT (w:=.p (.aB (cZ (rsn t (rdS t s m) m)))) (g:=h1) ?_).trans ?_;simp[V53,b1];refine(fT b2).trans ((fT b3).trans ?_);unfold Pk;refine(fT (w:=.p (.int (s.val (itr t.p t.aG m)))) (g:=h3) ?_).trans ?_;simp[V53,b4];refine(fT (w:=.p (.aB ((s.rd (itr t.p t.aG m)).map Th.enc))) (g:=h4) ?_).trans ?_;simp[V53,g3.b.ob,A5,b5,b6];refine(fT b7).trans ?_;unfold Pj;refine(uI b8).trans ?_;refine(IY (EL (wC (x:=.o n) (h1:=h6) (y:=.p (.aB (cZ (mvs m (wrs t))))) (h2:=h6) rfl rfl b9))).trans ?_;refine(uI j).trans ?_;refine i.trans ?_;refine(IY (EL (wC (x:=.o n) (h1:=K) (h2:=K) rfl b12 d))).trans ?_;unfold Mj;refine(uI b14).trans ((uI b15).trans ?_);simp[c]
def Bd(A:RsP T G)(B:SL T)(ns:List Int)(L:ns.length<=1000)(k:Nat):∃h',runN T G (k+14) "law" [.p (.aB (cY ns))] []=aa (.p (.bl ah),h'):=by
 obtain⟨pg,F,r⟩:=uy (G:=G) B.lw B.program ns L 20;obtain⟨J,y,x,ra⟩:=A3 (G:=G) B.lw ns L 450;obtain⟨s,j,sz,n⟩:=uw (G:=G) B.lw ns L 2 460;have Y:=r (k+6);have c:=ra (k+10);have W:∀h,runN T G (k+13) "_law_sum" [.p (.aB (cY ns)),.p (.int 460),.p (.int 2)] h=aa (.p s.enc,h):=λh=>n (k+8) h;obtain⟨D,w,Z⟩:=qJ (G:=G) B.lw ns L 440 15 (by decide);obtain⟨q,v,V⟩:=qJ (G:=G) B.lw ns L 441 5 (by decide);have O:=Z (k+11);have M:=V (k+11);obtain⟨e,R,es⟩:=HA pg J D;have le:=R.le;obtain⟨m,X,t⟩:=qJ (G:=G) B.lw ns L 443 ((e:Int)+1) (by lia);have a:=t (k+11);have g:1+(q:Int)=((q+1:Nat):Int):=by lia
 have U:runN T G (k+13) (.m "Tape" "__init__") [.o 0,.p (gB pg),.p (.aB (cY J)),.p (.int ((q+1:Nat):Int)),.p (.int (D:Int))] [.o "Tape" []]=aa (.p .aD,[.o "Tape" ((Tp.new pg J (q+1) D).fs 1),.l [St.zero.enc]]):=Er A.tp (k+11) pg J (q+1) D (by lia) [];have i:TAt [.o "Tape" ((Tp.new pg J (q+1) D).fs 1),.l [St.zero.enc]] 0 1 (Tp.new pg J (q+1) D):=LR [] pg J (q+1) D;have N:TI (Tp.new pg J (q+1) D) e (q+1):=LQ F.ok y R (by lia) (by lia) (by lia);obtain⟨z,S,P,I,C,K,Q,f1⟩:=Et A.tp A.end_ (k+4) i N;obtain⟨d,H⟩:=Ib A B.worth B.reads k (.p (.aB (cY ns))) (.p (gB pg)) C.b K s ⟨j,by have:2^(2+1)=8:=rfl;lia⟩ (by have:2^(2+1)=8:=rfl;lia) m (by lia) (by lia);have E:fin [] (.p (.bl ah)) d=aa (.p (.bl ah),[]):=by have:=kY [] d (.bl ah);simpa using this
 refine⟨[],?_⟩;rw[run_eq B.law rfl,ko];generalize u:((q+1:Nat):Int)=z1 at U g;have f:evS (runN T G (k+13)) G HZ [aa (.p (.aB (cY ns))),aa (.p (gB pg)),aa (.o 0),aa (.p (.int (e:Int))),aa (.p s.enc),aa (.p (.int (m:Int))),af,af,af,af,af,af,af,af] z=aa (.rt (.p (.bl ah)) d):=H;simp[-Cv,Pn,Y,c,W,O,M,a,g,U,i.ob,O8,I,f,E]
end
end BT
end
section
namespace BF
open PySem PySem.Spec PyProof.Rows L2 BS
variable{K:Uv}
def yi(P:UM)(w:U6)(K:Uv)(mg:ay->Option aA)(x:ay)(z:aM):Prop:=∃u v,mg x=aa u/\RelV v u/\∀m H,RW P w K m H v z
def EO(X:K.In h)(G:h.Ns UP mg)(a:Vd K UP x=aa (aa (.int n t))):yi P w K mg x (.p (.int n)) :=
 ⟨_,.int n,Wk X G a,⟨t,rfl⟩,λ_ _=>.p (.int n)⟩
inductive gx:List ay->List aA->Prop
 |nil:gx [] []
 |cons{x:ay}{xs:List ay}{t:Tok}{vs:List aA}(h:PyData.strOk x=ah)(r:gx xs vs):gx (x::xs) (.str x t::vs)
theorem gx.vals:∀{xs:List ay}{vs:List aA},gx xs vs->dw (xs.map V.str) vs
 |_,_,.nil=>.nil|_,_,.cons _ r=>.cons ⟨_,rfl⟩ r.vals
theorem gx.rds{K:Uv}:∀{xs:List ay}{vs:List aA},gx xs vs->RDs K m H (xs.map V.str) (xs.map aO.str)
 |_,_,.nil=>.nil|_,_,.cons h r=>.cons (.str _ h) r.rds
theorem gx.len:∀{xs:List ay}{vs:List aA},gx xs vs->vs.length=xs.length
 |_,_,.nil=>rfl
 |_,_,.cons _ r=>by simp[r.len]
def ER(X:K.In h)(G:h.Ns UP mg)(a:Vd K UP x=aa (aa (.ref f)))
(l:K.lookup f=aa ⟨.type "tuple",af,.seq its n,sl⟩)(q:xs.length<=1000)(r:gx xs its.toList):yi P w K mg x (.p (.aC (xs.map aO.str))):=by
 refine⟨_,.ref f,Wk X G a,rfl,λm H=>.p (.aC (.inr ⟨_,its,n,⟨l,rfl,rfl,?_,r.vals⟩,rfl⟩) r.rds)⟩;have:=r.len;have e:its.size=xs.length:=by rw[←this];simp
 rw[e];exact VQ (Ac q)
inductive i9(w:U6):List (ay×Int)->List Y0->Prop
 |nil:i9 w [] []
 |cons{x:ay}{n:Int}{kvs:List (ay×Int)}{t u:Tok}{es:List Y0}(r:i9 w kvs es):i9 w ((x,n)::kvs) (⟨PyData.keyHash w.params x,.str x t,.int n u⟩::es)
theorem i9.ex:∀{kvs:List (ay×Int)}{es:List Y0},i9 w kvs es->∃vs:List (Key×aA),KV ((kvs.map λq=>(q.1,V.int q.2)).map λq=>((Sum.inr q.1:Key),q.2)) vs/\Pairs (dD P w) es vs/\vs.map (·.1)=kvs.map (λq=>(Sum.inr q.1:Key))/\(∀e∈es,∃k,(dD P w).is k e.key=ah/\e.hash=(dD P w).hash k)
 |_,_,.nil=>⟨[],.nil,.nil,rfl,λe B=>nomatch B⟩
 |_,_,@i9.cons _ x n kvs t u es r=>by
  obtain⟨vs,M,L,J,D⟩:=r.ex (P:=P);have is:(dD P w).is (Sum.inr x) (.str x t)=ah:=by show Ym x (.str x t)=ah;simp[Ym]
  refine⟨(Sum.inr x,.int n u)::vs,.cons ⟨rfl,u,rfl⟩ M,.cons is rfl L,by simp[J],λe B=>?_⟩;rcases List.mem_cons.mp B with rfl|B
  exact⟨Sum.inr x,is,rfl⟩;exact D e B
def Be{P:UM}{w:U6}{h:aq}{mg:ay->Option aA}(X:K.In h)(G:h.Ns UP mg){x:ay}{f:az}{es:Array Y0}{n:Nat}{kvs:List (ay×Int)}(a:Vd K UP x=aa (aa (.ref f)))
(l:K.lookup f=aa {cls:=.type "dict",data:=.dict es n})(W:(f==Wb)=ai)(r:i9 w kvs es.toList)(B:(kvs.map (·.1)).Nodup):yi P w K mg x (.k (.t (kvs.map λq=>(q.1,aO.int q.2)))):=by
 obtain⟨O,M,L,J,D⟩:=r.ex (P:=P);refine⟨_,.ref f,Wk X G a,rfl,λm H=>.k (es:=kvs.map λq=>(q.1,V.int q.2)) ⟨W,O,M,λb Z=>⟨_,es,n,Z _ _ l,⟨rfl,rfl,rfl⟩,rfl,λe Y=>D e (by simpa using Y),L,?_⟩⟩ ?_⟩
 ·rw[J];have e:(kvs.map λq=>(Sum.inr q.1:Key))=(kvs.map (·.1)).map Sum.inr:=by simp
  rw[e];exact List.pairwise_map.mpr (B.imp λh z=>h (Sum.inr.inj z))
 ·clear r B M L J D l
  induction kvs with
  |nil=>exact .nil|cons q kvs U=>exact .cons (λ_ _=>.int _) U
noncomputable def look{κ q:Type}[DecidableEq κ](l:List (κ×q))(x:κ):Option q:=match l with
 |[]=>af
 |(y,a)::r=>if y=x then aa a else look r x
theorem kr{κ q:Type}[DecidableEq κ]{Q:κ->q->Prop}:∀{l:List (κ×q)} (_:∀p∈l,Q p.1 p.2) {x:κ}{a:q},look l x=aa a->Q x a
 |[],_,_,_,e=>by exact bD e
 |(y,b)::r,h,x,a,e=>by
  rw[look]at e;split at e
  ·rename_i z;cases e;subst z;exact h (y,b) UH
  exact kr (λp B=>h p (UC _ B)) e
theorem gk{K:Uv}:∀ns:List Int,RDs K m H (ns.map V.int) (BT.cY ns)
 |[]=>.nil|n::r=>.cons (.int n) (gk r)
def ES(tb:TB K H)(B:LL K H a (ns.map V.int))(e:∃h',g [.p (.aB (BT.cY ns))] []=aa (.p (.bl ah),h')):spF P w K g [.ref a] H (λv _=>v=.bl ah) λ_ _ _=>False:=by obtain⟨h',e⟩:=e;refine⟨[],_,[],_,h',⟨X9,rfl,λi a D z=>by simp at z,tb⟩,.cons (.p (.aB (B.elim (λq=>.inl ⟨q,by simp⟩) .inr) (gk ns))) .nil,e,λv L J _ _ r=>m7 r⟩
end BF
end
section
namespace BG
open PySem PySem.Spec PySem.Calls PyProof.Rows L2 BS BF
variable{K:Uv}{st:Y4}
def Ic(H:∀p∈K,h.get? p.1=aa p.2):K.In h:=by
 intro a o e;obtain⟨p,D,B⟩:∃p∈K,p.1=a/\p.2=o:=by
  clear H
  induction K with
  |nil=>exact bD e
  |cons q r J =>
   rw[V0]at e;split at e
   ·rename_i c;cases e;exact⟨q,UH,(bQ c).symm,rfl⟩
   ·obtain⟨p,D,B⟩:=J e;exact⟨p,UC _ D,B⟩
 rw[←B.1,←B.2];exact H p D
inductive PD(K:Uv)(x qual:ay)(st:Y4)(f:az):Prop
 |mk(fd:V8)(F:Fun K x qual st f fd)(kV doc pm:aA)(an:Option az)(cdv ct:aA)(e:fd=VW x qual (f9 st) (dQ st) (dh st) .none kV doc pm an cdv ct):PD K x qual st f
def ET(e:E7 K f=aa (ym x qual st)):PD K x qual st f:=by
 unfold E7 at e;split at e
 ·rename_i Z Y O U l;have q:=UK e;unfold ym at q;obtain⟨nm,L,W,d,V,a,cl,b,B,D,pm,an,J,ct,c⟩:=O;simp only[FS.mk.injEq]at q;obtain⟨rfl,rfl,rfl,rfl,rfl,rfl,rfl,rfl,rfl,M⟩:=q;have F:=JO (K:=K) (x:=nm) (qual:=L) (st:=st) (f:=f) (kV:=B) (doc:=D) (pm:=pm) (an:=an) (cdv:=J) (ct:=ct) l M (by simp only[VH,l]);exact⟨_,F,B,D,pm,an,J,ct,rfl⟩
 exact bD e
def nth{q:Type}{l:List q}{a:q}(i:Nat)(h:l[i]?=aa a):a∈l:=UJ h
noncomputable def qK(ns:List ay):Bool:=ns.all λn=>!(n.cps[0]?==aa 60)
def PF(y:ay):(bE y).cps[0]?=aa 60:=by show(((#[60]:Array Nat)++y.cps)++#[62])[0]?=aa 60;rw[←Z2];simp
def Ie(h:bE y=bE z):y=z:=by
 have e:((#[60]:Array Nat)++y.cps)++#[62]=((#[60]:Array Nat)++z.cps)++#[62]:=bR Str.cps h;have e2:y.cps.toList=z.cps.toList:=by have:=bR Z1 e;simpa using this
 cases y;cases z;exact bR Str.mk (Array.toList_inj.mp e2)
def qL(h:qK ns=ah)(y:ay):ns.contains (bE y)=ai:=by
 cases e:ns.contains (bE y)with
 |false=>rfl
 |true =>
  have:=List.all_eq_true.mp h _ (List.contains_iff_mem.mp e);rw[PF]at this;exact aS this
def EU(h:qK fn.ns=ah):nO K q fd fn:=λy B=>by rw[qL h y]at B;exact aS B
section
variable{K:Uv}
def uJ(e:refOf o=aa f):o=aa (aa (.ref f)):=by unfold refOf at e;split at e;cases e;rfl;exact bD e
def yj(X:K.In h)(G:h.Ns UP mg)(e:eX K (.fn x f st)=eY w (.fn x f st))
(sc:gf fn.ns fn.ps (dh st))(L:∀(kV doc pm:aA)(an:Option az)(cdv ct:aA)(us:List aA),us.length=fn.ps.length->ZG (VW x x (f9 st) (dQ st) (dh st) .none kV doc pm an cdv ct) ⟨us,[]⟩=pure (fn.ps.zip us))
(M:CSs (dh st) fn.ns fn.body (dQ st))(tg:∀fd,Vd K UP x=aa (aa (.ref f))->(∃B q D,K.lookup f=aa ⟨B,q,.func fd,D⟩)->nO K x fd fn):Def K mg x fn:=by
 simp only[eX,eY,Ov.fn.injEq]at e;obtain⟨fd,F,kV,doc,pm,an,cdv,ct,rfl⟩:=ET e.2;refine⟨f,_,st,Wk X G (uJ e.1),F,sc,F.binds L,M,tg _ (uJ e.1) ?_⟩;obtain⟨B,q,kV,doc,pm,an,cdv,ct,osl,e1,J,_⟩:=F.ex;exact⟨B,q,osl,J⟩
def EV(e:eX K (.cls c C)=eY w (.cls c C)):nM K c C:=by simp only[eX,eY,Ov.b.injEq,MV,Uz,bM]at e;obtain⟨⟨⟨⟨⟨⟨V,U⟩,O⟩,M⟩,L⟩,J⟩,D⟩:=e;refine⟨V,⟨U,O,M,L⟩,λf B=>?_,D⟩;have q:f∈attrs:=List.contains_iff_mem.mp B;exact bP (p:=Va K (.ref C) f=aa af) (List.all_eq_true.mp J f q)
def Ig(X:K.In h)(G:h.Ns UP mg)(M:eX K (.cls c C)=eY w (.cls c C))(D:eX K (.mk C)=eY w (.mk C))(e:eX K (.me C m x qual f st)=eY w (.me C m x qual f st))
(sc:gf fn.ns fn.ps (dh st))(L:∀(kV doc pm:aA)(an:Option az)(cdv ct:aA)(us:List aA),us.length=fn.ps.length->ZG (VW x qual (f9 st) (dQ st) (dh st) .none kV doc pm an cdv ct) ⟨us,[]⟩=pure (fn.ps.zip us))
(O:CSs (dh st) fn.ns fn.body (dQ st))(tg:qK fn.ns=ah):DX K mg c m fn:=by
 have J:=EV M;simp only[eX,eY,Ov.fn.injEq]at e;obtain⟨e1,e2⟩:=e;obtain⟨U,F,kV,doc,pm,an,cdv,ct,rfl⟩:=ET e2;have B:meB K C m f=ah:=by
  cases q:meB K C m f with
  |true=>rfl|false=>rw[q]at e1;exact bD e1
 simp only[meB,Uz,bM]at B;simp only[eX,eY,Ov.b.injEq,mkB,Uz]at D;refine⟨C,f,_,x,qual,st,J,Wk X G J.cn,⟨B.1,B.2,F.kp⟩,λz=>?_,F,sc,F.binds L,O,EU tg⟩;subst z;exact⟨D.1,B.1,B.2,D.2⟩
def none_of(X:K.In h)(G:h.Ns UP mg)(e:eX K (.no x)=eY w (.no x)):mg x=af:=by simp only[eX,eY,Ov.b.injEq,bM]at e;exact PySem.W.mg_none_of X G e
def EW(h:intOf v=aa x):∃t,v=.int x t:=by cases v<;>simp[intOf]at h;exact⟨_,by rw[h]⟩
def EX(h:strOf v=aa x):∃t,v=.str x t:=by cases v<;>simp[strOf]at h;exact⟨_,by rw[h]⟩
def fM(X:K.In h)(G:h.Ns UP mg)(e:eX K (.int x n)=eY w (.int x n)):yi P w K mg x (.p (.int n)):=by
 simp only[eX,eY,Ov.int.injEq]at e;split at e
 ·rename_i v q;obtain⟨t,rfl⟩:=EW e;exact EO X G q
 exact bD e
theorem zN:∀{xs:List ay}{vs:List aA},xs.all PyData.strOk=ah->vs.map strOf=xs.map aa->gx xs vs
 |[],[],_,_=>.nil
 |[],_::_,_,h=>by simp at h
 |_::_,[],_,h=>by simp at h
 |x::xs,v::vs,k,h=>by simp only[UQ,WG]at h;simp only[ZJ,Uz]at k;obtain⟨t,rfl⟩:=EX h.1;exact .cons k.1 (zN k.2 h.2)
theorem zO:∀{kvs:List (ay×Int)}{es:List Y0},es.map (λe=>(e.hash,strOf e.key,intOf e.val))=kvs.map (λq=>(PyData.keyHash w.params q.1,aa q.1,aa q.2))->i9 w kvs es
 |[],[],_=>.nil
 |[],_::_,h=>by simp at h
 |_::_,[],h=>by simp at h
 |(x,n)::kvs,⟨ha,k,v⟩::es,h=>by simp only[UQ,WG,Zk]at h;obtain⟨⟨rfl,J,D⟩,B⟩:=h;obtain⟨t,rfl⟩:=EX J;obtain⟨u,rfl⟩:=EW D;exact .cons (zO B)
def EY(X:K.In h)(G:h.Ns UP mg)(e:eX K (.aC x f xs)=eY w (.aC x f xs))(L:xs.length<=1000)(J:xs.all PyData.strOk=ah):yi P w K mg x (.p (.aC (xs.map aO.str))):=by simp only[eX,eY,Ov.seq.injEq]at e;obtain⟨e1,e2,q⟩:=e;obtain⟨o,l,B⟩:=Option.map_eq_some_iff.mp e2;rw[l]at q;obtain⟨cl,U,O,D⟩:=o;simp only[shp,Zk]at B;obtain⟨rfl,rfl,M⟩:=B;have:D=#[]:=YC M;subst this;simp only[VA,Bh]at q;cases O<;>simp only[Wc,reduceCtorEq]at q;exact ER X G (uJ e1) l L (zN J q)
def EZ(X:K.In h)(G:h.Ns UP mg){x:ay}{f:az}{kvs:List (ay×Int)}(e:eX K (.dct x f kvs)=eY w (.dct x f kvs))(M:(f==Wb)=ai)(L:(kvs.map (·.1)).Nodup):yi P w K mg x (.k (.t (kvs.map λq=>(q.1,aO.int q.2)))):=by simp only[eX,eY,Ov.dct.injEq]at e;obtain⟨e1,e2,B⟩:=e;obtain⟨o,l,D⟩:=Option.map_eq_some_iff.mp e2;rw[l]at B;obtain⟨cl,V,U,J⟩:=o;simp only[shp,Zk]at D;obtain⟨rfl,rfl,O⟩:=D;have:J=#[]:=YC O;subst this;simp only[VA,Ir]at B;cases U<;>simp only[Wc,reduceCtorEq]at B;exact Be X G (uJ e1) l M (zO B) L
end
def yk{q:Type}{us:List q}{n:Nat}(h:us.length=n+1):∃a r,us=a::r/\r.length=n:=by
 cases us with
 |nil=>simp at h|cons a r=>exact⟨a,r,rfl,by simpa using h⟩
def len0{q:Type}{us:List q}(h:us.length=0):us=[]:=W7 h
def Mn{B:Type}{us:List B}(h:us.length=1):∃q,us=[q]:=by obtain⟨q,r,rfl,g⟩:=yk h;exact⟨q,by rw[len0 g]⟩
def Mp{D:Type}{us:List D}(h:us.length=2):∃B q,us=[B,q]:=by obtain⟨B,r,rfl,g⟩:=yk h;obtain⟨q,rfl⟩:=Mn g;exact⟨B,q,rfl⟩
def Ih{J:Type}{us:List J}(h:us.length=3):∃D B q,us=[D,B,q]:=by obtain⟨D,r,rfl,g⟩:=yk h;obtain⟨B,q,rfl⟩:=Mp g;exact⟨D,B,q,rfl⟩
def Mq{L:Type}{us:List L}(h:us.length=4):∃J D B q,us=[J,D,B,q]:=by obtain⟨J,r,rfl,g⟩:=yk h;obtain⟨D,B,q,rfl⟩:=Ih g;exact⟨J,D,B,q,rfl⟩
def PJ{M:Type}{us:List M}(h:us.length=5):∃L J D B q,us=[L,J,D,B,q]:=by obtain⟨L,r,rfl,g⟩:=yk h;obtain⟨J,D,B,q,rfl⟩:=Mq g;exact⟨L,J,D,B,q,rfl⟩
def PK{O:Type}{us:List O}(h:us.length=6):∃M L J D B q,us=[M,L,J,D,B,q]:=by obtain⟨M,r,rfl,g⟩:=yk h;obtain⟨L,J,D,B,q,rfl⟩:=PJ g;exact⟨M,L,J,D,B,q,rfl⟩
def SM{U:Type}{us:List U}(h:us.length=7):∃O M L J D B q,us=[O,M,L,J,D,B,q]:=by obtain⟨O,r,rfl,g⟩:=yk h;obtain⟨M,L,J,D,B,q,rfl⟩:=PK g;exact⟨O,M,L,J,D,B,q,rfl⟩
noncomputable abbrev BdT(x qual:ay)(st:Y4)(fn:bz):Prop:=∀(kV B J:aA)(L:Option az)(D ct:aA)(q:List aA),q.length=fn.ps.length->ZG (VW x qual (f9 st) (dQ st) (dh st) .none kV B J L D ct) ⟨q,[]⟩=pure (fn.ps.zip q)
structure CkB(x qual:ay)(s:Y4)(f:bz):Prop where
 ck:CSs (dh s) f.ns f.body (dQ s):=by repeat' (first|rfl|constructor|decide +kernel)
 sc:gf f.ns f.ps (dh s):=by constructor<;>first|rfl|decide +kernel
 bd:BdT x qual s f:=by intro _ _ _ _ _ _ us hl;first|(obtain⟨a0,a1,rfl⟩:=Mp hl;rfl)|(obtain⟨a0,rfl⟩:=Mn hl;rfl)|(obtain⟨a0,a1,a2,rfl⟩:=Ih hl;rfl)|(obtain⟨a0,a1,a2,a3,rfl⟩:=Mq hl;rfl)|(obtain rfl:=len0 hl;rfl)|(obtain⟨a0,a1,a2,a3,a4,rfl⟩:=PJ hl;rfl)|(obtain⟨a0,a1,a2,a3,a4,a5,rfl⟩:=PK hl;rfl)|(obtain⟨a0,a1,a2,a3,a4,a5,a6,rfl⟩:=SM hl;rfl)
def dk{p:Prop}(h:p:=by decide +kernel):p:=h
def hn{w:U6}{B:List Qy}(D:∀q∈B,eX K q=eY w q)(i:Nat){a:Qy}(h:B[i]?=aa a):eX K a=eY w a:=D _ (nth i h)
def sH(K:Uv)(mg:ay->Option aA)(p:BT.FK×bz):Prop:=(∀x,p.1=.f x->Def K mg x p.2)/\(∀c m,p.1=.m c m->DX K mg c m p.2)/\∀L,p.1=.l L->BT.qS L=aa p.2/\∃q B,p.2=⟨q,q,.ret B⟩/\∀y,q.contains (bE y)=ai
def dd(d:Def K mg x fn):sH K mg (.f x,fn):=⟨λy e=>by cases e;exact d,λc m e=>(by cases e),λL e=>by cases e⟩
def dm(d:DX K mg c m fn):sH K mg (.m c m,fn):=⟨λy e=>(by cases e),λc m e=>by cases e;exact d,λL e=>by cases e⟩
def c9{q:Type}{Q:q->Prop}{a:q}{l:List q}(h:Q a)(t:∀p∈l,Q p):∀p∈a::l,Q p:=List.forall_mem_cons.mpr ⟨h,t⟩
def E1{q:Type}{Q:q->Prop}:∀p∈([]:List q),Q p:=λ_ h=>bL h WE
def dl(h:BT.qS L=aa ⟨ns,ns,.ret bt⟩)(n:qK ns=ah):sH K mg (.l L,⟨ns,ns,.ret bt⟩):=⟨λy e=>(by cases e),λc m e=>(by cases e),λM e=>by cases e;exact⟨h,ns,bt,rfl,qL n⟩⟩
section
variable{K:Uv}
def dd0(X:K.In h)(G:h.Ns UP mg)(e:eX K (.fn x f st)=eY w (.fn x f st))(c:CkB x x st fn)(tg:qK fn.ns=ah:=by decide +kernel):sH K mg (.f x,fn) :=
 dd (yj X G e c.sc c.bd c.ck λ_ _ _=>EU tg)
def dm0(X:K.In h)(G:h.Ns UP mg)(B:eX K (.cls c C)=eY w (.cls c C))(q:eX K (.mk C)=eY w (.mk C))(e:eX K (.me C m x qual f st)=eY w (.me C m x qual f st))(k:CkB x qual st fn)(tg:qK fn.ns=ah:=by decide +kernel):sH K mg (.m c m,fn) :=
 dm (Ig X G B q e k.sc k.bd k.ck tg)
end
structure Ii(K:Uv)(tl:List (ay×az×az)):Prop where
 all:∀z∈BT.gF,(∃c P,(z,c,P)∈tl/\Vs K z=aa (c,P))\/Vs K z=af
 hd:∀q∈tl,Xv K q.2.1 q.2.2=ah
def mS(e:eX K (.tab x c P)=eY w (.tab x c P)):Vs K x=aa (c,P)/\Xv K c P=ah:=by simp only[eX,eY,Ov.b.injEq,Uz,bM]at e;exact e
def eB(e:eX K (.no x)=eY w (.no x)):Vs K x=af:=by simp only[eX,eY,Ov.b.injEq,bM]at e;unfold Vs;rw[e]
def E2(h1:Vd K UP x=aa (aa (.ref f)))(h2:K.lookup f=aa ⟨oc,od,.func fd,sl⟩)(h:Vs K x=aa (c,P)):fd.code=.ref c:=by
 unfold Vs at h;rw[h1]at h;simp only[h2]at h;split at h
 ·rename_i B q;split at h
  ·split at h;cases h;exact q;exact bD h
  exact bD h
 exact bD h
def Mr(e:eX K (.bm b)=eY w (.bm b)):∃bm ob,Vd K UP "__builtins__"=aa (aa (.ref bm))/\bm≠Wn/\K.lookup bm=aa ob/\ob.cls=.type "module"/\ob.dict=aa Wn/\ob.data=.plain:=by
 simp only[eX,eY,Ov.b.injEq,bmB,Uz,bM]at e;obtain⟨⟨e1,e2⟩,q⟩:=e;split at q
 ·rename_i d B l;exact⟨b,_,e1,e2,l,rfl,bR aa (bQ q),rfl⟩
 exact aS q
def tabsOk(tl:List (ay×az×az)):Bool:=tl.all λp=>tl.all λq=>!(p.2.2==q.2.2)||p.1==q.1
def zP(D:fn.ns=ns++[bE x])(d:qK ns=ah)(B:x∈BT.gF)(a:Ii K tl)(Z:tabsOk tl=ah)(Y:(x,c,P)∈tl)(g:eX K (.tab x c P)=eY w (.tab x c P))(h:eX K (.bm b)=eY w (.bm b)):
 ∀fd,Vd K UP x=aa (aa (.ref f))->(∃O M L,K.lookup f=aa ⟨O,M,.func fd,L⟩)->nO K x fd fn:=λfd h1 ⟨O,M,L,h2⟩ y hy=>by
 obtain⟨J,U⟩:=mS g;have e:y=x:=by
  have m:=List.contains_iff_mem.mp hy;rw[D]at m;rcases List.mem_append.mp m with m|m
  ·have:=qL d y;rw[List.contains_iff_mem.mpr m]at this;exact BT.w9 this
  exact Ie (by simpa using m)
 subst e;refine⟨rfl,B,⟨c,P,J,E2 h1 h2 J,U,λz W j e2=>?_⟩,Mr h⟩;rcases a.all z W with⟨i,k,V,q⟩|q
 ·rw[e2]at q;cases q;have:=List.all_eq_true.mp (List.all_eq_true.mp Z _ V) _ Y;simp only[beq_self_eq_true,Bool.not_true,Bool.false_or]at this;exact bQ this
 rw[e2]at q;cases q
def yl(e:K.lookup b=aa o):b∈K.map (·.1):=List.mem_map.mpr ⟨(b,o),PySem.W.mem_of_lookupK e,rfl⟩
def Bf 
(A:K.In s₁.heap)(I:s₁.heap.Ns UP mg)(R:s₁.heap.Ns Wn mb)(Q:∀x:ay,x≠"__name__"->mb x=XA x)(f:s₁.heap.NoLimit)(hg:s₁.gens=#[])
(g:s₁.heap.get? a=aa {cls:=.type "list",data:=.seq vs.toArray})(hi:Xu vs ns)(hl:ns.length<=aj)(hr:fG k aaA)
(hT:Ii K tl)(M:∀p∈tl,s₁.heap.get? p.2.2=aa (Wv #[]))(S:∀p∈tl,K.lookup p.2.2=af)
(F:∀base:aq,jn P w K mg base CX0 k fa fd [x] sp)(W:∀(s:UA)(u:aA),K.In s.heap->BindsTo s fd ⟨[u],[]⟩ [(x,u)])
(G:∀H:Hp,TB K H->LL K H a (ns.map V.int)->sp [.ref a] H (λv _=>v=.bl ah) λ_ _ _=>False):
 ak (UT P w) aaA (.call (.ref fa) ⟨[.ref a],[]⟩) (λr s'=>r=.ok (.ret (.bool ah))/\OldK s₁.heap s'.heap/\s'.os=s₁.os/\Zr s'.gens) s₁:=by
 have rv:=kC hi;have Z:=hi.length;have C:∀p∈tl,p.2.2≠a:=λp D z=>by have:=M p D;rw[z,g]at this;cases this
 let t:HO:=.frz {cls:=.type "list",data:=.seq vs.toArray} (.aB (ns.map V.int))
 let H:Hp:=λb=>if ∃p∈tl,p.2.2=b then aa (.tbl #[])else if b=a/\K.lookup a=af then aa t else af
 have Ht:∀p∈tl,H p.2.2=aa (.tbl #[]):=λp D=>bJ ⟨p,D,rfl⟩;have J:∀b u,H b=aa u->(∃p∈tl,p.2.2=b/\u=.tbl #[])\/(b=a/\K.lookup a=af/\u=t):=λb u e=>by
  by_cases X:∃p∈tl,p.2.2=b
  ·have Y:aa (HO.tbl #[])=aa u:=(bJ X).symm.trans e;obtain⟨p,D,L⟩:=X;exact .inl ⟨p,D,L,(UK Y).symm⟩
  ·have Y:(if b=a/\K.lookup a=af then aa t else af)=aa u:=(bK X).symm.trans e
   by_cases y:b=a/\K.lookup a=af
   ·rw[bJ y]at Y;exact .inr ⟨y.1,y.2,(UK Y).symm⟩
   rw[bK y]at Y;exact bD Y
 have E:∀{b:az}{o:ao}{i:Array Y0}{j:Nat},s₁.heap.get? b=aa o->o.data=.dict i j->H b=af:=λ{b o i j} e d=>by
  cases q:H b with
  |none=>rfl
  |some u =>
   rcases J b u q with⟨p,D,L,_⟩|⟨L,_⟩
   ·have z:=M p D;rw[L,e]at z;cases z;cases d
   ·rw[L,g]at e;cases e;have d':Data.seq vs.toArray _=Data.dict i j:=d;cases d'
 have U:∀ {b:az}{m:ay->Option aA},s₁.heap.Ns b m->(uM s₁.heap H).Ns b m:=λ{b m} ⟨o,i,j,e,d,r⟩=>⟨o,i,j,uN e (E e d),d,r⟩;have T:K.In (uM s₁.heap H):=λb o e=>uN (A b o e) (by
  cases q:H b with
  |none=>rfl
  |some u =>
   rcases J b u q with⟨p,D,L,_⟩|⟨L,h3,_⟩
   rw[←L,S p D]at e;exact bD e
   ·rw[L,h3] at e;exact bD e)
 have hM:Mod K mg (uM s₁.heap H):=⟨T,U I,⟨mb,U R,Q⟩,let ⟨mc,h1,L⟩:=f;⟨mc,U h1,L⟩⟩;have aJ:HOk P w H s₁.heap:=λb u e=>by
  rcases J b u e with⟨p,D,L,rfl⟩|⟨L,_,rfl⟩
  subst L;exact M p D;subst L;exact⟨g,by rw[UI];exact hl,vs,_,rv,g⟩
 have e0:oY P w K mg (uM s₁.heap H) aaA [] s₁ H:=⟨rfl,hM,λb o e=>E8 e,Nat.le_of_eq (zS _ _),trivial,λb R=>bL (show b∈([]:List az) from R) (by simp),aJ,.of_eq hg⟩;have tb:TB K H:=λz hz c Pt e=>by
  rcases hT.all z hz with⟨c3,P3,m3,l⟩|l
  ·rw[e]at l;cases l;exact⟨#[],Ht _ m3,trivial,λpos v q=>by cases q⟩
  rw[e]at l;cases l
 have hS:LL K H a (ns.map V.int):=by
  cases N:K.lookup a with
  |some o =>
   have e:=A a o N;rw[g]at e;cases e;exact .inr ⟨vs,_,N,by rw[Z];exact hl,rv⟩
  |none =>
   refine .inl (.inr ⟨{cls:=.type "list",data:=.seq vs.toArray},?_⟩);have e1:H a=(if a=a/\K.lookup a=af then aa t else af):=bK λ⟨p,D,z⟩=>C p D z;rw[e1,bJ ⟨rfl,N⟩]
 refine codeAny_mono ((F _).run aaA [] s₁ H ⟨[.ref a],[]⟩ [.ref a] [.ref a] _ _ hr e0 (W s₁ (.ref a) A) (.cons rfl .nil) (G H tb hS)) λr s' h=>?_;cases r with
 |error e=>exact Vo h
 |ok fl =>
  cases fl with
  |ret u =>
   obtain⟨v,H',os,n,un,O,r',q⟩:=h;have q':v=.bl ah:=q;subst q';obtain rfl:u=aaC ah:=r';have kp:∀b o,s₁.heap.get? b=aa o->(s'.heap.get? b=aa o)\/∃p∈tl,p.2.2=b/\∃B,s'.heap.get? b=aa (Wv (#[]++B)):=λb o e=>by
    cases q:H b with
    |none=>exact .inl (un.keep b o e q (by intro z;exact bL (show b∈([]:List az) from z) (by simp)) (by simp))
    |some u =>
     rcases J b u q with⟨p,D,L,rfl⟩|⟨L,h3,rfl⟩
     ·obtain⟨B,z⟩:=un.tbls b _ q;exact .inr ⟨p,D,L,B,O b _ z⟩
     ·have z2:=un.frzs b _ _ q;obtain⟨e1,_⟩:=aJ b _ q;obtain⟨e2,_⟩:=O b _ z2;rw[e]at e1;cases e1;exact .inl e2
   refine⟨rfl,⟨λb o e=>?_,λb o e=>?_⟩,os,n⟩
   ·rcases kp b o e with z|⟨p,D,rfl,B,z⟩
    exact .inl z
    ·have e2:=M p D;rw[e]at e2;cases e2;have tA:=(ZW A (hT.hd p D)).tab e;exact .inr (.inl ⟨tA.isCodeTable,rfl,#[],B,rfl,z⟩)
   ·rcases kp b o e with z|⟨p,D,rfl,B,z⟩
    exact⟨o,z⟩;exact⟨_,z⟩
  |_=>exact Vo h
def E3{l:PySem.W.OpenLaw}{n k:Nat}{q:UM}{loose:List ay}{XP:(ay->Option aA)->aq->Prop}{d:DefRec}{as:List az}{V:List Qy}{ts:List az}{tl:List (ay×az×az)}{T:BT.FK->Option bz}{G:ay->Option aM}{fn:bz}{x:ay}
(hn:l.most=aa n)(j:n<=aj)(t:d.params.defaults=[])(N:fG (2*k) aaA)(D:fn.ps=[x])(y:T (.f d.name)=aa fn)(Z:ts=tl.map (·.2.2))(c:tl.all (λp=>!as.contains p.2.2)=ah)
(FT:∀(w:U6)(K:Uv),(∀q∈V,eX K q=eY w q)->Ii K tl)
(F:∀(P:UM)(w:U6)(mg:ay->Option aA)(K:Uv) (h:aq),K.In h->h.Ns UP mg->(∀q∈V,eX K q=eY w q)->Txt P w K mg T G)
(M:∀ns:List Int,ns.length<=n->∃h',aW T G k (.f d.name) [.p (.aB (BT.cY ns))] []=aa (.p (.bl ah),h')):
 PySem.W.WalkO q loose XP (sees as V ts).says l.row.toRowW d [] (λf vs=>aaD f vs):=by
 refine Att.uX hn t λw v L mg mb fa o pm cd doc a vs ns U Y ho hd R r O J B Q=>?_;obtain⟨K,I,E,k2,C⟩:=Y;have A:=Ic E;have X:=F l.prog w mg K L.heap A U.T.g k2;obtain⟨f,fd,st,z,h2,h3,h4,h5,h6⟩:=(X.defs _ fn y).ex;rw[r]at z;cases z;refine Bf (sp:=spF l.prog w K (aW T G k (.f d.name))) (x:=x) (k:=2*k) (fd:=fd) (tl:=tl) A U.T.g U.T.b U.T.builtins U.T.nolimit Q O J (U3 B j) N (FT w K k2) (λp i=>C _ (by rw[Z];exact aar i)) (λp i=>?_) (λbase=>?_) (λs u hK=>?_) (λH tb S=>ES tb S (M ns B))
 ·cases e:K.lookup p.2.2 with
  |none=>rfl
  |some o =>
   have m:=yl e;rw[I]at m;have:=List.all_eq_true.mp c p i;rw[List.contains_iff_mem.mpr m]at this;exact aS this
 ·have:=Lp (base:=base) X k (.f d.name) fn y _ fd d.name d.name st h2 h3 h5 h6;rw[D]at this;exact this
 ·have:=h4 s [u] hK (by rw[D];rfl);rw[D]at this;exact this
end BG
end
section
namespace BL
open PySem PySem.Spec PyProof.Rows L2 BS BF BG
def ck6:CkB "is_whole" "is_whole" (top 6) BT.iZ:={}
def ck7:CkB "is_name" "is_name" (top 7) BT.jB:={}
def ck8:CkB "is_cell" "is_cell" (top 8) BT.qA:={}
def ck9:CkB "inner_sums" "inner_sums" (top 9) BT.fJ:={}
def SN:CkB "begun" "begun" (top 22) BT.mE:={}
def SO:CkB "check_thing" "check_thing" (top 23) BT.j9:={}
def SQ:CkB "worth_in" "worth_in" (top 24) BT.iX:={}
def SR:CkB "laid_out" "laid_out" (top 25) BT.iW:={}
def SS:CkB "of_two" "of_two" (top 26) BT.kM:={}
def SV:CkB "worth_of" "worth_of" (top 27) BT.fj:={}
def SW:CkB "reckoned" "reckoned" (top 28) BT.iY:={}
def SX:CkB "cell_by" "cell_by" (top 29) BT.jC:={}
def SY:CkB "is_over" "is_over" (top 30) BT.iO:={}
def SZ:CkB "place_behind" "place_behind" (top 31) BT.fO:={}
def Tc:CkB "with_worth" "with_worth" (top 32) BT.gG:={}
def Td:CkB "with_name" "with_name" (top 33) BT.iw:={}
def Te:CkB "brought" "brought" (top 34) BT.iP:={}
def Tf:CkB "stepped" "stepped" (top 35) BT.jD:={}
def Tg:CkB "written_by" "written_by" (top 37) BT.fL:={}
def Ti:CkB "read_by" "read_by" (top 38) BT.jH:={}
def Tj:CkB "read_in" "read_in" (top 39) BT.gE:={}
def Tn:CkB "written_next" "written_next" (top 40) BT.fQ:={}
def To:CkB "check_step" "check_step" (top 41) BT.gJ:={}
def Tt:CkB "thing_written" "thing_written" (top 42) BT.fq:={}
def Ms:CkB "judged" "judged" (top 43) BT.jj:={}
def Tu:CkB "reasons" "reasons" (top 44) BT.jI:={}
def Tv:CkB "needless" "needless" (top 45) BT.i8:={}
def Mt:CkB "remade" "remade" (top 46) BT.jk:={}
def Tw:CkB "sum_at" "sum_at" (top 48) BT.kP:={}
def Tz:CkB "_law_cell" "_law_cell" (top 53) BT.gU:={}
def TF:CkB "_law_drawn" "_law_drawn" (top 54) BT.iy:={}
def TH:CkB "_law_sum" "_law_sum" (top 55) BT.fU:={}
def TJ:CkB "_law_row" "_law_row" (top 56) BT.jE:={}
def TL:CkB "_law_program" "_law_program" (top 57) BT.dY:={}
def TM:CkB "_law_asked" "_law_asked" (top 58) BT.iz:={}
def TN:CkB "_law_worth" "_law_worth" (top 59) BT.fk:={}
def TQ:CkB "_law_reads" "_law_reads" (top 65) BT.gw:={}
def TR:CkB "law" "law" (top 66) BT.ko:={}
def Mu:CkB "__init__" "Tape.__init__" (jc 51 0) BT.iB:={}
def Mv:CkB "at" "Tape.at" (jc 51 1) BT.jF:={}
def Mw:CkB "end" "Tape.end" (jc 51 2) BT.i6:={}
def Ij:CkB "behind" "Tape.behind" (jc 51 10) BT.gq:={}
def Ik:CkB "is_last" "Tape.is_last" (jc 51 11) BT.eW:={}
def Il:CkB "keep" "Tape.keep" (jc 51 12) BT.gr:={}
def Im:CkB "reach" "Tape.reach" (jc 51 13) BT.gI:={}
def Io:CkB "has" "Tape.has" (jc 51 14) BT.gW:={}
def Ip:CkB "check" "Tape.check" (jc 51 15) BT.fK:={}
def Iq:CkB "steps_to" "Tape.steps_to" (jc 51 17) BT.dS:={}
def tab:List (BT.FK×bz):=[(.f "is_whole",BT.iZ),(.f "is_name",BT.jB),(.f "is_cell",BT.qA),(.f "inner_sums",BT.fJ),(.f "begun",BT.mE),(.f "check_thing",BT.j9),(.f "worth_in",BT.iX),(.f "laid_out",BT.iW),(.f "of_two",BT.kM),(.f "worth_of",BT.fj),(.f "reckoned",BT.iY),(.f "cell_by",BT.jC),(.f "is_over",BT.iO),(.f "place_behind",BT.fO),(.f "with_worth",BT.gG),(.f "with_name",BT.iw),(.f "brought",BT.iP),(.f "stepped",BT.jD),(.f "written_by",BT.fL),(.f "read_by",BT.jH),(.f "read_in",BT.gE),(.f "written_next",BT.fQ),(.f "check_step",BT.gJ),(.f "thing_written",BT.fq),(.f "judged",BT.jj),(.f "reasons",BT.jI),(.f "needless",BT.i8),(.f "remade",BT.jk),(.f "sum_at",BT.kP),(.f "_law_cell",BT.gU),(.f "_law_drawn",BT.iy),(.f "_law_sum",BT.fU),(.f "_law_row",BT.jE),(.f "_law_program",BT.dY),(.f "_law_asked",BT.iz),(.f "_law_worth",BT.fk),(.f "_law_reads",BT.gw),(.f "law",BT.ko),(.m "Tape" "__init__",BT.iB),(.m "Tape" "at",BT.jF),(.m "Tape" "end",BT.i6),(.m "Tape" "behind",BT.gq),(.m "Tape" "is_last",BT.eW),(.m "Tape" "keep",BT.gr),(.m "Tape" "reach",BT.gI),(.m "Tape" "has",BT.gW),(.m "Tape" "check",BT.fK),(.m "Tape" "steps_to",BT.dS),(.l 13,BT.yM),(.l 14,BT.yN)]
noncomputable def aE:List (ay×aM):=[("CELL_COUNT",.p (.int 4)),("WORTH_COUNT",.p (.int 10007)),("ROW",.p (.int 0)),("NAMES",.p (.int 1)),("CELLS",.p (.int 2)),("CALLS",.p (.int 3)),("ASKED",.p (.int 4)),("SAID",.p (.int 5)),("MOST_CALLS",.p (.int 6)),("MOST_MARKS",.p (.int 8)),("LETTERS",.p (.aC ((["a","b","c","d","e","f"]:List ay).map aO.str))),("INNER_COUNTS",.k (.t (([("num",0),("name",0),("cell",1),("add",2),("sub",2),("mul",2),("less",2)]:List (ay×Int)).map λq=>(q.1,aO.int q.2))))]
noncomputable abbrev T:BT.FK->Option bz:=look tab
noncomputable abbrev G:ay->Option aM:=look aE
def prg:BT.Prg T G:=⟨rfl,rfl,rfl,rfl,rfl,rfl,rfl,rfl,rfl,rfl,rfl,rfl,rfl,rfl,rfl,rfl,rfl,rfl,rfl,rfl,rfl,rfl,rfl,rfl,rfl,rfl⟩
def tpp:BT.TpP T G:=⟨prg,rfl,rfl,rfl,rfl,rfl,rfl,rfl,rfl,rfl,rfl⟩
def rsp:BT.RsP T G:=⟨tpp,⟨rfl⟩,⟨rfl,rfl,rfl,rfl⟩,⟨⟨rfl,rfl⟩,rfl,rfl,rfl⟩,⟨rfl,rfl,rfl⟩,rfl,rfl,⟨rfl⟩⟩
def run(ns:List Int)(h:ns.length<=1000):∃h',aW T G 40 "law" [.p (.aB (BT.cY ns))] []=aa (.p (.bl ah),h'):=BT.Bd rsp ⟨⟨rfl,rfl,rfl,rfl,rfl⟩,rfl,rfl,rfl,rfl⟩ ns h 26
def PL(w:U6)(K:Uv)(B:∀q∈qys,eX K q=eY w q):Ii K tl:=by
 refine⟨λz D=>?_,λp J=>?_⟩
 ·simp only[BT.gF,Xb,WE,or_false]at D;rcases D with rfl|rfl|rfl|rfl|rfl|rfl|rfl|rfl|rfl|rfl|rfl|rfl|rfl|rfl|rfl
  exact .inr (eB (w:=w) (hn B 71 rfl));exact .inr (eB (w:=w) (hn B 72 rfl));exact .inr (eB (w:=w) (hn B 73 rfl));exact .inr (eB (w:=w) (hn B 74 rfl));exact .inr (eB (w:=w) (hn B 75 rfl));exact .inr (eB (w:=w) (hn B 76 rfl));exact .inr (eB (w:=w) (hn B 77 rfl));exact .inr (eB (w:=w) (hn B 78 rfl));exact .inr (eB (w:=w) (hn B 79 rfl));exact .inr (eB (w:=w) (hn B 80 rfl));exact .inr (eB (w:=w) (hn B 81 rfl));exact .inr (eB (w:=w) (hn B 82 rfl));exact .inr (eB (w:=w) (hn B 83 rfl));exact .inl ⟨234,230,nth 0 rfl,(mS (w:=w) (hn B 84 rfl)).1⟩;exact .inl ⟨251,247,nth 1 rfl,(mS (w:=w) (hn B 85 rfl)).1⟩
 ·simp only[tl,Xb,WE,or_false]at J;rcases J with rfl|rfl
  exact(mS (w:=w) (hn B 84 rfl)).2;exact(mS (w:=w) (hn B 85 rfl)).2
def txt(P:UM)(w:U6)(mg:ay->Option aA)(K:Uv)(h:aq)(X:K.In h)(D:h.Ns UP mg)(B:∀q∈qys,eX K q=eY w q):Txt P w K mg T G:=by have J:=PL w K B;have all:∀p∈tab,sH K mg p:=c9 (dd0 X D (hn B 0 rfl) ck6) <|c9 (dd0 X D (hn B 1 rfl) ck7) <|c9 (dd0 X D (hn B 2 rfl) ck8) <|c9 (dd0 X D (hn B 3 rfl) ck9) <|c9 (dd0 X D (hn B 4 rfl) SN) <|c9 (dd0 X D (hn B 5 rfl) SO) <|c9 (dd0 X D (hn B 6 rfl) SQ) <|c9 (dd0 X D (hn B 7 rfl) SR) <|c9 (dd0 X D (hn B 8 rfl) SS) <|c9 (dd0 X D (hn B 9 rfl) SV) <|c9 (dd0 X D (hn B 10 rfl) SW) <|c9 (dd0 X D (hn B 11 rfl) SX) <|c9 (dd0 X D (hn B 12 rfl) SY) <|c9 (dd0 X D (hn B 13 rfl) SZ) <|c9 (dd0 X D (hn B 14 rfl) Tc) <|c9 (dd0 X D (hn B 15 rfl) Td) <|c9 (dd0 X D (hn B 16 rfl) Te) <|c9 (dd0 X D (hn B 17 rfl) Tf) <|c9 (dd0 X D (hn B 18 rfl) Tg) <|c9 (dd0 X D (hn B 19 rfl) Ti) <|c9 (dd0 X D (hn B 20 rfl) Tj) <|c9 (dd0 X D (hn B 21 rfl) Tn) <|c9 (dd0 X D (hn B 22 rfl) To) <|c9 (dd0 X D (hn B 23 rfl) Tt) <|c9 (dd (yj X D (hn B 24 rfl) Ms.sc Ms.bd Ms.ck (zP (f:=235) (ns:=BT.jj.ns.dropLast) dk dk dk J dk (nth 0 rfl) (hn B 84 rfl) (hn B 86 rfl)))) <|c9 (dd0 X D (hn B 25 rfl) Tu) <|c9 (dd0 X D (hn B 26 rfl) Tv) <|c9 (dd (yj X D (hn B 27 rfl) Mt.sc Mt.bd Mt.ck (zP (f:=252) (ns:=BT.jk.ns.dropLast) dk dk dk J dk (nth 1 rfl) (hn B 85 rfl) (hn B 86 rfl)))) <|c9 (dd0 X D (hn B 28 rfl) Tw) <|c9 (dd0 X D (hn B 29 rfl) Tz) <|c9 (dd0 X D (hn B 30 rfl) TF) <|c9 (dd0 X D (hn B 31 rfl) TH) <|c9 (dd0 X D (hn B 32 rfl) TJ) <|c9 (dd0 X D (hn B 33 rfl) TL) <|c9 (dd0 X D (hn B 34 rfl) TM) <|c9 (dd0 X D (hn B 35 rfl) TN) <|c9 (dd0 X D (hn B 36 rfl) TQ) <|c9 (dd0 X D (hn B 37 rfl) TR) <|c9 (dm0 X D (hn B 87 rfl) (hn B 88 rfl) (hn B 89 rfl) Mu) <|c9 (dm0 X D (hn B 87 rfl) (hn B 88 rfl) (hn B 90 rfl) Mv) <|c9 (dm0 X D (hn B 87 rfl) (hn B 88 rfl) (hn B 91 rfl) Mw) <|c9 (dm0 X D (hn B 87 rfl) (hn B 88 rfl) (hn B 92 rfl) Ij) <|c9 (dm0 X D (hn B 87 rfl) (hn B 88 rfl) (hn B 93 rfl) Ik) <|c9 (dm0 X D (hn B 87 rfl) (hn B 88 rfl) (hn B 94 rfl) Il) <|c9 (dm0 X D (hn B 87 rfl) (hn B 88 rfl) (hn B 95 rfl) Im) <|c9 (dm0 X D (hn B 87 rfl) (hn B 88 rfl) (hn B 96 rfl) Io) <|c9 (dm0 X D (hn B 87 rfl) (hn B 88 rfl) (hn B 97 rfl) Ip) <|c9 (dm0 X D (hn B 87 rfl) (hn B 88 rfl) (hn B 98 rfl) Iq) <|c9 (dl rfl (by decide +kernel)) <|c9 (dl rfl (by decide +kernel)) <|E1;refine⟨λx fn e=>?_,λc m fn e=>?_,λL fn e=>?_,λx z e=>?_,?_⟩;exact kr (Q:=λk fn=>∀x,k=.f x->Def K mg x fn) (l:=tab) (λp M=>(all p M).1) e x rfl;exact kr (Q:=λk fn=>∀c m,k=.m c m->DX K mg c m fn) (l:=tab) (λp M=>(all p M).2.1) e c m rfl;exact kr (Q:=λk fn=>∀L,k=.l L->BT.qS L=aa fn/\∃ns O,fn=⟨ns,ns,.ret O⟩/\∀y,ns.contains (bE y)=ai) (l:=tab) (λp M=>(all p M).2.2) e L rfl;exact kr (Q:=λx z=>yi P w K mg x z) (l:=aE) (c9 (fM X D (hn B 38 rfl)) <|c9 (fM X D (hn B 39 rfl)) <|c9 (fM X D (hn B 40 rfl)) <|c9 (fM X D (hn B 41 rfl)) <|c9 (fM X D (hn B 42 rfl)) <|c9 (fM X D (hn B 43 rfl)) <|c9 (fM X D (hn B 44 rfl)) <|c9 (fM X D (hn B 45 rfl)) <|c9 (fM X D (hn B 46 rfl)) <|c9 (fM X D (hn B 47 rfl)) <|c9 (EY X D (hn B 48 rfl) (by decide) (by decide +kernel)) <|c9 (EZ X D (hn B 49 rfl) (by decide) (by decide +kernel)) <|E1) e;exact c9 (none_of X D (hn B 50 rfl)) <|c9 (none_of X D (hn B 51 rfl)) <|c9 (none_of X D (hn B 52 rfl)) <|c9 (none_of X D (hn B 53 rfl)) <|c9 (none_of X D (hn B 54 rfl)) <|c9 (none_of X D (hn B 55 rfl)) <|c9 (none_of X D (hn B 56 rfl)) <|c9 (none_of X D (hn B 57 rfl)) <|c9 (none_of X D (hn B 58 rfl)) <|c9 (none_of X D (hn B 59 rfl)) <|c9 (none_of X D (hn B 60 rfl)) <|c9 (none_of X D (hn B 61 rfl)) <|c9 (none_of X D (hn B 62 rfl)) <|c9 (none_of X D (hn B 63 rfl)) <|c9 (none_of X D (hn B 64 rfl)) <|c9 (none_of X D (hn B 65 rfl)) <|c9 (none_of X D (hn B 66 rfl)) <|c9 (none_of X D (hn B 67 rfl)) <|c9 (none_of X D (hn B 68 rfl)) <|c9 (none_of X D (hn B 69 rfl)) <|c9 (none_of X D (hn B 70 rfl)) <|E1
noncomputable abbrev lw:DefRec:=⟨"law",f9 (top 66),dQ (top 66),dh (top 66),QG (top 66)⟩
def df:PySem.W.defOf qg "law"=aa (lw,[]):=by kernel_rfl
def th:pg.theDef "law"=aa (lw.params,lw.body,lw.scope):=by kernel_rfl
def walk:PySem.W.WalkO qg loo (PySem.W.XL qg []) (sees adr qys tas).says PySem.Challenge.rw_backtape_k53_whole_needless.row.toRowW lw [] (λf vs=>aaD f vs) :=
 E3 (l:=PySem.Challenge.rw_backtape_k53_whole_needless) (n:=63) (k:=40) (x:="_law_script") (d:=lw) (T:=T) (G:=G) (ts:=tas) (fn:=BT.ko) rfl (by decide) rfl ⟨rfl,by decide,by decide⟩ rfl rfl (tl:=tl) rfl (by decide +kernel) PL txt λq B=>run q (by lia)
end BL
open PySem PySem.W PyProof.Rows
set_option maxRecDepth 100000 in
set_option maxHeartbeats 0 in
theorem PySem.Challenge.cw_backtape_k53_whole_needless_holds : PySem.Challenge.rw_backtape_k53_whole_needless.Holds := by
 w_on;refine PySem.W.holds_law (by decide +kernel) λsaid=>?_
 refine PySem.W.holds_open (q:=BL.qg) (loose:=BL.loo) (XP:=XL BL.qg []) (YP:=(BG.sees BL.adr BL.qys BL.tas).says) (d:=BL.lw) (kwd:=[]) BL.left (BG.sees BL.adr BL.qys BL.tas).of (BG.sees BL.adr BL.qys BL.tas).keeps (λs e=>xl_of s (Bool.and_eq_true_iff.mp e).1) XL.keeps BL.df BL.th (by kernel_rfl) (λs e=>recFacts_of (Bool.and_eq_true_iff.mp e).2) rfl (by first|assumption|decide +kernel) (by decide +kernel) ⟨rfl,rfl,rfl,rfl,rfl,by decide +kernel⟩ ?hw BL.walk
 (case hw=>w_witness2)
#print axioms PySem.Challenge.cw_backtape_k53_whole_needless_holds
end
end

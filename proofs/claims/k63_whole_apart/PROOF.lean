import PyProof.Rows.All
import Wide.All
import OpenK.AllK
import Wide.FinOn
import PyProof.EqAt
import PyProof.EqKinds
import PyProof.TupleCall
import Open.Tree
import Wide.Once
import KE.KLam
import KE.KNestM
import KE.KIsAll
import OpenK.KMore
import KE.KSortTup
import PyProof.Rows.SetFrom
import PyProof.IsiH_list
import PyProof.Rows.Exc
import KE.KDictOf
import PySem.Syntax
import PySem.Builtin.Str.Common
import PyProof.SliceList
import PyProof.StrCalls2
import KE.KIntText
import PyProof.NeData
import PyProof.ExcAttrAll.ValueError
import PyProof.ZipIter
import KE.KRevIter
import KE.KItemsList
import KE.KDictSum
import PyProof.DictWalks
import KE.KPairComp
import KE.KEqDict
import PyProof.StrBlock2
import PyProof.StrBlockL
import PyProof.ConsumeWalk
import PyProof.ListRange
import PyProof.EnumFor
import PyProof.EnumMake
import PyProof.EnumStmt
import PyProof.CompFree
import PyProof.PlainList
import PyProof.Draws
import PyProof.StrWalks
import PyProof.StrLawsTight
import KE.KTryDeep
import PyProof.FString
import PyProof.FitsInt
import PyProof.RulesAs
import PyProof.ExcBaseAll.ValueError
import Lean
import PySem.Challenge.RW_backtape_k63_whole_apart
set_option autoImplicit true
set_option Elab.async false
set_option linter.all false
set_option maxRecDepth 100000
set_option maxHeartbeats 8000000
set_option genSizeOf false
set_option compiler.extract_closed false
set_option bootstrap.genMatcherCode false
noncomputable section
def bM:=@if_pos
def bN:=@if_neg
def bO:=@absurd
def bP:=@decide_eq_true_eq
def bQ:=@decide_eq_false
def bR:=@decide_eq_true
def bS:=@of_decide_eq_true
def bT:=@eq_of_beq
def bU:=@congrArg
def bV:=@beq_eq_false_iff_ne
def bW:=@beq_iff_eq
open PySem renaming Value->aC,Addr->aB,Str->aA,wpAny->az,wpAny_pure->ay,Heap->av,Obj->au,codeAny->aq,sizeLine->ao
open Option renaming some->aa,none->af
open Bool renaming true->ah,false->ak
open PySem.W renaming Frag->Ve,findIn->VO,nsIn->V4,keepIn->We,emptyDict->Wo,hideAll->Ws,mg_of->Ww,fnOf->Wz,tabIn->WG,kitOne->WJ,instObj->WQ,specialIn->W3,hasDictIn->W4,hideAll_get->Xj,kia_one->Xw,callWith_K->Xx,plainGet->XN,codeHd_of_K->X5,of_hideAll->Ye,takesIn->YI,methodCall_KW->YJ,isFn->YK,envX->YL,tabObj->YW,lookIn->YX,codeIn->YY,plainGet_of->Y9,callWith_K0->Za,mroIn->Zd,plainOver->Zq,methodObj->Zr,codeHdIn->Zv,takerIn->ZM,readsIn->ZN,makesIn->ZO,byRow2->Z8,absHeap->aat,SharedT->aau,recOk->aav,excIn->aaw,cellsFrom_some->aaC,xlAt->aaG,hideAll_none->aaN,wideGood->abm,ksm_same->abn,handedIn->abo,clsGoodW->abp,openSeen->abA,findCls->abJ
open PySem renaming wpAny_bind->Vf,Shared->Vh,Expr->Vj,Program->Vy,mainGlobals->VB,model->VC,Stmt->VE,World->VQ,starEach->VR,sliceBounds->VU,wpAny_newObj_type->V1,wpAny_holding->V3,Scope->V8,Around->V9,compareOp->Wj,wpAny_mono->Wk,FuncData->Wp,wpAny_Call_Name_kw->WA,wpAny_truthy_bool->WE,binaryOp->WT,wpAny_setState_of->WW,wpAny_callSpecial?_slot->WZ,wpAny_setField->W5,wpAny_passesOwn->Xg,backTo->Xh,assignEach->Xm,mem_of_lookup->Xo,wpAny_execs_cons->XA,wpAny_call_entry->XC,call_meets->XH,builtinsNs->XI,wpAny_loadPart'->XM,NameKind->XR,sysModules->X3,fits_of_scanBound->X4,wpAny_typeOf->X8,scanBound->X9,bootBuiltins->Yb,wpAny_isInstance->Yi,wpAny_standAt->Yn,strLen_append->Yo,swapsWith->Yt,pickOrder->Yu,letOwnedTupleGo->Yv,Keyword->YO,sliceRange->YV,keywordEach->Y5,holding->Y6,excClassObj->Y7,attributeBase->Y8,wpAny_updateSeq->Zj,wpAny_pyReprObj_gives->Zk,wpAny_ite_split->Zl,wpAny_execs_nil->Zm,rawInt->Zn,importedModules->Zo,Operator->Zs,pyNext->Zz,Stmt->ZA,Expr->ZH,wpAny_setEntries_of->ZJ,wpAny_field->ZL,Builtin->ZR,storeSet->Z2,noteFrame->Z3,comprehension->Z4,assign->Z5,Result->Z7,PassesOwn->aab,ExceptHandler->aaf,DictEntry->aag,Comprehension->aah,wpAny_rule->aam,wpAny_call->aan,wpAny_Return_some->aao,wpAny_Assign_Name->aap,spliced->aaq,getItem->aar,foldedSetIterable->aas,IsPart->aaE,noFill_tuple_add->aaF,compEnvC->aaL,backToKw->aaM,wpAny_in_of->aaU,standAt->aaV,sizeLine_eq->aaW,getMethod->aaX,ofString_length->aaY,Within->aaZ,Arguments->aa4,wpAny_binaryOp_repeat_ref->aba,wpAny_FormattedValue_repr->abb,setAddHashedIn->abc,bltViewBooted->abd,wpAny_getItem_list_slice->abk,wpAny_list_append_plain->abv,wpAny_attempt->abw,seq_tuple_add->abz,leaving->abB,evalPart_none->abC,callerA->abD,bindArgs->abE,behindInMarks->abF,call->abI
open Bool renaming and_eq_true->Vg,false_ne_true->V0,or_eq_true->W9,not_eq_true'->YD,or_false->YH,or_eq_false_iff->abh,false_eq_true->abO
open List renaming getElem?_append_left->Vi,size_toArray->Vl,getElem?_eq_getElem->Vm,mem_cons_of_mem->Vn,getElem?_set_ne->Vr,getElem?_eq_none->Vs,mem_cons_self->Vt,length_cons->Vv,length_map->Vx,mem_of_getElem?->Vz,map_cons->VA,getElem?_map->VF,replicate->VG,getElem?_set_self->VH,range->VM,length_append->VN,mem_append_right->VP,filterMap_cons->VT,getElem?_append_right->VW,length_set->VX,length_nil->VY,map_nil->Wb,append_nil->Wc,append_assoc->Wd,getElem?_take_of_lt->Wu,replicate_succ->WC,singleton_append->WM,count_reverse->WN,foldl_cons->WU,all_eq_true->WY,map_map->W6,find?_cons->W7,flatten_cons->Xb,getD_eq_getElem?_getD->Xd,mem_append_left->Xe,getElem?_of_mem->Xf,mem_or_eq_of_mem_set->Xk,drop_eq_getElem_cons->Xl,lookup_cons->Xp,length_take->Xq,map_congr_left->Xs,lookup->Xu,nil_append->XD,getElem?_replicate->XG,length_replicate->XU,drop_length->XZ,map_append->Yg,getElem?_range->Yh,drop_zero->Ys,length_range->YA,ext_getElem?->YB,count_append->YC,length->YG,not_mem_nil->YM,getElem_mem->YN,reverse_singleton->YR,range_succ_eq_map->YS,find?_cons_of_neg->YU,map_set->YZ,length_singleton->Y0,length_filter_le->Y3,nodup_nil->Ze,mem_singleton->Zt,contains_cons->Zu,reverse_cons->ZF,foldl->ZG,length_drop->ZV,isEmpty_nil->ZW,getElem_map->ZX,getElem_inj->ZY,filter_cons->ZZ,eq_nil_of_length_eq_zero->Z0,cons_append->Z1,of_mem_zip->aaj,mem_append->aak,length_eraseIdx_of_lt->aaB,getElem?_eq_none_iff->aaD,sum_cons->aaO,mem_cons->aaP,head_eq_of_cons_eq->aaQ,getElem?_cons_succ->aaR,take_of_length_le->aa1,filterMap_eq_map'->aa2,take_append_drop->aa6,set_set->aa7,getElem?_toArray->aa8,range'->abt,getElem?_drop->abM,filter_append->abN
open PySem.Heap renaming get?_push_of_some->Vk,lt_size->Vq,get?_push_size->Vw,get?_update_self->VZ,SameBut->V6,size_push->WB,get?_update_other->WD,MadeExcOf->XS,HeldW->aaI,ExtBut->abu
open Nat renaming le_refl->Vo,lt_or_ge->VD,ne_of_lt->VI,le_trans->VJ,lt_of_lt_of_le->VL,lt_irrefl->V5,zero_le->Wg,le_succ->Wh,lt_succ_self->Wy,eq_zero_or_pos->WO,le_of_lt->Xa,ne_of_gt->Xy,mul_comm->Xz,lt_succ_of_lt->XQ,mul_div_cancel->Zx,mod_lt->ZP,lt_trichotomy->ZQ,succ_pos->ZU,succ_le_succ->aac,not_lt_zero->aaz,div_add_mod->aaA,zero_add->abe,lt_trans->abf,le_of_ble_eq_true->abg,div_le_div_right->abr
open Option.some renaming inj->Vp,injEq->Yd
open PySem.Str renaming ofString->Vu,empty->Xn,ofString_eq_toList->aa5
open Array renaming length_toList->VS,getElem?_eq_getElem->V2,getElem?_eq_none->Wq,eq_empty_of_size_eq_zero->ZI,getElem?_append_left->aal,getElem?_extract->aaS,getElem?_toList->aa3,getElem?_push->abj
open Option renaming bind_some->VV,map_some->X7,getD_some->abK,getD_none->abL
open PySem.Heap.SameBut renaming update->V7,refl->Y4
open Ne renaming symm->Wa
open PyProof.Rows renaming callWith_type1->Wi,slot_tuple_getitem->WH,firstMet->WS,envOfC->Xr,IntsAre->Yy,callWith_builtin1->Zb,plainGoodE->ZC,plainGoodD->ZD,expectedOf->ZE,AllBare->ZS,drecsOf->aaa,Subscript_->abl,tail_any->abx,subscriptTail->aby
open PySem.Obj renaming mapFields->Wl,mapSeq->Xc
open PySem.Value renaming ref->Wm,none->WX,str->Xi,int->Yc,type->Yw,isStrOf->Zp,isInt->Z6,isInt_shape->abG,bool->abH
open PySem.Builtin.List renaming listTooLong->Wr,listExtendWith->XJ,listLengthHint->Zi,listSameRef->Zy
open PySem.NameKind renaming free->Wv,cell->Zc
open PySem.F renaming plainAttrs_list->Wx,plain_extend_loop->WK,type_list_append->Yp,slot_list_append->Yq,args_tuple_add_2->Yr,entry_tuple_add->Yx,slot_tuple_add->YE,excBase_ValueError->ZT,entry_extend_loop->Z9,plain_list_iadd->aax,slot_set_iter->aaH
open False renaming elim->WI
open PySem.Calls renaming spliced_cons->WL,evalArgs_plain->X0,Name_function_global->Yk,Constant_str->Ym,spliced_nil->Yz,callWith_builtin->YQ,loadGlobal_global->aaK
open PySem.Around renaming under_plainId->WR,under->aaT
open Int renaming toNat_natCast->WV
open PySem.Builtin.Slice renaming slicePlaces->W0,sliceAdjust->XY,sliceApplied->Zh
open PySem.Builtin.Tuple renaming tupleExact->W8,tupleTooMany->Zf,tupleItemsOf->Zg
open True renaming intro->Xv
open List.cons renaming injEq->XX,inj->aad
open PySem.pickOrder renaming go->X6
open PySem.PassesOwn renaming looking->Yj,never->Zw,leaving->aa0
open PySem.Builtin.Str renaming occurrences->Yl
open ForInStep renaming yield->YF
open PySem.Heap.IsSliceOf renaming new->aae
open Classical renaming axiomOfChoice->aai
open Prod.mk renaming injEq->aay
open Char renaming toNat->aaJ
open PySem.Code renaming isFrame->aa9
open PySem.AutoSeq1 renaming idx_int->abi
open PyProof.Rows.IntsAre renaming length->abq
section
namespace L2
open PySem PySem.Spec PyProof.Rows
def f7(s:ZA):aa4:=match s with
 |.FunctionDef _ a _ _ _ _ _ _ _ _=>a|_=>{posonlyargs:=[],args:=[],vararg:=af,kwonlyargs:=[],kw_defaults:=[],kwarg:=af,defaults:=[]}
def dF(s:ZA):List ZA:=match s with
 |.FunctionDef _ _ b _ _ _ _ _ _ _=>b|_=>[]
def c5(s:ZA):V8:=match s with
 |.FunctionDef _ _ _ _ _ _ J _ _ _=>J|_=>{kind:=.function,names:=[],isGenerator:=ak,isCoroutine:=ak}
end L2
end
section
namespace BR
open PySem PySem.W PyProof.Rows
noncomputable def uX:List au->BT->Nat->Option (BT×Nat)
 |[],T,n=>aa (T,n)
 |o::r,T,n=>match ((T.ins n o).get n).isSome with
  |true=>uX r (T.ins n o) (n+1)|false=>af
theorem rR(J:Life):∀{l:List au}{T O:BT}{n L:Nat},uX l T n=aa (O,L)->(aat O L J).objs.toList=(aat T n J).objs.toList++l
 |[],T,O,n,L,h=>by cases h;simp
 |o::r,T,O,n,L,h=>by
  unfold uX at h;cases g:((T.ins n o).get n).isSome with
  |false=>rw[g]at h;cases h
  |true =>
   rw[g]at h;rw[rR J h,absHeap_ins g];show((aat T n J).objs.push o).toList++r=_;simp
def toT(s:Vh):Option aau:=match uX s.heap.objs.toList .nil 0 with
 |some (T,n)=>aa ⟨T,n,s.heap.life,s.gens,s.drawn,s.toks,s.os⟩|none=>af
def FZ(h:toT s=aa t):t.abs=s:=by
 unfold toT at h;cases e:uX s.heap.objs.toList .nil 0 with
 |none=>rw[e]at h;cases h
 |some r =>
  obtain⟨T,n⟩:=r;rw[e]at h;cases h;have:=rR s.heap.life e;obtain⟨⟨objs,life⟩,g,d,k,o⟩:=s;show Shared.mk (aat T n life) g d k o=Shared.mk ⟨objs,life⟩ g d k o;have e2:(aat T n life).objs.toList=objs.toList:=by rw[this];simp[aat,BT.list]
  have L:(aat T n life).objs=objs:=Array.toList_inj.mp e2;have J:aat T n life=⟨objs,life⟩:=by show Heap.mk _ _=Heap.mk _ _;exact bU (Heap.mk · life) L
  rw[J]
noncomputable def oX(tb:String->Option ZR)(p:Vy)(w:VQ)(n₀:Nat)(ann:Option aC):Nat->aau->Thread->Option aau
 |0,_,_=>af
 |n+1,s,t=>match through t with
  |true=>aa s
  |false=>match stepOk n₀ ann t with
   |false=>af
   |true=>match stepT (denote tb) p w s t with
    |some (s',t')=>oX tb p w n₀ ann n s' t'|none=>af
section
variable{tb:String->Option ZR}{p:Vy}{w:VQ}{n₀:Nat}{ann:Option aC}
theorem rS:∀{n:Nat}{s s':aau}{t:Thread},oX tb p w n₀ ann n s t=aa s'->topRun tb p w n₀ ann n s.abs t=aa s'.abs
 |0,_,_,_,h=>by cases h
 |n+1,s,s',t,h=>by
  unfold oX at h;unfold topRun;cases V:through t with
  |true=>rw[V]at h;cases h;rfl
  |false =>
   rw[V]at h;cases U:stepOk n₀ ann t with
   |false=>rw[U]at h;cases h
   |true =>
    rw[U]at h;cases J:stepT (denote tb) p w s t with
    |none=>rw[J]at h;cases h|some r=>obtain⟨O,L⟩:=r;rw[J]at h;dsimp only;rw[stepT_spec J];exact rS h
end
def pK(tb:String->Option ZR)(p:Vy)(w:VQ)(N:Nat)(s₀:Vh):Option aau :=
 match s₀.heap.isNs VB&&s₀.gens.size==0 with
 |true=>(toT s₀).bind λL=>(oX tb p w s₀.heap.objs.size (s₀.heap.nsMap VB "__annotations__") N L (topStub p)).bind λJ =>
  match staticsOk (Zo p.main.body) s₀.heap J.abs.heap&&namesBound p J.abs.heap&&gensDone J.abs&&laidKept s₀.heap J.abs.heap with
   |true=>aa J|false=>af
 |false=>af
def w9(h:pK tb p w N s₀=aa t):topFrom tb p w N s₀=aa t.abs:=by
 unfold pK at h;unfold topFrom;cases e:(s₀.heap.isNs VB&&s₀.gens.size==0)with
 |false=>rw[e]at h;cases h
 |true =>
  rw[e]at h;obtain⟨L,V,h⟩:=Option.bind_eq_some_iff.mp h;obtain⟨J,U,h⟩:=Option.bind_eq_some_iff.mp h;have O:=rS U;rw[FZ V]at O;dsimp only;rw[O];show(match _ with|true=>aa J.abs|false=>af)=_;cases e2:(staticsOk (Zo p.main.body) s₀.heap J.abs.heap&&namesBound p J.abs.heap&&gensDone J.abs&&laidKept s₀.heap J.abs.heap)with
  |false=>rw[e2]at h;cases h|true=>rw[e2]at h;cases h;rfl
def k9(tb:String->Option ZR)(p:Vy)(w:VQ)(N:Nat):Option aau:=(fencedOpening tb p w N).bind (pK tb p w N)
def F0{tb:String->Option ZR}{p:Vy}{w:VQ}{N:Nat}{L:Type}{f:Vh->L}{x:L}(h:(k9 tb p w N).map (λt=>f t.abs)=aa x):(openEnds tb p w N).map f=aa x:=by obtain⟨t,O,e⟩:=Option.map_eq_some_iff.mp h;obtain⟨J,V,U⟩:=Option.bind_eq_some_iff.mp O;unfold openEnds;rw[V];show(topFrom tb p w N J).map f=aa x;rw[w9 U];exact bU aa e
def B9{J U O L:Type}{o:Option J}{f:J->U×O}{g:J->L}{x:U}{y:O}{z:L}(h1:o.map (λt=>(f t).1)=aa x)(h2:o.map (λt=>(f t).2)=aa y)(V:o.map g=aa z):o.map (λt=>(f t,g t))=aa ((x,y),z):=by
 cases o with
 |none=>cases h2
 |some t =>
  have e1:(f t).1=x:=Vp h1;have e2:(f t).2=y:=Vp h2;have W:g t=z:=Vp V;show aa (f t,g t)=_;rw[←e1,←e2,←W]
theorem good(q:Vy)(loose:List aA):openGood q loose=(ZE q,abd,ah,ah,PySem.pinGoodD (aaa q),ZC q (PySem.W.looseW q loose),ZD q loose,abm q,abp q loose):=rfl
def LA(tb:String->Option ZR)(p q:Vy)(loose J:List aA)(O:Vh->Bool)(L:Bool)(N:Nat)(w:VQ):Prop :=
 (k9 tb p w N).map (λt=>(abA q loose J O L t.abs).1)=aa (ZE q)
def LB(tb:String->Option ZR)(p q:Vy)(loose J:List aA)(O:Vh->Bool)(L:Bool)(N:Nat)(w:VQ):Prop :=
 (k9 tb p w N).map (λt=>(abA q loose J O L t.abs).2)=aa (abd,ah,ah,PySem.pinGoodD (aaa q),ZC q (PySem.W.looseW q loose),ZD q loose,abm q,abp q loose)
def LO(tb:String->Option ZR)(p:Vy)(N:Nat){J:Type}(L:Vh->J)(O:VQ->J)(w:VQ):Prop:=(k9 tb p w N).map (λt=>L t.abs)=aa (O w)
def F2{tb:String->Option ZR}{p q:Vy}{loose J:List aA}{O:Vh->Bool}{L:Bool}{N:Nat}{V:Type}{U:Vh->V}{W:VQ->V}{w:VQ}(h1:LA tb p q loose J O L N w)(h2:LB tb p q loose J O L N w)(Y:LO tb p N U W w):
 (openEnds tb p w N).map (λs=>(abA q loose J O L s,U s))=aa (openGood q loose,W w):=by
 rw[good];have h:=B9 (f:=λt:aau=>abA q loose J O L t.abs) (g:=λt:aau=>U t.abs) h1 h2 Y;exact F0 (f:=λs=>(abA q loose J O L s,U s)) h
end BR
end
section
namespace BG
open PySem PySem.Spec PySem.Calls PyProof.Rows L2
structure FS where
 name:aA
 qual:aA
 params:aa4
 body:FuncBody
 scope:V8
 globals:aB
 closure:List (aA×aB)
 defaults:aC
 builtins:aB
 code:Bool
noncomputable def F3(K:Ve)(f:aB):Option FS:=match K.lookup f with
 |some ⟨_,_,.func fd,_⟩=>aa ⟨fd.name,fd.qualname,fd.params,fd.body,fd.scope,fd.globals,fd.closure,fd.defaults,fd.builtins,YY K fd.code fd.qualname⟩|_=>af
noncomputable def yC(x qual:aA)(st:ZA):FS:=⟨x,qual,f7 st,.stmts (dF st),c5 st,VB,[],.none,XI,ah⟩
noncomputable def strOf:aC->Option aA
 |.str x _=>aa x|_=>af
noncomputable def intOf:aC->Option Int
 |.int i _=>aa i|_=>af
noncomputable def refOf:Option (Option aC)->Option aB
 |some (aa (.ref a))=>aa a|_=>af
inductive Qy
 |fn(x:aA)(f:aB)(st:ZA)|int(x:aA)(n:Int)|aE(x:aA)(f:aB)(xs:List aA)|dct(x:aA)(f:aB)(kvs:List (aA×Int))|no(x:aA)|cls(c:aA)(C:aB)|me(C:aB)(m x qual:aA)(f:aB)(st:ZA)|mk(C:aB)
 |tab(x:aA)(c P:aB)|bm(b:aB)|fv(x:aA)(f:aB)|exc(D:aB)(xs:List (aA×aB))
 |str(x s:aA)|stp(f:aB)(xs:List aA)|dtp(x:aA)(f:aB)(kvs:List (aA×aB))
inductive Ov
 |fn(a:Option aB)(o:Option FS)|int(n:Option Int)|seq(a:Option aB)(c:Option (aC×Option aB×Nat))(xs:Option (List (Option aA)))|dct(a:Option aB)(c:Option (aC×Option aB×Nat))(xs:Option (List (Int×Option aA×Option Int)))|b(x:Bool)
noncomputable def shp(o:au):aC×Option aB×Nat:=(o.cls,o.dict,o.slots.size)
def Ca(o:au):Option (List (Option aA)):=match o.data with
 |.seq J _=>aa (J.toList.map strOf)|_=>af
def Jm(o:au):Option (List (Int×Option aA×Option Int)):=match o.data with
 |.dict J _=>aa (J.toList.map λe=>(e.hash,strOf e.key,intOf e.val))|_=>af
noncomputable def NL:aC->Option Int
 |.ref a=>aa (a:Int)|_=>af
def NN(o:au):Option (List (Int×Option aA×Option Int)):=match o.data with
 |.dict J _=>aa (J.toList.map λe=>(e.hash,strOf e.key,NL e.val))|_=>af
noncomputable def attrs:List aA:=["program","asked","gap","most","kept","farthest","front","now","origins","branches","tape","named"]
def NO(K:Ve)(c:aA)(C:aB):Bool:=decide (V4 K VB c=aa (aa (.ref C)))&&XN K C Xn&&W4 K C&&Zq K C&&decide (VO K (.ref C) "__setattr__"=aa (aa (.builtin "object.__setattr__"))) &&
 (attrs.all λf=>decide (VO K (.ref C) f=aa af))&&ZN K C (.type "type")
noncomputable def meB(K:Ve)(C:aB)(m:aA)(f:aB):Bool:=decide (VO K (.ref C) m=aa (aa (.ref f)))&&YK K (.ref f)
noncomputable def mkB(K:Ve)(C:aB):Bool:=ZO K C&&We K (.ref C)
noncomputable def bmB(K:Ve)(b:aB):Bool:=decide (V4 K VB "__builtins__"=aa (aa (.ref b)))&&decide (b≠XI)&&(match K.lookup b with
 |some ⟨.type "module",aa d,.plain,_⟩=>d==XI
 | _=>ak)
noncomputable def RN(K:Ve)(C D:aB):Bool:=match K.lookup C with
 |some ⟨_,_,.cls cd,_⟩=>cd.mro.contains (.ref D)|_=>ak
noncomputable def F4(K:Ve)(c:aA)(C:aB):Bool:=decide (V4 K VB c=aa (aa (.ref C)))&&aaw K C [.type "ValueError",.type "Exception",.type "BaseException",.type "object"] "ValueError.__new__"
def NP(K:Ve)(D:aB)(xs:List (aA×aB))(c:aA)(C:aB):Bool:=F4 K c C&&RN K C D&&decide (VO K (.ref C) "__getattribute__"=aa (aa (.builtin "BaseException.__getattribute__")))&&decide (VO K (.ref C) "__getattr__"=aa af) &&
 decide (Zd K C (.type "BaseException")=aa ah)&&W4 K C&&decide (VO K (.ref C) "__class__"=aa (aa (.builtin "object.__class__")))&&decide (W3 K (.builtin "object.__class__") "__get__"=aa (aa (.builtin "getset_descriptor.__get__"))) &&
 decide (YI K (.builtin "object.__class__")=aa ah)&&decide (Zd K C (.type "object")=aa ah)&&decide (WJ K (.ref C) (.type "ValueError")=aa ah)&&xs.all λq=>decide (WJ K (.ref C) (.ref q.2)=aa (q.1==c))
def NQ(K:Ve)(D:aB)(xs:List (aA×aB)):Bool:=F4 K "TapeError" D&&xs.all λq=>NP K D xs q.1 q.2
def eX(K:Ve):Qy->Ov
 |.fn x f _=>.fn (refOf (V4 K VB x)) (F3 K f)|.int x _=>.int (match V4 K VB x with|some (aa v)=>intOf v|_=>af)|.aE x f _=>.seq (refOf (V4 K VB x)) ((K.lookup f).map shp) ((K.lookup f).bind Ca)|.dct x f _=>.dct (refOf (V4 K VB x)) ((K.lookup f).map shp) ((K.lookup f).bind Jm)|.no x=>.b (decide (V4 K VB x=aa af))|.cls c C=>.b (NO K c C)|.me C m _ _ f _=>.fn (if meB K C m f then aa f else af) (F3 K f)|.mk C=>.b (mkB K C)|.tab x c P=>.b (decide (WG K x=aa (c,P))&&Zv K c P)|.bm b=>.b (bmB K b)|.fv x f=>.b (decide (V4 K VB x=aa (aa (.ref f)))&&We K (.ref f))|.exc D J=>.b (NQ K D J)|.str x _=>.seq af af (match V4 K VB x with|some (aa v)=>aa [strOf v]|_=>af)|.stp f _=>.seq af ((K.lookup f).map shp) ((K.lookup f).bind Ca)|.dtp x f _=>.dct (refOf (V4 K VB x)) ((K.lookup f).map shp) ((K.lookup f).bind NN)
def eY(w:VQ):Qy->Ov
 |.fn x f st=>.fn (aa f) (aa (yC x x st))|.int _ n=>.int (aa n)|.aE _ f O=>.seq (aa f) (aa (.type "tuple",af,0)) (aa (O.map aa))|.dct _ f J=>.dct (aa f) (aa (.type "dict",af,0)) (aa (J.map λq=>(PyData.keyHash w.params q.1,aa q.1,aa q.2)))|.no _=>.b ah|.cls _ _=>.b ah|.me _ _ x L f st=>.fn (aa f) (aa (yC x L st))|.mk _=>.b ah|.tab _ _ _=>.b ah|.bm _=>.b ah|.fv _ _=>.b ah|.exc _ _=>.b ah|.str _ s=>.seq af af (aa [aa s])|.stp f O=>.seq af (aa (.type "tuple",af,0)) (aa (O.map aa))|.dtp _ f J=>.dct (aa f) (aa (.type "dict",af,0)) (aa (J.map λq=>(PyData.keyHash w.params q.1,aa q.1,aa (q.2:Int))))
noncomputable def KOf(as:List aB)(h:av):Ve:=as.map λa=>(a,(h.get? a).getD default)
def sees(as:List aB)(J:List Qy)(ts:List aB):PySem.W.Hook where
 α:=Bool×List Ov×List (Option au)
 obs:=λs=>(as.all λa=>(s.heap.get? a).isSome,J.map (eX (KOf as s.heap)),ts.map s.heap.get?)
 val:=λw=>(ah,J.map (eY w),ts.map λ_=>aa (YW #[]))
 says:=λw h=>∃K:Ve,K.map (·.1)=as/\(∀p∈K,h.get? p.1=aa p.2)/\(∀q∈J,eX K q=eY w q)/\∀P∈ts,h.get? P=aa (YW #[])
 of:=λw s e=>by have e1:=bU Prod.fst e;have e2:=bU (λp=>p.2.1) e;have b:=bU (λp=>p.2.2) e;refine⟨KOf as s.heap,by simp[KOf,Function.comp_def],λp L=>?_,λq U=>List.map_inj_left.mp e2 q U,λP O=>List.map_inj_left.mp b P O⟩;obtain⟨a,Y,rfl⟩:=List.mem_map.mp L;have Z:=List.all_eq_true.mp e1 a Y;obtain⟨o,V⟩:=Option.isSome_iff_exists.mp Z;show s.heap.get? a=aa ((s.heap.get? a).getD default);rw[V];rfl
 keeps:=λw h h' ⟨K,m,n,k,t⟩ hk=>⟨K,m,λp L=>hk _ _ (n p L),k,λP O=>hk _ _ (t P O)⟩
end BG
end
section
namespace BL
open PySem PySem.Spec PyProof.Rows L2 BG
noncomputable abbrev pg:Vy:=PySem.Challenge.pw_backtape_k63_whole_apart
def qg:Vy:=PySem.W.view pg [0,2,3,4,5,7,8,9,10,11,12,13,14,16,17,18,19,20,21,22,23,24,25,26,27,28,29,30,31,32,33,34,35,36,37,39,40,42,43,45,46,47,48,49,50,51,52,53,54,55]
noncomputable abbrev loo:List aA:=["INNER_COUNTS"]
def top(i:Nat):ZA:=pg.main.body.getD i (.Pass ⟨0,0,0,0⟩)
noncomputable def NR:ZA->List ZA
 |.ClassDef _ _ _ b _ _ _ _ _ _ _=>b|_=>[]
def eU(i j:Nat):ZA:=(NR (top i)).getD j (.Pass ⟨0,0,0,0⟩)
noncomputable def RO:ZA->Pos
 |.FunctionDef _ _ _ _ _ _ _ _ _ p=>p|_=>⟨0,0,0,0⟩
noncomputable abbrev adr:List aB:=[2,3,30,31,43,44,55,56,67,68,71,72,78,79,85,86,92,93,99,100,106,107,113,114,120,121,127,128,134,135,141,142,148,149,155,156,162,163,169,170,176,177,183,184,190,191,197,198,204,205,218,219,225,226,232,233,286,287,293,294,300,301,307,308,314,315,321,322,359,360,377,378,380,381,396,397,403,404,410,411,417,418,424,425,431,432,436,437,441,442,446,447,460,461,467,468,474,475,481,482,484,485,495,496,502,503,509,510,516,517,521,522,526,527,533,534,540,541,547,548,552,553,557,558]
def qys:List Qy:=[.fn "is_whole" 79 (top 11),
 .fn "is_name" 86 (top 12),
 .fn "is_cell" 93 (top 13),
 .fn "inner_sums" 100 (top 14),
 .fn "begun" 107 (top 23),
 .fn "check_thing" 114 (top 24),
 .fn "worth_in" 121 (top 25),
 .fn "laid_out" 128 (top 26),
 .fn "of_two" 135 (top 27),
 .fn "worth_of" 142 (top 28),
 .fn "reckoned" 149 (top 29),
 .fn "cell_by" 156 (top 30),
 .fn "is_over" 163 (top 31),
 .fn "place_behind" 170 (top 32),
 .fn "with_worth" 177 (top 33),
 .fn "with_name" 184 (top 34),
 .fn "with_thing" 191 (top 35),
 .fn "brought" 198 (top 36),
 .fn "stepped" 205 (top 37),
 .fn "_law_cell" 496 (top 45),
 .fn "_law_drawn" 503 (top 46),
 .fn "_law_sum" 510 (top 47),
 .fn "_law_row" 517 (top 48),
 .fn "_law_program" 522 (top 49),
 .fn "_law_asked" 527 (top 50),
 .fn "_law_thing" 534 (top 51),
 .fn "_law_of" 541 (top 52),
 .fn "_law_tree" 548 (top 53),
 .fn "_law_all" 553 (top 54),
 .fn "law" 558 (top 55),
 .int "CELL_COUNT" 4,
 .int "WORTH_COUNT" 10007,
 .int "ROW" 0,
 .int "NAMES" 1,
 .int "CELLS" 2,
 .int "CALLS" 3,
 .int "ASKED" 4,
 .int "SAID" 5,
 .int "MOST_CALLS" 6,
 .int "MOST_MARKS" 8,
 .aE "LETTERS" 71 ["a","b","c","d","e","f"],
 .dct "INNER_COUNTS" 72 [("num",0),("name",0),("cell",1),("add",2),("sub",2),("mul",2),("less",2)],
 .no "len",
 .no "abs",
 .no "int",
 .no "list",
 .no "tuple",
 .no "isinstance",
 .no "str",
 .no "bool",
 .no "range",
 .no "reversed",
 .no "enumerate",
 .no "zip",
 .no "min",
 .no "max",
 .no "sorted",
 .no "sum",
 .no "all",
 .no "any",
 .no "set",
 .no "ValueError",
 .no "dict",
 .no "worths_of",
 .no "last_change",
 .no "next_change",
 .no "moments_so",
 .no "last_so",
 .no "next_so",
 .no "visits",
 .no "last_visit",
 .no "when_said",
 .no "next_within",
 .no "last_within",
 .no "first_other",
 .no "writer_of",
 .no "judged",
 .no "remade",
 .cls "Tape" 360,
 .mk 360,
 .cls "Branch" 381,
 .mk 381,
 .cls "Tree" 485,
 .mk 485,
 .me 360 "__init__" "__init__" "Tape.__init__" 219 (eU 40 0),
 .me 381 "at" "at" "Tape.at" 226 (eU 40 1),
 .me 381 "end" "end" "Tape.end" 233 (eU 40 2),
 .me 381 "behind" "behind" "Tape.behind" 287 (eU 40 10),
 .me 381 "is_last" "is_last" "Tape.is_last" 294 (eU 40 11),
 .me 381 "keep" "keep" "Tape.keep" 301 (eU 40 12),
 .me 381 "reach" "reach" "Tape.reach" 308 (eU 40 13),
 .me 381 "has" "has" "Tape.has" 315 (eU 40 14),
 .me 381 "check" "check" "Tape.check" 322 (eU 40 15),
 .me 381 "__init__" "__init__" "Branch.__init__" 378 (eU 42 0),
 .me 485 "__init__" "__init__" "Tree.__init__" 397 (eU 43 0),
 .me 485 "part" "part" "Tree.part" 404 (eU 43 1),
 .me 485 "at" "at" "Tree.at" 411 (eU 43 2),
 .me 485 "end" "end" "Tree.end" 418 (eU 43 3),
 .me 485 "parent" "parent" "Tree.parent" 425 (eU 43 4),
 .me 485 "path" "path" "Tree.path" 432 (eU 43 5),
 .me 485 "children" "children" "Tree.children" 437 (eU 43 6),
 .me 485 "shared" "shared" "Tree.shared" 442 (eU 43 7),
 .me 485 "check_run" "check_run" "Tree.check_run" 461 (eU 43 10),
 .me 485 "first" "first" "Tree.first" 468 (eU 43 11),
 .me 485 "holder" "holder" "Tree.holder" 475 (eU 43 12),
 .exc 31 [("NoMoment",44),("NoRun",56),("NoThing",68)],
 .me 485 "found" "found" "Tree.found" 482 (eU 43 13),
 .me 485 "apart" "apart" "Tree.apart" 447 (eU 43 8)]
noncomputable abbrev tl:List (aA×aB×aB):=[]
noncomputable abbrev tas:List aB:=[]
abbrev LA:VQ->Prop:=BR.LA treeTable pg qg loo (Zo pg.main.body) (λs=>aaG qg [] s&&aav [] s) ah 7742
def la0(w:VQ):LA (w.withFollow "special-get-raises" ak):=by unfold LA BR.LA;kernel_rfl
def la1(w:VQ):LA (w.withFollow "special-get-raises" ah):=by unfold LA BR.LA;kernel_rfl
abbrev LB:VQ->Prop:=BR.LB treeTable pg qg loo (Zo pg.main.body) (λs=>aaG qg [] s&&aav [] s) ah 7742
def lb0(w:VQ):LB (w.withFollow "special-get-raises" ak):=by unfold LB BR.LB;kernel_rfl
def lb1(w:VQ):LB (w.withFollow "special-get-raises" ah):=by unfold LB BR.LB;kernel_rfl
abbrev LO:VQ->Prop:=BR.LO treeTable pg 7742 (sees adr qys tas).obs (sees adr qys tas).val
def lo0(w:VQ):LO (w.withFollow "special-get-raises" ak):=by unfold LO BR.LO;kernel_rfl
def lo1(w:VQ):LO (w.withFollow "special-get-raises" ah):=by unfold LO BR.LO;kernel_rfl
def left:PySem.W.LeftO pg qg loo (λs=>aaG qg [] s&&aav [] s) (sees adr qys tas).obs (sees adr qys tas).val 7742:=λw=>BR.F2 (Z8 (P:=LA) "special-get-raises" la0 la1 w) (Z8 (P:=LB) "special-get-raises" lb0 lb1 w) (Z8 (P:=LO) "special-get-raises" lo0 lo1 w)
end BL
end
section
namespace L2
open PySem PySem.Spec PyProof.Rows
noncomputable abbrev Key:=Sum Int aA
noncomputable def kq:Key->aC->Bool
 |.inl k,v=>Z6 k v|.inr x,v=>Zp x v
noncomputable def NS(w:VQ):Key->Int
 |.inl k=>hashInt k|.inr x=>hashStr w x
theorem dN:∀{k:Key}{v:aC},kq k v=ah->(∃i t,k=Sum.inl i/\v=Yc i t)\/(∃x t,k=Sum.inr x/\v=Xi x t)
 |.inl i,v,h=>by obtain⟨t,e⟩:=abG (k:=i) (v:=v) h;exact .inl ⟨i,t,rfl,e⟩
 |.inr x,v,h=>by obtain⟨t,e⟩:=Value.isStrOf_shape (x:=x) (v:=v) h;exact .inr ⟨x,t,rfl,e⟩
def Av(i:Int)(t:Tok):kq (.inl i) (.int i t)=ah:=by simp[kq,Z6]
def Aw(x:aA)(t:Tok):kq (.inr x) (.str x t)=ah:=by simp[kq,Zp]
def JV(a b:Int):decide ((Sum.inl a:Key)=Sum.inl b)=(a==b):=by
 by_cases e:a=b
 subst e;simp
 ·have h:¬(Sum.inl a:Key)=Sum.inl b:=λq=>e (Sum.inl.inj q);rw[bQ h];exact(beq_eq_false_iff_ne.mpr e).symm
def JW(a b:aA):decide ((Sum.inr a:Key)=Sum.inr b)=decide (a=b):=by
 by_cases e:a=b
 subst e;simp
 ·have h:¬(Sum.inr a:Key)=Sum.inr b:=λq=>e (Sum.inr.inj q);rw[bQ h,bQ e]
def JX(a:Int)(b:aA):decide ((Sum.inl a:Key)=Sum.inr b)=ak:=bQ (λq=>nomatch q)
def JY(a:aA)(b:Int):decide ((Sum.inr a:Key)=Sum.inl b)=ak:=bQ (λq=>nomatch q)
def dO(prog:Vy)(w:VQ):PySem.KeyKind prog w Key where
 is:=kq
 hash:=NS w
 inj:=λv a b U L=>by
  rcases dN U with⟨i,t,rfl,rfl⟩|⟨x,t,rfl,rfl⟩
  ·rcases dN L with⟨j,u,rfl,e⟩|⟨y,u,rfl,e⟩
   ·injection e with e1 _;rw[e1]
   exact nomatch e
  ·rcases dN L with⟨j,u,rfl,e⟩|⟨y,u,rfl,e⟩
   exact nomatch e
   ·injection e with e1 _;rw[e1]
 byValue:=λk v h=>by rcases dN h with⟨i,t,rfl,rfl⟩|⟨x,t,rfl,rfl⟩<;>rfl
 pyHash:=λJ h=>by
  rcases dN J with⟨i,t,rfl,rfl⟩|⟨x,t,rfl,rfl⟩
  exact wpAny_pyHash_int h;exact wpAny_pyHash_str h
 eqBool:=λO J h=>by
  rcases dN O with⟨i,t,rfl,rfl⟩|⟨x,t,rfl,rfl⟩
  ·rcases dN J with⟨j,u,rfl,rfl⟩|⟨y,u,rfl,rfl⟩
   rw[JV]at h;exact wpAny_eqBool_int h;rw[JX]at h;exact SeqAt.EqAt.int_str i t y u _ _ _ _ h
  ·rcases dN J with⟨j,u,rfl,rfl⟩|⟨y,u,rfl,rfl⟩
   rw[JY]at h;exact SeqAt.EqAt.str_int x t j u _ _ _ _ h;rw[JW]at h;exact wpAny_eqBool_str h
 «strs»:=λk x t v h=>by
  rcases dN h with⟨i,u,rfl,e⟩|⟨y,u,rfl,e⟩
  exact nomatch e
  ·injection e with e1 _
   subst e1;cases v<;>rfl
def uY(prog:Vy)(w:VQ)(i:Int)(t:Tok):(dO prog w).is (.inl i) (.int i t)=ah:=Av i t
def i9(prog:Vy)(w:VQ)(x:aA)(t:Tok):(dO prog w).is (.inr x) (.str x t)=ah:=Aw x t
end L2
namespace L2
open PySem PySem.Spec PyProof.Rows
inductive V
 |aF|bl(b:Bool)|int(i:Int)|str(x:aA)|byt(b:Array UInt8)|flt(b:UInt64)|ref(a:aB)|ty(n:String)
 deriving DecidableEq
noncomputable def RelV:V->aC->Prop
 |.aF,u=>u=WX|.bl b,u=>u=abH b|.int i,u=>∃t,u=Yc i t|.str x,u=>∃t,u=Xi x t|.byt b,u=>∃t,u=Value.bytes b t|.flt b,u=>∃t,u=Value.float b t|.ref a,u=>u=Wm a|.ty n,u=>u=Yw n
abbrev dD:List V->List aC->Prop:=Paired RelV
def dD.length(r:dD xs us):xs.length=us.length:=Paired.length r
theorem dD.get:∀{xs:List V}{us:List aC}{i:Nat}{x:V},dD xs us->xs[i]?=aa x->∃u,us[i]?=aa u/\RelV x u
 |_,_,_,_,.nil,e=>by simp at e
 |_,_,0,_,.cons r _,e=>by simp at e;subst e;exact⟨_,rfl,r⟩
 |_,_,i+1,x,.cons _ t,e=>by obtain⟨u,L,J⟩:=dD.get (i:=i) (x:=x) t (by simpa using e);exact⟨u,by simpa using L,J⟩
theorem dD.set(r:RelV x u):∀{xs:List V}{us:List aC}(i:Nat),dD xs us->dD (xs.set i x) (us.set i u)
 |_,_,_,.nil=>.nil|_,_,0,.cons _ t=>.cons r t|_,_,i+1,.cons q t=>.cons q (dD.set r i t)
theorem dD.append:∀{xs ys:List V}{us ws:List aC},dD xs us->dD ys ws->dD (xs++ys) (us++ws)
 |_,_,_,_,.nil,s=>s|_,_,_,_,.cons r t,s=>.cons r (dD.append t s)
theorem dD.take:∀{xs:List V}{us:List aC}(n:Nat),dD xs us->dD (xs.take n) (us.take n)
 |_,_,0,_=>.nil|_,_,_+1,.nil=>.nil|_,_,n+1,.cons r t=>.cons r (dD.take n t)
theorem dD.drop:∀{xs:List V}{us:List aC}(n:Nat),dD xs us->dD (xs.drop n) (us.drop n)
 |_,_,0,r=>r|_,_,_+1,.nil=>.nil|_,_,n+1,.cons _ t=>dD.drop n t
def pL:Option V->Option aC->Prop
 |some v,aa u=>RelV v u|none,af=>True|_,_=>False
def KV{κ:Type}:List (κ×V)->List (κ×aC)->Prop:=Paired λ(p:κ×V)(q:κ×aC)=>p.1=q.1/\RelV p.2 q.2
noncomputable def kV:Key->V
 |.inl i=>.int i|.inr x=>.str x
inductive HO
 |aD(xs:List V)
 |aE(xs:List V)
 |dK(kvs:List (Key×V))|dT(kvs:List (List Key×V))
 |set(S:Int->Bool)(n:Nat)
 |ins(C dx:aB)(fs:List (aA×V))
 |own(x:aB)
 |xd(fs:List (aA×V))
 |met(f x:aB)
 |rng(lo hi:Int)
 |frz(o:au)(u:HO)
 |tbl(ps:Array aC)
 |ext(J:av->Prop)
noncomputable abbrev Hp:=aB->Option HO
noncomputable def upd(H:Hp)(a:aB)(o:HO):Hp:=λb=>if b=a then aa o else H b
def fq:upd H a o a=aa o:=by unfold upd;rw[bM rfl]
def dI(h:b≠a):upd H a o b=H b:=by unfold upd;rw[bN h]
def eS{H:Hp}{a b:aB}{o:HO}(h:H a=aa o)(h':H b=af):a≠b:=by intro e;subst e;rw[h]at h';cases h'
section
variable(P:Vy)(w:VQ)
def gZ(H:Hp)(h:av)(a:aB):HO->Prop
 |.aD O=>O.length<=ao/\∃(L:List aC) (n:Nat),dD O L/\h.get? a=aa {cls:=.type "list",data:=.seq L.toArray n}|.aE O=>O.length<=ao/\∃L:List aC,dD O L/\IsTup h a L.toArray|.dK J=>J.length<=ao/\(a==X3)=ak/\∃Z,KV J Z/\h.DictOf (dO P w) a Z
 |.dT J=>J.length<=ao/\(a==X3)=ak/\∃O:List (List Key×aB×aC),
  Paired (λ(p:List Key×V)(q:List Key×aB×aC)=>p.1=q.1/\H q.2.1=aa (.aE (p.1.map kV))/\RelV p.2 q.2.2) J O ∧
  ∃o d i,h.get? a=aa o/\o.ExactDict/\o.data=.dict d i/\d.toList=O.map (entryOfKey (tupleKind (dO P w)))/\(O.map (·.1)).Nodup
 |.set S n=>h.SetOf (intKind P w) a S n|.ins C W fs=>H W=aa (.own a)/\fs.length<=1000/\W≠a/\h.get? a=aa (WQ C W) ∧
  ∃U,h.Ns1 W U/\(∀f,pL (fs.lookup f) (U f))/\aaZ U (fs.map (·.1))
 |.own _=>∃o,h.get? a=aa o|.xd fs=>∃U,h.Ns1 a U/\∀f,pL (fs.lookup f) (U f)|.rng lo g=>∃t u v,h.get? a=aa {cls:=.type "range",data:=.fields #[.int lo t,.int g u,.int 1 v]}|.frz o u=>h.get? a=aa o/\gZ H h a u|.tbl e=>h.get? a=aa {cls:=.none,data:=.fields e}|.met f x=>h.get? a=aa (Zr (.ref f) (.ref x))|.ext Y=>Y h/\(∃o,h.get? a=aa o)/\∀c b:av,Y c->(∀o,c.get? a=aa o->b.get? a=aa o)->Y b
def HOk(H:Hp)(h:av):Prop:=∀a o,H a=aa o->gZ P w H h a o
end
section
variable{P:Vy}{w:VQ}{H H':Hp}{h h':av}{a:aB}{o:HO}
def gZ.lt(x:gZ P w H h a o):a<h.objs.size:=by
 cases o with
 |aD J=>obtain⟨_,_,_,_,e⟩:=x;exact Vq e|aE J=>obtain⟨_,_,_,p⟩:=x;exact p.lt|set S n=>obtain⟨o,_,_,_,e,_⟩:=x;exact Vq e|ins C V fs=>obtain⟨_,_,_,e,_⟩:=x;exact Vq e|own y=>obtain⟨_,e⟩:=x;exact Vq e|xd fs=>obtain⟨_,⟨_,_,_,e,_⟩,_⟩:=x;exact Vq e|rng lo U=>obtain⟨_,_,_,e⟩:=x;exact Vq e|frz ob u=>obtain⟨e,_⟩:=x;exact Vq e|tbl O=>exact Vq (show h.get? a=aa _ from x)|met f y=>exact Vq (show h.get? a=aa _ from x)|ext L=>obtain⟨_,⟨_,e⟩,_⟩:=x;exact Vq e|_=>obtain⟨_,_,_,_,o,_,_,e,_⟩:=x;exact Vq e
theorem Paired.NT:∀{J:List α}{l₂:List β},Paired F J l₂->(∀a b,F a b->G a b)->Paired G J l₂
 |_,_,.nil,_=>.nil|_,_,.cons r t,f=>.cons (f _ _ r) (Paired.NT t f)
def gZ.stay(x:gZ P w H h a o)(k:∀b u,(b=a\/H b=aa (.own a))->h.get? b=aa u->h'.get? b=aa u)
(l:∀b,H b=aa (.own a)->H' b=aa (.own a))(j:∀b xs,H b=aa (.aE xs)->H' b=aa (.aE xs)):gZ P w H' h' a o:=by
 induction o with
 |aD xs=>obtain⟨z,O,n,r,e⟩:=x;exact⟨z,O,n,r,k _ _ (.inl rfl) e⟩|aE xs=>obtain⟨z,O,r,ob,e,c⟩:=x;exact⟨z,O,r,ob,k _ _ (.inl rfl) e,c⟩|dK W=>obtain⟨z,y,Z,r,ob,J,L,e,c⟩:=x;exact⟨z,y,Z,r,ob,J,L,k _ _ (.inl rfl) e,c⟩
 |dT W =>
  obtain⟨z,y,xs,r,ob,J,L,e,c⟩:=x;exact⟨z,y,xs,Paired.NT r λp q z=>⟨z.1,j _ _ z.2.1,z.2.2⟩,ob,J,L,k _ _ (.inl rfl) e,c⟩
 |set S n=>obtain⟨ob,J,L,t,e,c⟩:=x;exact⟨ob,J,L,t,k _ _ (.inl rfl) e,c⟩
 |ins C A fs =>
  obtain⟨d,z,g,e,V,⟨U,J,L,e2,c⟩,r⟩:=x;exact⟨l _ d,z,g,k _ _ (.inl rfl) e,V,⟨U,J,L,k _ _ (.inr d) e2,c⟩,r⟩
 |own y=>obtain⟨ob,e⟩:=x;exact⟨ob,k _ _ (.inl rfl) e⟩|xd fs=>obtain⟨V,⟨U,J,L,e,c⟩,r⟩:=x;exact⟨V,⟨U,J,L,k _ _ (.inl rfl) e,c⟩,r⟩|rng lo s=>obtain⟨t,u,v,e⟩:=x;exact⟨t,u,v,k _ _ (.inl rfl) e⟩|frz ob u i=>obtain⟨e,q⟩:=x;exact⟨k _ _ (.inl rfl) e,i q⟩
 |tbl Y =>
  have e:h.get? a=aa {cls:=.none,data:=.fields Y}:=x;show h'.get? a=aa {cls:=.none,data:=.fields Y};exact k a _ (.inl rfl) e
 |met f y =>
  have e:h.get? a=aa (Zr (.ref f) (.ref y)):=x;show h'.get? a=aa (Zr (.ref f) (.ref y));exact k a _ (.inl rfl) e
 |ext m=>obtain⟨p,⟨o,e⟩,st⟩:=x;exact⟨st _ _ p λo q=>k _ _ (.inl rfl) q,⟨o,k _ _ (.inl rfl) e⟩,st⟩
def HOk.lt(x:HOk P w H h)(e:H a=aa o):a<h.objs.size:=(x a o e).lt
def HOk.fresh(x:HOk P w H h)(e:h.objs.size<=a):H a=af:=by
 cases q:H a with
 |none=>rfl|some u=>exact bO (VL (x.lt q) e) (V5 _)
def HOk.aJ(x:HOk P w H h)(k:∀b u,h.get? b=aa u->h'.get? b=aa u):HOk P w H h':=λa o e =>
 (x a o e).stay (λb u _ q=>k b u q) (λ_ q=>q) λ_ _ q=>q
def HOk.laid(x:HOk P w H h)(k:∀b u,h.get? b=aa u->h'.get? b=aa u)(L:h.objs.size<=a)(new:gZ P w (upd H a o) h' a o):HOk P w (upd H a o) h':=λb u e=>by
 have hn:=x.fresh L
 by_cases J:b=a
 subst J;rw[fq]at e;cases e;exact new
 ·rw[dI J]at e;exact(x b u e).stay (λc v _ q=>k c v q) (λc q=>by rw[dI (eS q hn)];exact q) λc O q=>by rw[dI (eS q hn)];exact q
end
def Rd(H:Hp)(a:aB)(u:HO):Prop:=H a=aa u\/∃o,H a=aa (.frz o u)
def Rd.ok(r:Rd H a u)(x:HOk P w H h):gZ P w H h a u:=by
 rcases r with r|⟨o,r⟩
 exact x a u r
 ·obtain⟨_,q⟩:=x a _ r;exact q
noncomputable def Mut:Option HO->Prop
 |some (.aD _)=>True|some (.dK _)=>True|some (.dT _)=>True|some (.set _ _)=>True|some (.ins _ _ _)=>True|some (.ext _)=>True|_=>False
section
variable{P:Vy}{w:VQ}{H:Hp}{h h':av}{x e:aB}{o':HO}
def HOk.write(ok:HOk P w H h)(mu:Mut (H x))(Z:e=x\/H e=aa (.own x))(k:∀b u,b≠e->h.get? b=aa u->h'.get? b=aa u)(W:∃u,h'.get? e=aa u)
(new:gZ P w (upd H x o') h' x o'):HOk P w (upd H x o') h':=λb u q=>by
 have L:∀c y,H c=aa (.own y)->c≠x:=λc y r z=>by subst z;rw[r]at mu;exact mu
 have O:∀c U,H c=aa (.aE U)->c≠x:=λc U r z=>by subst z;rw[r]at mu;exact mu
 by_cases V:b=x
 subst V;rw[fq]at q;cases q;exact new
 ·rw[dI V]at q
  by_cases J:b=e
  ·have Y:H b=aa (.own x):=by
    rcases Z with z|z
    exact bO (J.trans z) V;rw[J];exact z
   rw[q]at Y;cases Y;obtain⟨v,a⟩:=W;exact⟨v,by rw[J];exact a⟩
  ·refine(ok b u q).stay (λc v hc r=>k c v ?_ r) (λc r=>by rw[dI (L c b r)];exact r) λc U r=>by rw[dI (O c U r)];exact r
   rcases hc with rfl|hc
   exact J
   ·rintro rfl
    rcases Z with z|z
    exact L c b hc z;rw[hc]at z;cases z;exact V rfl
end
structure Un(fs ex:List aB)(H H':Hp)(h h':av):Prop where
 keep:∀b o,h.get? b=aa o->H b=af->b∉fs->b∉ex->h'.get? b=aa o
 slot:∀b o,h.get? b=aa o->H b=af->b∈fs->b∉ex->∃sl,h'.get? b=aa {o with slots:=sl}
 free:∀b o,h.get? b=aa o->H b=af->b∉ex->H' b=af
 there:∀b o,h.get? b=aa o->b∉ex->∃o',h'.get? b=aa o'
 tups:∀b xs,H b=aa (.aE xs)->H' b=aa (.aE xs)
 frzs:∀b o u,H b=aa (.frz o u)->H' b=aa (.frz o u)
 tbls:∀b ps,H b=aa (.tbl ps)->∃more,H' b=aa (.tbl (ps++more))
section
variable{fs fs' ex ex':List aB}{H H1 H2:Hp}{h h1 h2 h':av}{a x e:aB}{o:HO}
def Un.any(u:Un fs ex H H1 h h1)(q:h.get? b=aa ob)(n:H b=af)(J:b∉ex):∃O,h1.get? b=aa {ob with slots:=O}:=by
 by_cases L:b∈fs
 exact u.slot b ob q n L J;exact⟨ob.slots,u.keep b ob q n L J⟩
def Un.aJ(k:∀b u,h.get? b=aa u->h'.get? b=aa u):Un fs ex H H h h' :=
 ⟨λb ob q _ _ _=>k b ob q,λb ob q _ _ _=>⟨ob.slots,k b ob q⟩,λ_ _ _ n _=>n,λb ob q _=>⟨ob,k b ob q⟩,λ_ _ q=>q,λ_ _ _ q=>q,λ_ J q=>⟨#[],by rw[q];simp⟩⟩
def Un.refl:Un fs ex H H h h:=Un.aJ λ_ _ q=>q
theorem Un.laid(k:∀b u,h.get? b=aa u->h'.get? b=aa u)(L:h.objs.size<=a)(hn:H a=af):Un fs ex H (upd H a o) h h' where
 keep:=λb u q _ _ _=>k b u q
 slot:=λb u q _ _ _=>⟨u.slots,k b u q⟩
 free:=λb u q n _=>by rw[dI (VI (VL (Vq q) L))];exact n
 there:=λb u q _=>⟨u,k b u q⟩
 tups:=λb J q=>by rw[dI (eS q hn)];exact q
 frzs:=λb u J q=>by rw[dI (eS q hn)];exact q
 tbls:=λb O q=>⟨#[],by rw[dI (eS q hn),q];simp⟩
def Un.write(mu:Mut (H x))(Y:e=x\/H e=aa (.own x))(k:∀b u,b≠e->h.get? b=aa u->h'.get? b=aa u)(O:∃u,h'.get? e=aa u):Un fs ex H (upd H x o) h h':=by
 have U:∀b,H b=af->b≠x:=λb n z=>by subst z;rw[n]at mu;exact mu
 have V:∀b,H b=af->b≠e:=λb n z=>by
  subst z;rcases Y with r|r
  exact U b n r;rw[n]at r;cases r
 have L:∀b u,H b=aa u->¬Mut (aa u)->b≠x:=λb u q nm z=>by subst z;rw[q]at mu;exact nm mu
 refine ⟨λb u q n _ _=>k b u (V b n) q,λb u q n _ _=>⟨u.slots,k b u (V b n) q⟩,λb u q n _=>by rw[dI (U b n)];exact n,λb u q _=>?_,
  λb W q=>by rw[dI (L b _ q λz=>z)];exact q,λb u W q=>by rw[dI (L b _ q λz=>z)];exact q,λb Z q=>⟨#[],by rw[dI (L b _ q λz=>z),q];simp⟩⟩
 by_cases J:b=e
 subst J;exact O;exact⟨u,k b u J q⟩
end
noncomputable def trk(h:av)(H:Hp):List aB:=(VM h.objs.size).filter λa=>(H a).isSome
def uZ(h:av)(H:Hp):av:=Ws h (trk h H)
def Ax(h:av)(H:Hp):(uZ h H).objs.size=h.objs.size:=PySem.W.hideAll_size _ _
def u5(e:h.get? b=aa o)(n:H b=af):(uZ h H).get? b=aa o :=
 Xj _ e λJ=>by have q:(H b).isSome=ah:=(List.mem_filter.mp J).2;rw[n]at q;simp at q
def F5(e:(uZ h H).get? b=aa o):h.get? b=aa o/\H b=af:=by
 have J:h.get? b=aa o:=Ye (trk h H) e;refine⟨J,?_⟩;cases q:H b with
 |none=>rfl
 |some x =>
  have L:b∈trk h H:=List.mem_filter.mpr ⟨List.mem_range.mpr (Vq J),by simp[q]⟩;have z:(uZ h H).get? b=af:=aaN (trk h H) L;rw[z]at e;cases e
noncomputable def F6(g h:av)(L:aB):List (aB×au):=(VM h.objs.size).filterMap λa=>if a=L\/(g.get? a).isSome=ah then af else(h.get? a).map λo=>(a,o)
def rest(g h:av)(L d:aB):List (aB×au):=(F6 g h L).filter λp=>decide (p.1≠d)
end L2
namespace L2
open PySem PySem.Spec PyProof.Rows
structure Mod(K:Ve)(mg:aA->Option aC)(base:av):Prop where
 kin:K.In base
 glob:base.Ns VB mg
 blt:∃mb,base.Ns XI mb/\∀x:aA,x≠"__name__"->mb x=Yb x
 nolimit:base.NoLimit
structure Cx where
 prog:Vy
 w:VQ
 K:Ve
 mg:aA->Option aC
 base:av
 A:V9
 N:List aA
 s₀:Vh
 H₀:Hp
 env:Env
 outer:List Env
 stack:List Env
 ex:List aB
 fn:aA->Bool
 calm:Bool
 pn:List (aB×au)
 xe:aC->Vh->Prop
noncomputable def frs(l:List Env):List aB:=l.filterMap (·.frame)
noncomputable abbrev Cx.fs(X:Cx):List aB:=frs X.outer
def Vis(sc:V8)(x:aA):Prop:=sc.names.lookup x=aa .local\/sc.names.lookup x=aa .cell\/sc.names.lookup x=aa .free
def Loc(sc:V8)(x:aA):Prop:=sc.names.lookup x=aa .local\/sc.names.lookup x=aa .cell
def Look(env:Env)(h:av)(m:aA->Option aC)(x:aA)(u:aC):Prop :=
 (env.kindOf x=aa .local/\m x=aa u)\/((env.kindOf x=aa .cell\/env.kindOf x=aa .free)/\∃c,env.cells.lookup x=aa c/\h.IsCell c (aa u))
structure Cx.Ok(X:Cx):Prop where
 mod:Mod X.K X.mg X.base
 kind:X.env.scope.kind=.function
 glob:X.env.globals=VB
 blt:X.env.builtins=XI
 above:X.s₀.heap.objs.size<=X.env.locals
 inj:∀x y c,X.env.cells.lookup x=aa c->X.env.cells.lookup y=aa c->x=y
 has:∀x,(X.env.kindOf x=aa .cell\/X.env.kindOf x=aa .free)->∃c,X.env.cells.lookup x=aa c
 cab:∀x c,X.fn x=ah->X.env.cells.lookup x=aa c->X.s₀.heap.objs.size<=c
 hd:X.calm=ah->X.A.handled=af
 frames:X.A.frames=aa X.stack
 stk:X.stack=X.outer\/(X.stack=X.env::X.outer/\X.env.frame=aa X.env.locals)
 exf:∀b∈X.ex,b≠X.env.locals/\∀x c,X.env.cells.lookup x=aa c->c≠b
 bs:∀b o,X.base.get? b=aa o->X.s₀.heap.get? b=aa o/\X.H₀ b=af
 bsz:X.base.objs.size<=X.s₀.heap.objs.size
 noex:∀b o,X.base.get? b=aa o->b∉X.ex
 exfs:∀b∈X.ex,b∉X.fs
 kE:X.s₀.heap.FunFrames X.base X.outer
 frf:∀b∈X.fs,X.H₀ b=af
structure Inv(X:Cx)(zt:List (aB×au))(σ:List (Option V))(H:Hp)(s:Vh):Prop where
 ok:X.Ok
 os:s.os=X.s₀.os
 bare:ZS s.gens
 base:Un X.fs X.ex X.H₀ H X.s₀.heap s.heap
 loc:∃m,s.heap.Ns X.env.locals m/\∀(i:Nat)(x:aA)(v:V),X.N[i]?=aa x->σ[i]?=aa (aa v)->Vis X.env.scope x->∃u,RelV v u/\Look X.env s.heap m x u
 cell:∀x c,X.env.cells.lookup x=aa c->∃v,s.heap.IsCell c v
 free:H X.env.locals=af
 freeC:∀x c,X.env.cells.lookup x=aa c->H c=af
 pin:∀p∈X.pn++zt,s.heap.get? p.1=aa p.2/\H p.1=af/\p.1≠X.env.locals/\p.1∉X.fs/\∀v,p.2.data≠.cell v
 aL:HOk X.prog X.w H s.heap
 len:σ.length=X.N.length
section
variable{X:Cx}{zt:List (aB×au)}{σ:List (Option V)}{H H':Hp}{s:Vh}{h':av}
def Cx.Ok.RP(ok:X.Ok)(e:X.base.get? b=aa o):b∉X.fs:=λJ=>by have:=(ok.kE.mem J).1;rw[e]at this;cases this
def Inv.bs(I:Inv X zt σ H s):∀b o,X.base.get? b=aa o->s.heap.get? b=aa o/\H b=af:=λb o e =>
 ⟨I.base.keep b o (I.ok.bs b o e).1 (I.ok.bs b o e).2 (I.ok.RP e) (I.ok.noex b o e),I.base.free b o (I.ok.bs b o e).1 (I.ok.bs b o e).2 (I.ok.noex b o e)⟩
def Inv.bk(I:Inv X zt σ H s):∀b o,X.base.get? b=aa o->s.heap.get? b=aa o:=λb o e=>(I.bs b o e).1
def Inv.mod(I:Inv X zt σ H s):Mod X.K X.mg X.base:=I.ok.mod
def Inv.kIn(I:Inv X zt σ H s):X.K.In s.heap:=I.ok.mod.kin.keeps I.bk
def Inv.lt(I:Inv X zt σ H s):X.env.locals<s.heap.objs.size:=let ⟨_,hn,_⟩:=I.loc;hn.lt
def Inv.sz(I:Inv X zt σ H s):X.s₀.heap.objs.size<=s.heap.objs.size:=VJ I.ok.above (Xa I.lt)
def Inv.RQ(I:Inv X zt σ H s)(h:s.heap.objs.size<=a):a∉X.fs:=λL=>by obtain⟨_,o,J,_⟩:=I.ok.kE.mem L;exact bO (VL (Vq J) (VJ I.sz h)) (V5 _)
def Inv.cne(I:Inv X zt σ H s):∀x c,X.env.cells.lookup x=aa c->c≠X.env.locals:=λx c e z=>by obtain⟨v,o,O,U⟩:=I.cell x c e;obtain⟨m,⟨V,W,Y,J,L,_⟩,_⟩:=I.loc;rw[z,J]at O;cases O;rw[L]at U;cases U
def Inv.kE(I:Inv X zt σ H s):s.heap.FunFrames X.base X.outer:=by
 have all:∀(l:List Env),(∀b∈frs l,b∈X.fs)->X.s₀.heap.FunFrames X.base l->s.heap.FunFrames X.base l:=by
  intro l
  induction l with
  |nil=>intro _ _;trivial
  |cons f r W =>
   intro V a;obtain⟨c,⟨L,o,J,hn,Z,d⟩,Y⟩:=a;have U:L∈X.fs:=V L (by unfold frs;rw[VT,J];exact Vt);obtain⟨g,e⟩:=I.base.slot L o Z (I.ok.frf L U) U λz=>I.ok.exfs L z U;exact⟨c,⟨L,_,J,hn,e,d⟩,W (λb O=>V b (by unfold frs;rw[VT,J];exact Vn _ O)) Y⟩
 exact all X.outer (λ_ O=>O) I.ok.kE
def Inv.stack(I:Inv X zt σ H s):s.heap.FunFrames X.base X.stack:=by
 rcases I.ok.stk with e|⟨e,hf⟩
 rw[e];exact I.kE
 ·rw[e];obtain⟨m,hn,_⟩:=I.loc;refine .cons (by rw[I.ok.kind];decide) hf hn ?_ I.kE;exact Heap.get?_none_of_le (VJ I.ok.bsz I.ok.above)
def Inv.lX(I:Inv X zt σ H s):∀b∈frs X.stack,b∈X.env.locals::X.fs:=λb J=>by
 rcases I.ok.stk with e|⟨e,hf⟩
 rw[e]at J;exact Vn _ J
 ·rw[e]at J;unfold frs at J;rw[VT,hf]at J;exact J
def Inv.tw(I:Inv X zt σ H s):∀b∈frs X.stack,H b=af:=λb J=>by
 rcases List.mem_cons.mp (I.lX b J)with e|J
 rw[e];exact I.free
 ·obtain⟨_,o,L,_⟩:=I.ok.kE.mem J;exact I.base.free b o L (I.ok.frf b J) λz=>I.ok.exfs b z J
def Inv.step{g':Array GenState}{t':Nat}{d':Drawn}{ch:List aB}(I:Inv X zt σ H s)
(O:∀b∈ch,(b∈X.ex\/X.s₀.heap.objs.size<=b)/\b≠X.env.locals/\(∀x c,X.env.cells.lookup x=aa c->c≠b)/\∀p∈X.pn++zt,p.1≠b)
(keep:∀b o,b≠X.env.locals->b∉X.fs->b∉ch->s.heap.get? b=aa o->H b=af->h'.get? b=aa o)
(slot:∀b o,b≠X.env.locals->b∈X.fs->b∉ch->s.heap.get? b=aa o->H b=af->∃g,h'.get? b=aa {o with slots:=g})(free:∀b o,b∉ch->s.heap.get? b=aa o->H b=af->H' b=af)
(there:∀b o,b∉ch->s.heap.get? b=aa o->∃o',h'.get? b=aa o')
(tups:∀b xs,H b=aa (.aE xs)->H' b=aa (.aE xs))(frzs:∀b o u,H b=aa (.frz o u)->H' b=aa (.frz o u))(tbls:∀b ps,H b=aa (.tbl ps)->∃a,H' b=aa (.tbl (ps++a)))
(ns:∀m,s.heap.Ns X.env.locals m->h'.Ns X.env.locals m)(F:HOk X.prog X.w H' h')(D:ZS g'):
 Inv X zt σ H' {s with heap:=h',gens:=g',drawn:=d',toks:=t'}:=by
 have Z:∀b o,X.s₀.heap.get? b=aa o->b≠X.env.locals:=λb o e=>VI (VL (Vq e) I.ok.above);have V:∀b o,X.s₀.heap.get? b=aa o->b∉X.ex->b∉ch:=λb o e J W=>by
  rcases (O b W).1 with z|z
  exact J z;exact bO (VL (Vq e) z) (V5 _)
 have U:∀x c,X.env.cells.lookup x=aa c->∀v,s.heap.IsCell c v->h'.IsCell c v:=λx c e v ⟨o,Y,h⟩=>by
  have L:c∉ch:=λz=>(O c z).2.2.1 x c e rfl
  by_cases hc:c∈X.fs
  ·obtain⟨g,q⟩:=slot c o (I.cne x c e) hc L Y (I.freeC x c e);exact⟨_,q,h⟩
  exact⟨o,keep c o (I.cne x c e) hc L Y (I.freeC x c e),h⟩
 refine⟨I.ok,I.os,D,⟨λb o e n W J=>?_,λb o e n W J=>?_,λb o e n J=>?_,λb o e J=>?_,λb xs e=>tups b xs (I.base.tups b xs e),λb o xs e=>frzs b o xs (I.base.frzs b o xs e),λb ps e=>?_⟩,?_,λx c e=>?_,?_,λx c e=>?_,λp y=>?_,F,I.len⟩;exact keep b o (Z b o e) W (V b o e J) (I.base.keep b o e n W J) (I.base.free b o e n J)
 ·obtain⟨g,e1⟩:=I.base.slot b o e n W J;obtain⟨f,e2⟩:=slot b _ (Z b o e) W (V b o e J) e1 (I.base.free b o e n J);exact⟨f,e2⟩
 ·obtain⟨o',e1⟩:=I.base.there b o e J;exact free b o' (V b o e J) e1 (I.base.free b o e n J)
 ·obtain⟨o',e1⟩:=I.base.there b o e J;exact there b o' (V b o e J) e1
 ·obtain⟨B,e1⟩:=I.base.tbls b ps e;obtain⟨A,e2⟩:=tbls b _ e1;exact⟨B++A,by rw[e2,Array.append_assoc]⟩
 ·obtain⟨m,hn,C⟩:=I.loc;refine⟨m,ns m hn,λi x v e1 e2 E=>?_⟩;obtain⟨u,r,l⟩:=C i x v e1 e2 E;refine⟨u,r,?_⟩;rcases l with l|⟨k,c,e,z⟩
  exact .inl l;exact .inr ⟨k,c,e,U x c e _ z⟩
 ·obtain⟨v,z⟩:=I.cell x c e;exact⟨v,U x c e v z⟩
 ·obtain⟨m,⟨o,_,_,Y,_⟩,_⟩:=I.loc;exact free _ o (λz=>(O _ z).2.1 rfl) Y I.free
 ·obtain⟨v,o,Y,h⟩:=I.cell x c e;exact free c o (λz=>(O c z).2.2.1 x c e rfl) Y (I.freeC x c e)
 ·obtain⟨e,n,t,j,d⟩:=I.pin p y;have L:p.1∉ch:=λz=>(O p.1 z).2.2.2 p y rfl;exact⟨keep p.1 p.2 t j L e n,free p.1 p.2 L e n,t,j,d⟩
def Inv.un(I:Inv X zt σ H s)(u:Un X.fs [] H H' s.heap h')(a:HOk X.prog X.w H' h'):Inv X zt σ H' {s with heap:=h',toks:=t'}:=by
 obtain⟨m,⟨o,g,h,V,r⟩,_⟩:=id I.loc;obtain⟨c,Z⟩:=u.any V I.free (by simp);exact I.step (g':=s.gens) (d':=s.drawn) (ch:=[]) (λ_ z=>nomatch z) (λb o _ L _ e n=>u.keep b o e n L (by simp)) (λb o _ L _ e n=>u.slot b o e n L (by simp)) (λb o _ e n=>u.free b o e n (by simp)) (λb o _ e=>u.there b o e (by simp)) u.tups u.frzs u.tbls (λf Y=>by obtain⟨d,O,U,J,W⟩:=Y;rw[V]at J;cases J;exact⟨_,O,U,Z,W⟩) a I.bare
def Inv.call(I:Inv X zt σ H s)(u:Un (frs X.stack) ch H H' s.heap h')(f:HOk X.prog X.w H' h')(a:ZS g')
(L:∀b∈ch,(b∈X.ex\/X.s₀.heap.objs.size<=b)/\b≠X.env.locals/\(∀x c,X.env.cells.lookup x=aa c->c≠b)/\∀p∈X.pn++zt,p.1≠b):
 Inv X zt σ H' {s with heap:=h',gens:=g',drawn:=d',toks:=t'}:=by
 obtain⟨m,⟨o,j,k,W,r⟩,_⟩:=id I.loc;obtain⟨g,O⟩:=u.any W I.free λz=>(L _ z).2.1 rfl;exact I.step (ch:=ch) L (λb o O d hc e n=>u.keep b o e n (λz=>(List.mem_cons.mp (I.lX b z)).elim O d) hc) (λb o _ _ hc e n=>u.any e n hc) (λb o hc e n=>u.free b o e n hc) (λb o hc e=>u.there b o e hc) u.tups u.frzs u.tbls (λi Z=>by obtain⟨h,U,V,J,Y⟩:=Z;rw[W]at J;cases J;exact⟨_,U,V,O,Y⟩) f a
def Inv.turned(I:Inv X zt σ H s)(k:∀b o,b≠it->s.heap.get? b=aa o->h'.get? b=aa o)(hn:H it=af)(L:it≠X.env.locals)
(h1:it∈X.ex\/X.s₀.heap.objs.size<=it)(h2:∀x c,X.env.cells.lookup x=aa c->c≠it)(W:∀p∈X.pn++zt,p.1≠it):Inv X zt σ H {s with heap:=h',toks:=t'}:=by
 have J:∀b u,H b=aa u->b≠it:=λb u e z=>by rw[z,hn]at e;cases e
 refine I.step (g':=s.gens) (d':=s.drawn) (ch:=[it]) (λb V=>?_) (λb o _ _ hc e _=>k b o (λz=>hc (by simp[z])) e) (λb o _ _ hc e _=>⟨o.slots,k b o (λz=>hc (by simp[z])) e⟩) (λ_ _ _ _ n=>n)
  (λb o hc e=>⟨o,k b o (λz=>hc (by simp[z])) e⟩) (λ_ _ e=>e) (λ_ _ _ e=>e) (λb a e=>⟨#[],by rw[e];simp⟩) (λm U=>?_) (λb u e=>?_) I.bare
 ·have e:b=it:=by simpa using V
  subst e;exact⟨h1,L,h2,W⟩
 ·obtain⟨o,Y,Z,O,r⟩:=U;exact⟨o,Y,Z,k _ o (Wa L) O,r⟩
 ·refine(I.aL b u e).stay (λc v hc q=>k c v ?_ q) (λ_ q=>q) λ_ _ q=>q;rcases hc with z|z
  rw[z];exact J b u e;exact J c _ z
def Inv.tok(I:Inv X zt σ H s)(t:Nat):Inv X zt σ H {s with toks:=t}:=I.un (h':=s.heap) (t':=t) Un.refl I.aL
def Inv.aJ(I:Inv X zt σ H s)(k:∀b u,s.heap.get? b=aa u->h'.get? b=aa u):Inv X zt σ H {s with heap:=h',toks:=t'}:=I.un (Un.aJ k) (I.aL.aJ k)
def Inv.laid(I:Inv X zt σ H s)(k:∀b u,s.heap.get? b=aa u->h'.get? b=aa u)(J:s.heap.objs.size<=a)(new:gZ X.prog X.w (upd H a o) h' a o):
 Inv X zt σ (upd H a o) {s with heap:=h',toks:=t'}:=I.un (Un.laid k J (I.aL.fresh J)) (I.aL.laid k J new)
def Inv.write(I:Inv X zt σ H s)(mu:Mut (H x))(L:e=x\/H e=aa (.own x))(k:∀b u,b≠e->s.heap.get? b=aa u->h'.get? b=aa u)(J:∃u,h'.get? e=aa u)
(new:gZ X.prog X.w (upd H x o) h' x o):Inv X zt σ (upd H x o) {s with heap:=h',toks:=t'}:=I.un (Un.write mu L k J) (I.aL.write mu L k J new)
def Inv.lg(I:Inv X zt σ H s)(h:∀p∈pins',s.heap.get? p.1=aa p.2/\H p.1=af/\p.1≠X.env.locals/\p.1∉X.fs/\∀v,p.2.data≠.cell v):Inv X pins' σ H s :=
 ⟨I.ok,I.os,I.bare,I.base,I.loc,I.cell,I.free,I.freeC,λp J=>(List.mem_append.mp J).elim (λz=>I.pin p (Xe _ z)) (h p),I.aL,I.len⟩
def u6{N:List aA}(J:N.Nodup){i j:Nat}{x:aA}(a:N[i]?=aa x)(b:N[j]?=aa x):i=j:=by obtain⟨O,e1⟩:=List.getElem?_eq_some_iff.mp a;obtain⟨L,e2⟩:=List.getElem?_eq_some_iff.mp b;exact(ZY J).mp (e1.trans e2.symm)
def rT{M:Model}{A:V9}{E:aC->Vh->Prop}{i:Nat}{x:aA}{v:V}{u:aC}{Q:Unit->Vh->Prop}(I:Inv X zt σ H s)(hN:X.N.Nodup)(hi:X.N[i]?=aa x)(O:Loc X.env.scope x)(r:RelV v u)
(h:∀s',Inv X zt (σ.set i (aa v)) H s'->(∃a,V6 a s.heap s'.heap/\(a=X.env.locals\/X.env.cells.lookup x=aa a))->Q () s')(hf:X.fn x=ah\/X.env.scope.names.lookup x=aa .local:=by first|exact .inl rfl|exact .inr rfl|assumption):az M A (storeName X.env x u) Q E s:=by
 obtain⟨m,hn,hl⟩:=id I.loc;have B:(X.env.scope.kind==.class||(X.env.scope.kind==.module&&X.env.locals != X.env.globals))=ak:=by rw[I.ok.kind];rfl
 have W:i<σ.length:=by rw[I.len];exact(List.getElem?_eq_some_iff.mp hi).1
 have cne:=I.cne;have L:∀{a:aB}{g:av},(∃o,s.heap.get? a=aa o/\H a=af)->V6 a s.heap g->HOk X.prog X.w H g:=λ{a g} ha J b ob e=>by
  obtain⟨_,_,U⟩:=ha;refine(I.aL b ob e).stay (λc F hc q=>(J.2 c ?_).trans q) (λ_ q=>q) λ_ _ q=>q
  rintro rfl
  rcases hc with rfl|hc
  rw[U]at e;cases e;rw[U]at hc;cases hc
 rcases O with hk|hk
 ·refine wpAny_storeName_local hk hn (λg hn' J=>?_) B;obtain⟨oL,_,_,hoL,_⟩:=id hn;refine h _ ⟨I.ok,I.os,I.bare,⟨λb o e n f O=>?_,λb o e n f O=>?_,I.base.free,λb o e O=>?_,I.base.tups,I.base.frzs,I.base.tbls⟩,⟨_,hn',λj y P e1 e2 e3=>?_⟩,λy c e=>?_,I.free,I.freeC,λp hp=>?_,L ⟨oL,hoL,I.free⟩ J,by simpa using I.len⟩ ⟨_,J,.inl rfl⟩;exact(J.2 b (VI (VL (Vq e) I.ok.above))).trans (I.base.keep b o e n f O)
  ·obtain⟨S,e1⟩:=I.base.slot b o e n f O;exact⟨S,(J.2 b (VI (VL (Vq e) I.ok.above))).trans e1⟩
  ·obtain⟨o',e1⟩:=I.base.there b o e O;exact⟨o',(J.2 b (VI (VL (Vq e) I.ok.above))).trans e1⟩
  ·by_cases Y:j=i
   ·subst Y;rw[hi]at e1;cases e1;rw[VH W]at e2;cases e2;exact⟨u,r,.inl ⟨hk,by simp⟩⟩
   ·rw[Vr (Wa Y)]at e2;obtain⟨R,T,q⟩:=hl j y P e1 e2 e3;refine⟨R,T,?_⟩;rcases q with⟨k,e⟩|⟨k,c,e,z⟩
    ·refine .inl ⟨k,?_⟩;have:y≠x:=λe=>Y (u6 hN e1 (e ▸ hi));simp[this,e]
    exact .inr ⟨k,c,e,z.sameBut J (cne y c e)⟩
  ·obtain⟨F,z⟩:=I.cell y c e;exact⟨F,z.sameBut J (cne y c e)⟩
  ·obtain⟨e,n,G,nf,d⟩:=I.pin p hp;exact⟨(J.2 p.1 G).trans e,n,G,nf,d⟩
 ·have Z:X.fn x=ah:=by
   rcases hf with z|z
   exact z;rw[z]at hk;cases hk
  obtain⟨c,hc⟩:=I.ok.has x (.inl hk);obtain⟨F,z⟩:=I.cell x c hc;refine wpAny_storeName_cell I.ok.kind hk hc z (λg D J=>?_);obtain⟨oc,t,l⟩:=id z;refine h {s with heap:=g} ⟨I.ok,I.os,I.bare,⟨λb o e n f O=>?_,λb o e n f O=>?_,I.base.free,λb o e O=>?_,I.base.tups,I.base.frzs,I.base.tbls⟩,⟨m,hn.sameBut J (Wa (cne x c hc)),λj y P e1 e2 e3=>?_⟩,λy K e=>?_,I.free,I.freeC,λp hp=>?_,L ⟨oc,t,I.freeC x c hc⟩ J,by simpa using I.len⟩ ⟨c,J,.inr hc⟩;exact(J.2 b (VI (VL (Vq e) (I.ok.cab x c Z hc)))).trans (I.base.keep b o e n f O)
  ·obtain⟨S,e1⟩:=I.base.slot b o e n f O;exact⟨S,(J.2 b (VI (VL (Vq e) (I.ok.cab x c Z hc)))).trans e1⟩
  ·obtain⟨o',e1⟩:=I.base.there b o e O;exact⟨o',(J.2 b (VI (VL (Vq e) (I.ok.cab x c Z hc)))).trans e1⟩
  ·by_cases Y:j=i
   ·subst Y;rw[hi]at e1;cases e1;rw[VH W]at e2;cases e2;exact⟨u,r,.inr ⟨.inl hk,c,hc,D⟩⟩
   ·rw[Vr (Wa Y)]at e2;obtain⟨R,T,q⟩:=hl j y P e1 e2 e3;refine⟨R,T,?_⟩;rcases q with q|⟨k,K,e,z'⟩
    exact .inl q
    ·refine .inr ⟨k,K,e,z'.sameBut J ?_⟩
     rintro rfl
     exact Y (u6 hN e1 (I.ok.inj _ _ _ e hc ▸ hi))
  ·by_cases C:K=c
   subst C;exact⟨_,D⟩
   ·obtain⟨w2,z2⟩:=I.cell y K e;exact⟨w2,z2.sameBut J C⟩
  ·obtain⟨e,n,G,nf,d⟩:=I.pin p hp;refine⟨(J.2 p.1 ?_).trans e,n,G,nf,d⟩;intro q;rw[q,t]at e;have q':oc=p.2:=Vp e;exact d F (by rw[←q'];exact l)
def pM{E:aC->Vh->Prop}(I:Inv X zt σ H s)(O:X.N.Nodup)(hi:X.N[i]?=aa x)(J:Loc X.env.scope x)(r:RelV v u)
(h:∀s',Inv X zt (σ.set i (aa v)) H s'->Q () s')(L:X.fn x=ah\/X.env.scope.names.lookup x=aa .local:=by first|exact .inl rfl|exact .inr rfl|assumption):az M A (storeName X.env x u) Q E s :=
 rT I O hi J r (λs' U _=>h s' U) L
def Inv.yD(I:Inv X zt σ H s)(O:s'.os=s.os)(u:Un (frs X.stack) ch H H' s.heap s'.heap)(V:HOk X.prog X.w H' s'.heap)(U:ZS s'.gens)
(J:∀b∈ch,(b∈X.ex\/X.s₀.heap.objs.size<=b)/\b≠X.env.locals/\(∀x c,X.env.cells.lookup x=aa c->c≠b)/\∀p∈X.pn++zt,p.1≠b):Inv X zt σ H' s':=by
 obtain⟨W,g',d',t',L⟩:=s';have e:L=s.os:=O;subst e;exact I.call (g':=g') (t':=t') (d':=d') u V U J
end
abbrev XK:=aC->Option aB->Hp->Prop
noncomputable abbrev St:=List (Option V)
abbrev VK:=V->Hp->Prop
abbrev TE:=St->Hp->VK->Prop
abbrev TT:=St->Hp->(Bool->Hp->Prop)->Prop
abbrev TA:=St->Hp->(List V->Hp->Prop)->Prop
structure Ends where
 nx:St->Hp->Prop
 rt:VK
 bk:St->Hp->Prop:=λ_ _=>False
 ct:St->Hp->Prop:=λ_ _=>False
abbrev TS:=Ends->St->Hp->Prop
inductive EP(X:Cx)(zt:List (aB×au))(σ:St)(Q:VK)(u:aC)(s':Vh):Prop
 |mk(v:V)(H':Hp)(I:Inv X zt σ H' s')(r:RelV v u)(q:Q v H'):EP X zt σ Q u s'
inductive TP(X:Cx)(zt:List (aB×au))(σ:St)(Q:Bool->Hp->Prop)(b:Bool)(s':Vh):Prop
 |mk(H':Hp)(I:Inv X zt σ H' s')(q:Q b H'):TP X zt σ Q b s'
inductive AP(X:Cx)(zt:List (aB×au))(σ:St)(Q:List V->Hp->Prop)(us:List aC)(s':Vh):Prop
 |mk(vs:List V)(H':Hp)(I:Inv X zt σ H' s')(r:dD vs us)(q:Q vs H'):AP X zt σ Q us s'
def SP(X:Cx)(zt:List (aB×au))(D:Ends)(f:Flow)(s':Vh):Prop :=
 match f with
 |.next=>∃J L,Inv X zt J L s'/\D.nx J L|.brk=>∃J L,Inv X zt J L s'/\D.bk J L|.cont=>∃J L,Inv X zt J L s'/\D.ct J L|.ret u=>∃v J L,Inv X zt J L s'/\RelV v u/\D.rt v L
def PE(X:Cx)(e:ZH)(t:TE):Prop :=
 ∀(L:List (aB×au)) (s:Vh) (J:St) (H:Hp) (Q:VK),Inv X L J H s->t J H Q->az (VC X.prog X.w) X.A (eval e X.env) (EP X L J Q) X.xe s
def PT(X:Cx)(e:ZH)(t:TT):Prop :=
 ∀(L:List (aB×au)) (s:Vh) (J:St) (H:Hp) (Q:Bool->Hp->Prop),Inv X L J H s->t J H Q->az (VC X.prog X.w) X.A (isTrue e X.env (eval e X.env)) (TP X L J Q) X.xe s
def PW(X:Cx)(e:ZH)(t:TT):Prop :=
 ∀(J:Sem aC)(O:List (aB×au)) (s:Vh) (L:St) (H:Hp) (Q:Bool->Hp->Prop),Inv X O L H s->t L H Q->az (VC X.prog X.w) X.A (isTrue e X.env J) (TP X O L Q) X.xe s
def PW.pt(h:PW X e t):PT X e t:=h _
def PA(X:Cx)(es:List ZH)(t:TA):Prop :=
 ∀(L:Pos)(O:List (aB×au)) (s:Vh) (J:St) (H:Hp) (Q:List V->Hp->Prop),Inv X O J H s->t J H Q->az (VC X.prog X.w) X.A (aaq (Xh L (VR es X.env))) (AP X O J Q) X.xe s
def PS(X:Cx)(st:ZA)(t:TS):Prop :=
 ∀(L:List (aB×au)) (s:Vh) (J:St) (H:Hp) (D:Ends),Inv X L J H s->t D J H->az (VC X.prog X.w) X.A (exec st X.env) (SP X L D) X.xe s
def PSs(X:Cx)(st:List ZA)(t:TS):Prop :=
 ∀(L:List (aB×au)) (s:Vh) (J:St) (H:Hp) (D:Ends),Inv X L J H s->t D J H->az (VC X.prog X.w) X.A (execs st X.env) (SP X L D) X.xe s
def thn{J:Type}{t:Sem J}{Q L:J->Vh->Prop}{E:aC->Vh->Prop}(h:az M A t Q E s)(O:∀a s,Q a s->L a s):az M A t L E s:=Wk h O λ_ _ x=>x
end L2
namespace L2
open PySem PySem.Spec PyProof.Rows
section
variable{X:Cx}
def bin{a b:ZH}{ta tb:TE}(i:PE X a ta)(g:PE X b tb){zt:List (aB×au)}{s:Vh}{σ:St}{H:Hp}{R:V->V->Hp->Prop}(I:Inv X zt σ H s)(h:ta σ H λx H1=>tb σ H1 λy H2=>R x y H2)
{U:Type}{Q:U->Vh->Prop}{f:aC->aC->Sem U}
(e:∀v u s2 x y H2,Inv X zt σ H2 s2->RelV x v->RelV y u->R x y H2->az (VC X.prog X.w) X.A (f v u) Q X.xe s2):
 az (VC X.prog X.w) X.A (eval a X.env) (λv L=>az (VC X.prog X.w) X.A (eval b X.env) (λu J=>az (VC X.prog X.w) X.A (f v u) Q X.xe J) X.xe L) X.xe s:=by
 refine thn (i zt s σ H _ I h) λv W O=>?_;obtain⟨x,H1,k,Z,d⟩:=O;refine thn (g zt W σ H1 _ k d) λu s2 O=>?_;obtain⟨y,H2,j,Y,c⟩:=O;exact e v u s2 x y H2 j Z Y c
def RT(i:Nat):TE:=fun J H Q=>∃v,J[i]?=aa (aa v)/\Q v H
def tC(v:V):TE:=λ_ H Q=>Q v H
def JZ(a:X.N[i]?=aa x)(W:Vis X.env.scope x)(L:(x==("__debug__":aA))=ak:=by decide)(O:(x==("__classdict__":aA))=ak:=by decide):PE X (.Name x pos) (RT i):=by
 intro V s U H Q I h;obtain⟨v,e,h⟩:=h;obtain⟨m,hn,Z⟩:=I.loc;obtain⟨u,r,l⟩:=Z i x v a e W;have fin:EP X V U Q u s:=⟨v,H,I,r,h⟩;rcases l with⟨J,Y⟩|⟨J,c,hc,hcell⟩
 exact wpAny_Name (wpAny_loadName_local I.ok.kind J hn Y fin) L
 ·rcases J with J|J
  exact wpAny_Name (wpAny_loadName_cell I.ok.kind J hc hcell fin) L;exact wpAny_Name (wpAny_loadName_free I.ok.kind J hc hcell fin O) L
def xg{i j pos}:PE X (.Constant (.int i) j pos) (tC (.int i)):=λ_ _ _ H _ I h=>wpAny_Constant_int ⟨.int i,H,I.tok _,⟨_,rfl⟩,h⟩
def NU{b j pos}:PE X (.Constant (.bool b) j pos) (tC (.bl b)):=λ_ _ _ H _ I h=>Constant_bool ⟨.bl b,H,I,rfl,h⟩
def J0{j pos}:PE X (.Constant .none j pos) (tC .aF):=λ_ _ _ H _ I h=>Constant_none ⟨.aF,H,I,rfl,h⟩
def J1{x j pos}:PE X (.Constant (.str x) j pos) (tC (.str x)):=λ_ _ _ H _ I h=>Ym ⟨.str x,H,I.tok _,⟨_,rfl⟩,h⟩
def Gl(X:Cx)(x:aA):Prop:=X.env.kindOf x=aa .globalImplicit
def ja{E:aC->Vh->Prop}(I:Inv X zt σ H s)(L:Gl X x)(J:X.mg x=aa u)(h:Q u s)
(O:(x==("__debug__":aA))=ak:=by decide):az (VC X.prog X.w) X.A (eval (.Name x pos) X.env) Q E s :=
 Yk I.ok.kind L (aaK (by rw[I.ok.glob];exact I.mod.glob.keeps I.bk) J h) O
def jI{E:aC->Vh->Prop}(I:Inv X zt σ H s)(O:Gl X x)(L:X.mg x=af)(J:Yb x=aa u)(h:Q u s)
(hn:x≠"__name__":=by decide)(U:(x==("__debug__":aA))=ak:=by decide):az (VC X.prog X.w) X.A (eval (.Name x pos) X.env) Q E s:=by
 obtain⟨Y,W,V⟩:=I.mod.blt;exact Yk I.ok.kind O (Calls.loadGlobal_builtin (by rw[I.ok.glob];exact I.mod.glob.keeps I.bk) L (by rw[I.ok.blt];exact W.keeps I.bk) ((V x hn).trans J) h) U
def tE(L:Gl X x)(J:X.mg x=aa u)(r:RelV v u)(O:(x==("__debug__":aA))=ak:=by decide):PE X (.Name x pos) (tC v) :=
 λ_ _ _ H _ I h=>ja I L J ⟨v,H,I,r,h⟩ O
def oY(O:Gl X x)(L:X.mg x=af)(J:Yb x=aa u)(r:RelV v u)(hn:x≠"__name__":=by decide)(U:(x==("__debug__":aA))=ak:=by decide):PE X (.Name x pos) (tC v) :=
 λ_ _ _ H _ I h=>jI I O L J ⟨v,H,I,r,h⟩ hn U
variable{a b:ZH}{ta tb:TE}{pos:Pos}
def tB(t:TE):TT:=fun J H Q=>t J H λx L=>∃c,x=.bl c/\Q c L
def J2(h:PE X e t)(U:∀J,isTrue e X.env J=(do let v ←J;aaV e.pos;Y6 [v] (truthy v)):=by intro _;rfl):PT X e (tB t):=by intro O s L H Q I hw;refine isTrue_plain (thn (h O s L H _ I hw) λv s1 ⟨x,H1,I1,r1,q1⟩=>?_) (U _);obtain⟨d,rfl,q⟩:=q1;cases r1;exact WE ⟨H1,I1,q⟩
variable{tA tB':TT}{rest:List ZH}
def NV(t u:TT):TT:=fun J H Q=>t J H λc L=>if c=ah then u J L Q else Q ak L
def tOr(t u:TT):TT:=fun J H Q=>t J H λc L=>if c=ah then Q ah L else u J L Q
def NW(t:TT):TT:=fun J H Q=>t J H λc L=>Q (!c) L
def F7(O:PT X a tA):PW X (.BoolOp .And [a] pos) tA:=by
 intro U L s J H Q I h;refine isTrue_and (thn (O L s J H Q I h) λc V e=>?_);cases c with
 |true=>exact isTrue_and_nil e|false=>exact e
def J3(O:PT X a tA):PW X (.BoolOp .Or [a] pos) tA:=by
 intro U L s J H Q I h;refine isTrue_or (thn (O L s J H Q I h) λc V e=>?_);cases c with
 |false=>exact isTrue_or_nil e|true=>exact e
def Cb(e:PT X a tA)(d:PW X (.BoolOp .And (b::rest) pos) tB'):PW X (.BoolOp .And (a::b::rest) pos) (NV tA tB'):=by
 intro Y L s J H Q I h;refine isTrue_and (thn (e L s J H _ I h) λc Z W=>?_);obtain⟨V,U,O⟩:=W;cases c with
 |true=>exact d Y L Z J V Q U O|false=>exact⟨V,U,O⟩
def Jo(e:PT X a tA)(d:PW X (.BoolOp .Or (b::rest) pos) tB'):PW X (.BoolOp .Or (a::b::rest) pos) (tOr tA tB'):=by
 intro Y L s J H Q I h;refine isTrue_or (thn (e L s J H _ I h) λc Z W=>?_);obtain⟨V,U,O⟩:=W;cases c with
 |true=>exact⟨V,U,O⟩|false=>exact d Y L Z J V Q U O
def J4(U:PT X a tA):PT X (.UnaryOp .Not a pos) (NW tA):=by intro O s L H Q I h;exact isTrue_not (thn (U O s L H (λc J=>Q (!c) J) I h) λc W z=>by obtain⟨J,V,q⟩:=z;exact⟨J,V,q⟩)
def Jp(ta tb:TE):TE:=fun J H Q=>ta J H λx L=>∃c,x=.bl c/\if c=ah then tb J L Q else Q (.bl ak) L
def NY(ta tb:TE):TE:=fun J H Q=>ta J H λx L=>∃c,x=.bl c/\if c=ah then Q (.bl ah) L else tb J L Q
def Jq(ta:TE):TE:=fun J H Q=>ta J H λx L=>∃c,x=.bl c/\Q (.bl (!c)) L
def Cd{op}(h:PE X a t):PE X (.BoolOp op [a] pos) t:=λL s J H Q I hw=>BoolOp_one (h L s J H Q I hw)
def Ce(e:PE X a ta)(d:PE X (.BoolOp .And (b::rest) pos) tb):PE X (.BoolOp .And (a::b::rest) pos) (Jp ta tb):=by
 intro O s L H Q I h;refine BoolOp_and (thn (e O s L H _ I h) λv Y W=>?_);obtain⟨x,V,U,Z,J⟩:=W;obtain⟨c,rfl,J⟩:=J;cases Z;refine WE ?_;cases c with
 |true=>exact d O Y L V Q U J|false=>exact⟨.bl ak,V,U,rfl,J⟩
def Jr(e:PE X a ta)(d:PE X (.BoolOp .Or (b::rest) pos) tb):PE X (.BoolOp .Or (a::b::rest) pos) (NY ta tb):=by
 intro O s L H Q I h;refine BoolOp_or (thn (e O s L H _ I h) λv Y W=>?_);obtain⟨x,V,U,Z,J⟩:=W;obtain⟨c,rfl,J⟩:=J;cases Z;refine WE ?_;cases c with
 |false=>exact d O Y L V Q U J|true=>exact⟨.bl ah,V,U,rfl,J⟩
def J7(W:PE X a ta):PE X (.UnaryOp .Not a pos) (Jq ta):=by intro O s L H Q I h;refine UnaryOp_ (thn (W O s L H _ I h) λv b U=>?_);obtain⟨x,Z,Y,V,J⟩:=U;obtain⟨c,rfl,J⟩:=J;cases V;exact not_of (WE ⟨.bl (!c),Z,Y,rfl,J⟩)
def tIf(t:TT)(ta tb:TE):TE:=fun J H Q=>t J H λc L=>if c=ah then ta J L Q else tb J L Q
def Cf(hc:PT X c tA)(e:PE X a ta)(Z:PE X b tb):PE X (.IfExp c a b pos) (tIf tA ta tb):=by
 intro L s J H Q I h;refine wpAny_IfExp (thn (hc L s J H _ I h) λd O Y=>?_);obtain⟨W,V,U⟩:=Y;cases d with
 |true=>exact e L O J W Q V U|false=>exact Z L O J W Q V U
end
end L2
namespace L2
open PySem PySem.Spec PyProof.Rows
def SqL(K:Ve)(H:Hp)(a:aB)(xs:List V):Prop :=
 Rd H a (.aD xs) ∨
  ∃(o:au) (J:Array aC) (n:Nat),K.lookup a=aa o/\o.cls=.type "list"/\o.dict=af/\o.data=.seq J n/\J.size<=ao/\dD xs J.toList
def SqT(K:Ve)(H:Hp)(a:aB)(xs:List V):Prop :=
 Rd H a (.aE xs) ∨
  ∃(o:au) (J:Array aC) (n:Nat),K.lookup a=aa o/\o.cls=.type "tuple"/\o.data=.seq J n/\J.size<=ao/\dD xs J.toList
noncomputable def RU:aC->Option V
 |.none=>aa .aF|.bool b=>aa (.bl b)|.int i _=>aa (.int i)|.str x _=>aa (.str x)|.bytes b _=>aa (.byt b)|.float b _=>aa (.flt b)|.ref a=>aa (.ref a)|.type n=>aa (.ty n)|_=>af
def RelV.abs(r:RelV x u):RU u=aa x:=by
 cases x with
 |aF=>cases r;rfl|bl _=>cases r;rfl|ref _=>cases r;rfl|ty _=>cases r;rfl|_=>obtain⟨t,rfl⟩:=r;rfl
def RelV.inj(r:RelV x u)(q:RelV y u):x=y:=Vp (r.abs.symm.trans q.abs)
theorem dD.inj:∀{xs ys:List V}{us:List aC},dD xs us->dD ys us->xs=ys
 |_,_,_,.nil,.nil=>rfl
 |_,_,_,.cons r t,.cons r' t'=>by rw[r.inj r',dD.inj t t']
section
variable{X:Cx}{zt:List (aB×au)}{σ:St}{H:Hp}{s:Vh}{a:aB}{xs ys:List V}
def Inv.list(I:Inv X zt σ H s)(h:SqL X.K H a xs):∃J:List aC,dD xs J/\PlainL s.heap a J.toArray/\xs.length<=ao:=by
 rcases h with h|⟨o,J,n,hk,hc,hd,hs,hz,r⟩
 ·obtain⟨z,J,n,r,e⟩:=h.ok I.aL;exact⟨J,r,⟨_,n,e,rfl,rfl,rfl⟩,z⟩
 ·refine⟨J.toList,r,⟨o,n,I.kIn a o hk,hc,hd,by simpa using hs⟩,?_⟩;have e:=r.length;simp only[VS]at e;lia
def Inv.tuple(I:Inv X zt σ H s)(h:SqT X.K H a xs):∃J:List aC,dD xs J/\IsTup s.heap a J.toArray/\xs.length<=ao:=by
 rcases h with h|⟨o,J,n,hk,hc,hs,hz,r⟩
 ·obtain⟨z,J,r,p⟩:=h.ok I.aL;exact⟨J,r,p,z⟩
 ·refine⟨J.toList,r,⟨o,I.kIn a o hk,hc,n,by simpa using hs⟩,?_⟩;have e:=r.length;simp only[VS]at e;lia
def Inv.u9(I:Inv X zt σ H s)(h:SqL X.K H a xs)(h':SqL X.K H a ys):xs=ys:=by
 obtain⟨L,r,⟨o,n,e,_,_,d⟩,_⟩:=I.list h;obtain⟨J,V,⟨W,Y,O,_,_,U⟩,_⟩:=I.list h';rw[e]at O;cases O;rw[d]at U
 injection U with d1 _
 have:L=J:=by simpa using bU Array.toList d1
 subst this;exact r.inj V
def Inv.Ay(I:Inv X zt σ H s)(h:SqT X.K H a xs)(h':SqT X.K H a ys):xs=ys:=by
 obtain⟨L,r,⟨o,e,_,n,d⟩,_⟩:=I.tuple h;obtain⟨J,V,⟨W,O,_,Y,U⟩,_⟩:=I.tuple h';rw[e]at O;cases O;rw[d]at U
 injection U with d1 _
 have:L=J:=by simpa using bU Array.toList d1
 subst this;exact r.inj V
end
noncomputable abbrev Cx.rA(X:Cx)(E:aC->Vh->Prop):Cx:={X with xe:=E}
noncomputable abbrev Cx.nox(X:Cx):Cx:=X.rA λ_ _=>False
def Cx.Ok.rA{X:Cx}(ok:X.Ok)(E:aC->Vh->Prop):(X.rA E).Ok :=
 ⟨ok.mod,ok.kind,ok.glob,ok.blt,ok.above,ok.inj,ok.has,ok.cab,ok.hd,ok.frames,ok.stk,ok.exf,ok.bs,ok.bsz,ok.noex,ok.exfs,ok.kE,ok.frf⟩
def Cx.Ok.kF{X:Cx}{E:aC->Vh->Prop}(ok:(X.rA E).Ok):X.Ok :=
 ⟨ok.mod,ok.kind,ok.glob,ok.blt,ok.above,ok.inj,ok.has,ok.cab,ok.hd,ok.frames,ok.stk,ok.exf,ok.bs,ok.bsz,ok.noex,ok.exfs,ok.kE,ok.frf⟩
section
variable{X:Cx}{zt:List (aB×au)}{σ:St}{H:Hp}{s:Vh}{E:aC->Vh->Prop}
def Inv.rA(I:Inv X zt σ H s)(E:aC->Vh->Prop):Inv (X.rA E) zt σ H s:=⟨I.ok.rA E,I.os,I.bare,I.base,I.loc,I.cell,I.free,I.freeC,I.pin,I.aL,I.len⟩
def Inv.kF(I:Inv (X.rA E) zt σ H s):Inv X zt σ H s:=⟨I.ok.kF,I.os,I.bare,I.base,I.loc,I.cell,I.free,I.freeC,I.pin,I.aL,I.len⟩
def SP.kF{D:Ends}(h:SP (X.rA E) zt D f s'):SP X zt D f s':=by
 cases f with
 |ret u=>obtain⟨v,J,L,I,r,q⟩:=h;exact⟨v,J,L,I.kF,r,q⟩|_=>obtain⟨J,L,I,q⟩:=h;exact⟨J,L,I.kF,q⟩
def PSs.nox{st:List ZA}(h:PSs X.nox st t):PSs X st t:=λL s J H D I hw =>
 Wk (h L s J H D (I.rA _) hw) (λ_ _ q=>q.kF) λ_ _ z=>WI z
end
section
variable{X:Cx}{st:ZA}{rest:List ZA}{t u:TS}{e:ZH}{te:TE}{pos:Pos}
def NZ:TS:=λD J H=>D.nx J H
def N3(t u:TS):TS:=λD J H=>t {D with nx:=u D} J H
def F8:PSs X [] NZ:=λ_ _ J H _ I h=>Zm ⟨J,H,I,h⟩
def vc(h1:PS X st t)(h2:PSs X rest u):PSs X (st::rest) (N3 t u):=by
 intro L s O H D I h;refine XA (thn (h1 L s O H {D with nx:=u D} I h) λf U q=>?_);cases f with
 |next =>
  obtain⟨J,W,V,q⟩:=q;exact h2 L U J W D V q
 |_=>exact q
def oZ(h1:PS X st t):PSs X [st] t:=by
 intro L s J H D I h;refine XA (thn (h1 L s J H D I h) λf O q=>?_);cases f with
 |next=>exact Zm q|_=>exact q
def RV:TS:=λD J H=>D.bk J H
def UH:TS:=λD J H=>D.ct J H
def Inv.quiet(I:Inv X zt σ H s):interactive X.env=ak:=by simp[interactive,I.ok.kind]
def N4(te:TE):TS:=λD J H=>te J H λ_ L=>D.nx J L
def F9(U:PE X e te)(O:Yt e af pos.line X.env=pure ak:=by rfl):PS X (.Expr e pos) (N4 te):=by intro L s J H D I h;exact wpAny_Expr_any (thn (U L s J H _ I h) λv s1 ⟨x,H1,I1,r1,q1⟩=>⟨J,H1,I1,q1⟩) I.quiet O
def RX(te:TE):TS:=λD J H=>te J H D.rt
def Cg(O:PE X e te):PS X (.Return (aa e) pos) (RX te):=by intro L s J H D I h;exact aao (thn (O L s J H _ I h) λv s1 ⟨x,H1,I1,r1,q1⟩=>⟨x,J,H1,I1,r1,q1⟩)
def RY(c:TT)(t u:TS):TS:=λD J H=>c J H λb L=>if b=ah then t D J L else u D J L
def N5(hc:PT X c tc)(e:PSs X a t)(Z:PSs X b u):PS X (.If c a b pos) (RY tc t u):=by
 intro L s J H D I h;refine wpAny_If (thn (hc L s J H _ I h) λd O Y=>?_);obtain⟨W,V,U⟩:=Y;cases d with
 |true=>exact e L O J W D V U|false=>exact Z L O J W D V U
end
abbrev TG:=V->St->Hp->(St->Hp->Prop)->Prop
abbrev TGs:=List V->St->Hp->(St->Hp->Prop)->Prop
def PG(X:Cx)(target:ZH)(t:TG):Prop :=
 ∀(O:List (aB×au)) (s:Vh) (L:St) (H:Hp) (v:V) (u:aC) (Q:St->Hp->Prop),Inv X O L H s->RelV v u->t v L H Q →
  az (VC X.prog X.w) X.A (Z5 target X.env u) (λ_ W=>∃J U,Inv X O J U W/\Q J U) X.xe s
def PGs(X:Cx)(ts:List ZH)(t:TGs):Prop :=
 ∀(O:List (aB×au)) (s:Vh) (L:St) (H:Hp) (U:List V) (W:List aC) (Q:St->Hp->Prop),Inv X O L H s->dD U W->t U L H Q →
  az (VC X.prog X.w) X.A (assignInOrder ((Xm ts X.env).map (·.2)) W) (λ_ Z=>∃J Y,Inv X O J Y Z/\Q J Y) X.xe s
abbrev N6:=V->V->V->Hp->(Hp->Prop)->Prop
def N7(X:Cx)(t:N6):Prop :=
 ∀(L:List (aB×au)) (s:Vh) (J:St) (H:Hp) (o i v:V) (O U u:aC) (Q:Hp->Prop),Inv X L J H s->RelV o O->RelV i U->RelV v u->t o i v H Q →
  az (VC X.prog X.w) X.A (setItem O U u) (λ_ Y=>∃W,Inv X L J W Y/\Q W) X.xe s
abbrev TIp:=V->V->Hp->VK->Prop
def PIp(X:Cx)(O:Zs)(t:TIp):Prop :=
 ∀(L:List (aB×au)) (s:Vh) (J:St) (H:Hp) (x y:V) (v u:aC) (Q:VK),Inv X L J H s->RelV x v->RelV y u->t x y H Q →
  az (VC X.prog X.w) X.A (inplaceOp O v u) (EP X L J Q) X.xe s
section
variable{X:Cx}{pos:Pos}
def yE(i:Nat):TG:=λv J H Q=>Q (J.set i (aa v)) H
def yF(O:X.N.Nodup)(hi:X.N[i]?=aa x)(J:Loc X.env.scope x)(L:X.fn x=ah\/X.env.scope.names.lookup x=aa .local:=by first|exact .inl rfl|exact .inr rfl|assumption):PG X (.Name x pos) (yE i):=by intro W s V H v u Q I r h;exact wpAny_assign_Name (pM I O hi J r (λY U=>⟨_,H,U,h⟩) L)
def N8:TGs:=λL J H Q=>L=[]/\Q J H
def N9(t:TG)(u:TGs):TGs:=λO L H Q=>∃v r,O=v::r/\t v L H fun J U=>u r J U Q
def Ga:PGs X [] N8:=by intro L s J H O U Q I r h;obtain⟨e,h⟩:=h;subst e;cases r;exact assignInOrder_nil ⟨J,H,I,h⟩
def Ci(h1:PG X e t)(h2:PGs X es u)
(Z:(Xm (e::es) X.env).map (·.2)=Z5 e X.env::(Xm es X.env).map (·.2):=by rfl):PGs X (e::es) (N9 t u):=by
 intro L s O H c d Q I r h;obtain⟨v,vr,e1,h⟩:=h;subst e1;cases r with
 |cons r W =>
  rw[Z];refine assignInOrder_cons (thn (h1 L s O H _ _ _ I r h) λ_ V U=>?_);obtain⟨J,b,a,Y⟩:=U;exact h2 L V J b _ _ Q a W Y
def RZ(K:Ve)(n:Nat)(t:TGs):TG:=λv L H Q=>∃a J,v=.ref a/\SqT K H a J/\J.length=n/\t J L H Q
def J9(hc:X.calm=ah)(h:PGs X es t)
(hn:(Xm es X.env).length=n:=by rfl)(J:(Xm es X.env).findIdx? (·.1)=af:=by rfl):PG X (.Tuple es k pos) (RZ X.K n t):=by
 intro O s L H v u Q I r hw;obtain⟨a,V,e1,c,d,hw⟩:=hw;subst e1;cases r;obtain⟨W,U,Z,i⟩:=I.tuple c;refine assign_Tuple_tuple (I.ok.hd hc) Z (by simp[hn,←d,U.length]) J λf Y=>?_;have g:Inv X O L H {s with heap:=f}:=I.aJ (t':=s.toks) λb o e=>Y b o (VI (Vq e)) e;exact h O _ L H V _ Q g (by simpa using U) hw
def Oa(to L:TE)(t:N6):TG:=λv J H Q=>to J H λo V=>L J V λi U=>t o i v U λO=>Q J O
def Ka(f:PE X o to)(hi:PE X i ti)(e:N7 X t)
(g:∀ v,Z5 (.Subscript o i pos) X.env v=(do
  let J ←Y6 [v] (eval o X.env)
  let O ←Y6 [v,J] (eval i X.env)
  aaV pos
  Y6 [v,J,O] (setItem J O v)
  release [v,J,O] []):=by intro _;rfl):PG X (.Subscript o i pos) (Oa to ti t):=by
 intro V s U H v u Q I r h;rw[g];refine Vf (V3 (thn (f V s U H _ I h) λJ Y L=>?_));obtain⟨x,p,l,a,d⟩:=L;refine Vf (V3 (thn (hi V Y U p _ l d) λO W L=>?_));obtain⟨y,n,k,Z,c⟩:=L;refine Vf (Yn (Vf (V3 (thn (e V W U n x y v J O u _ k a Z r c) λ_ q L=>?_))));obtain⟨m,j,b⟩:=L;exact wpAny_release ⟨U,m,j,b⟩
def Cj(te:TE)(g:TG):TS:=λD J H=>te J H λx L=>g x J L D.nx
def Ck(V:PE X e te)(U:PG X tg g)(O:swapsWithSole [tg] e pos.line X.env=pure ak:=by rfl)(hw:swappedStores [tg] e X.env=pure af:=by rfl)
(h1:(Xm [tg] X.env).map (·.2)=[Z5 tg X.env]:=by rfl):PS X (.Assign [tg] e pos) (Cj te g):=by
 intro L s J H D I h;refine wpAny_Assign_stores (thn (V L s J H _ I h) λv s1 ⟨x,H1,I1,r1,q1⟩=>?_) O hw;rw[h1];exact thn (U L s1 J H1 x v _ I1 r1 q1) λ_ W q=>q
def Co(Y:X.N.Nodup)(hi:X.N[i]?=aa x)(O:Loc X.env.scope x)(W:PE X e te)(U:Yt e (aa (.Name x pos')) pos.line X.env=pure ak:=by rfl)(V:X.fn x=ah\/X.env.scope.names.lookup x=aa .local:=by first|exact .inl rfl|exact .inr rfl|assumption):
 PS X (.Assign [.Name x pos'] e pos) (Cj te (yE i)):=by
 intro L s J H D I h;refine aap (thn (W L s J H _ I h) λv s1 ⟨y,H1,I1,r1,q1⟩=>?_) U;exact pM I1 Y hi O r1 (λa Z=>⟨_,H1,Z,q1⟩) V
def Ob(i:Nat)(te:TE)(L:TIp):TS:=λD J H=>∃x,J[i]?=aa (aa x)/\te J H λy U=>L x y U λz O=>D.nx (J.set i (aa z)) O
def Kc(B:X.N.Nodup)(hi:X.N[i]?=aa x)(Y:Loc X.env.scope x)(t:PE X e te)(n:PIp X op ti)(q:X.fn x=ah\/X.env.scope.names.lookup x=aa .local:=by first|exact .inl rfl|exact .inr rfl|assumption):
 PS X (.AugAssign (.Name x pos') op e pos) (Ob i te ti):=by
 intro U s Z H D I h;obtain⟨v,e1,h⟩:=h;obtain⟨m,hn,p⟩:=I.loc;have W:Vis X.env.scope x:=by rcases Y with k|k;exact .inl k;exact .inr (.inl k)
 obtain⟨u,r,l⟩:=p i x v hi e1 W;refine wpAny_AugAssign_Name ?_;have a:az (VC X.prog X.w) X.A (eval e X.env) (λw O=>az (VC X.prog X.w) X.A (inplaceOp op u w) (λr L=>az (VC X.prog X.w) X.A (storeName X.env x r) (λ_=>SP X U D .next) X.xe L) X.xe O) X.xe s:=by refine thn (t U s Z H _ I h) λw b V=>?_;obtain⟨y,K,F,f,j⟩:=V;refine thn (n U b Z K v y u w _ F r f j) λz Q V=>?_;obtain⟨M,G,E,d,g⟩:=V;exact pM E B hi Y d (λP C=>⟨_,G,C,g⟩) q
 rcases l with⟨J,o⟩|⟨J,c,hc,hcell⟩
 exact wpAny_loadName_local I.ok.kind J hn o a
 ·rcases J with J|J
  exact wpAny_loadName_cell I.ok.kind J hc hcell a
  ·rcases Y with k|k
   ·have:X.env.scope.names.lookup x=aa .free:=J;rw[k]at this;cases this
   ·have:X.env.scope.names.lookup x=aa .free:=J;rw[k]at this;cases this
end
section
variable{X:Cx}{pos:Pos}
def Cq(c:TT)(tb:TS):TS:=λD J H=>∃W:Nat->St->Hp->Prop,(∃m,W m J H)/\∀m J H,W m J H →
 c J H λb U=>if b=ah then ∃N:St->Hp->Prop,(∀L V,N L V->∃O,O<m/\W O L V)/\tb {D with nx:=N,ct:=N,bk:=D.nx} J U else D.nx J U
def Cr(i:aab (VC X.prog X.w) X.A X.env X.xe)(hc:PT X c tc)(v:PSs X body tb):PS X (.While c body [] pos) (Cq tc tb):=by
 intro V s o H D I h;obtain⟨W,⟨u,q⟩,turn⟩:=h;refine wpAny_While (codeAny_whileLoop (λn t=>∃L m,Inv X V L m t/\W n L m) ?_ u ⟨o,H,I,q⟩)
 rintro n s1 ⟨σ1,H1,I1,w1⟩
 refine Xg i (thn (hc V s1 σ1 H1 _ I1 (turn n σ1 H1 w1)) λb r p=>?_);obtain⟨l,k,U⟩:=p;cases b with
 |true =>
  obtain⟨N,j,U⟩:=U;rw[bM rfl];refine Xg i (thn (v V r σ1 l _ k U) λf x Z=>?_);cases f with
  |next =>
   obtain⟨J,O,g,a⟩:=Z;obtain⟨d,e,Y⟩:=j J O a;exact⟨d,e,J,O,g,Y⟩
  |cont =>
   obtain⟨J,O,g,a⟩:=Z;obtain⟨d,e,Y⟩:=j J O a;exact⟨d,e,J,O,g,Y⟩
  |_=>exact Z
 |false =>
  rw[bN V0];exact Zm ⟨σ1,l,k,U⟩
end
structure It where
 go:Nat->Hp->Prop
 yld:Nat->Hp->V->Hp->Prop
 stop:Nat->Hp->Prop
def rC(X:Cx)(zt:List (aB×au))(H:Hp)(b:aB):Prop :=
 H b=af/\b≠X.env.locals/\b∉X.fs/\(b∈X.ex\/X.s₀.heap.objs.size<=b)/\(∀x c,X.env.cells.lookup x=aa c->c≠b)/\∀p∈X.pn++zt,p.1≠b
def Inv.Gb(I:Inv X zt σ H s)(J:s.heap.objs.size<=b)(hn:H' b=af):rC X zt H' b:=by
 refine⟨hn,Xy (VL I.lt J),I.RQ J,.inr (VJ I.sz J),λx c e z=>?_,λp L z=>?_⟩
 ·obtain⟨v,q⟩:=I.cell x c e;exact bO (VL q.lt (by rw[z];exact J)) (V5 _)
 exact bO (VL (Vq (I.pin p L).1) (by rw[z];exact J)) (V5 _)
structure Turn(P:Vy)(w:VQ)(K:Ve)(tg:ZH)(J:It)(fp:List aB)(it:aB)(tn:Nat->av->Prop):Prop where
 mem:it∈fp
 obj:∀i h,tn i h->∀b∈fp,∃o,h.get? b=aa o/\∀v,o.data≠.cell v
 keep:∀i h h',tn i h->(∀b∈fp,∀o,h.get? b=aa o->h'.get? b=aa o)->tn i h'
 item:∀(X:Cx),X.prog=P->X.w=w->X.K=K->X.calm=ah->∀(i:Nat)(zt:List (aB×au)) (s:Vh) (σ:St) (H:Hp) (E:aC->Vh->Prop),Inv X zt σ H s->(∀b∈fp,rC X zt H b)->tn i s.heap->J.go i H →
  az (VC P w) X.A (Zz (.ref it)) (λr s1=>∃ u,r=aa u ∧
   az (VC P w) X.A (Yv tg (.ref it) u) (λ_ s2=>∃ x H',Inv X zt σ H' s2/\RelV x u/\J.yld i H x H'/\tn (i+1) s2.heap/\∀ b∈fp,H' b=af) E s1) E s
 done:∀(X:Cx),X.prog=P->X.w=w->X.K=K->X.calm=ah->∀(i:Nat)(zt:List (aB×au)) (s:Vh) (σ:St) (H:Hp) (E:aC->Vh->Prop),Inv X zt σ H s->(∀b∈fp,rC X zt H b)->tn i s.heap->J.stop i H →
  az (VC P w) X.A (Zz (.ref it)) (λr s1=>r=af/\Inv X zt σ H s1) E s
 self:∀(A:V9)(i:Nat)(s:Vh)(Q:aC->Vh->Prop) (E:aC->Vh->Prop),tn i s.heap->Q (.ref it) s->az (VC P w) A (pyIter (.ref it)) Q E s
abbrev TI:=St->Hp->(It->Hp->Prop)->Prop
def PIE(X:Cx)(zt:List (aB×au))(σ:St)(tg:ZH)(R:It->Hp->Prop)(L:aC)(s2:Vh):Prop :=
 ∃(V:aB) (W:List aB) (U:Nat->av->Prop) (J:It) (O:Hp),L=.ref V/\Inv X zt σ O s2/\Turn X.prog X.w X.K tg J W V U/\U 0 s2.heap/\(∀b∈W,rC X zt O b)/\R J O
def PI(X:Cx)(tg iter:ZH)(O:TI):Prop :=
 ∀(L:List (aB×au)) (s:Vh) (J:St) (H:Hp) (R:It->Hp->Prop),Inv X L J H s->O J H R →
  az (VC X.prog X.w) X.A (eval iter X.env) (λv U=>az (VC X.prog X.w) X.A (pyIter v) (PIE X L J tg R) X.xe U) X.xe s
def yG{E:aC->Vh->Prop}(L:s.heap.get? it=aa o)(hc:o.cls=.type n)(O:o.data=.fields vs)
(hn:["enumerate","zip","dict_itemiterator","dict_reverseitemiterator","odict_iterator","itertools.zip_longest","itertools.pairwise"].contains n=ak)(J:Q () s):az M A (Yv tg (.ref it) u) Q E s:=by
 unfold Yv;cases tg<;>first
  |exact ay J
  | (cases u<;>first
   |exact ay J
   | (refine Vf (wpAny_load L ?_)
      rw[hc,O];show az M A (if (["enumerate","zip","dict_itemiterator","dict_reverseitemiterator","odict_iterator","itertools.zip_longest","itertools.pairwise"].contains n&&vs[0]?==aa (Zn _))=ah then _ else _) Q E s;rw[bN (by intro h;rw[hn,Bool.false_and] at h;cases h)];exact ay J))
noncomputable def Itl(K:Ve)(a:aB):It :=
 ⟨λi H=>∃J x,SqL K H a J/\J[i]?=aa x,λi H x L=>L=H/\∀J,SqL K H a J->J[i]?=aa x,λi H=>∃J,SqL K H a J/\J.length<=i⟩
noncomputable def Itt(K:Ve)(a:aB):It :=
 ⟨λi H=>∃J x,SqT K H a J/\J[i]?=aa x,λi H x L=>L=H/\∀J,SqT K H a J->J[i]?=aa x,λi H=>∃J,SqT K H a J/\J.length<=i⟩
noncomputable def Itr(lo:Int)(n:Nat):It:=⟨λi _=>i<n,λi H x J=>J=H/\x=.int (lo+i),λi _=>n<=i⟩
theorem Az{K:Ve}(a J:aB):Turn P w K tg (Itl K a) [J] J (λi h=>h.IsListIter J a i) where
 mem:=by simp
 obj:=λi h st b L=>by
  have e:b=J:=by simpa using L
  subst e;obtain⟨o,e,c,d⟩:=st;exact⟨o,e,λv z=>by rw[d]at z;cases z⟩
 keep:=λi h W st k=>st.at λo e=>k J (by simp) o e
 item:=by intro X j hw l hc i A s y H E I V st g;subst j hw l;obtain⟨B,x,U,f⟩:=g;obtain⟨Z,Y,p,F⟩:=I.list U;obtain⟨u,M,D⟩:=Y.get f;obtain⟨t,r,N,q,n,m⟩:=V J (by simp);refine wpAny_pyNext_list_item st p.isList (x:=u) (by simpa using M) λW O C=>?_;have R:Inv X A y H {s with heap:=W}:=I.turned (t':=s.toks) (λb o L e=>(C.2 b L).trans e) t r q n m;obtain⟨o,e,c,d⟩:=id O;exact⟨u,rfl,yG (s:={s with heap:=W}) e c d (by decide) ⟨x,H,R,D,⟨rfl,λS G=>by rw[I.u9 G U];exact f⟩,O,λb L=>(V b L).1⟩⟩
 done:=by intro X j hw l hc i A s y H E I V st g;subst j hw l;obtain⟨B,U,f⟩:=g;obtain⟨Z,Y,p,F⟩:=I.list U;obtain⟨t,r,N,q,n,m⟩:=V J (by simp);have T:=Y.length;exact wpAny_pyNext_list_end (I.ok.hd hc) st p.isList (by simp;lia) λW Q=>⟨rfl,I.turned (t':=s.toks) (λb o L e=>Q b o L e) t r q n m⟩
 self:=λ_ _ _ _ _ st h=>wpAny_pyIter_listiter st h
theorem xm{K:Ve}(a L:aB):Turn P w K tg (Itt K a) [L] L (λi h=>h.IsTupleIter L a i) where
 mem:=by simp
 obj:=λi h st b O=>by
  have e:b=L:=by simpa using O
  subst e;obtain⟨o,e,c,d⟩:=st;exact⟨o,e,λv z=>by rw[d]at z;cases z⟩
 keep:=λi h Y st k=>st.at λo e=>k L (by simp) o e
 item:=by intro X j hw l hc i A s y H E I W st g;subst j hw l;obtain⟨B,x,V,f⟩:=g;obtain⟨J,Z,p,F⟩:=I.tuple V;obtain⟨u,M,D⟩:=Z.get f;obtain⟨t,r,N,q,n,m⟩:=W L (by simp);refine wpAny_pyNext_tuple_item st (show s.heap.IsTuple a J.toArray from p) (x:=u) (by simpa using M) λY U C=>?_;have R:Inv X A y H {s with heap:=Y}:=I.turned (t':=s.toks) (λb o O e=>(C.2 b O).trans e) t r q n m;obtain⟨o,e,c,d⟩:=id U;exact⟨u,rfl,yG (s:={s with heap:=Y}) e c d (by decide) ⟨x,H,R,D,⟨rfl,λS G=>by rw[I.Ay G V];exact f⟩,U,λb O=>(W b O).1⟩⟩
 done:=by intro X j hw l hc i A s y H E I W st g;subst j hw l;obtain⟨B,V,f⟩:=g;obtain⟨J,Z,p,F⟩:=I.tuple V;obtain⟨t,r,N,q,n,m⟩:=W L (by simp);have T:=Z.length;exact wpAny_pyNext_tuple_end (I.ok.hd hc) st (show s.heap.IsTuple a J.toArray from p) (by simp;lia) λY Q=>⟨rfl,I.turned (t':=s.toks) (λb o O e=>Q b o O e) t r q n m⟩
 self:=λ_ _ _ _ _ st h=>wpAny_pyIter_tupleiter st h
theorem xo{K:Ve}(J:aB)(lo:Int)(n:Nat):Turn P w K tg (Itr lo n) [J] J (λi h=>IsRangeIter h J (lo+(i:Nat)*1) ((n:Int)-(i:Nat)) 1) where
 mem:=by simp
 obj:=λi h st b L=>by
  have e:b=J:=by simpa using L
  subst e;exact⟨_,st,λv z=>by have q:Data.fields _=Data.cell v:=z;cases q⟩
 keep:=λi h V st k=>k J (by simp) _ st
 item:=by intro X Z hw a hc i m s l H E I U st Y;subst Z hw a;obtain⟨j,g,x,f,d,c⟩:=U J (by simp);have W:=Walks.range (prog:=X.prog) (w:=X.w) (I.ok.hd hc) J lo 1 n;refine W.item i s _ _ Y st λv V p u O r=>?_;obtain⟨t,rfl⟩:=u;have A:Inv X m l H {s with heap:=V,toks:=p}:=I.turned (λb o L e=>r b o (by simpa using L) e) j g f d c;refine⟨_,rfl,yG (s:={s with heap:=V,toks:=p}) (n:="range_iterator") O rfl rfl (by decide) ⟨.int (lo+i),H,A,⟨t,?_⟩,⟨rfl,rfl⟩,O,λb L=>(U b L).1⟩⟩;rw[Int.mul_one]
 done:=by intro X Z hw a hc i m s l H E I U st Y;subst Z hw a;obtain⟨j,g,x,f,d,c⟩:=U J (by simp);exact wpAny_pyNext_range_end (I.ok.hd hc) st (by have:n<=i:=Y;lia) λV y=>⟨rfl,I.turned (t':=s.toks) (λb o L e=>y b o L e) j g f d c⟩
 self:=λ_ _ _ _ _ st h=>wpAny_pyIter_rangeiter st h
end L2
namespace L2
open PySem PySem.Spec PyProof.Rows
section
variable{X:Cx}{tg:ZH}
def Oc(K:Ve)(tl:TE):TI:=fun L H R=>tl L H λx J=>∃a,x=.ref a/\(∃O,SqL K J a O)/\R (Itl K a) J
def R6(K:Ve)(tl:TE):TI:=fun L H R=>tl L H λx J=>∃a,x=.ref a/\(∃O,SqT K J a O)/\R (Itt K a) J
def yH(d:PE X l tl):PI X tg l (Oc X.K tl):=by
 intro U s O H R I h;refine thn (d U s O H _ I h) λv J V=>?_;obtain⟨x,g,L,W,Y⟩:=V;obtain⟨a,e,⟨i,c⟩,q⟩:=Y;subst e;cases W;obtain⟨Z,j,p,k⟩:=L.list c;refine wpAny_pyIter_list p.isList ?_;refine⟨J.heap.objs.size,[J.heap.objs.size],_,_,g,rfl,L.aJ (t':=J.toks) λb o e=>Vk _ e,Az a _,⟨_,Vw _ rfl,rfl,rfl⟩,λb f=>?_,q⟩;have e:b=J.heap.objs.size:=by simpa using f
 subst e;exact L.Gb (Vo _) (L.aL.fresh (Vo _))
def Ke(d:PE X l tl):PI X tg l (R6 X.K tl):=by
 intro V s U H R I h;refine thn (d V s U H _ I h) λv J W=>?_;obtain⟨x,g,L,Y,Z⟩:=W;obtain⟨a,e,⟨i,c⟩,q⟩:=Z;subst e;cases Y;obtain⟨O,j,p,k⟩:=L.tuple c;refine wpAny_pyIter_tuple (show J.heap.IsTuple a O.toArray from p) ?_;refine⟨J.heap.objs.size,[J.heap.objs.size],_,_,g,rfl,L.aJ (t':=J.toks) λb o e=>Vk _ e,xm a _,⟨_,Vw _ rfl,rfl,rfl⟩,λb f=>?_,q⟩;have e:b=J.heap.objs.size:=by simpa using f
 subst e;exact L.Gb (Vo _) (L.aL.fresh (Vo _))
def vd{E:aC->Vh->Prop}{lo:Int}(I:Inv X zt σ H s)(h1:-(2^62)<=lo)(h2:lo<2^62)(U:-(2^62)<=hi)(O:hi<2^62)
(q:R (Itr lo (hi-lo).toNat) H):az (VC X.prog X.w) X.A (pyIter (.ref s.heap.objs.size)) (PIE X zt σ tg R) E {s with heap:=s.heap.push {cls:=.type "range",data:=.fields #[.int lo t,.int hi u,.int 1 v]},toks:=tk}:=by
 refine wpAny_pyIter_range (IsRange.new ..) (small_one h1 h2 U O) ?_;have J:Inv X zt σ H { s with heap:=s.heap.push { cls:=.type "range",data:=.fields #[.int lo t,.int hi u,.int 1 v] },toks:=tk }:=I.aJ λb o e=>Vk _ e;refine ⟨(s.heap.push { cls:=.type "range",data:=.fields #[.int lo t,.int hi u,.int 1 v] }).objs.size,[(s.heap.push { cls:=.type "range",data:=.fields #[.int lo t,.int hi u,.int 1 v] }).objs.size],_,_,H,rfl,
  J.aJ (t':=tk) λb o e=>Vk _ e,xo _ lo (hi - lo).toNat,?_,λb L=>?_,q⟩
 ·have e1:lo+((0:Nat):Int)*1=lo:=by simp
  have e2:(((hi-lo).toNat:Nat):Int)-((0:Nat):Int)=Builtin.Range.rangeSize lo hi 1:=by rw[rangeSize_one];split<;>lia
  show IsRangeIter _ _ (lo+((0:Nat):Int)*1) ((((hi-lo).toNat:Nat):Int)-((0:Nat):Int)) 1;rw[e1,e2];exact Vw _ rfl
 ·have e:b=(s.heap.push {cls:=.type "range",data:=.fields #[.int lo t,.int hi u,.int 1 v]}).objs.size:=by simpa using L
  subst e;exact J.Gb (Vo _) (J.aL.fresh (Vo _))
def Od(ta:TA):TI:=fun J H R=>ta J H λL O=>∃j:Int,L=[.int j]/\-(2^62)<=j/\j<2^62/\R (Itr 0 j.toNat) O
def Oe(ta:TA):TI:=fun J H R=>ta J H λL O=>∃i j:Int,L=[.int i,.int j]/\(-(2^62)<=i/\i<2^62/\-(2^62)<=j/\j<2^62)/\R (Itr i (j-i).toNat) O
def AA(Z:Gl X "range")(Y:X.mg "range"=af)(b:PA X [a] ta)(W:VR [a] X.env=[(ak,eval a X.env)]:=by rfl):PI X tg (.Call (.Name "range" p) [a] [] pos) (Od ta):=by
 intro O s L H R I h;refine Call_ (jI I Z Y boot_range (Wi (thn (b pos O s L H _ I h) λus s1 ⟨vs,H1,I1,r1,J⟩=>?_) W rfl));obtain⟨j,e,J,V,q⟩:=J;subst e;cases r1 with
 |cons r U =>
  cases U;obtain⟨t,rfl⟩:=r;exact call_range_1 (vd I1 (by lia) (by lia) J V (by simpa using q))
def AB(g:Gl X "range")(f:X.mg "range"=af)(k:PA X [a,b] ta)(d:VR [a,b] X.env=[(ak,eval a X.env),(ak,eval b X.env)]:=by rfl)(J:VR [b] X.env=[(ak,eval b X.env)]:=by rfl):
 PI X tg (.Call (.Name "range" p) [a,b] [] pos) (Oe ta):=by
 intro V s U H R I h;refine Call_ (jI I g f boot_range (Wi (thn (k pos V s U H _ I h) λus s1 ⟨vs,H1,I1,r1,O⟩=>?_) (by rw[d,J]) (by rw[J];rfl)));obtain⟨i,j,e,⟨O,c,Z,Y⟩,q⟩:=O;subst e;cases r1 with
 |cons r L =>
  cases L with
  |cons W L =>
   cases L;obtain⟨t,rfl⟩:=r;obtain⟨l,rfl⟩:=W;exact call_range_2 (vd I1 O c Z Y q)
def Kf(Z:TI)(g:TG)(tb:TS):TS:=λD L H=>Z L H λJ b=>∃W:Nat->Nat->St->Hp->Prop,(∃m,W 0 m L b)/\∀i m L H,W i m L H →
 (J.stop i H/\D.nx L H)\/(J.go i H/\∃N:St->Hp->Prop,(∀O U,N O U->∃Y,Y<m/\W (i+1) Y O U)/\∀x U,J.yld i H x U->g x L U fun V a=>tb {D with nx:=N,ct:=N,bk:=D.nx} V a)
noncomputable def lY(fp:List aB)(h:av):List (aB×au):=fp.filterMap λb=>(h.get? b).map λo=>(b,o)
def gQ(J:b∈fp)(e:h.get? b=aa o):(b,o)∈lY fp h:=List.mem_filterMap.mpr ⟨b,J,by rw[e];rfl⟩
def AC(J:p∈lY fp h):p.1∈fp/\h.get? p.1=aa p.2:=by
 obtain⟨b,L,e⟩:=List.mem_filterMap.mp J;cases q:h.get? b with
 |none=>rw[q]at e;cases e
 |some o =>
  rw[q]at e;have O:(b,o)=p:=Vp e;subst O;exact⟨L,q⟩
def Inv.pinned(I:Inv X zt σ H s)(V:∀b∈fp,rC X zt H b)(U:∀b∈fp,∃o,s.heap.get? b=aa o/\∀v,o.data≠.cell v):Inv X (zt++lY fp s.heap) σ H s :=
 I.lg λp O=>(List.mem_append.mp O).elim (λz=>I.pin p (VP _ z)) λz=>by obtain⟨J,e⟩:=AC z;obtain⟨Z,Y,W,_⟩:=V p.1 J;obtain⟨o,L,d⟩:=U p.1 J;rw[e]at L;cases L;exact⟨e,Z,Y,W,d⟩
def Inv.mH(I:Inv X (zt++pl) σ H s):Inv X zt σ H s:=I.lg λp J=>I.pin p (VP _ (Xe _ J))
def Cs{K:TI}(p:aab (VC X.prog X.w) X.A X.env X.xe)(hc:X.calm=ah)(hi:PI X tg iter K)(hg:PG X tg g)(V:PSs X body tb)
(hs:∀x,aas iter X.env x=pure x:=by intro _;rfl):PS X (.For tg iter body [] pos) (Kf K g tb):=by
 intro c s G H D I h;refine wpAny_For (thn (hi c s G H _ I h) λv s1 h1=>thn h1 λitv s2 h2=>?_) hs;obtain⟨it,q,M,J,H2,e,I2,T,y,R,W,⟨m0,w0⟩,turn⟩:=h2;subst e;have U:∀{Z:Hp},(∀b∈q,Z b=af)->∀b∈q,rC X c Z b:=λhn b V=>⟨hn b V,(R b V).2⟩;refine codeAny_forLoop_any (λn Q=>∃i O Z,Inv X c O Z Q/\M i Q.heap/\(∀b∈q,Z b=af)/\W i n O Z) ?_ m0 ⟨0,G,H2,I2,y,λb V=>(R b V).1,w0⟩
 rintro n s3 ⟨i,σ3,H3,I3,st3,fr3,w3⟩
 rcases turn i n σ3 H3 w3 with⟨stop,qn⟩|⟨go,N,hN,step⟩
 ·refine Xg p (thn (T.done X rfl rfl rfl hc i c s3 σ3 H3 X.xe I3 (U fr3) st3 stop) λr s4 j=>?_);obtain⟨C,I4⟩:=j;subst C;exact Zm ⟨σ3,H3,I4,qn⟩
 ·refine Xg p (thn (T.item X rfl rfl rfl hc i c s3 σ3 H3 X.xe I3 (U fr3) st3 go) λr s4 j=>?_);obtain⟨u,C,h4⟩:=j;subst C;refine Xg p (thn h4 λ_ P j=>?_);obtain⟨x,S,I5,r5,y5,k,E⟩:=j;have F:=I5.pinned (U E) (T.obj _ _ k);refine Xg p (thn (hg _ P σ3 S x u _ F r5 (step x S y5)) λ_ s6 j=>?_);obtain⟨t,H6,I6,q6⟩:=j;refine Xg p (thn (V _ s6 t H6 _ I6 q6) λf z l=>?_);have again:∀{L:St}{Y:Hp},Inv X (c++lY q P.heap) L Y z->N L Y->∃m,m<n/\∃i O Z,Inv X c O Z z/\M i z.heap/\(∀b∈q,Z b=af)/\W i m O Z:=λ{L Y} a B=>by obtain⟨m',hm,w7⟩:=hN L Y B;refine⟨m',hm,i+1,L,Y,a.mH,T.keep _ _ _ k λb V o e=>(a.pin (b,o) (VP _ (VP _ (gQ V e)))).1,λb V=>?_,w7⟩;obtain⟨o,e,d⟩:=T.obj _ _ k b V;exact(a.pin (b,o) (VP _ (VP _ (gQ V e)))).2.1
  cases f with
  |brk=>obtain⟨L,Y,a,l⟩:=l;exact⟨L,Y,a.mH,l⟩|ret v=>obtain⟨x7,L,Y,a,r7,l⟩:=l;exact⟨x7,L,Y,a.mH,r7,l⟩|_=>obtain⟨L,Y,a,B⟩:=l;exact again a B
end
end L2
namespace L2
open PySem PySem.Spec PyProof.Rows
abbrev R2:=V->V->Hp->VK->Prop
def OpR(X:Cx)(f:aC->aC->Sem aC)(r:R2):Prop :=
 ∀(L:List (aB×au)) (s:Vh) (J:St) (H:Hp) (x y:V) (v u:aC) (Q:VK),Inv X L J H s->RelV x v->RelV y u->r x y H Q →
  az (VC X.prog X.w) X.A (f v u) (EP X L J Q) X.xe s
def UnR(X:Cx)(f:aC->Sem aC)(r:V->Hp->VK->Prop):Prop :=
 ∀(L:List (aB×au)) (s:Vh) (J:St) (H:Hp) (x:V) (v:aC) (Q:VK),Inv X L J H s->RelV x v->r x H Q →
  az (VC X.prog X.w) X.A (f v) (EP X L J Q) X.xe s
def fQ(X:Cx)(f:aC)(r:List V->Hp->VK->Prop):Prop :=
 ∀(L:List (aB×au)) (s:Vh) (J:St) (H:Hp) (O:List V) (U:List aC) (Q:VK),Inv X L J H s->dD O U->r O H Q →
  az (VC X.prog X.w) X.A (call f U) (EP X L J Q) X.xe s
def tOp(r:R2)(ta tb:TE):TE:=fun J H Q=>ta J H λx O=>tb J O λy L=>r x y L Q
def tUn(r:V->Hp->VK->Prop)(ta:TE):TE:=fun J H Q=>ta J H λx L=>r x L Q
def rI(C:Int->Int->Prop)(g:Int->Int->V):R2:=λx y H Q=>∃i j,x=.int i/\y=.int j/\C i j/\Q (g i j) H
def rI0(g:Int->Int->V):R2:=λx y H Q=>∃i j,x=.int i/\y=.int j/\Q (g i j) H
def rU(g:Int->V):V->Hp->VK->Prop:=λx H Q=>∃i,x=.int i/\Q (g i) H
section
variable{X:Cx}{a b c:ZH}{ta tb tc:TE}{pos:Pos}
def Kg(g:PE X a ta)(e:PE X b tb){zt:List (aB×au)}{s:Vh}{σ:St}{H:Hp}{R:V->V->Hp->Prop}(I:Inv X zt σ H s)
(h:ta σ H λx H1=>tb σ H1 λy H2=>R x y H2){Q:aC->Vh->Prop}{f:aC->aC->Sem aC}
(d:∀v u s2 x y H2,Inv X zt σ H2 s2->RelV x v->RelV y u->R x y H2->az (VC X.prog X.w) X.A (f v u) Q X.xe s2):
 az (VC X.prog X.w) X.A (eval a X.env) (λv L=>az (VC X.prog X.w) X.A (eval b X.env) (λu J=>az (VC X.prog X.w) X.A (f v u) Q X.xe J) X.xe L) X.xe s:=by
 refine thn (g zt s σ H _ I h) λv U O=>?_;obtain⟨x,H1,j,Y,c⟩:=O;refine thn (e zt U σ H1 _ j c) λu s2 O=>?_;obtain⟨y,H2,i,W,Z⟩:=O;exact d v u s2 x y H2 i Y W Z
def Of{J:Zs}{r:R2}(Y:OpR X (WT J) r)(c:PE X a ta)(Z:PE X b tb):PE X (.BinOp a J b pos) (tOp r ta tb):=by intro O s L H Q I h;exact wpAny_BinOp (Kg c Z I h λv u U x y e d W V q=>Y O U L e x y v u Q d W V q)
def Js(O:UnR X (unaryOp op) r)(U:PE X a ta):PE X (.UnaryOp op a pos) (tUn r ta):=by intro L s J H Q I h;exact UnaryOp_ (thn (U L s J H _ I h) λv s1 ⟨x,H1,I1,r1,q1⟩=>O L s1 J H1 x v Q I1 r1 q1)
def opI{f:aC->aC->Sem aC}{C:Int->Int->Prop}{g:Int->Int->Int}
(rule:∀(i j:Int)(t u:Tok)(s:Vh)(Q:aC->Vh->Prop) (E:aC->Vh->Prop),C i j->Q (.int (g i j) s.toks) {s with toks:=s.toks+1}->az (VC X.prog X.w) X.A (f (.int i t) (.int j u)) Q E s):
 OpR X f (rI C λi j=>.int (g i j)):=by
 intro V s U H x y v u Q I O L h;obtain⟨i,j,rfl,rfl,hc,q⟩:=h;obtain⟨t,rfl⟩:=O;obtain⟨J,rfl⟩:=L;exact rule i j t J s _ _ hc ⟨.int (g i j),H,I.tok _,⟨_,rfl⟩,q⟩
def Og{f:aC->aC->Sem aC}{g:Int->Int->Int}
(rule:∀(i j:Int)(t u:Tok)(s:Vh)(Q:aC->Vh->Prop) (E:aC->Vh->Prop),Q (.int (g i j) s.toks) {s with toks:=s.toks+1}->az (VC X.prog X.w) X.A (f (.int i t) (.int j u)) Q E s):
 OpR X f (rI0 λi j=>.int (g i j)):=by
 intro V s U H x y v u Q I O L h;obtain⟨i,j,rfl,rfl,q⟩:=h;obtain⟨t,rfl⟩:=O;obtain⟨J,rfl⟩:=L;exact rule i j t J s _ _ ⟨.int (g i j),H,I.tok _,⟨_,rfl⟩,q⟩
def Gc{f:aC->aC->Sem aC}{g:Int->Int->Bool}
(rule:∀(i j:Int)(t u:Tok)(s:Vh)(Q:aC->Vh->Prop) (E:aC->Vh->Prop),Q (.bool (g i j)) s->az (VC X.prog X.w) X.A (f (.int i t) (.int j u)) Q E s):
 OpR X f (rI0 λi j=>.bl (g i j)):=by
 intro V s U H x y v u Q I O L h;obtain⟨i,j,rfl,rfl,q⟩:=h;obtain⟨t,rfl⟩:=O;obtain⟨J,rfl⟩:=L;exact rule i j t J s _ _ ⟨.bl (g i j),H,I,rfl,q⟩
def R8(i j:Int):Prop:=0<j/\j<1073741824
def Gd(i j:Int):Prop:=(-(2^64)<i/\i<2^64)\/(-(2^64)<j/\j<2^64)
def Gd.ok(h:Gd i j):IntMulOk i j:=by
 rcases h with⟨L,J⟩|⟨L,J⟩
 exact .of_left (intBits_le_64 L J);exact .of_right (intBits_le_64 L J)
def Kl:OpR X (WT .Add) (rI0 λi j=>.int (i+j)):=Og λ_ _ _ _ _ _ _ q=>add_int q
def Km:OpR X (WT .Sub) (rI0 λi j=>.int (i-j)):=Og λ_ _ _ _ _ _ _ q=>sub_int q
def Kn:OpR X (WT .Mult) (rI Gd λi j=>.int (i*j)):=opI λ_ _ _ _ _ _ _ hc q=>mul_int q hc.ok
def Ge:OpR X (WT .FloorDiv) (rI R8 λi j=>.int (i/j)):=opI λi j _ _ _ _ _ hc q=>by have L:(0:Int)<j:=hc.1;have J:j<1073741824:=hc.2;exact floordiv_int (by lia) (by rw[Int.fdiv_eq_ediv_of_nonneg i (by lia)];exact q) (.inl (PyProof.noPylong_small (by lia)))
def Ko:OpR X (WT .Mod) (rI (λ_ j=>0<j) λi j=>.int (i%j)):=opI λi j _ _ _ _ _ hc q=>by have J:(0:Int)<j:=hc;exact mod_int' (by lia) (by rw[Int.fmod_eq_emod_of_nonneg i (by lia)];exact q)
def unI{f:aC->Sem aC}{g:Int->Int}
(rule:∀(i:Int)(t:Tok)(s:Vh)(Q:aC->Vh->Prop) (E:aC->Vh->Prop),Q (.int (g i) s.toks) {s with toks:=s.toks+1}->az (VC X.prog X.w) X.A (f (.int i t)) Q E s):
 UnR X f (rU λi=>.int (g i)):=by
 intro O s L H x v Q I J h;obtain⟨i,rfl,q⟩:=h;obtain⟨t,rfl⟩:=J;exact rule i t s _ _ ⟨.int (g i),H,I.tok _,⟨_,rfl⟩,q⟩
def Ct:UnR X (unaryOp .USub) (rU λi=>.int (-i)):=unI λ_ _ _ _ _ q=>neg_int q
end
section
variable{X:Cx}{a b c:ZH}{ta tb tc:TE}{pos:Pos}
def Cu(I:Inv X zt σ H s)(q:Q (.bl k) H)(e:k=k'):EP X zt σ Q (.bool k') s:=by subst e;exact⟨.bl k,H,I,rfl,q⟩
def Oh:OpR X (Wj .Lt) (rI0 λi j=>.bl (decide (i<j))):=Gc λ_ _ _ _ _ _ _ q=>lt_int q
def Oi:OpR X (Wj .LtE) (rI0 λi j=>.bl (decide (i<=j))):=Gc λ_ _ _ _ _ _ _ q=>le_int q
def Oj:OpR X (Wj .Gt) (rI0 λi j=>.bl (decide (j<i))):=Gc λ_ _ _ _ _ _ _ q=>gt_int q
def Ol:OpR X (Wj .GtE) (rI0 λi j=>.bl (decide (j<=i))):=Gc λ_ _ _ _ _ _ _ q=>ge_int q
def Kp:OpR X (Wj .Is) (λx y H Q=>y=.aF/\Q (.bl (decide (x=.aF))) H):=by
 intro U s O H x y v u Q I J L h;obtain⟨rfl,q⟩:=h;cases L;refine is_none_gen (Cu I q ?_);cases x<;>first
  |(cases J;rfl)
  |(obtain⟨t,rfl⟩:=J;rfl)
def Gf:OpR X (Wj .IsNot) (λx y H Q=>y=.aF/\Q (.bl (!decide (x=.aF))) H):=by
 intro U s O H x y v u Q I J L h;obtain⟨rfl,q⟩:=h;cases L;refine isnot_none_gen (Cu I q ?_);cases x<;>first
  |(cases J;rfl)
  |(obtain⟨t,rfl⟩:=J;rfl)
def Gg{J:CmpOp}{r:R2}(Y:OpR X (Wj J) r)(d:PE X a ta)(c:PE X b tb)(Z:abF J b=ak):PE X (.Compare a [J] [b] pos) (tOp r ta tb):=by intro O s L H Q I h;exact wpAny_Compare1 (Kg d c I h λv u U x y f e W V q=>Y O U L f x y v u Q e W V q) Z
def Cv(t:TE):TT:=fun J H Q=>t J H λx L=>∃k,x=.bl k/\Q k L
def Gi(O:OpR X (Wj op) r)(W:PE X a ta)(V:PE X b tb)(U:abF op b=ak):PT X (.Compare a [op] [b] pos) (Cv (tOp r ta tb)):=by
 intro L s J H Q I h;refine wpAny_isTrue_Compare1 (thn (W L s J H _ I h) λv s1 ⟨x,H1,I1,r1,q1⟩=>thn (V L s1 J H1 _ I1 q1) λu s2 ⟨y,H2,I2,r2,q2⟩ =>
  thn (O L s2 J H2 x y v u _ I2 r1 r2 q2) λc s3 ⟨z,H3,I3,r3,k,e,q3⟩=>?_) U
 subst e;cases r3;exact WE ⟨H3,I3,q3⟩
def xq(r U:R2)(ta tb tc:TE):TE:=fun J H Q=>ta J H λx Y=>tb J Y λy W=>r x y W λz L=>∃k,z=.bl k ∧
 (if k=ah then tc J L λO V=>U y O V Q else Q (.bl ak) L)
def Cw(U:OpR X (Wj op) r)(O:OpR X (Wj op') r')(Y:PE X a ta)(W:PE X b tb)(hc:PE X c tc)
(V:lastMarks [op,op'] [b,c]=ak:=by with_unfolding_all rfl):PE X (.Compare a [op,op'] [b,c] pos) (xq r r' ta tb tc):=by
 intro L s J H Q I h;refine Compare_chain (thn (Y L s J H _ I h) λv s1 ⟨x,H1,I1,r1,q1⟩=>chain_link (thn (W L s1 J H1 _ I1 q1) λu s2 ⟨y,H2,I2,r2,q2⟩ =>
  thn (U L s2 J H2 x y v u _ I2 r1 r2 q2) λd s3 ⟨z,H3,I3,r3,k,e,q3⟩=>?_)) V
 subst e;cases r3;refine WE ?_;cases k with
 |false=>exact ite_ff ⟨.bl ak,H3,I3,rfl,q3⟩|true=>exact ite_tt (chain_last (thn (hc L s3 J H3 _ I3 q3) λw' s4 ⟨z',H4,I4,r4,q4⟩=>O L s4 J H4 y z' u w' Q I4 r2 r4 q4))
def Cy(Z:OpR X (Wj op) r)(O:OpR X (Wj op') r')(i:PE X a ta)(g:PE X b tb)(hc:PE X c tc)
(f:lastMarks [op,op'] [b,c]=ak:=by with_unfolding_all rfl):PT X (.Compare a [op,op'] [b,c] pos) (Cv (xq r r' ta tb tc)):=by
 intro L s J H Q I h;refine isTrue_chain (thn (i L s J H _ I h) λv s1 ⟨x,H1,I1,r1,q1⟩=>test_link (thn (g L s1 J H1 _ I1 q1) λu s2 ⟨y,H2,I2,r2,q2⟩ =>
  thn (Z L s2 J H2 x y v u _ I2 r1 r2 q2) λd s3 ⟨z,H3,I3,r3,k,e,q3⟩=>?_)) f
 subst e;cases r3;refine WE ?_;cases k with
 |false =>
  obtain⟨p,j,Y⟩:=q3;cases j;exact ite_ff ⟨H3,I3,Y⟩
 |true =>
  refine ite_tt (test_last (thn (hc L s3 J H3 _ I3 q3) λw' s4 ⟨z',H4,I4,r4,q4⟩=>thn (O L s4 J H4 y z' u w' _ I4 r2 r4 q4) λq o U=>?_));obtain⟨n,m,l,V,k2,e2,W⟩:=U;subst e2;cases V;exact WE ⟨m,l,W⟩
def nO:(ao:Nat)<2^63:=by rw[aaW];decide
def xr:OpR X (WT .Add) (λx y H Q=>∃i j,x=.str i/\y=.str j/\i.length+j.length<=ao/\Q (.str (i++j)) H):=by intro W s V H x y v u Q I O L h;obtain⟨i,j,rfl,rfl,U,q⟩:=h;obtain⟨t,rfl⟩:=O;obtain⟨J,rfl⟩:=L;exact add_str (λJ Y=>⟨.str (i++j),H,I.tok _,⟨_,rfl⟩,q⟩) U
def vals1(r:dD [x] us):∃u,us=[u]/\RelV x u:=by
 cases r with
 |cons L J=>cases J;exact⟨_,rfl,L⟩
def vals2(r:dD [x,y] us):∃u J,us=[u,J]/\RelV x u/\RelV y J:=by
 cases r with
 |cons V U =>
  cases U with
  |cons O L=>cases L;exact⟨_,_,rfl,V,O⟩
def AD(hc:X.calm=ah):fQ X (.builtin "max") (λxs H Q=>∃i j,xs=[.int i,.int j]/\Q (.int (if j>i then j else i)) H):=by
 intro O s L H xs V Q I r h;obtain⟨i,j,rfl,q⟩:=h;obtain⟨u,U,rfl,⟨t,rfl⟩,⟨Y,rfl⟩⟩:=vals2 r;refine max_two_ints (I.ok.hd hc) λZ W k=>⟨_,H,I.aJ k,?_,q⟩
 by_cases J:j>i
 rw[bM J,bM J];exact⟨_,rfl⟩;rw[bN J,bN J];exact⟨_,rfl⟩
def AE(hc:X.calm=ah):fQ X (.builtin "min") (λxs H Q=>∃i j,xs=[.int i,.int j]/\Q (.int (if j<i then j else i)) H):=by
 intro O s L H xs V Q I r h;obtain⟨i,j,rfl,q⟩:=h;obtain⟨u,U,rfl,⟨t,rfl⟩,⟨Y,rfl⟩⟩:=vals2 r;refine min_two_ints (I.ok.hd hc) λZ W k=>⟨_,H,I.aJ k,?_,q⟩
 by_cases J:j<i
 rw[bM J,bM J];exact⟨_,rfl⟩;rw[bN J,bN J];exact⟨_,rfl⟩
def rV:fQ X (.type "int") (λxs H Q=>(∃i,xs=[.int i]/\Q (.int i) H)\/∃k,xs=[.bl k]/\Q (.int (if k then 1 else 0)) H):=by
 intro O s L H xs U Q I r h;rcases h with⟨i,rfl,q⟩|⟨k,rfl,q⟩
 ·obtain⟨u,rfl,t,rfl⟩:=vals1 r;exact call_int_int ⟨.int i,H,I,⟨_,rfl⟩,q⟩
 ·obtain⟨u,rfl,J⟩:=vals1 r;cases J;exact call_int_bool ⟨.int (if k then 1 else 0),H,I.tok _,⟨_,rfl⟩,q⟩
end
end L2
namespace L2
open PySem PySem.Spec PyProof.Rows
structure xu(h:av)(x dx C:aB)(mA:aA->Option aC):Prop where
 obj:h.get? x=aa (WQ C dx)
 ns:h.Ns1 dx mA
 ne:dx≠x
def AF{h:av}{dx:aB}{mA:aA->Option aC}(n:h.Ns1 dx mA):∃L,h.get? dx=aa L/\∀name,YX name L=aa (mA name):=by
 obtain⟨o,O,c,V,Z,Y,_,W⟩:=n;refine⟨o,V,λname=>?_⟩;have e:=W name;unfold nsFind findBy at e;rw[←Array.find?_toList]at e;unfold YX;rw[Z];dsimp only;split
 ·rename_i y q;rw[q]at e;exact bU aa e
 ·rename_i q;rw[q]at e;have a:O.toList.any (·.refKey)=ak:=by rw[List.any_eq_false];intro y U;obtain⟨z,t,J⟩:=Y y (Array.mem_toList_iff.mp U);simp[DictEntry.refKey,J]
  have b:¬O.toList.any (·.refKey)=ah:=by rw[a];exact V0
  rw[bN b];exact bU aa e
def xu.look(I:xu h x dx C mA):∃J,PySem.W.InstAt h x (WQ C dx) C (aa J)/\∀name,YX name J=aa (mA name) :=
 let ⟨J,ho,hl⟩:=AF I.ns
 ⟨J,⟨I.obj,rfl,rfl,ho⟩,hl⟩
section
variable{prog:Vy}{w:VQ}{A:V9}{E:aC->Vh->Prop}{s:Vh}{K:Ve}{x dx C f:aB}{mA:aA->Option aC}{name:aA}{v:aC}
def get_map(X:K.In s.heap)(I:xu s.heap x dx C mA)(Y:XN K C name=ah)(V:W4 K C=ah)
(Z:VO K (.ref C) name=aa af)(O:mA name=aa v)(L:abo v=ah)(h:Q v {s with toks:=s.toks+1}):
 az (VC prog w) A (getAttr (.ref x) name expr) Q E s:=by
 obtain⟨a,J,U⟩:=I.look;exact PySem.W.get_value X J (Y9 Y).1 (PySem.W.findObj_own V Z rfl (by rw[U,O])) L h
def Cz(X:K.In s.heap)(I:xu s.heap x dx C mA)(L:XN K C name=ah)
(Z:VO K (.ref C) name=aa (aa (.ref f)))(V:YK K (.ref f)=ah)(U:mA name=af)(h:Q (.ref f,[.ref x]) s):
 az (VC prog w) A (aaX (.ref x) name pl) Q E s:=by
 obtain⟨O,J,Y⟩:=I.look;exact PySem.W.method_fn X J (Y9 L).1 (Y9 L).2 Z (beq_iff_eq.mp V) (by show(YX name O).map (·.isSome)=aa ak;rw[Y,U];rfl) h
def Gj(X:K.In s.heap)(I:xu s.heap x dx C mA)
(f:VO K (.ref C) "__setattr__"=aa (aa (.builtin "object.__setattr__")))(g:Zq K C=ah)(d:ZM K C name=aa af)(i:W4 K C=ah)
(hw:aaZ mA ns)(e:ns.length<=ao)
(h:∀h',xu h' x dx C (λy=>if y=name then aa v else mA y)->V6 dx s.heap h'->Q () {s with heap:=h',toks:=s.toks+2}):
 az (VC prog w) A (setAttr (.ref x) name v) Q E s:=by
 obtain⟨l,J,n⟩:=I.look;refine PySem.W.set_plain X J f (PySem.W.osa_open (s:={s with toks:=s.toks+1}) (r:=af) X J g d λb=>?_);obtain⟨o,hc,Y⟩:=PySem.W.any_some i;have c:s.heap.get? x=aa ⟨.ref C,aa dx,.plain,#[]⟩:=I.obj;refine Vf (ay (Vf (Vf (wpAny_loadPart c (Vf (PySem.W.Looks.here (s:={s with toks:=s.toks+1}) (PySem.W.looks_clsIn X hc) ?_))))));rw[Y];refine ay (a:=aa dx) (Vf (ay (Vf ?_)));refine wpAny_nsSet1 (s:={s with toks:=s.toks+1}) I.ns λh' O L=>?_;obtain⟨m,j,k,U,V,Z⟩:=O.count (PySem.Within.cons name v hw);refine Vf (wpAny_lookBehind U (by rw[V];exact pastItsLine_dict (VJ Z (by rw[Vv];lia))) ?_);exact ay (h _ ⟨(L.2 _ (Wa I.ne)).trans I.obj,O,I.ne⟩ L)
def CA(X:K.In s.heap)(L:ZO K C=ah)
(hi:VO K (.ref C) "__init__"=aa (aa (.ref f)))(O:PySem.W.typeIn K (.ref f)=aa (.type "function"))
(h:aq (VC prog w) (A.under (.builtin "type.__call__" ⟨.ref C::vs,kw⟩)) (.call (.ref f) ⟨.ref (s.heap.objs.size+1)::vs,kw⟩) (PySem.W.InitBack (s.heap.objs.size+1) R)
  { s with heap:=(s.heap.push Wo).push (WQ C s.heap.objs.size) }):
 aq (VC prog w) A (.call (.ref C) ⟨vs,kw⟩) R s:=by
 obtain⟨U,g,d,t,os⟩:=s;exact PySem.W.make_core (PySem.W.makes_of X L) (PySem.W.looks_findIn X hi) (λJ=>PySem.W.bind_fn X J O) (.inl rfl) h
end
noncomputable def fy(f:aA)(v:V):List (aA×V)->List (aA×V)
 |[]=>[(f,v)]
 |(g,x)::r=>if g=f then(g,v)::r else(g,x)::fy f v r
theorem oz(f g:aA)(v:V):∀fs:List (aA×V),(fy f v fs).lookup g=if g=f then aa v else fs.lookup g
 |[]=>by
  show Xu g [(f,v)]=_
  by_cases h:g=f
  ·have J:(g==f)=ah:=beq_iff_eq.mpr h;simp only[Xu,J,bM h]
  ·have J:(g==f)=ak:=beq_eq_false_iff_ne.mpr h;simp only[Xu,J,bN h]
 |(k,x)::r=>by
  have O:=oz f g v r;rw[show fy f v ((k,x)::r)=(if k=f then(k,v)::r else(k,x)::fy f v r) from rfl]
  by_cases L:k=f
  ·rw[bM L]
   by_cases h:g=k
   ·have J:(g==k)=ah:=beq_iff_eq.mpr h;simp only[Xu,J,bM (h.trans L)]
   ·have J:(g==k)=ak:=beq_eq_false_iff_ne.mpr h;simp only[Xu,J,bN (λe:g=f=>h (e.trans L.symm))]
  ·rw[bN L]
   by_cases h:g=k
   ·have J:(g==k)=ah:=beq_iff_eq.mpr h;simp only[Xu,J,bN (λe:g=f=>L (h.symm.trans e))]
   ·have J:(g==k)=ak:=beq_eq_false_iff_ne.mpr h;simp only[Xu,J];exact O
theorem nP(f:aA)(v:V):∀fs:List (aA×V),f∈(fy f v fs).map (·.1)/\∀g,g∈fs.map (·.1)->g∈(fy f v fs).map (·.1)
 |[]=>⟨by simp[fy],λg h=>by simp at h⟩
 |(k,x)::r=>by
  obtain⟨O,L⟩:=nP f v r;rw[show fy f v ((k,x)::r)=(if k=f then(k,v)::r else(k,x)::fy f v r) from rfl]
  by_cases J:k=f
  ·rw[bM J];subst J;exact⟨by simp,λg h=>by simpa using h⟩
  ·rw[bN J];refine⟨?_,λg h=>?_⟩
   ·rw[VA];exact Vn _ O
   ·rw[VA]at h⊢;rcases List.mem_cons.mp h with e|e
    exact List.mem_cons.mpr (.inl e);exact Vn _ (L g e)
theorem oA(f:aA)(v:V):∀fs:List (aA×V),(fy f v fs).length<=fs.length+1
 |[]=>by simp[fy]
 |(k,x)::r=>by
  have L:=oA f v r;rw[show fy f v ((k,x)::r)=(if k=f then(k,v)::r else(k,x)::fy f v r) from rfl]
  by_cases J:k=f
  rw[bM J,Vv,Vv];lia;rw[bN J,Vv,Vv];lia
def pL.some_of(r:pL (aa v) o):∃u,o=aa u/\RelV v u:=by
 cases o with
 |none=>exact(show False from r).elim|some u=>exact⟨u,rfl,r⟩
def pL.none_of(r:pL af o):o=af:=by
 cases o with
 |none=>rfl|some u=>exact(show False from r).elim
def AG(r:RelV v u):abo u=ah:=by
 cases v with
 |aF=>cases (show u=WX from r);rfl|bl b=>cases (show u=abH b from r);rfl|int i=>obtain⟨t,e⟩:=(show ∃t,u=Yc i t from r);cases e;rfl|str x=>obtain⟨t,e⟩:=(show ∃t,u=Xi x t from r);cases e;rfl|byt b=>obtain⟨t,e⟩:=(show ∃t,u=Value.bytes b t from r);cases e;rfl|flt b=>obtain⟨t,e⟩:=(show ∃t,u=Value.float b t from r);cases e;rfl|ref a=>cases (show u=Wm a from r);rfl|ty n=>cases (show u=Yw n from r);rfl
section
variable{P:Vy}{w:VQ}{H H':Hp}{h h':av}{a C dx:aB}{fs fs':List (aA×V)}
def mJ(L:HOk P w H h)(e:H a=aa (.ins C dx fs)):∃mA,xu h a dx C mA/\(∀f,pL (fs.lookup f) (mA f))/\aaZ mA (fs.map (·.1))/\fs.length<=1000/\H dx=aa (.own a):=by obtain⟨d,z,J,ob,mA,n,r,q⟩:=(show gZ P w H h a (.ins C dx fs) from L a _ e);exact⟨mA,⟨ob,n,J⟩,r,q,z,d⟩
end
structure Cls(K:Ve)(C:aB):Prop where
 pg:XN K C Xn=ah
 hd:W4 K C=ah
 po:Zq K C=ah
 sa:VO K (.ref C) "__setattr__"=aa (aa (.builtin "object.__setattr__"))
def Cls.get{K:Ve}(c:Cls K C)(f:aA):XN K C f=ah:=c.pg
def kG(K:Ve)(C:aB)(f:aA):Prop:=VO K (.ref C) f=aa af
def kG.Om{K:Ve}(n:kG K C f):ZM K C f=aa af:=by unfold ZM;rw[show VO K (.ref C) f=aa af from n];rfl
structure ve(K:Ve)(C:aB)(m:aA)(f:aB):Prop where
 at_:VO K (.ref C) m=aa (aa (.ref f))
 fn:YK K (.ref f)=ah
 kp:We K (.ref f)=ah
section
variable{X:Cx}{zt:List (aB×au)}{σ:St}{H:Hp}{s:Vh}{a C dx:aB}{fs:List (aA×V)}{f:aA}{v:V}{A:V9}{E:aC->Vh->Prop}
def pN(I:Inv X zt σ H s)(e:H a=aa (.ins C dx fs))(c:Cls X.K C)(n:kG X.K C f)(l:fs.lookup f=aa v)
(h:∀u s',Inv X zt σ H s'->RelV v u->Q u s'):az (VC X.prog X.w) A (getAttr (.ref a) f b) Q E s:=by
 obtain⟨L,O,r,_,_,_⟩:=mJ I.aL e;obtain⟨u,U,J⟩:=pL.some_of (v:=v) (o:=L f) (by rw[←l];exact r f);exact get_map I.kIn O (c.get f) c.hd n U (AG J) (h u _ (I.tok _) J)
def pO(I:Inv X zt σ H s)(e:H a=aa (.ins C dx fs))(c:Cls X.K C)(k:ve X.K C m g)(l:fs.lookup m=af)
(h:Q (.ref g,[.ref a]) s):az (VC X.prog X.w) A (aaX (.ref a) m pl) Q E s:=by
 obtain⟨J,O,r,_,_,_⟩:=mJ I.aL e;have hn:J m=af:=pL.none_of (by rw[←l];exact r m);exact Cz I.kIn O (c.get m) k.at_ k.fn hn h
def pP(I:Inv X zt σ H s)(e:H a=aa (.ins C dx fs))(c:Cls X.K C)(n:kG X.K C f)(k:fs.length<1000)(Y:RelV y u)
(h:∀s',Inv X zt σ (upd H a (.ins C dx (fy f y fs))) s'->Q () s'):az (VC X.prog X.w) A (setAttr (.ref a) f u) Q E s:=by
 obtain⟨U,O,r,L,_,V⟩:=mJ I.aL e;have Z:(fs.map (·.1)).length<=ao:=by rw[Vx,aaW];lia
 refine Gj I.kIn O c.sa c.po n.Om c.hd L Z λj J W=>h _ ?_;have hd:∃o,j.get? dx=aa o:=let ⟨o,_,_,e',_⟩:=J.ns;⟨o,e'⟩;refine I.write (x:=a) (e:=dx) (by rw[e];exact Xv) (.inr V) (λb q i z=>(W.2 b i).trans z) hd ?_;refine⟨by rw[dI O.ne];exact V,?_,O.ne,J.obj,_,J.ns,λg=>?_,λg d=>?_⟩;have:=oA f y fs;lia
 ·show pL ((fy f y fs).lookup g) (if g=f then aa u else U g);rw[oz]
  by_cases q:g=f
  rw[bM q,bM q];exact Y;rw[bN q,bN q];exact r g
 ·by_cases q:g=f
  rw[q];exact(nP f y fs).1
  ·refine(nP f y fs).2 g (L g λz=>d ?_);show(if g=f then aa u else U g)=af;rw[bN q];exact z
def Inv.made(I:Inv X zt σ H s):Inv X zt σ (upd (upd H s.heap.objs.size (.own (s.heap.objs.size+1))) (s.heap.objs.size+1) (.ins C s.heap.objs.size []))
 {s with heap:=(s.heap.push Wo).push (WQ C s.heap.objs.size)}:=by
 have e1:(s.heap.push Wo).get? s.heap.objs.size=aa Wo:=Vw s.heap rfl;have e2:((s.heap.push Wo).push (WQ C s.heap.objs.size)).get? (s.heap.objs.size+1)=aa (WQ C s.heap.objs.size):=by
  have:=Vw (s.heap.push Wo) (o:=WQ C s.heap.objs.size) rfl
  rwa [WB]at this
 have U:(s.heap.push Wo).Ns s.heap.objs.size (λ_=>af):=⟨Wo,#[],_,e1,rfl,(λe O=>bO O (by simp)),λ_=>rfl⟩;have V:=I.laid (a:=s.heap.objs.size) (o:=.own (s.heap.objs.size+1)) (h':=s.heap.push Wo) (t':=s.toks) (λb u q=>Vk _ q) (Vo _) ⟨_,e1⟩;refine V.laid (a:=s.heap.objs.size+1) (o:=.ins C s.heap.objs.size []) (t':=s.toks) (λb u q=>Vk _ q) (Nat.le_of_eq (WB _ _)) ?_;have J:s.heap.objs.size≠s.heap.objs.size+1:=VI (Wy _);refine⟨by rw[dI J,fq],Wg _,J,e2,λ_=>af,(Heap.Ns1.of_empty U).at λo q=>Vk _ q,λ_=>Xv,λy L=>bO rfl L⟩
def Gk(L:Y8 e f env (eval e env)=eval e env)
(h:az (VC prog w) A (eval e env) (λo J=>az (VC prog w) A (getAttr o f ah) Q E J) E s):az (VC prog w) A (eval (.Attribute e f pos) env) Q E s :=
 Attribute_any_ h (by rw[arm_eval_Attribute,L])
end
def Sa(K:Ve)(ta:TE)(f:aA):TE:=fun L H Q=>ta L H λx J=>∃a C O fs v,x=.ref a/\J a=aa (.ins C O fs)/\Cls K C/\kG K C f/\fs.lookup f=aa v/\Q v J
def On(K:Ve)(ta tv:TE)(f:aA):TS:=λD J H=>tv J H λy U=>ta J U λx O=>∃a C L fs,x=.ref a/\O a=aa (.ins C L fs)/\Cls K C/\kG K C f/\fs.length<1000 ∧
 D.nx J (upd O a (.ins C L (fy f y fs)))
def Sb(X:Cx)(O:Zs)(rd:V->V->Hp->VK->Prop):Prop :=
 ∀(L:List (aB×au)) (s:Vh) (J:St) (H:Hp) (x y:V) (u v:aC) (Q:VK),Inv X L J H s->RelV x u->RelV y v->rd x y H Q->az (VC X.prog X.w) X.A (inplaceOp O u v) (EP X L J Q) X.xe s
def yI(K:Ve)(ta tv:TE)(rd:V->V->Hp->VK->Prop)(f:aA):TS:=λD O H=>ta O H λx W=>∃a C Y fs v,x=.ref a/\W a=aa (.ins C Y fs)/\Cls K C/\kG K C f/\fs.lookup f=aa v ∧
 tv O W λy Z=>rd v y Z λz U=>∃L J,U a=aa (.ins C L J)/\J.length<1000/\D.nx O (upd U a (.ins C L (fy f z J)))
section
variable{X:Cx}{o e value:ZH}{f:aA}{pos pos' tpos:Pos}{ta tv:TE}
def Kq(W:PE X e ta)(Y:Y8 e f X.env (eval e X.env)=eval e X.env):PE X (.Attribute e f pos) (Sa X.K ta f):=by intro L s J H Q I h;refine Gk Y (thn (W L s J H _ I h) λu k O=>?_);obtain⟨x,g,d,U,a,C,m,fs,v,ex,Z,c,n,l,q⟩:=O;subst ex;obtain rfl:u=Wm a:=U;exact pN d Z c n l λi j b V=>⟨v,g,b,V,q⟩
def Kr(V:PE X o ta)(O:PE X value tv)(U:Yt value (aa (.Attribute o f pos')) pos.line X.env=pure ak):PS X (.Assign [.Attribute o f pos'] value pos) (On X.K ta tv f):=by intro L s J H D I h;refine plainObj_wpAny_Assign_Attribute (thn (O L s J H _ I h) λu s1 ⟨y,H1,I1,ry,q⟩=>thn (V L s1 J H1 _ I1 q) λov s2 ⟨x,H2,I2,rx,a,C,dx,fs,ex,ea,c,n,l,q2⟩=>?_) U;subst ex;obtain rfl:ov=Wm a:=rx;exact pP I2 ea c n l ry λY W=>⟨J,_,W,q2⟩
def AH{rd:V->V->Hp->VK->Prop}(k:PE X o ta)(j:PE X value tv)(U:Sb X op rd):PS X (.AugAssign (.Attribute o f tpos) op value pos) (yI X.K ta tv rd f):=by intro L s J H D I h;refine wpAny_AugAssign_AttributeAny (thn (k L s J H _ I h) λg N O=>?_);obtain⟨x,E,B,b,a,C,P,fs,v,ex,p,c,n,l,q⟩:=O;subst ex;obtain rfl:g=Wm a:=b;refine pN B p c n l λu Y A d=>thn (j L Y J E _ A q) λw3 s3 ⟨y,H2,I3,ry,q3⟩=>thn (U L s3 J H2 v y u w3 _ I3 d ry q3) λF M O=>?_;obtain⟨z,Q,w,Z,r,m,W,i,e⟩:=O;exact pP w W c n i Z λG t=>⟨J,_,t,e⟩
end
section
variable{X:Cx}{zt:List (aB×au)}{σ:St}{H:Hp}{s:Vh}{A:V9}{E:aC->Vh->Prop}{Q:aC->Vh->Prop}{c:aC}{b:Bool}
end
end L2
namespace L2
open PySem PySem.Spec PyProof.Rows
structure fG(k:Nat)(A:V9):Prop where
 hd:A.handled=af
 dp:A.depth+3*k+5<recursionLimit
 un:A.units+16*k+200<cLine
def fG.mono(r:fG k A)(h:j<=k):fG j A:=⟨r.hd,by have:=r.dp;lia,by have:=r.un;lia⟩
def fG.deeper(r:fG (k+1) A)(env:Env):fG k (A.deeper env) :=
 ⟨r.hd,by have:=r.dp;show A.depth+1+3*k+5<_;lia,by have:=r.un;show A.units+3+16*k+200<_;lia⟩
def xw{A:V9}{C:aB}{us:List aC}{kw:List (aA×aC)}:(A.under (.builtin "type.__call__" ⟨.ref C::us,kw⟩)).depth=A.depth+1:=by first|rfl|simp[aaT,Code.weight,Code.isCreation,Code.isGuard,Code.isCaller,Code.frames,aa9,guardIds]
def xy{A:V9}{C:aB}{us:List aC}{kw:List (aA×aC)}:(A.under (.builtin "type.__call__" ⟨.ref C::us,kw⟩)).units=A.units+1:=by first|rfl|simp[aaT,Code.cUnits,Code.frames,aa9]
def fG.make(r:fG (k+1) A)(C:aB)(us:List aC)(kw:List (aA×aC)):fG k (A.under (.builtin "type.__call__" ⟨.ref C::us,kw⟩)) :=
 ⟨r.hd,by have:=r.dp;rw[xw];lia,by have:=r.un;rw[xy];lia⟩
def fG.depth(r:fG k A):A.depth<recursionLimit:=by have:=r.dp;lia
def CB:TA:=λ_ H Q=>Q [] H
def Jt(ta:TE)(tr:TA):TA:=fun J H Q=>ta J H λx U=>tr J U λL O=>Q (x::L) O
section
variable{X:Cx}{e:ZH}{es:List ZH}{te:TE}{t:TA}{pos:Pos}
def tF:PA X [] CB:=λ_ _ _ _ H Q I h=>Yz ⟨[],H,I,.nil,h⟩
def lq(b:PE X e te)(a:PA X es t)(Z:VR (e::es) X.env=(ak,eval e X.env)::VR es X.env:=by rfl):PA X (e::es) (Jt te t):=by intro J O s L H Q I h;rw[Z];show az _ _ (aaq ((ak,eval e X.env)::Xh J (VR es X.env))) _ _ s;refine WL (thn (b O s L H _ I h) λu V U=>?_);obtain⟨x,d,c,W,Y⟩:=U;exact thn (a J O V L d _ c Y) λus s2 ⟨xs,H2,I2,r2,q2⟩=>⟨x::xs,H2,I2,.cons W r2,q2⟩
def Oo(t:TA):TE:=fun O H Q=>t O H λJ L=>J.length<=ao/\∀p,L p=af->Q (.ref p) (upd L p (.aE J))
def Ks(t:TA):TE:=fun O H Q=>t O H λJ L=>J.length<=ao/\∀p,L p=af->Q (.ref p) (upd L p (.aD J))
def Ku{x1}(h:PA X es t):PE X (.Tuple es x1 pos) (Oo t):=by intro L s J H Q I O;refine wpAny_Tuple_spliced (thn (h pos L s J H _ I O) λus s1 ⟨xs,H1,I1,r,z,q⟩=>⟨by rw[←r.length];exact z,?_⟩);have U:H1 s1.heap.objs.size=af:=I1.aL.fresh (Vo _);refine⟨.ref s1.heap.objs.size,upd H1 s1.heap.objs.size (.aE xs),I1.laid (t':=s1.toks) (λb u e=>Vk _ e) (Vo _) ?_,rfl,q _ U⟩;exact⟨z,us,r,⟨_,Vw _ rfl,rfl,_,rfl⟩⟩
def CD(h:PA X es t):PE X (.List es pos) (Ks t):=by intro L s J H Q I O;refine wpAny_List_spliced (thn (h pos L s J H _ I O) λus s1 ⟨xs,H1,I1,r,z,q⟩=>⟨by rw[←r.length];exact z,?_⟩);have U:H1 s1.heap.objs.size=af:=I1.aL.fresh (Vo _);refine⟨.ref s1.heap.objs.size,upd H1 s1.heap.objs.size (.aD xs),I1.laid (t':=s1.toks) (λb u e=>Vk _ e) (Vo _) ?_,rfl,q _ U⟩;exact⟨z,us,0,r,Vw _ rfl⟩
end
abbrev Sp:=List V->Hp->VK->XK->Prop
abbrev CXT:=List Env->Hp->Vh->XK->aC->Vh->Prop
structure tG(P:Vy)(w:VQ)(K:Ve)(mg:aA->Option aC)(base:av)(A:V9)(outer:List Env)(s:Vh)(H:Hp):Prop where
 frames:A.frames=aa outer
 mod:Mod K mg base
 bs:∀b o,base.get? b=aa o->s.heap.get? b=aa o/\H b=af
 bsz:base.objs.size<=s.heap.objs.size
 kE:s.heap.FunFrames base outer
 frf:∀b∈frs outer,H b=af
 aL:HOk P w H s.heap
 bare:ZS s.gens
inductive CE(outer:List Env)(P:Vy)(w:VQ)(H:Hp)(s:Vh)(Q:VK)(u:aC)(s':Vh):Prop
 |mk(v:V)(H':Hp)(os:s'.os=s.os)(b:ZS s'.gens)(un:Un (frs outer) [] H H' s.heap s'.heap)(J:HOk P w H' s'.heap)(r:RelV v u)(q:Q v H'):CE outer P w H s Q u s'
def CR(CX:CXT)(outer:List Env)(P:Vy)(w:VQ)(H:Hp)(s:Vh)(Q:VK)(E:XK)(r:Z7)(s':Vh):Prop :=
 match r with
 |.ok (.ret u)=>CE outer P w H s Q u s'|.ok _=>False|.error e=>CX outer H s E e s'
structure gO(P:Vy)(w:VQ)(K:Ve)(mg:aA->Option aC)(base:av)(CX:CXT)(k:Nat)(f:aB)(fd:Wp)(ps:List aA)(sp:Sp):Prop where
 len:∀vs H Q E,sp vs H Q E->vs.length=ps.length
 run:∀(A:V9)(outer:List Env)(s:Vh)(H:Hp) (args:Args) (us:List aC) (vs:List V) (Q:VK) (E:XK),fG k A->tG P w K mg base A outer s H->BindsTo s fd args (ps.zip us)->dD vs us->sp vs H Q E →
  aq (VC P w) A (.call (.ref f) args) (CR CX outer P w H s Q E) s
def tG.make{K:Ve}(e:tG P w K mg base A outer s H)(C:aB)(us:List aC)(kw:List (aA×aC)):
 tG P w K mg base (A.under (.builtin "type.__call__" ⟨.ref C::us,kw⟩)) outer s H:=⟨by first|exact e.frames|(simpa [aaT,Code.envs,aa9,pushEnvs]using e.frames),e.mod,e.bs,e.bsz,e.kE,e.frf,e.aL,e.bare⟩
section
variable{X:Cx}{zt:List (aB×au)}{σ:St}{H:Hp}{s s':Vh}
def Inv.Oq(I:Inv X zt σ H s):tG X.prog X.w X.K X.mg X.base X.A X.stack s H :=
 ⟨I.ok.frames,I.ok.mod,I.bs,VJ I.ok.bsz I.sz,I.stack,I.tw,I.aL,I.bare⟩
def Inv.after(I:Inv X zt σ H s)(h:CE X.stack X.prog X.w H s Q u s'):EP X zt σ Q u s':=by obtain⟨v,V,os,J,un,U,r,q⟩:=h;obtain⟨O,g,d,t,L⟩:=s';obtain rfl:L=s.os:=os;exact⟨v,V,I.call (h':=O) (g':=g) (d':=d) (t':=t) (ch:=[]) un U J (λb z=>bO z (by simp)),r,q⟩
end
def yJ(sp:Sp)(dvs:List V)(E:XK)(t:TA):TE:=fun J H Q=>t J H λL O=>sp (L++dvs) O Q E
def yK(C:aB)(m:aA)(sp:Sp)(dvs:List V)(E:XK)(ta:TE)(t:TA):TE:=fun J H Q=>ta J H λx L=>∃a U fs,x=.ref a/\L a=aa (.ins C U fs)/\fs.lookup m=af ∧
 t J L λO W=>sp (x::(O++dvs)) W Q E
def CF(C:aB)(sp:Sp)(dvs:List V)(E:XK)(t:TA):TE:=fun O H Q=>t O H λU L=>∀x J,L x=af->L J=af->J≠x →
 sp (.ref x::(U++dvs)) (upd (upd L J (.own x)) x (.ins C J [])) (λv W=>v=.aF/\Q (.ref x) W) E
def Binds(K:Ve)(fd:Wp)(ps:List aA)(ds:List aC):Prop :=
 ∀(s:Vh)(J:List aC),K.In s.heap->(J++ds).length=ps.length->BindsTo s fd ⟨J,[]⟩ (ps.zip (J++ds))
def Binds.all{K:Ve}(h:∀us:List aC,us.length=ps.length->abE fd ⟨us,[]⟩=pure (ps.zip us)):Binds K fd ps []:=λs us _ J=>by rw[Wc]at J⊢;exact .of_eq (h us J)
def iA(CX:CXT)(X:Cx)(E:XK):Prop:=∀(O:List (aB×au)) (L:St) (H:Hp) (s:Vh) (e:aC) (J:Vh),Inv X O L H s->CX X.stack H s E e J->X.xe e J
section
variable{X:Cx}{CX:CXT}{k:Nat}{f C:aB}{fd:Wp}{ps:List aA}{sp:Sp}{dvs:List V}{ds:List aC}{E:XK}{x m:aA}{p pos apos:Pos}{e o:ZH}{es:List ZH}{ta:TE}{t:TA}
def pQ(F:gO X.prog X.w X.K X.mg X.base CX k f fd ps sp)(V:fG k X.A)(Z:Binds X.K fd ps ds)(Y:dD dvs ds)(U:iA CX X E)
(I:Inv X zt σ H s)(r:dD vs us)(h:sp (vs++dvs) H Q E):az (VC X.prog X.w) X.A (call (.ref f) us) (EP X zt σ Q) X.xe s:=by
 have L:dD (vs++dvs) (us++ds):=r.append Y;have W:(us++ds).length=ps.length:=by rw[←L.length];exact F.len _ _ _ _ h
 refine aan (codeAny_mono (F.run X.A X.stack s H ⟨us,[]⟩ (us++ds) (vs++dvs) Q E V I.Oq (Z s us I.kIn W) L h) λr O J=>?_);cases r with
 |error e=>exact U zt σ H s e O I J
 |ok a =>
  cases a with
  |ret u=>exact I.after J|_=>exact WI J
def yL(F:gO X.prog X.w X.K X.mg X.base CX k f fd ps sp)(W:fG k X.A)(a:Gl X x)(Y:X.mg x=aa (.ref f))(Z:We X.K (.ref f)=ah)(d:Binds X.K fd ps ds)(c:dD dvs ds)(V:iA CX X E)
(g:PA X (e::es) t)(L:(x==("__debug__":aA))=ak:=by decide)(b:VR (e::es) X.env=(ak,eval e X.env)::VR es X.env:=by rfl)(J:(Xh pos (VR es X.env)).any (·.1)=ak:=by rfl):
 PE X (.Call (.Name x p) (e::es) [] pos) (yJ sp dvs E t):=by
 intro U s O H Q I h;refine WA (ja I a Y ?_ L);refine Xx (h₀:=X.base) I.ok.mod.kin Z (thn (g pos U s O H _ I h) λus s1 ⟨vs,H1,I1,r,q⟩=>⟨I1.kIn,?_⟩) b J;exact pQ F W d c V I1 r q
def vf(F:gO X.prog X.w X.K X.mg X.base CX k f fd ps sp)(O:fG k X.A)(W:Gl X x)(U:X.mg x=aa (.ref f))(V:We X.K (.ref f)=ah)(Z:Binds X.K fd ps ds)(Y:dD dvs ds)(L:iA CX X E)
(J:(x==("__debug__":aA))=ak:=by decide):PE X (.Call (.Name x p) [] [] pos) (yJ sp dvs E CB):=by
 intro b s a H Q I h;refine WA (ja I W U ?_ J);exact Za I.kIn V (pQ (us:=[]) F O Z Y L I .nil h)
def yM(b:PE X o ta)(c:Cls X.K C)(V:ve X.K C m f)(F:gO X.prog X.w X.K X.mg X.base CX k f fd ps sp)(Z:fG k X.A)(g:Binds X.K fd ps ds)(d:dD dvs ds)(W:iA CX X E)(i:PA X (e::es) t)
(J:VR (e::es) X.env=(ak,eval e X.env)::VR es X.env:=by rfl)(L:(Xh pos (VR es X.env)).any (·.1)=ak:=by rfl)
(Y:eval (.Call (.Attribute o m apos) (e::es) [] pos) X.env=(do
  let ov ←eval o X.env
  aaV apos.atName
  let (f,first) ←Y6 [ov] (aaX ov m pl)
  callWith pos f first (Xh pos (VR (e::es) X.env)) (aaM pos (Y5 [] X.env))):=by rfl):
 PE X (.Call (.Attribute o m apos) (e::es) [] pos) (yK C m sp dvs E ta t):=by
 intro U s O H Q I h;refine YJ (pl:=pl) (thn (b U s O H _ I h) λu s1 ⟨x,H1,I1,rx,a,dx,fs,ex,ea,l,q⟩=>?_) Y;subst ex;obtain rfl:u=Wm a:=rx;refine pO I1 ea c V l ?_;refine Xx (first:=[.ref a]) (h₀:=X.base) I.ok.mod.kin V.kp (thn (i pos U s1 O H1 _ I1 q) λus s2 ⟨vs,H2,I2,r,q2⟩=>⟨I2.kIn,?_⟩) J L;exact pQ (us:=.ref a::us) (vs:=.ref a::vs) F Z g d W I2 (.cons rfl r) q2
def vg(Y:PE X o ta)(c:Cls X.K C)(J:ve X.K C m f)(F:gO X.prog X.w X.K X.mg X.base CX k f fd ps sp)(W:fG k X.A)(b:Binds X.K fd ps ds)(Z:dD dvs ds)(U:iA CX X E)
(V:eval (.Call (.Attribute o m apos) [] [] pos) X.env=(do
  let ov ←eval o X.env
  aaV apos.atName
  let (f,first) ←Y6 [ov] (aaX ov m pl)
  callWith pos f first (Xh pos (VR [] X.env)) (aaM pos (Y5 [] X.env))):=by rfl):
 PE X (.Call (.Attribute o m apos) [] [] pos) (yK C m sp dvs E ta CB):=by
 intro O s L H Q I h;refine YJ (pl:=pl) (thn (Y O s L H _ I h) λu s1 ⟨x,H1,I1,rx,a,dx,fs,ex,ea,l,q⟩=>?_) V;subst ex;obtain rfl:u=Wm a:=rx;refine pO I1 ea c J l ?_;exact Za (first:=[.ref a]) I1.kIn J.kp (pQ (us:=[.ref a]) (vs:=[.ref a]) F W b Z U I1 (.cons rfl .nil) q)
structure Mk(K:Ve)(C f:aB):Prop where
 makes:ZO K C=ah
 init:VO K (.ref C) "__init__"=aa (aa (.ref f))
 fn:YK K (.ref f)=ah
 kp:We K (.ref C)=ah
def vh(M:Mk X.K C f)(F:gO X.prog X.w X.K X.mg X.base CX k f fd ps sp)(b:fG (k+1) X.A)(g:Binds X.K fd ps ds)(d:dD dvs ds)
(a:iA CX X E)(I:Inv X zt σ H s)(r:dD vs us)
(h:∀x dx,H x=af->H dx=af->dx≠x->sp (.ref x::(vs++dvs)) (upd (upd H dx (.own x)) x (.ins C dx [])) (λv H2=>v=.aF/\Q (.ref x) H2) E):
 az (VC X.prog X.w) X.A (call (.ref C) us) (EP X zt σ Q) X.xe s:=by
 have U:=h (s.heap.objs.size+1) s.heap.objs.size (I.aL.fresh (Wh _)) (I.aL.fresh (Vo _)) (VI (Wy _));have L:=Inv.made (C:=C) I;have O:dD (V.ref (s.heap.objs.size+1)::(vs++dvs)) (Wm (s.heap.objs.size+1)::(us++ds)):=.cons rfl (r.append d);have c:(Wm (s.heap.objs.size+1)::us++ds).length=ps.length:=by have e:=O.length;rw[F.len _ _ _ _ U]at e;exact e.symm
 refine aan (CA (f:=f) I.kIn M.makes M.init (beq_iff_eq.mp M.fn) (codeAny_mono (F.run _ X.stack _ _ ⟨Wm (s.heap.objs.size+1)::us,[]⟩ (Wm (s.heap.objs.size+1)::(us++ds)) _ _ E (b.make C us [])
  (L.Oq.make C us []) (g _ (Wm (s.heap.objs.size+1)::us) L.kIn c) O U) λr W J=>?_))
 cases r with
 |error e=>exact a zt σ _ _ e W L J
 |ok i =>
  cases i with
  |ret u =>
   obtain⟨v,l,j,Y,ev,Z⟩:=L.after J;subst ev;exact⟨Y,⟨V.ref (s.heap.objs.size+1),l,j,rfl,Z⟩⟩
  |_=>exact WI J
def Gm(M:Mk X.K C f)(F:gO X.prog X.w X.K X.mg X.base CX k f fd ps sp)(W:fG (k+1) X.A)(Z:Gl X x)(Y:X.mg x=aa (.ref C))(c:Binds X.K fd ps ds)(b:dD dvs ds)(V:iA CX X E)
(d:PA X (e::es) t)(L:(x==("__debug__":aA))=ak:=by decide)(a:VR (e::es) X.env=(ak,eval e X.env)::VR es X.env:=by rfl)(J:(Xh pos (VR es X.env)).any (·.1)=ak:=by rfl):
 PE X (.Call (.Name x p) (e::es) [] pos) (CF C sp dvs E t):=by
 intro U s O H Q I h;refine WA (ja I Z Y ?_ L);refine Xx (h₀:=X.base) I.ok.mod.kin M.kp (thn (d pos U s O H _ I h) λus s1 ⟨vs,H1,I1,r,q⟩=>⟨I1.kIn,?_⟩) a J;exact vh M F W c b V I1 r q
def CG(M:Mk X.K C f)(F:gO X.prog X.w X.K X.mg X.base CX k f fd ps sp)(O:fG (k+1) X.A)(V:Gl X x)(U:X.mg x=aa (.ref C))(Y:Binds X.K fd ps ds)(W:dD dvs ds)(L:iA CX X E)
(J:(x==("__debug__":aA))=ak:=by decide):PE X (.Call (.Name x p) [] [] pos) (CF C sp dvs E CB):=by
 intro a s Z H Q I h;refine WA (ja I V U ?_ J);exact Za I.kIn M.kp (vh (us:=[]) M F O Y W L I .nil h)
end
section
variable{X:Cx}{CX:CXT}{k:Nat}{f C:aB}{fd:Wp}{ps ks:List aA}{sp:Sp}{E:XK}{x m:aA}{p pos apos kpos:Pos}{e o:ZH}{es:List ZH}{kws:List YO}{te ta:TE}{t tk:TA}{nm:Option aA}
variable{g:List aC->List aC->List aC}{gV:List V->List V->List V}
end
structure eN(N P:List aA)(sc:V8):Prop where
 kind:sc.kind=.function
 co:sc.isCoroutine=ak
 gen:sc.isGenerator=ak
 nd:N.Nodup
 pre:N.take P.length=P
 par:∀x∈P,sc.names.lookup x=aa .local\/sc.names.lookup x=aa .cell
 nofree:∀y∈sc.names,y.2≠.free
theorem rW{kindOf:aA->Option XR}:∀{binds:List (aA×aC)}{m:aA->Option aC},(∀v,(x,v)∉binds)->bindL kindOf binds m x=m x
 |[],_,_=>rfl
 |(n,v)::r,m,h=>by
  unfold bindL;rw[rW λw hw=>h w (Vn _ hw)];split
  ·have:x≠n:=by rintro rfl;exact h v Vt
   simp[this]
  rfl
theorem rX{kindOf:aA->Option XR}:∀{binds:List (aA×aC)}{m:aA->Option aC},(∀v,(x,v)∉binds)->bindC kindOf binds m x=m x
 |[],_,_=>rfl
 |(n,v)::r,m,h=>by
  unfold bindC;rw[rX λw hw=>h w (Vn _ hw)];split;rfl
  ·have:x≠n:=by rintro rfl;exact h v Vt
   simp[this]
theorem rY{kindOf:aA->Option XR}:∀{P:List aA}{vs:List aC}{i:Nat}{m:aA->Option aC},P.Nodup->P[i]?=aa x->vs[i]?=aa v->kindOf x=aa .local →
 bindL kindOf (P.zip vs) m x=aa v
 |[],_,_,_,_,h,_,_=>by simp at h
 |_::_,[],_,_,_,_,h,_=>by simp at h
 |p::P,w::vs,0,m,nd,h1,h2,hk=>by simp at h1 h2;subst h1;subst h2;show bindL kindOf ((p,w)::P.zip vs) m p=_;unfold bindL;rw[rW λv J=>(List.nodup_cons.mp nd).1 (aaj J).1,bM hk];simp
 |p::P,w::vs,i+1,m,nd,h1,h2,hk=>by show bindL kindOf ((p,w)::P.zip vs) m x=_;unfold bindL;exact rY (i:=i) (List.nodup_cons.mp nd).2 (by simpa using h1) (by simpa using h2) hk
theorem rZ{kindOf:aA->Option XR}:∀{P:List aA}{vs:List aC}{i:Nat}{m:aA->Option aC},P.Nodup->P[i]?=aa x->vs[i]?=aa v->kindOf x≠aa .local →
 bindC kindOf (P.zip vs) m x=aa v
 |[],_,_,_,_,h,_,_=>by simp at h
 |_::_,[],_,_,_,_,h,_=>by simp at h
 |p::P,w::vs,0,m,nd,h1,h2,hk=>by simp at h1 h2;subst h1;subst h2;show bindC kindOf ((p,w)::P.zip vs) m p=_;unfold bindC;rw[rX λv J=>(List.nodup_cons.mp nd).1 (aaj J).1,bN hk];simp
 |p::P,w::vs,i+1,m,nd,h1,h2,hk=>by show bindC kindOf ((p,w)::P.zip vs) m x=_;unfold bindC;exact rZ (i:=i) (List.nodup_cons.mp nd).2 (by simpa using h1) (by simpa using h2) hk
noncomputable def start(N:List aA)(vs:List V):St:=vs.map aa++VG (N.length-vs.length) af
noncomputable def dX(CX:CXT)(P:Vy)(w:VQ)(K:Ve)(mg:aA->Option aC)(base:av)(N:List aA)(qual:aA)(scope:V8)(f:aB)(cd:aC)(A:V9)(outer:List Env)(s:Vh)(H:Hp)(E:XK):Cx where
 prog:=P
 w:=w
 K:=K
 mg:=mg
 base:=base
 A:=A.deeper (Xr qual scope s.heap.objs.size f cd)
 N:=N
 s₀:=s
 H₀:=H
 env:=Xr qual scope s.heap.objs.size f cd
 outer:=outer
 stack:=Xr qual scope s.heap.objs.size f cd::outer
 ex:=[]
 calm:=ah
 fn:=λ_=>ah
 pn:=[]
 xe:=λe L=>az (VC P w) (A.deeper (Xr qual scope s.heap.objs.size f cd)) (abB (Xr qual scope s.heap.objs.size f cd) e) (λ_ J=>CX outer H s E e J) (λO J=>CX outer H s E O J) L
def vj{sc:V8}{n:Nat}{x:aA}(h:sc.names.lookup x=aa .cell):∃c,(cellsFrom n sc.names []).lookup x=aa c:=by have q:=aaC sc.names n [] (.inl h);exact Option.isSome_iff_exists.mp q
def AI{CX:CXT}{P:Vy}{w:VQ}{K:Ve}{mg:aA->Option aC}{base:av}{N ps:List aA}{qual:aA}{scope:V8}{f:aB}{cd:aC}{A:V9}{outer:List Env}{s g:Vh}{H:Hp}{E:XK}{us:List aC}{vs:List V}
(S:eN N ps scope)(t:A.handled=af)(L:tG P w K mg base A outer s H)(D:vs.length=ps.length)(r:dD vs us)
(x:InCallC s s.heap.objs.size (bindL (Xr qual scope s.heap.objs.size f cd).kindOf (ps.zip us) λ_=>af) (cellsFrom (s.heap.objs.size+1) scope.names []) (bindC (Xr qual scope s.heap.objs.size f cd).kindOf (ps.zip us) λ_=>af) g):
 Inv (dX CX P w K mg base N qual scope f cd A outer s H E) [] (start N vs) H g:=by
 have o:ps.length<=N.length:=by have:=bU YG S.pre;rw[Xq]at this;lia
 obtain ⟨d,C,rfl,l⟩:=x.done;have O:∀ b:aB,b∉(dX CX P w K mg base N qual scope f cd A outer s H E).ex:=λb z=>bO (show b∈([]:List aB) from z) (by simp);refine ⟨⟨L.mod,S.kind,rfl,rfl,Vo _,λy z c d J=>?_,λy U=>?_,λy c _ h=>?_,λ_=>t,Around.frames_deeper L.frames,.inr ⟨rfl,rfl⟩,λb z=>bO z (O b),L.bs,L.bsz,λb _ _=>O b,λb z=>bO z (O b),L.kE,L.frf⟩,
  rfl,L.bare,Un.aJ l,⟨_,x.toInCall.ns,λi y v d J F=>?_⟩,λy c h=>⟨_,x.cell y c h⟩,L.aL.fresh (Vo _),λy c h=>?_,λp Y=>bO (show p∈([]:List (aB×au)) from Y) (by simp),L.aL.aJ l,?_⟩
 exact name_of_addr x.apart (Xo d) (Xo J)
 ·have U:scope.names.lookup y=aa .cell\/scope.names.lookup y=aa .free:=U;rcases U with U|U
  exact vj U;exact bO rfl (S.nofree _ (Xo U))
 exact Xa (x.above y c (Xo h))
 ·have Z:i<vs.length:=by
   unfold start at J
   by_cases Z:i<vs.length
   exact Z
   ·rw[VW (by simpa using Z)]at J;rw[XG]at J;split at J<;>cases J
  have B:vs[i]?=aa v:=by
   unfold start at J;rw[Vi (by simpa using Z),VF]at J;cases e:vs[i]? with
   |none=>rw[e]at J;cases J|some a=>rw[e]at J;cases J;rfl
  obtain⟨u,j,m⟩:=r.get B;have Y:ps[i]?=aa y:=by rw[←S.pre,Wu (by lia)];exact d
  have W:ps.Nodup:=by rw[←S.pre];exact S.nd.sublist (List.take_sublist _ _)
  refine⟨u,m,?_⟩;rcases S.par y (Vz Y)with k|k
  exact .inl ⟨k,rY W Y j k⟩
  ·obtain⟨c,e⟩:=vj (n:=s.heap.objs.size+1) k;refine .inr ⟨.inl k,c,e,?_⟩;have q:=x.cell y c e;rw[rZ W Y j (by show scope.names.lookup y≠_;rw[k];decide)]at q;exact q
 exact L.aL.fresh (Xa (x.above y c (Xo h)))
 ·unfold start;show _=N.length;rw[VN,Vx,XU];lia
def CH{K:Ve}{kV:aC}
{osl:Array (Option aC)}(p:K.lookup f=aa ⟨oc,od,.func (Wz name qual params body scope dV kV doc pm an cdv ct),osl⟩)(h:YY K cdv qual=ah)(S:eN N ps scope)
(len:∀vs H Q E,sp vs H Q E->vs.length=ps.length)
(U:∀ (A:V9) (outer:List Env) (s:Vh) (H:Hp) (vs:List V) (Q:VK) (E:XK),fG k (A.deeper (Xr qual scope s.heap.objs.size f cdv))->sp vs H Q E →
  ∃ t,PSs (dX CX P w K mg base N qual scope f cdv A outer s H E) body t/\t { nx:=λ_ H'=>Q .aF H',rt:=Q } (start N vs) H):
 gO P w K mg base CX (k+1) f (Wz name qual params body scope dV kV doc pm an cdv ct) ps sp:=by
 refine⟨len,λA outer s H j m vs Q E g a F r Z=>?_⟩;have C:=len _ _ _ _ Z;have l:K.In s.heap:=a.mod.kin.keeps λb o e=>(a.bs b o e).1;have lim:s.heap.NoLimit:=a.mod.nolimit.keeps λb o e=>(a.bs b o e).1;have O:∀y∈ps.zip m,scope.names.lookup y.1=aa .local\/(scope.names.lookup y.1=aa .cell/\((cellsFrom (s.heap.objs.size+1) scope.names []).lookup y.1).isSome=ah):=λ⟨n,v⟩ hy=>by
  rcases S.par n (aaj hy).1 with q|q
  exact .inl q;exact .inr ⟨q,aaC _ _ _ (.inl q)⟩
 refine codeAny_call_function g.depth (l _ _ p) rfl S.co S.gen rfl (PySem.W.codeRec_of l h) (F _ _ _ _ ?_);refine wpAny_newFunctionEnv_cells S.kind O λM D i x=>?_;subst D;refine⟨lim.keeps x.toInCall.keep,codeAny_func ?_⟩;obtain⟨t,z,B⟩:=U A outer s H vs Q E (g.deeper _) Z;have I:Inv (dX CX P w K mg base N qual scope f cdv A outer s H E) [] (start N vs) H i:=AI S g.hd a C r x;refine Wk (z [] i (start N vs) H _ I B) (λG c Y=>?_) λe c Y=>Y;have fin:∀{L:St}{H':Hp}{v:V}{u:aC},Inv (dX CX P w K mg base N qual scope f cdv A outer s H E) [] L H' c->RelV v u->Q v H'->CE outer P w H s Q u c :=
  λ{L H' v u} J d q=>⟨v,H',J.os,J.bare,J.base,J.aL,d,q⟩
 cases G with
 |ret u =>
  obtain⟨v,L,H',J,d,q⟩:=Y;exact fin J d q
 |next =>
  obtain⟨L,H',J,q⟩:=Y;exact fin (v:=V.aF) (u:=WX) J rfl q
 |brk =>
  obtain⟨_,_,_,q⟩:=Y;exact WI q
 |cont =>
  obtain⟨_,_,_,q⟩:=Y;exact WI q
end L2
namespace L2
open PySem PySem.Spec PyProof.Rows
section
variable{X:Cx}{x:aA}{p pos:Pos}{e:ZH}{es:List ZH}{t:TA}{id T:String}{r:List V->Hp->VK->Prop}
def tCB(r:List V->Hp->VK->Prop)(t:TA):TE:=fun J H Q=>t J H λL O=>r L O Q
def gA(hc:fQ X (.builtin id) r)(Y:Gl X x)(W:X.mg x=af)(V:Yb x=aa (.builtin id))(a:PA X (e::es) t)(hn:x≠"__name__":=by decide)(L:(x==("__debug__":aA))=ak:=by decide)
(Z:VR (e::es) X.env=(ak,eval e X.env)::VR es X.env:=by rfl)(J:(Xh pos (VR es X.env)).any (·.1)=ak:=by rfl):PE X (.Call (.Name x p) (e::es) [] pos) (tCB r t):=by
 intro U s O H Q I h;refine WA (jI I Y W V ?_ hn L);exact Zb (thn (a pos U s O H _ I h) λus s1 ⟨vs,H1,I1,r1,q1⟩=>hc U s1 O H1 vs us Q I1 r1 q1) Z J
def lu(hc:fQ X (.type T) r)(Y:Gl X x)(W:X.mg x=af)(V:Yb x=aa (.type T))(a:PA X (e::es) t)(hn:x≠"__name__":=by decide)(L:(x==("__debug__":aA))=ak:=by decide)
(Z:VR (e::es) X.env=(ak,eval e X.env)::VR es X.env:=by rfl)(J:(Xh pos (VR es X.env)).any (·.1)=ak:=by rfl):PE X (.Call (.Name x p) (e::es) [] pos) (tCB r t):=by
 intro U s O H Q I h;refine WA (jI I Y W V ?_ hn L);exact Wi (thn (a pos U s O H _ I h) λus s1 ⟨vs,H1,I1,r1,q1⟩=>hc U s1 O H1 vs us Q I1 r1 q1) Z J
end
end L2
namespace HT
open PySem PyProof.Rows
section
open PySem.SeqAt
open PySem.AutoSeq1 (wpAny_loadPart')
open PySem.MeetsSeq PySem.MeetsSeq2 PySem.MeetsSeq3
end
section
variable{prog:Vy}{w:VQ}{A:V9}{E:aC->Vh->Prop}{s:Vh}
def Gn(g:IsTup s.heap t vs.toArray)(h:IsTup s.heap b ws.toArray)(c:vs≠[])
(h1:ws=[]->Q (.ref t) s)(h2:ws≠[]->Q (.ref s.heap.objs.size) {s with heap:=s.heap.push {cls:=.type "tuple",data:=.seq (vs++ws).toArray} })
(Y:vs.length+ws.length<=ao):az (VC prog w) A (WT .Add (.ref t) (.ref b)) Q E s:=by
 obtain⟨⟨cls,dd,data,Z⟩,W,hc,n,d⟩:=id g;obtain⟨⟨f,V,data2,L⟩,J,U,a,O⟩:=id h;simp only at hc d U O;subst hc d U O;have e:vs.toArray++ws.toArray=(vs++ws).toArray:=by simp
 by_cases hw:ws=[]
 ·exact concat_meets ⟨_,W,rfl⟩ ⟨_,J,rfl⟩ aaF abz YE Yx (Yr _ _)
   (tuple_addW1 t b vs.toArray ws.toArray n a dd V Z L (by simpa using c) (by simp[hw])) ⟨W,J,h1 hw⟩
 ·refine concat_meets ⟨_,W,rfl⟩ ⟨_,J,rfl⟩ aaF abz YE Yx (Yr _ _)
   (tuple_addW2 t b vs.toArray ws.toArray n a dd V Z L (by simpa using c) (by simpa using hw) (by rw[Vl,Vl];exact Y)) ⟨W,J,?_⟩
  rw[e];exact h2 hw
noncomputable def sIx(n d:Nat):Option Int->Nat
 |none=>d
 |some v=>if v<0 then(v+(n:Int)).toNat else min v.toNat n
def Kv(n d:Nat)(L:d<=n)(o:Option Int):sIx n d o<=n:=by
 cases o with
 |none=>exact L
 |some v =>
  show(if v<0 then(v+(n:Int)).toNat else min v.toNat n)<=n
  by_cases J:v<0
  rw[bM J];lia;rw[bN J];exact Nat.min_le_right _ _
def yN(v:Int)(n d:Nat):(if v<0 then max (v+(n:Int)) 0 else min v (n:Int))=((sIx n d (aa v):Nat):Int):=by
 show(if v<0 then max (v+(n:Int)) 0 else min v (n:Int))=(((if v<0 then(v+(n:Int)).toNat else min v.toNat n):Nat):Int)
 by_cases J:v<0
 simp only[bM J];lia;simp only[bN J];lia
def xA(lo hi:Option Int)(n:Nat):XY lo hi 1 (n:Int)=(((sIx n 0 lo:Nat):Int),((sIx n n hi:Nat):Int)):=by
 have J:¬((1:Int)<0):=by lia
 unfold XY;simp only[J,if_false];refine Prod.ext ?_ ?_
 ·cases lo with
  |none=>rfl|some v=>exact yN v n 0
 ·cases hi with
  |none=>rfl|some v=>exact yN v n n
def xB(i j:Nat):W0 (i:Int) (j:Int) 1=j-i:=by
 unfold W0;have J:(1:Int)>0:=by lia
 simp only[J,if_true,Int.ediv_one];split<;>lia
def pR(p:aaE v o)(h:Q o s):az (VC prog w) A (Builtin.Slice.slicePartIndex v) Q E s:=by
 cases p with
 |none=>exact slicePart_none h|int i t=>exact slicePart_int h
def jA{lo:Option Int}{n:Nat}(U:s.heap.IsSliceOf sl vl vu .none)(pl:aaE vl lo)(O:aaE vu hi)
(h:Q (((sIx n 0 lo:Nat):Int),1,sIx n n hi-sIx n 0 lo) s):az (VC prog w) A (Zh (.ref sl) (pure (n:Int))) Q E s:=by
 obtain⟨os,J,V,L⟩:=id U;unfold Zh Builtin.Slice.sliceFields;refine Vf (Vf (ZL J L (x:=vl) rfl (Vf (ZL J L (x:=vu) rfl (Vf (ZL J L (x:=.none) rfl (ay ?_)))))));refine Vf (slicePart_none ?_);show az _ _ (if((1:Int)==0)=ah then _ else _) _ _ s;rw[bN (by decide)];refine Vf (pR pl (Vf (pR O (Vf (ay ?_)))));show az _ _ (match XY lo hi 1 (n:Int)with|(lo,hi)=>pure (lo,(1:Int),W0 lo hi 1)) _ _ s;rw[xA lo hi n];show az _ _ (pure (((sIx n 0 lo:Nat):Int),(1:Int),W0 ((sIx n 0 lo:Nat):Int) ((sIx n n hi:Nat):Int) 1)) _ _ s;rw[xB];exact ay h
def CJ(xs:Array aC)(i k:Nat):((VM k).filterMap λ(m:Nat)=>xs[((i:Int)+(m:Int)*1).toNat]?).toArray=((xs.toList.drop i).take k).toArray:=by
 have e:(λ(m:Nat)=>xs[((i:Int)+(m:Int)*1).toNat]?)=λm=>xs[i+m]?:=by
  funext m;have:((i:Int)+(m:Int)*1).toNat=i+m:=by lia
  rw[this]
 rw[e];have:=pick_run xs i k;rw[List.filterMap_map]at this;have e2:((λx=>xs[x]?) ∘ λx=>i+x)=λm=>xs[i+m]?:=rfl;rw[e2]at this;rw[this]
def mK{lo:Option Int}(L:IsTup s.heap t items)(Y:s.heap.IsSliceOf sl vl vu .none)(pl:aaE vl lo)(Z:aaE vu hi)
(hw:¬(sIx items.size 0 lo=0/\sIx items.size items.size hi=items.size))
(h:Q (.ref s.heap.objs.size) {s with heap:=s.heap.push {cls:=.type "tuple",data:=.seq ((items.toList.drop (sIx items.size 0 lo)).take (sIx items.size items.size hi-sIx items.size 0 lo)).toArray} })
(a:items.size<=ao):az (VC prog w) A (aar (.ref t) (.ref sl)) Q E s:=by
 have J:sizeOk (.seq ((items.toList.drop (sIx items.size 0 lo)).take (sIx items.size items.size hi-sIx items.size 0 lo)).toArray):=by show((items.toList.drop (sIx items.size 0 lo)).take (sIx items.size items.size hi-sIx items.size 0 lo)).toArray.size<=ao;rw[Vl,Xq,ZV,VS];lia
 have e:sIx items.size items.size hi<=items.size:=Kv _ _ (Vo _) hi;obtain⟨os,O,V,b⟩:=id Y;have W:s.TypeIs (.ref sl) "slice":=⟨os,O,V⟩;unfold aar
 try with_reducible refine V3 ?_
 first|refine Vf (ay ?_)|skip
 refine Vf (wpAny_sequenceKey L.typeIs (by decide) ?_);refine Vf (WZ (name:=Vu "__getitem__") L.typeIs WH
  (XC WH L.typeIs entry_tuple_getitem ?_ (args_tuple_getitem _ _)))
 show az _ _ (Zg (.ref t) >>= _) _ _ s;refine Vf (tupleItemsOf_ L ?_);refine Vf (X8 W ?_);rw[bM (by decide)];refine Vf (jA Y pl Z ?_);have U:¬((((sIx items.size 0 lo:Nat):Int)==0&&(1:Int)==1&&(sIx items.size items.size hi-sIx items.size 0 lo)==items.size)=ah):=by intro q;rw[Vg,Vg]at q;have d:((sIx items.size 0 lo:Nat):Int)=0:=bT q.1.1;have c:sIx items.size items.size hi-sIx items.size 0 lo=items.size:=bT q.2;exact hw ⟨by lia,by lia⟩
 show az _ _ (if(((sIx items.size 0 lo:Nat):Int)==0&&(1:Int)==1&&(sIx items.size items.size hi-sIx items.size 0 lo)==items.size)=ah then _ else _) _ _ s;rw[bN U,CJ]
 first
  |exact Vf (m:=W8 _) (V1 (ay ⟨_,rfl,ay h⟩) J)
  |exact Vf (m:=W8 _) (V1 (Vf (ay (ay ⟨_,rfl,ay h⟩))) J)
  |exact Vf (Vf (m:=W8 _) (V1 (ay (ay ⟨_,rfl,ay h⟩)) J))
  |exact Vf (Vf (m:=W8 _) (V1 (ay ⟨_,rfl,ay h⟩) J))
end
end HT
namespace L2
open PySem PySem.Spec PyProof.Rows
abbrev TO:=St->Hp->(Option Int->Hp->Prop)->Prop
def PO(X:Cx)(e:Option ZH)(t:TO):Prop :=
 ∀(L:List (aB×au)) (s:Vh) (J:St) (H:Hp) (Q:Option Int->Hp->Prop),Inv X L J H s->t J H Q →
  az (VC X.prog X.w) X.A (evalPart e X.env) (λu U=>∃o O,Inv X L J O U/\aaE u o/\Q o O) X.xe s
def Gp:TO:=λ_ H Q=>Q af H
def Os(t:TE):TO:=fun J H Q=>t J H λx L=>∃i,x=.int i/\Q (aa i) L
def intsAre_of:∀{us:List aC},dD (ns.map V.int) us->Yy us ns:=by
 induction ns with
 |nil=>intro us r;rw[Wb]at r;cases r;exact .nil
 |cons n ns O =>
  intro us r;rw[VA]at r;cases r with
  |cons L J =>
   obtain⟨t,e⟩:=L;subst e;exact .cons n t (O J)
section
variable{X:Cx}{e:ZH}{te:TE}{lo hi:Option ZH}{tl th:TO}{pos p2:Pos}
def Gq:PO X af Gp:=by intro L s J H Q I h;rw[abC];exact ay ⟨af,H,I,.none,h⟩
def Gs(h:PE X e te):PO X (aa e) (Os te):=by intro L s J H Q I hw;rw[evalPart_some];refine thn (h L s J H _ I hw) λu Z O=>?_;obtain⟨x,Y,W,U,V⟩:=O;obtain⟨i,rfl,q⟩:=V;obtain⟨t,rfl⟩:=U;exact⟨aa i,Y,W,.int i t,q⟩
def SlR(X:Cx)(r:V->Option Int->Option Int->Hp->VK->Prop):Prop :=
 ∀(L:List (aB×au)) (s:Vh) (J:St) (H:Hp) (x:V) (v U O:aC) (lo Y:Option Int) (W:aB) (Q:VK),Inv X L J H s->RelV x v->s.heap.IsSliceOf W U O .none->aaE U lo->aaE O Y->r x lo Y H Q →
  ∃T id,typeLookup (.type T) "__getitem__"=pure (aa (.builtin id))/\s.TypeIs v T/\az (VC X.prog X.w) X.A (aar v (.ref W)) (EP X L J Q) X.xe s
def tSl(r:V->Option Int->Option Int->Hp->VK->Prop)(te:TE)(tl th:TO):TE:=fun J H Q=>te J H λx U=>tl J U λl O=>th J O λu L=>r x l u L Q
def CK(i:SlR X r)(m:PE X e te)(j:PO X lo tl)(f:PO X hi th):PE X (.Subscript e (.Slice lo hi af p2) pos) (tSl r te tl th):=by intro O s L H Q I h;refine abl (thn (m O s L H _ I h) λv Y V=>?_);obtain⟨x,y,t,Z,c⟩:=V;refine wpAny_Slice (thn (j O Y L y _ t c) λvl s2 ⟨l,H2,I2,pl,q2⟩=>thn (f O s2 L H2 _ I2 q2) λU J V=>?_);obtain⟨u,W,p,d,a⟩:=V;rw[abC];refine ay ?_;have o:Inv X O L W {J with heap:=J.heap.push {cls:=.type "slice",data:=.fields #[vl,U,.none]} }:=p.aJ (t':=J.toks) λb ob q=>Vk _ q;obtain⟨T,id,n,g,k⟩:=i O {J with heap:=J.heap.push {cls:=.type "slice",data:=.fields #[vl,U,.none]} } L W x v vl U l u J.heap.objs.size Q o Z (aae ..) pl d a;show az (VC X.prog X.w) X.A (aby e (.Slice lo hi af p2) v (.ref J.heap.objs.size)) (EP X O L Q) X.xe {J with heap:=J.heap.push {cls:=.type "slice",data:=.fields #[vl,U,.none]} };exact abx (ops:=[.ref J.heap.objs.size,v]) g n k (by with_unfolding_all rfl)
def vm(xs:List V)(lo hi:Option Int):List V:=(xs.drop (HT.sIx xs.length 0 lo)).take (HT.sIx xs.length xs.length hi-HT.sIx xs.length 0 lo)
def oE(xs:List V)(lo hi:Option Int):(vm xs lo hi).length<=xs.length:=by unfold vm;rw[Xq,ZV];lia
def Sd(K:Ve):V->Option Int->Option Int->Hp->VK->Prop:=λx lo L H Q=>∃a J,x=.ref a/\SqT K H a J ∧
 ¬(HT.sIx J.length 0 lo=0/\HT.sIx J.length J.length L=J.length)/\∀p,H p=af->Q (.ref p) (upd H p (.aE (vm J lo L)))
def Kw:SlR X (Sd X.K):=by
 intro g s f H x v j i lo U k Q I Y e c Z h;obtain⟨a,L,rfl,d,hw,q⟩:=h;cases Y;obtain⟨O,r,W,V⟩:=I.tuple d;have J:O.toArray.size=L.length:=by rw[Vl];exact r.length.symm
 refine⟨"tuple",_,PyProof.Rows.slot_tuple_getitem.lookup,W.typeIs,?_⟩;refine HT.mK W e c Z (by rw[J];exact hw) ?_ (by rw[J];exact V);rw[J];refine⟨.ref s.heap.objs.size,_,I.laid (t':=s.toks) (o:=.aE (vm L lo U)) (λb ob q=>Vk _ q) (Vo _) ?_,rfl,q _ (I.aL.fresh (Vo _))⟩;exact⟨VJ (oE L lo U) V,_,(r.drop (HT.sIx L.length 0 lo)).take (HT.sIx L.length L.length U-HT.sIx L.length 0 lo),IsTup.new _ _⟩
def Ot(K:Ve):R2:=λx y H Q=>∃a b L J,x=.ref a/\y=.ref b/\SqT K H a L/\SqT K H b J/\L≠[]/\L.length+J.length<=ao ∧
 (J=[]->Q (.ref a) H)/\(J≠[]->∀p,H p=af->Q (.ref p) (upd H p (.aE (L++J))))
def dD.mL(r:dD xs us):us=[]↔xs=[]:=by
 cases r with
 |_=>simp
def Gu:OpR X (WT .Add) (Ot X.K):=by intro m s l H x y v u Q I Z Y h;obtain⟨a,b,W,V,rfl,rfl,k,j,i,U,d,c⟩:=h;cases Z;cases Y;obtain⟨g,L,f,_⟩:=I.tuple k;obtain⟨O,J,e,_⟩:=I.tuple j;refine HT.Gn f e (λz=>i (L.mL.mp z)) (λz=>⟨.ref a,H,I,rfl,d (J.mL.mp z)⟩) (λz=>?_) (by rw[←L.length,←J.length];exact U);refine⟨.ref s.heap.objs.size,_,I.laid (t':=s.toks) (o:=.aE (W++V)) (λb ob q=>Vk _ q) (Vo _) ?_,rfl,c (λw=>z (J.mL.mpr w)) _ (I.aL.fresh (Vo _))⟩;exact⟨by rw[VN];exact U,_,L.append J,IsTup.new _ _⟩
end
end L2
namespace L2
open PySem PySem.Spec PyProof.Rows
noncomputable def ixN(n:Nat)(i:Int):Option Nat:=if 0<=i then(if i<n then aa i.toNat else af)else if -(n:Int)<=i then aa (i+n).toNat else af
def atI{J:Type}(xs:List J)(i:Int):Option J:=(ixN xs.length i).bind λj=>xs[j]?
def yO(h:ixN n i=aa j):seqIndex? i n=aa j/\j<n/\-(n:Int)<=i/\i<n:=by
 unfold ixN at h
 by_cases L:0<=i
 ·rw[bM L]at h
  by_cases J:i<n
  ·rw[bM J]at h;have e:i.toNat=j:=Vp h;exact⟨by rw[seqIndex_of L J,e],by lia,by lia,J⟩
  rw[bN J]at h;cases h
 ·rw[bN L]at h
  by_cases J:-(n:Int)<=i
  ·rw[bM J]at h;have e:(i+n).toNat=j:=Vp h;exact⟨by rw[seqIndex_neg (by lia) J,e],by lia,J,by lia⟩
  rw[bN J]at h;cases h
def tH{J:Type}{xs:List J}{v:J}(h:atI xs i=aa v):∃j,seqIndex? i xs.length=aa j/\xs[j]?=aa v/\j<xs.length/\-(xs.length:Int)<=i/\i<xs.length:=by
 unfold atI at h;cases e:ixN xs.length i with
 |none=>rw[e]at h;cases h
 |some j =>
  rw[e]at h;obtain⟨V,U,O,L⟩:=yO e;exact⟨j,V,h,U,O,L⟩
def yP(b:ZH):Prop:=∀o i,subscripted b ak o i=operate [o,i] (aar o i)
def IxR(X:Cx)(r:R2):Prop :=
 ∀(L J:ZH)(U:List (aB×au)) (s:Vh) (O:St) (H:Hp) (x y:V) (v u:aC) (Q:VK),Inv X U O H s->RelV x v->RelV y u->r x y H Q →
  subscripted J ak v u=operate [v,u] (aar v u)->az (VC X.prog X.w) X.A (aby L J v u) (EP X U O Q) X.xe s
def MtR(X:Cx)(id:String)(r:V->List V->Hp->VK->Prop):Prop :=
 ∀(L:List (aB×au)) (s:Vh) (J:St) (H:Hp) (x:V) (O:List V) (v:aC) (U:List aC) (Q:VK),Inv X L J H s->RelV x v->dD O U->r x O H Q →
  az (VC X.prog X.w) X.A (call (.builtin id) (v::U)) (EP X L J Q) X.xe s
section
variable{X:Cx}{a b:ZH}{ta tb:TE}{pos:Pos}
def Ju(Y:IxR X r)(c:PE X a ta)(Z:PE X b tb)(W:yP b):PE X (.Subscript a b pos) (tOp r ta tb):=by intro L s J H Q I h;exact abl (Kg c Z I h λv u O x y e d V U q=>Y a b L O J e x y v u Q d V U q (W _ _))
def Se(K:Ve):R2:=λx y H Q=>∃p J i v,x=.ref p/\y=.int i/\SqL K H p J/\atI J i=aa v/\Q v H
def Sf(K:Ve):R2:=λx y H Q=>∃p J i v,x=.ref p/\y=.int i/\SqT K H p J/\atI J i=aa v/\Q v H
def Sg:R2:=λx y H Q=>∃z i c,x=.str z/\y=.int i/\z.length<=ao/\atI z.cps.toList i=aa c/\Q (.str ⟨#[c]⟩) H
def yQ:IxR X (Se X.K):=by
 intro L O a s Z H x y v u Q I g f h b;obtain⟨p,B,i,z,rfl,rfl,k,m,q⟩:=h;cases g;obtain⟨t,rfl⟩:=f;obtain⟨W,r,V,C⟩:=I.list k;obtain⟨j,J,A,D,o,n⟩:=tH m;obtain⟨w,d,U⟩:=r.get A;have l:=r.length;have hn:=nO;have fin:EP X a Z Q w s:=⟨z,H,I,U,q⟩
 by_cases c:0<=i
 ·have Y:i.toNat=j:=by rw[seqIndex_of c n]at J;exact Vp J
  exact item_listR V.isList c (by lia) (by rw[Y];simpa using d) fin b
 ·have Y:(i+(W.toArray.size:Int)).toNat=j:=by rw[seqIndex_neg (by lia) o]at J;rw[Vl,←l];exact Vp J
  exact subscriptTail_builtinR (x:=w) V.isList.typeIs slot_list_getitem.lookup
   (wpAny_getItem_list_neg (Q:=λr e=>r=w/\EP X a Z Q r e) V.isList (by lia) (by rw[Vl]<;>lia) (by lia) (by rw[Y];simpa using d) ⟨rfl,fin⟩) b
def Kx:IxR X (Sf X.K):=by
 intro J L V s U H x y v u Q I a Z h c;obtain⟨p,m,i,z,rfl,rfl,d,f,q⟩:=h;cases a;obtain⟨t,rfl⟩:=Z;obtain⟨b,r,W,n⟩:=I.tuple d;obtain⟨j,k,g,B,A,o⟩:=tH f;obtain⟨w,l,O⟩:=r.get g;have e:=r.length;have hn:=nO;have fin:EP X V U Q w s:=⟨z,H,I,O,q⟩;exact subscriptTail_builtinR (x:=w) W.typeIs slot_tuple_getitem.lookup
  (getItem_tuple (j:=j) (Q:=λr Y=>r=w/\EP X V U Q r Y) W (by lia) (by lia) (by rw[Vl,←e];exact k) (by simpa using l) ⟨rfl,fin⟩) c
def Kz:IxR X Sg:=by
 intro J L f s e H x y v u Q I V U h W;obtain⟨z,i,c,rfl,rfl,k,Z,q⟩:=h;obtain⟨t,rfl⟩:=V;obtain⟨g,rfl⟩:=U;obtain⟨j,O,d,l,b,a⟩:=tH Z;have Y:z.cps.toList.length=z.length:=by simp[Str.length]
 rw[Y] at O b a;have hn:=nO;exact abx (typeIs_str s z t) slot_str_getitem.lookup (getItem_str (c:=c) (by
  have e1:decide (i < -(2 ^ 63:Int))=ak:=bQ (by lia);have e2:decide (i ≥ 2 ^ 63)=ak:=bQ (by lia);rw[e1,e2,YH]) (by rw[O];simpa using d) ⟨.str ⟨#[c]⟩,H,I.tok _,⟨_,rfl⟩,q⟩) W
def xE(J:List aC)(n j:Nat)(u:aC):Xc (·.setIfInBounds j u) {cls:=.type "list",data:=.seq J.toArray n}={cls:=.type "list",data:=.seq (J.set j u).toArray n}:=by simp[Xc]
def Inv.aD{zt:List (aB×au)}{σ:St}{H:Hp}{s:Vh}{p:aB}{xs:List V}(I:Inv X zt σ H s)(h:H p=aa (.aD xs)):
 ∃(J:List aC) (n:Nat),dD xs J/\s.heap.get? p=aa {cls:=.type "list",data:=.seq J.toArray n}/\xs.length<=ao:=by
 obtain⟨z,J,n,r,e⟩:=I.aL p _ h;exact⟨J,n,r,e,z⟩
def Inv.KA{zt:List (aB×au)}{σ:St}{H:Hp}{s:Vh}{p:aB}{xs ys:List V}{J its':List aC}{n L:Nat}{f:au->au}(I:Inv X zt σ H s)(h:H p=aa (.aD xs))
(U:s.heap.get? p=aa {cls:=.type "list",data:=.seq J.toArray n})(O:f {cls:=.type "list",data:=.seq J.toArray n}={cls:=.type "list",data:=.seq its'.toArray L})(r:dD ys its')(hz:ys.length<=ao)(t:Nat):
 Inv X zt σ (upd H p (.aD ys)) {s with heap:=s.heap.update p f,toks:=t}:=by
 have e:(s.heap.update p f).get? p=aa {cls:=.type "list",data:=.seq its'.toArray L}:=by rw[VZ f U (by rw[O]<;>rfl),O]
 refine I.write (x:=p) (e:=p) (by rw[h];trivial) (.inl rfl) (λb u W q=>(WD _ _ (Wa W)).trans q) ⟨_,e⟩ ?_;exact⟨hz,its',L,r,e⟩
def Jv:V->V->V->Hp->(Hp->Prop)->Prop:=λo i v H Q=>∃p J k j,o=.ref p/\i=.int k/\H p=aa (.aD J)/\ixN J.length k=aa j/\Q (upd H p (.aD (J.set j v)))
def set_list:N7 X Jv:=by
 intro e s d H o i v y z u Q I l m g h;obtain⟨p,f,k,j,rfl,rfl,Y,x,q⟩:=h;cases l;obtain⟨t,rfl⟩:=m;obtain⟨J,n,r,O,w⟩:=I.aD Y;obtain⟨L,A,a,Z⟩:=yO x;have U:=r.length;have hn:=nO;have c:Inv X e d (upd H p (.aD (f.set j v))) {s with heap:=s.heap.update p (Xc (·.setIfInBounds j u))} :=
  I.KA Y O (xE J n j u) (r.set g j) (by rw[VX];exact w) s.toks
 by_cases b:0<=k
 ·have V:k.toNat=j:=by rw[seqIndex_of b Z]at L;exact Vp L
  exact PySem.W.ki_setAt O b (by lia) (by rw[Vl,←U];exact Z) (by rw[V];exact⟨_,c,q⟩)
 ·have V:(k+(J.toArray.size:Int)).toNat=j:=by rw[seqIndex_neg (by lia) a]at L;rw[Vl,←U];exact Vp L
  exact PySem.W.ki_setBack O (by lia) (by rw[Vl,←U];exact a) (by lia) (by rw[V];exact⟨_,c,q⟩)
def tK(lo hi:Option Int)(n:Nat):(VU lo hi af n).1=((HT.sIx n 0 lo:Nat):Int)/\(VU lo hi af n).2.1=((HT.sIx n n hi:Nat):Int)/\(VU lo hi af n).2.2=1:=by
 refine⟨?_,?_,rfl⟩
 ·cases lo with
  |none=>simp[VU,HT.sIx]
  |some i =>
   simp only[VU,HT.sIx,abL,show(1:Int)>0 by decide,if_true]
   by_cases h:i<0
   simp only[h,if_true]<;>lia;simp only[h,if_false]<;>lia
 ·cases hi with
  |none=>simp[VU,HT.sIx]
  |some i =>
   simp only[VU,HT.sIx,abL,show(1:Int)>0 by decide,if_true]
   by_cases h:i<0
   simp only[h,if_true]<;>lia;simp only[h,if_false]<;>lia
def rD(J:List aC)(lo hi:Option Int):slicePick J.toArray lo hi af=((J.drop (HT.sIx J.length 0 lo)).take (HT.sIx J.length J.length hi-HT.sIx J.length 0 lo)).toArray:=by obtain⟨U,O,L⟩:=tK lo hi J.toArray.size;unfold slicePick;rw[U,O,L];simp only[sliceRange_one,pick_run,Vl]<;>rfl
def Sh(K:Ve):V->Option Int->Option Int->Hp->VK->Prop:=λx lo L H Q=>∃a J,x=.ref a/\SqL K H a J/\∀p,H p=af->Q (.ref p) (upd H p (.aD (vm J lo L)))
def Gv:SlR X (Sh X.K):=by intro g s f H x v j i lo O k Q I V e Y W h;obtain⟨a,J,rfl,d,q⟩:=h;cases V;obtain⟨Z,r,U,c⟩:=I.list d;have L:=r.length;refine⟨"list",_,slot_list_getitem.lookup,U.isList.typeIs,?_⟩;refine abk U.isList e Y W .none (by simp) ?_ (by rw[Vl]<;>lia);rw[rD,←L];refine⟨.ref s.heap.objs.size,_,I.laid (t':=s.toks) (o:=.aD (vm J lo O)) (λb ob q=>Vk _ q) (Vo _) ?_,rfl,q _ (I.aL.fresh (Vo _))⟩;exact⟨VJ (oE J lo O) c,_,0,(r.drop (HT.sIx J.length 0 lo)).take (HT.sIx J.length J.length O-HT.sIx J.length 0 lo),Vw _ rfl⟩
def jJ:fQ X (.builtin "len") (λxs H Q=>∃p ys,xs=[.ref p]/\(SqL X.K H p ys\/SqT X.K H p ys)/\Q (.int ys.length) H):=by
 intro a s Z H xs b Q I r h;obtain⟨p,ys,rfl,L,q⟩:=h;obtain⟨u,rfl,W⟩:=vals1 r;cases W;have hn:=nO;rcases L with L|L
 ·obtain⟨V,O,U,Y⟩:=I.list L;have J:=O.length;exact Calls.call_len_list U.isList (by simp only[Vl]<;>lia) ⟨.int ys.length,H,I.tok _,⟨s.toks+1,by rw[Vl,J]⟩,q⟩
 ·obtain⟨V,O,U,Y⟩:=I.tuple L;have J:=O.length;exact len_tuple U (by simp only[Vl]<;>lia) ⟨.int ys.length,H,I.tok _,⟨s.toks+1,by rw[Vl,J]⟩,q⟩
def tL:fQ X (.builtin "len") (λxs H Q=>∃z,xs=[.str z]/\z.length<=ao/\Q (.int z.length) H):=by intro L s J H xs O Q I r h;obtain⟨z,rfl,U,q⟩:=h;obtain⟨u,rfl,t,rfl⟩:=vals1 r;have hn:=nO;exact len_str (by lia) ⟨.int z.length,H,I.tok _,⟨_,rfl⟩,q⟩
def mO:fQ X (.type "list") (λxs H Q=>∃p ys,xs=[.ref p]/\(SqL X.K H p ys\/SqT X.K H p ys)/\∀l,H l=af->Q (.ref l) (upd H l (.aD ys))):=by
 intro i s g H xs k Q I r h;obtain⟨p,ys,rfl,Y,q⟩:=h;obtain⟨u,rfl,j⟩:=vals1 r;cases j;have fin:∀(J:List aC),dD ys J->ys.length<=ao->∀(L:av)(U:Nat),(∀b f,s.heap.get? b=aa f->L.get? b=aa f) →
  L.get? s.heap.objs.size=aa {cls:=.type "list",dict:=af,data:=.seq J.toArray U,slots:=#[]}->EP X i g Q (.ref s.heap.objs.size) {s with heap:=L}:=λJ O W L U V e =>
  ⟨.ref s.heap.objs.size,_,I.laid (t':=s.toks) V (Vo _) (show gZ X.prog X.w _ L _ (.aD ys) from⟨W,J,U,O,e⟩),rfl,q _ (I.aL.fresh (Vo _))⟩
 rcases Y with Y|Y
 ·obtain⟨J,O,a,W⟩:=I.list Y;have Z:=O.length;obtain⟨o,c,hc,n,d⟩:=a.isList;exact call_list_seq p (.inl rfl) c hc d (λL U V e=>fin J O W L U V e) (by simp only[Vl]<;>lia)
 ·obtain⟨J,O,a,W⟩:=I.tuple Y;have Z:=O.length;obtain⟨o,c,hc,n,d⟩:=a;exact call_list_seq p (.inr rfl) c hc d (λL U V e=>fin J O W L U V e) (by simp only[Vl]<;>lia)
def lP:fQ X (.type "tuple") (λxs H Q=>∃p ys,xs=[.ref p]/\((SqL X.K H p ys/\∀l,H l=af->Q (.ref l) (upd H l (.aE ys)))\/(SqT X.K H p ys/\Q (.ref p) H))):=by
 intro Y s W H xs i Q I r h;obtain⟨p,ys,rfl,h⟩:=h;obtain⟨u,rfl,d⟩:=vals1 r;cases d;rcases h with⟨V,q⟩|⟨V,q⟩
 ·obtain⟨J,O,U,Z⟩:=I.list V;have a:=O.length;refine call_tuple_list U.isList (λL f=>?_) (by simp only[Vl]<;>lia);have c:Inv X Y W H {s with heap:=L}:=I.aJ (t':=s.toks) f;have g:Inv X Y W (upd H L.objs.size (.aE ys)) {s with heap:=L.push {cls:=.type "tuple",data:=.seq J.toArray} } :=
   c.laid (t':=s.toks) (λb o e=>Vk _ e) (Vo _) (show gZ X.prog X.w _ _ _ (.aE ys) from⟨Z,J,O,IsTup.new _ _⟩)
  exact⟨.ref L.objs.size,_,g,rfl,q _ (c.aL.fresh (Vo _))⟩
 ·obtain⟨J,O,U,Z⟩:=I.tuple V;exact call_tuple_same U ⟨.ref p,H,I,rfl,q⟩
def tyV(K:Ve)(T:String)(x:V)(H:Hp):Prop:=match x with
 |.str _=>T="str"|.int _=>T="int"|.ref p=>(T="list"/\∃L,SqL K H p L)\/(T="tuple"/\∃o,K.lookup p=aa o/\o.cls=.type "tuple"/\o.dict=af) ∨
  (T="dict"/\((∃J,H p=aa (.dK J))\/∃J,H p=aa (.dT J)))\/(T="set"/\∃S n,H p=aa (.set S n))
 |_=>False
def xF(I:Inv X zt σ H s)(r:RelV x v)(ty:tyV X.K T x H):
 s.TypeIs v T/\∀a,v=.ref a->∃ob,s.heap.get? a=aa ob/\ob.dict=af:=by
 cases x with
 |str z =>
  obtain⟨t,rfl⟩:=r;cases (show T="str" from ty);exact⟨typeIs_str s z t,λ_ e=>nomatch e⟩
 |int i =>
  obtain⟨t,rfl⟩:=r;cases (show T="int" from ty);exact⟨typeIs_int s i t,λ_ e=>nomatch e⟩
 |ref p =>
  cases r;rcases ty with⟨rfl,Y,W⟩|⟨rfl,o,J,hc,O⟩|⟨rfl,J⟩|⟨rfl,S,n,J⟩
  ·obtain⟨V,_,U,_⟩:=I.list W;refine⟨U.isList.typeIs,λa e=>?_⟩;cases e;obtain⟨o,n,e,c,O,_⟩:=U;exact⟨o,e,O⟩
  ·refine⟨⟨o,I.kIn p o J,hc⟩,λa e=>?_⟩;cases e;exact⟨o,I.kIn _ o J,O⟩
  ·have z:∃o,s.heap.get? p=aa o/\o.ExactDict:=by
    rcases J with⟨L,J⟩|⟨L,J⟩
    ·obtain⟨_,_,_,_,o,_,_,e,ex,_⟩:=I.aL p _ J;exact⟨o,e,ex⟩
    ·obtain⟨_,_,_,_,o,_,_,e,ex,_⟩:=I.aL p _ J;exact⟨o,e,ex⟩
   obtain⟨o,e,ex⟩:=z;refine⟨⟨o,e,ex.1⟩,λa e2=>?_⟩;cases e2;exact⟨o,e,ex.2.1⟩
  ·obtain⟨o,_,_,_,e,ex,_⟩:=I.aL p _ J;refine⟨⟨o,e,ex.1⟩,λa e2=>?_⟩;cases e2;exact⟨o,e,ex.2.1⟩
 |_=>exact WI ty
def Si(K:Ve)(T:String)(r:V->List V->Hp->VK->Prop)(to:TE):TE:=fun L H Q=>to L H λx J=>tyV K T x J/\r x [] J Q
def tBM(K:Ve)(T:String)(r:V->List V->Hp->VK->Prop)(to:TE)(t:TA):TE:=fun J H Q=>to J H λx L=>tyV K T x L/\t J L λO U=>r x O U Q
variable{o e:ZH}{es:List ZH}{to:TE}{t:TA}{name:aA}{apos cpos:Pos}{T id:String}{r:V->List V->Hp->VK->Prop}
def KB(d:PlainAttrs T)(O:Slot T name id)(U:typeOf (.builtin id)=pure (.type "method_descriptor"))(f:MtR X id r)(e:PE X o to)
(L:Y8 o name X.env (eval o X.env)=eval o X.env:=by rfl)(J:(apos.endLine==cpos.line)=ah:=by rfl):PE X (.Call (.Attribute o name apos) [] [] cpos) (Si X.K T r to):=by
 intro W s V H Q I h;refine wpAny_Call_method0_late L J (thn (e W s V H _ I h) λv b a=>?_);obtain⟨x,j,Z,Y,ty,c⟩:=a;obtain⟨i,g⟩:=xF Z Y ty;exact⟨T,id,d,O,U,i,g,YQ rfl (PySem.evalArgs_none (f W b V j x [] v [] Q Z Y .nil c))⟩
def CM(j:PlainAttrs T)(U:Slot T name id)(Z:typeOf (.builtin id)=pure (.type "method_descriptor"))(m:MtR X id r)(l:PE X o to)(n:PA X (e::es) t)
(O:Y8 o name X.env (eval o X.env)=eval o X.env:=by rfl)
(V:((Xh cpos (VR (e::es) X.env)).all (λx=>!x.1)&&(aaM cpos (Y5 [] X.env)).all (λx=>x.1.isSome)
 &&decide ((e::es).length+([]:List YO).length+(if ([]:List YO).isEmpty then 0 else 1) < 30))=ah:=by rfl)
(L:(apos.endLine==cpos.line)=ah:=by rfl)(k:VR (e::es) X.env=(ak,eval e X.env)::VR es X.env:=by rfl)(J:(Xh cpos (VR es X.env)).any (·.1)=ak:=by rfl):
 PE X (.Call (.Attribute o name apos) (e::es) [] cpos) (tBM X.K T r to t):=by
 intro Y s W H Q I h;refine wpAny_Call_method_late O V L rfl (thn (l Y s W H _ I h) λv g f=>?_);obtain⟨x,u,d,b,ty,i⟩:=f;obtain⟨q,p⟩:=xF d b ty;refine⟨T,id,j,U,Z,q,p,?_⟩;have c:=n cpos Y g W u _ d i;rw[k]at c⊢;refine YQ (by show(ak||(Xh cpos (VR es X.env)).any (·.1))=ak;rw[J]<;>rfl) (X0 ?_);exact thn c λus s2 ⟨vs,H2,I2,r2,q2⟩=>m Y s2 W H2 x vs v us Q I2 b r2 q2
/- xs.append(e),list.index on a module's tuple .. are MtR facts of 06m -/
end
end L2
namespace L2
open PySem PySem.Spec PyProof.Rows
def MtM(X:Cx)(id:String)(r:V->List V->Hp->VK->Prop):Prop :=
 ∀(L:List (aB×au)) (s:Vh) (J:St) (H:Hp) (x:V) (O:List V) (v:aC) (U:List aC) (Q:VK),Inv X L J H s->RelV x v->dD O U->r x O H Q →
  az (VC X.prog X.w) X.A (call (.builtin id) (v::U)) (EP X L J Q) X.xe s
def dD.one{x:V}{us:List aC}(h:dD [x] us):∃u,us=[u]/\RelV x u:=by cases h with|cons r t=>cases t;exact⟨_,rfl,r⟩
def dD.two{x y:V}{us:List aC}(h:dD [x,y] us):∃u v,us=[u,v]/\RelV x u/\RelV y v:=by cases h with|cons r t=>obtain⟨v,rfl,q⟩:=dD.one t;exact⟨_,v,rfl,r,q⟩
theorem dD.zero:∀{us:List aC},dD [] us->us=[]
 |_,.nil=>rfl
def dD.dropLast(h:dD xs us):dD xs.dropLast us.dropLast:=by
 induction h with
 |nil=>exact .nil
 |cons r t J =>
  cases t with
  |nil=>exact .nil|cons q L=>exact .cons r J
theorem dD.rep(h:dD xs us):∀k:Nat,dD (VG k xs).flatten (VG k us).flatten
 |0=>.nil
 |k+1=>by rw[WC,WC,Xb,Xb];exact dD.append h (dD.rep h k)
def xG(l:List α):l.eraseIdx (l.length-1)=l.dropLast:=by
 induction l with
 |nil=>rfl
 |cons a r J =>
  cases r with
  |nil=>rfl
  |cons b r =>
   have e:(a::b::r).length-1=((b::r).length-1)+1:=by have O:(a::b::r).length=r.length+2:=rfl;have L:(b::r).length=r.length+1:=rfl;lia
   rw[e,List.eraseIdx_cons_succ,J]
   all_goals rfl
theorem foldl_rep(J:List aC):∀(k:Nat)(L:List aC),
 ZG (λU O=>U++O) L.toArray (VG k J.toArray)=(L++(VG k J).flatten).toArray
 |0,L=>by simp
 |k+1,L=>by
  have e:L.toArray++J.toArray=(L++J).toArray:=by simp
  have e2:(L++J)++(VG k J).flatten=L++(VG (k+1) J).flatten:=by rw[WC,Xb,Wd]
  rw[←e2,←foldl_rep J k (L++J),←e,WC,WU]
section
variable{X:Cx}{zt:List (aB×au)}{σ:St}{H:Hp}{s:Vh}{l b:aB}{xs ys zs:List V}
def Inv.Gw{J its':List aC}{n:Nat}{f:Array aC->Array aC}{t':Nat}(I:Inv X zt σ H s)(W:H l=aa (.aD xs))
(e:s.heap.get? l=aa {cls:=.type "list",data:=.seq J.toArray n})(U:f J.toArray=its'.toArray)(L:dD ys its')(hz:ys.length<=ao):
 Inv X zt σ (upd H l (.aD ys)) {s with heap:=s.heap.update l (Xc f),toks:=t'}:=by
 have q:=PySem.IsL.update e f;rw[U]at q;refine I.write (x:=l) (e:=l) (by rw[W];exact trivial) (.inl rfl) (λY u V O=>(WD s.heap (Xc f) (Wa V)).trans O) ⟨_,q⟩ ?_;exact⟨hz,its',_,L,q⟩
def Inv.Ou(I:Inv X zt σ H s)(J:dD ys its)(hz:ys.length<=ao):
 Inv X zt σ (upd H s.heap.objs.size (.aD ys)) {s with heap:=s.heap.push {cls:=.type "list",data:=.seq its.toArray},toks:=t'} :=
 I.laid (λ_ _ q=>Vk _ q) (Vo _) ⟨hz,its,0,J,Vw _ rfl⟩
def Inv.fresh(I:Inv X zt σ H s):H s.heap.objs.size=af:=I.aL.fresh (Vo _)
def Inv.Gx(I:Inv X zt σ H s)(L:H l=aa (.aD xs)):xs.length<=ao/\∃(J:List aC) (n:Nat),dD xs J/\xs.length=J.length/\s.heap.get? l=aa {cls:=.type "list",data:=.seq J.toArray n}:=by obtain⟨z,J,n,r,e⟩:=I.aL l _ L;exact⟨z,J,n,r,r.length,e⟩
def pS(h:n<=ao):Wr n=ak:=by unfold Wr;exact bQ (by lia)
end
section
variable{X:Cx}
def Gy:V->List V->Hp->VK->Prop:=λx L H Q=>∃l J y,x=.ref l/\L=[y]/\H l=aa (.aD J)/\J.length<ao/\Q .aF (upd H l (.aD (J++[y])))
def r6:MtM X "list.append" Gy:=by intro Y s W H x a v b Q I O U h;obtain⟨l,Z,y,rfl,rfl,L,c,q⟩:=h;cases O;obtain⟨u,rfl,V⟩:=U.one;obtain⟨z,J,n,r,d,e⟩:=I.Gx L;refine XH F.slot_list_append ⟨_,e,rfl⟩ F.entry_list_append (F.args_list_append_2 _ _) (PySem.list_append l J.toArray n u (by rw[Vl];lia)) ⟨e,?_⟩;refine⟨.aF,_,I.Gw (its':=J++[u]) L e (by simp) (r.append (.cons V .nil)) ?_,rfl,q⟩;rw[VN,Y0];lia
def Sj:V->List V->Hp->VK->Prop:=λx L H Q=>∃l J y,x=.ref l/\L=[]/\H l=aa (.aD J)/\J[J.length-1]?=aa y/\Q y (upd H l (.aD J.dropLast))
def KC:MtM X "list.pop" Sj:=by
 intro d s c H x g v i Q I V W h;obtain⟨l,f,y,rfl,rfl,U,Z,q⟩:=h;cases V;have O:=W.zero;subst O;obtain⟨z,J,n,r,b,e⟩:=I.Gx U;obtain⟨u,a,Y⟩:=r.get Z;have L:J.toArray[J.toArray.size-1]?=aa u:=by show J.toArray[J.length-1]?=aa u;rw[←aa3,←b];exact a
 refine XH F.slot_list_pop ⟨_,e,rfl⟩ F.entry_list_pop (F.args_list_pop_1 _) (MeetsSeq.list_pop_last l J.toArray n u L (by rw[Vl];lia)) ⟨e,?_⟩;refine⟨y,_,I.Gw (its':=J.dropLast) U e ?_ r.dropLast ?_,Y,q⟩
 ·show J.toArray.eraseIdxIfInBounds (J.toArray.size-1)=J.dropLast.toArray;rw[Vl,List.eraseIdxIfInBounds_toArray,xG]
 ·rw[List.length_dropLast];lia
def len_rep(xs:List α)(k:Nat):(VG k xs).flatten.length=k*xs.length:=by
 induction k with
 |zero=>simp|succ k J=>rw[WC,Xb,VN,J,Nat.succ_mul,Nat.add_comm]
end
section
variable{prog:Vy}{w:VQ}{A:V9}{E:aC->Vh->Prop}{s:Vh}
set_option maxRecDepth 100000 in
end
section
variable{X:Cx}
end
end L2
namespace Att
open PySem PySem.W PySem.Calls PyProof.Rows
def oM:∀(ns:List Int)(vs:List aC),WellAll P h vs (ns.map WData.int)->Yy vs ns:=by
 intro ns
 induction ns with
 |nil =>
  intro vs w;rw[Wb]at w;cases w;exact .nil
 |cons n ns J =>
  intro vs w;rw[VA]at w;cases w with
  |cons a b =>
   cases a;exact .cons _ _ (J _ b)
def AJ{l:OpenLaw}{n:Nat}(hn:l.most=aa n){P:Params}{h:av}{args:List WData}{vals:List aC}
(J:l.row.toRowW.claim.pre args=ah)(W:WellAll P h vals args):
 ∃a vs ns,vals=[Wm a]/\args=[WData.list (ns.map WData.int)]/\h.get? a=aa {cls:=.type "list",data:=.seq vs.toArray}/\Yy vs ns/\ns.length<=n:=by
 have Y:WShape.hasAll [] args [.list .int]=ah:=(pre_splitW J).1;have hc:l.pre.holds [] {args:=args}=ah:=(pre_splitW J).2;obtain⟨d,r,rfl,i,g⟩:=hasAllW_cons Y;obtain rfl:=hasAllW_nil g;obtain⟨j,rfl,f⟩:=hasW_list i;obtain⟨ns,rfl⟩:=items_int f;have L:ns.length<=n:=by
  unfold OpenLaw.pre at hc;have V:(WTm.not (.lt (.lit (.int (n:Int))) (.len (.arg 0)))).holds [] {args:=[.list (ns.map .int)]}=ah:=by have V:=(holds_andW hc).1;rw[hn]at V;exact V
  have U:=condW_of V (w_not (w_lt w_lit (w_len_list (w_arg rfl))));rw[Vx]at U;refine Nat.le_of_not_lt λq=>?_;have c:(n:Int)<((ns.length:Nat):Int):=by lia
  first
   |(rw[bR c]at U;exact bO U (by decide))
   |(simp at U;lia)
 cases W with
 |cons b Z =>
  cases Z;cases b with
  |list e O=>exact⟨_,_,ns,rfl,rfl,e,oM ns _ O,L⟩
def AK(l:OpenLaw)(args:List WData):l.row.toRowW.claim.post args (.bool ah) args=ah :=
 postW_of (r:=l.row.toRowW) (X:=(ah==ah))
  (show WShape.has [] (.bool ah) .bool=ah by first|rfl|decide|simp[WShape.has,WShape.arms,WShape.armsAll])
  (show(WTm.eq .res (.lit (.bool ah))).value [] {args:=args,res:=aa (.bool ah),after:=args}=aa (.bool (ah==ah)) from w_eq_bool (w_res rfl) w_lit) rfl
def vn{l:OpenLaw}{n:Nat}{q:Vy}{loose:List aA}{XP:(aA->Option aC)->av->Prop}{YP:VQ->av->Prop}{d:DefRec}
(hn:l.most=aa n)(e:d.params.defaults=[])
(call:∀ (w:VQ) (s₀ J:Vh) (mg Z:aA->Option aC) (W:aB) (o:au) (pm cd doc:aC) (a:aB) (vs:List aC) (ns:List Int),
  Ground q loose [] XP w s₀ mg Z J.heap->YP w J.heap →
  J.heap.get? W=aa o->o.data=.func (docDef d.name d.params d.body d.scope pm cd doc)->J.heap.CodeRec cd d.name->mg d.name=aa (.ref W) →
  J.heap.get? a=aa {cls:=.type "list",data:=.seq vs.toArray}->Yy vs ns->ns.length<=n->J.gens=#[] →
  aq (VC l.prog w) abD (.call (.ref W) ⟨[.ref a],[]⟩) (λr s'=>r=.ok (.ret (.bool ah))/\OldK J.heap s'.heap/\s'.os=J.os/\ZS s'.gens) J):
 WalkO q loose XP YP l.row.toRowW d [] (λf vs=>abI f vs):=by
 intro w s₀ J mg Z G Y W o pm cd doc A kV p v g i c u j vals B O h k b t;obtain rfl:A=.none:=Dflts.none i e;obtain rfl:kV=.none:=Dflts.noKw i;obtain⟨a,vs,ns,rfl,rfl,U,L,V⟩:=AJ hn O b;refine enter_call (codeAny_mono (call w s₀ J mg Z W o pm cd doc a vs ns G Y p (fd_plain v) g c U L V u) λr s' m=>?_);obtain⟨rfl,z,y,x⟩:=m;exact⟨.inl ⟨.bool ah,.bool ah,[],rfl,λ_=>rfl,.bool ah,AK l _,λ_=>⟨List.Pairwise.nil,λ_ s=>(nomatch s)⟩⟩,z,y,x⟩
section
variable{prog:Vy}{w:VQ}{A:V9}{E:aC->Vh->Prop}{s:Vh}{K:Frag}
noncomputable def ledger(h:av)(L d:aB):List (aB×au):=(VM h.objs.size).filterMap λa=>if a=L\/a=d then af else(h.get? a).map λo=>(a,o)
end
end Att
namespace L2
open PySem PySem.Spec PyProof.Rows
theorem ly:∀{vs:List aC}{ns:List Int},Yy vs ns->dD (ns.map V.int) vs
 |_,_,.nil=>.nil|_,_,.cons n t h=>.cons ⟨t,rfl⟩ (ly h)
end L2
namespace L2
open PySem PySem.Spec PyProof.Rows
noncomputable abbrev KOf{K:Ve}{h:av}(_:K.In h):Ve:=K
end L2
/- THE LAST THEOREM (shape;LID,My.* are yours):
 My.Adr: a structure of the addresses that your layer names (classes,functions);My.Txt K t: a structure (Prop) of the equations over K;
 My.txt_mk:{K}{implicit addresses ..} (e1:nsIn K VB "law"=aa (aa (.ref f))) (e2:K.lookup f=aa ⟨oc,od,.func (fnOf "law" "law" params body scope dV kV doc pm an cdv ct),sl⟩) (e3:codeIn K cdv "law"=ah) ..:∃t,My.Txt K t
set_option maxRecDepth 100000 in
set_option maxHeartbeats 0 in
def PySem.Challenge.Gz:PySem.Challenge.rw_LID.Holds:=by
 w_on;o_law;k_head;(case hw=>w_witness2)
 k_fill
 refine L2.walk_of (l:=PySem.Challenge.rw_LID) (n:=63) (k:=40) (x:="script") (CX:=λw=>..) (sp:=λ_=>My.FL) rfl (by decide) rfl ⟨rfl,by decide,by decide⟩ (λw h Y=>PySem.W.kIn_of Y) ?F ?S ?C
 case F =>
  intro w g d h c G Z;have T:∃t,My.Txt (L2.KOf c) t:=by
   dsimp only[L2.KOf] -- K must stand as «<heap const> w.params» for k_is;refine' My.txt_mk ?e1 ?e2 ?e3 ..
   (case e1=>PySem.W.k_is) -- in J order: a name->its address->its object->its parts
   (case e2=>PySem.W.k_is)
   ..
  obtain⟨t,T⟩:=T;have e:=Z.symm.trans (Ww c G T.law);cases e -- d is J law's own address;exact⟨_,λs u=>.of_eq rfl,λL V U=>My.law_fn T V U⟩ -- if «.of_eq rfl» comes too early: refine' ⟨_,?b,λL V U=>My.law_fn T V U⟩;exact λs u=>.of_eq rfl
 case S=>exact λw H a f i m j=>..
 case C=>exact ..
(J O k_is has no namespace: write k_is) -/
namespace L2
open PySem PySem.Spec PyProof.Rows
abbrev CX0:CXT:=λ_ _ _ _ _ _=>False
abbrev E0:XK:=λ_ _ _=>False
def pT:iA CX0 X E0:=λ_ _ _ _ _ _ _ h=>h.elim
inductive Ow(K:Ve)(x qual:aA)(st:ZA)(f:aB)(fd:Wp):Prop
 |mk(L:aC)(J:Option aB)(kV doc pm:aC)(an:Option aB)(cdv ct:aC)(osl:Array (Option aC))(h1:fd=Wz x qual (f7 st) (dF st) (c5 st) .none kV doc pm an cdv ct)(h2:K.lookup f=aa ⟨L,J,.func fd,osl⟩)(O:YY K cdv qual=ah):Ow K x qual st f fd
structure Fun(K:Ve)(x qual:aA)(st:ZA)(f:aB)(fd:Wp):Prop where
 ex:Ow K x qual st f fd
 kp:We K (.ref f)=ah
section
variable{P:Vy}{w:VQ}{K:Ve}{mg:aA->Option aC}{base:av}
def Fun.binds{st:ZA}(F:Fun K x qual st f fd)
(h:∀(kV doc pm:aC)(an:Option aB)(cdv ct:aC)(us:List aC),us.length=ps.length->abE (Wz x qual (f7 st) (dF st) (c5 st) .none kV doc pm an cdv ct) ⟨us,[]⟩=pure (ps.zip us)):Binds K fd ps []:=by
 obtain⟨O,L,kV,doc,pm,an,cdv,ct,osl,rfl,U,J⟩:=F.ex;exact .all (h kV doc pm an cdv ct)
def KG{st:ZA}{osl:Array (Option aC)}{kV:aC}(l:K.lookup f=aa ⟨oc,od,.func (Wz x qual (f7 st) (dF st) (c5 st) .none kV doc pm an cdv ct),osl⟩)
(c:YY K cdv qual=ah)(k:We K (.ref f)=ah):Fun K x qual st f (Wz x qual (f7 st) (dF st) (c5 st) .none kV doc pm an cdv ct):=⟨⟨oc,od,kV,doc,pm,an,cdv,ct,osl,rfl,l,c⟩,k⟩
end
def AL(h:n<=1000):n<ao:=Nat.lt_of_le_of_lt h (by decide)
section
variable{X:Cx}
end
end L2
end
section
namespace L2
open PySem PySem.Spec PyProof.Rows
section
variable{κ:Type}[DecidableEq κ]
noncomputable def vo(kvs:List (κ×V))(k:κ):Option V:=(kvs.find? λJ=>decide (J.1=k)).map (·.2)
noncomputable def putK(kvs:List (κ×V))(k:κ)(v:V):List (κ×V) :=
 if(kvs.any λJ=>decide (J.1=k))=ah then kvs.map (λJ=>if J.1=k then(J.1,v)else J)else kvs++[(k,v)]
def vp{p:κ×V}{r:List (κ×V)}{k:κ}(e:p.1=k):vo (p::r) k=aa p.2:=by simp[vo,W7,e]
def vq{p:κ×V}{r:List (κ×V)}{k:κ}(e:¬p.1=k):vo (p::r) k=vo r k:=by simp[vo,W7,e]
def KV.val{kvs:List (κ×V)}{vs:List (κ×aC)}(r:KV kvs vs)(k:κ):pL (vo kvs k) (valueAt vs k):=by
 unfold KV at r
 induction r with
 |nil=>exact Xv
 |@cons p q Y J h t U =>
  obtain⟨O,W⟩:=h
  by_cases e:p.1=k
  ·have L:q.1=k:=O.symm.trans e;have b:valueAt (q::J) k=aa q.2:=by simp[valueAt,W7,L]
   rw[vp e,b];exact W
  ·have L:¬q.1=k:=λz=>e (O.trans z);have b:valueAt (q::J) k=valueAt J k:=by simp[valueAt,W7,L]
   rw[vq e,b];exact U
end
def CO(r:RelV (kV k) u):(dO P w).is k u=ah:=by
 cases k with
 |inl i=>obtain⟨t,e⟩:=(show ∃t,u=Yc i t from r);subst e;exact uY P w i t|inr x=>obtain⟨t,e⟩:=(show ∃t,u=Xi x t from r);subst e;exact i9 P w x t
section
variable{P:Vy}{w:VQ}{H:Hp}{h:av}{a:aB}
def Ox(ok:HOk P w H h)(e:Rd H a u):gZ P w H h a u:=e.ok ok
def Oz(ok:HOk P w H h)(e:Rd H a (.dK kvs)):kvs.length<=ao/\(a==X3)=ak/\∃vs,KV kvs vs/\h.DictOf (dO P w) a vs :=
 show gZ P w H h a (.dK kvs) from Ox ok e
end
section
variable{X:Cx}{zt:List (aB×au)}{σ:St}{H:Hp}{s:Vh}{a:aB}{y v:V}{u r:aC}{o:Option V}{A:V9}{E:aC->Vh->Prop}
end
end L2
end
section
namespace BT
open PySem PySem.W PyProof.Rows
noncomputable def Ends{J:Type}(n:Nat)(P:J->Prop):KasT J->Prop
 |.ret a=>P a|.ask i j k=>i<n/\j<n/\∀b,Ends n P (k b)
end BT
end
section
namespace BS
open PySem PySem.W PySem.Spec PyProof.Rows
section
variable{E:aC->Vh->Prop}
end
end BS
end
section
namespace BX
open PySem PyProof.Rows
def Ri(xs:Array Nat):Prop:=∀i j a b:Nat,i<j->xs[i]?=aa a->xs[j]?=aa b->a<b
def CP(h:Ri xs)(j:Nat):∀(J lo hi:Nat),lo<=hi->hi<=xs.size->hi-lo<=J->(∀i a,i<lo->xs[i]?=aa a->a<j)->(∀i a,hi<=i->xs[i]?=aa a->j<=a) →
 (∀i a,i<SetTable.below.go xs j J lo hi->xs[i]?=aa a->a<j)/\(∀i a,SetTable.below.go xs j J lo hi<=i->xs[i]?=aa a->j<=a)/\SetTable.below.go xs j J lo hi<=xs.size:=by
 intro J
 induction J with
 |zero =>
  intro lo hi g V f U O;have:lo=hi:=by lia
  subst this;exact⟨U,O,V⟩
 |succ J Z =>
  intro lo hi g V f U O
  by_cases c:lo<hi
  ·have b:(lo+hi)/2<xs.size:=by lia
   have W:xs[(lo+hi)/2]?=aa xs[(lo+hi)/2]:=V2 b;have k:xs.getD ((lo+hi)/2) j=xs[(lo+hi)/2]:=by simp[Array.getD,b]
   have e:SetTable.below.go xs j (J+1) lo hi=if xs.getD ((lo+hi)/2) j<j then SetTable.below.go xs j J ((lo+hi)/2+1) hi else SetTable.below.go xs j J lo ((lo+hi)/2):=by show(if lo<hi then _ else lo)=_;rw[bM c]
   rw[e,k]
   by_cases d:xs[(lo+hi)/2]<j
   ·rw[bM d];refine Z _ _ (by lia) V (by lia) (λi a Y L=>?_) O;rcases VD i ((lo+hi)/2)with z|z
    have:=h i _ a _ z L W;lia
    ·have:i=(lo+hi)/2:=by lia
     subst this;rw[W]at L;cases L;exact d
   ·rw[bN d];refine Z _ _ (by lia) (by lia) (by lia) U (λi a Y L=>?_);rcases VD ((lo+hi)/2) i with z|z
    have:=h _ i _ a z W L;lia
    ·have:i=(lo+hi)/2:=by lia
     subst this;rw[W]at L;cases L;lia
  ·have e:SetTable.below.go xs j (J+1) lo hi=lo:=by show(if lo<hi then _ else lo)=_;rw[bN c]
   have:lo=hi:=by lia
   subst this;rw[e];exact⟨U,O,V⟩
def lZ(h:Ri xs)(j:Nat):(∀i a,i<SetTable.below xs j->xs[i]?=aa a->a<j)/\(∀i a,SetTable.below xs j<=i->xs[i]?=aa a->j<=a)/\SetTable.below xs j<=xs.size :=
 CP h j xs.size 0 xs.size (Wg _) (Vo _) (by lia) (λi a z=>bO z (aaz _)) (λi a z e=>by have:xs[i]?=af:=Wq z;rw[this]at e;cases e)
def mJ(xs:Array α)(L:p<=xs.size)(x:α)(i:Nat):(SetTable.insertAt xs p x)[i]?=if i<p then xs[i]? else if i=p then aa x else xs[i-1]?:=by
 unfold SetTable.insertAt;have J:((xs.extract 0 p).push x).size=p+1:=by simp;lia
 by_cases c:i<p
 ·rw[bM c,aal (by lia),abj,bN (by simp;lia),aaS];simp;lia
 ·rw[bN c]
  by_cases d:i=p
  ·subst d;rw[bM rfl,aal (by lia),abj,bM (by simp;lia)]
  ·rw[bN d,Array.getElem?_append_right (by lia),J,aaS];simp;split;congr 1;lia
   ·rename_i z
    symm
    exact Wq (by lia)
def KH(h:Ri xs)(hn:xs[SetTable.below xs j]?≠aa j):Ri (SetTable.insertAt xs (SetTable.below xs j) j):=by
 obtain⟨d,c,l⟩:=lZ h j;intro i k a b U J L;rw[mJ xs l]at J L;generalize SetTable.below xs j=p at *;have gt:∀i a,p<=i->xs[i]?=aa a->j<a:=λi a f e=>by
  have:=c i a f e;rcases VD j a with z|z
  exact z
  ·have:a=j:=by lia
   subst this;rcases VD p i with q|q
   ·cases O:xs[p]? with
    |none =>
     have:xs.size<=p:=by
      rcases VD p xs.size with w|w
      rw[V2 w]at O;cases O;exact w
     rw[Wq (by lia)]at e;cases e
    |some y =>
     have n:=h p i y a q O e;have m:=c p y (Vo _) O;lia
   ·have:i=p:=by lia
    subst this;exact bO e hn
 by_cases Z:k<p
 ·rw[bM Z]at L;rw[bM (by lia)]at J;exact h i k a b U J L
 ·rw[bN Z]at L
  by_cases Y:k=p
  ·rw[bM Y]at L;cases L;rw[bM (by lia)]at J;exact d i a (by lia) J
  ·rw[bN Y]at L;have g:=gt (k-1) b (by lia) L
   by_cases V:i<p
   ·rw[bM V]at J;have:=d i a V J;lia
   ·rw[bN V]at J
    by_cases W:i=p
    rw[bM W]at J;cases J;exact g
    ·rw[bN W]at J;exact h (i-1) (k-1) a b (by lia) J L
def CU(n:Nat):Ri (Array.range n):=by
 intro i j a b O L J;rw[Array.getElem?_range]at L J;split at L
 ·split at J;cases L;cases J;exact O;cases J
 cases L
def GA{l:List Nat}(h:l.Pairwise (· < ·)):Ri l.toArray:=by intro i j a b J O L;simp only[aa8]at O L;obtain⟨V,rfl⟩:=List.getElem?_eq_some_iff.mp O;obtain⟨U,rfl⟩:=List.getElem?_eq_some_iff.mp L;exact List.pairwise_iff_getElem.mp h i j V U J
structure Tb(bt:Bool)(t:SetTable):Prop where
 led:t.led=!bt
 ri:Ri t.place
def CV(bt:Bool):Tb bt (SetTable.fresh 0 0 (!bt)):=⟨rfl,λi j a b _ e=>by simp[SetTable.fresh]at e⟩
def mP(h:Tb bt t)(n:Nat):Tb bt (SetTable.standIn t n):=⟨h.led,CU n⟩
def Fre(t:SetTable)(j:Nat):Prop:=t.place[SetTable.below t.place j]?≠aa j
def vv(h:t.slot j=.empty\/t.slot j=.dummy):Fre t j:=by
 intro z;have e:t.slot j=.live (SetTable.below t.place j):=by unfold SetTable.slot;simp[z]
 rw[e]at h;rcases h with h|h<;>cases h
def CW(t:SetTable)(g:Nat->Int)(h:Int):∀(J:Nat)(p:SetTable.Probe)(j:Nat)(d:Option Nat),(∀x,p.dummy=aa x->Fre t x)->SetTable.probe.go t g h J p=aa (.empty j d)->Fre t j/\∀x,d=aa x->Fre t x:=by
 intro J
 induction J with
 |zero=>intro p j d _ e;cases e
 |succ J U =>
  intro p j d V e;have W:SetTable.probe.go t g h (J+1) p=(match t.slot p.j with
   |.empty=>aa (.empty p.j p.dummy)|.dummy=>SetTable.probe.go t g h J (SetTable.advance t {p with dummy:=aa p.j})
   | .live i=>if (g i==h)=ah then aa (.candidate p.j i (SetTable.advance t p)) else SetTable.probe.go t g h J (SetTable.advance t p)):=rfl
  rw[W]at e;have O:∀q:SetTable.Probe,(SetTable.advance t q).dummy=q.dummy:=λq=>by unfold SetTable.advance;split<;>rfl
  cases s:t.slot p.j with
  |empty =>
   rw[s]at e;cases e;exact⟨vv (.inl s),V⟩
  |dummy =>
   rw[s]at e;exact U _ j d (λx L=>by rw[O]at L;cases L;exact vv (.inr s)) e
  |live i =>
   rw[s]at e;simp only at e;split at e;cases e;exact U _ j d (λx L=>by rw[O]at L;exact V x L) e
def CY(e:SetTable.freeSlot t h=aa (j,b)):Fre t j:=by
 unfold SetTable.freeSlot at e;split at e
 ·rename_i J d O;cases e;obtain⟨V,U⟩:=CW t _ h _ _ J d (λx L=>by simp[SetTable.probeStart]at L) O;cases d with
  |none=>exact V|some x=>exact U x rfl
 cases e
def KI(h:Tb bt t)(es:Array (Int×aC))(k:Int)(x:aC):Tb bt (layNew t es k x).2.1:=by
 unfold layNew;split
 ·rename_i J U e;have O:=CY e;have L:Tb bt (SetTable.put t J).1:=⟨h.led,KH h.ri O⟩;simp only;show Tb bt (SetTable.orStandIn _ _);unfold SetTable.orStandIn;split;exact L;exact mP L _
 exact mP h _
def CZ{bt:Bool}(h:Tb bt t)(es:Array (Int×aC))(n:Nat):Tb bt (relayAll t es n).2.1:=by
 unfold relayAll;split
 ·rename_i U L e;have Y:Tb bt U:=by
   unfold SetTable.relaid SetTable.laid at e;cases g:SetTable.layClean (SetTable.sizeAbove n-1) (es.map λx=>x.1)with
   |none=>rw[g]at e;cases e
   |some J =>
    rw[g]at e;cases e;refine⟨h.led,GA ?_⟩;rw[List.pairwise_map];refine List.Pairwise.filterMap _ (λa b O x W y V=>?_) List.pairwise_lt_range;obtain⟨_,_,rfl⟩:=Option.map_eq_some_iff.mp W;obtain⟨_,_,rfl⟩:=Option.map_eq_some_iff.mp V;exact O
  simp only;split;exact Y;exact mP h _
 exact mP h _
section
variable{prog:Vy}{w:VQ}{A:V9}{E:aC->Vh->Prop}{s:Vh}
def rE(prog:Vy)(w:VQ)(bt:Bool)(h:av)(a:aB)(S:Int->Bool)(n:Nat):Prop :=
 ∃o J L t,h.get? a=aa o/\o.ExactSet/\o.data=.set J L t/\ElemsOf (intKind prog w) J.toList/\(∀k,S k=ah↔∃e∈J.toList,(intKind prog w).is k e.2=ah)/\J.size<X9/\t.fits J.size=ah/\J.size=n/\Tb bt t
def U6{g:Bool->Sem Unit}(O:∀(b:Bool)(J:Vh)(Q:Unit->Vh->Prop),Q () J->az (VC prog w) A (g b) Q E J){b:Bool}{L:Type}{f:Unit->Sem L}{Q:L->Vh->Prop}(h:az (VC prog w) A (f ()) Q E s):az (VC prog w) A (g b >>= f) Q E s :=
 Vf (O b s _ h)
def add_int{S:Int->Bool}(hs:rE prog w bt s.heap a S n)(hn:n+1<X9)
(K:∀b h',V6 a s.heap h'->rE prog w bt h' a (λW=>S W||decide (W=k)) (if S k=ah then n else n+1)->Q b {s with heap:=h'}):
 az (VC prog w) A (setAddHashed a (.int k tk) ((intKind prog w).hash k)) Q E s:=by
 obtain⟨o,Z,ep,t,v,Y,x,I,G,hb,X,rfl,ht⟩:=hs;have T:=intKind_is prog w k tk;unfold setAddHashed;refine V3 ?_;rw[setAddHashedIn.eq_def];show az _ _ (setState a >>= _) _ _ s;refine Vf (WW v x X ?_);simp only;rw[bM (byScan_of (knd:=intKind prog w) rfl hb I)];refine Vf ?_;unfold setAddByScan;refine Vf (aam ?_);refine Vf ?_;show az _ _ (setScanFrom a (.int k tk) ((intKind prog w).hash k) ah Z.toList 0) _ _ s;refine wpAny_setScanFrom_of (knd:=intKind prog w) T v x X Z.toList 0 I ?_;cases g:Z.toList.findIdx? λe=>(intKind prog w).is k e.2 with
 |some j =>
  have H:S k=ah:=by obtain⟨hj,l,_⟩:=List.findIdx?_eq_some_iff_getElem.mp g;exact(G k).mpr ⟨_,YN hj,l⟩
  refine ay (ay (K _ _ (Y4 _ _) ?_));rw[bM H];refine⟨o,Z,ep,t,v,Y,x,I,λW=>?_,hb,X,rfl,ht⟩;rw[←G W]
  by_cases c:W=k
  subst c;simp[H];simp[c]
 |none =>
  have H:¬S k=ah:=λz=>by obtain⟨e,l,y⟩:=(G k).mp z;have:=List.findIdx?_eq_none_iff.mp g e l;rw[y]at this;cases this
  rw[bN H]at K;have D:=layNew_fits t Z ((intKind prog w).hash k) (.int k tk);have M:=layNew_perm t Z ((intKind prog w).hash k) (.int k tk);have C:=KI ht Z ((intKind prog w).hash k) (.int k tk);dsimp only;generalize layNew t Z ((intKind prog w).hash k) (.int k tk)=r at D M C⊢;obtain⟨J,L,B,gv⟩:=r;simp only at D M C⊢;have i:J.toList.Perm (Z.toList++[((intKind prog w).hash k,.int k tk)]):=by simpa using M
  have sz:J.size=Z.size+1:=by have:=i.length_eq;simpa using this
  have e1:=(I.push T rfl).perm i;have R:=mem_push_iff T G i;have z1:J.size<X9:=by lia
  have fin:az (VC prog w) A (Z2 a J L >>= λ_=>if(!B&&L.tooFull)=ah then(match relayAll L J (SetTable.grown J.size)with|(U,f,V)=>(match V with|true=>rule "set.scan.the-table-gave-way" |false=>pure ()) >>= λ_=>Z2 a U f >>= λ_=>pure (aa ah))else pure (aa ah))
   (λd u=>az (VC prog w) A (match d with|some O=>pure O|none=>abc a (.int k tk) ((intKind prog w).hash k) 99999) Q E u) E s:=by
   obtain⟨ob,_⟩:=SetOf_store v Y x e1 R z1 D;refine Vf (wpAny_storeSet_of v x ?_ (by rw[sz];exact X4 hn))
   by_cases c:(!B&&L.tooFull)=ah
   ·rw[bM c];have F:=relayAll_fits L J (SetTable.grown J.size);have p:=relayAll_perm L J (SetTable.grown J.size);have N:=CZ C J (SetTable.grown J.size);generalize relayAll L J (SetTable.grown J.size)=r at F p N⊢;obtain⟨U,f,V⟩:=r;simp only at F p N⊢;have q:U.size=Z.size+1:=by have:=p.length_eq;simp at this;lia
    have e2:=e1.perm p;have m2:∀W,(S W||decide (W=k))=ah↔∃e∈U.toList,(intKind prog w).is W e.2=ah:=λW=>(R W).trans ⟨λ⟨e,l,y⟩=>⟨e,p.mem_iff.mpr l,y⟩,λ⟨e,l,y⟩=>⟨e,p.mem_iff.mp l,y⟩⟩;have nx:az (VC prog w) A (Z2 a U f >>= λ_=>pure (aa ah)) (λd u=>az (VC prog w) A (match d with|some O=>pure O|none=>abc a (.int k tk) ((intKind prog w).hash k) 99999) Q E u) E {s with heap:=s.heap.update a (Obj.putSet J L)}:=by obtain⟨P,_⟩:=SetOf_store (h:=s.heap.update a (Obj.putSet J L)) ob ⟨Y.1,Y.2.1,Y.2.2⟩ rfl e2 m2 (by lia) F;refine Vf (wpAny_storeSet_of (s:={s with heap:=s.heap.update a (Obj.putSet J L)}) ob rfl ?_ (by rw[q];exact X4 hn));refine ay (ay (K ah _ ((V7 ..).trans (V7 ..)) ?_));exact⟨_,U,_,f,P,⟨Y.1,Y.2.1,Y.2.2⟩,rfl,e2,m2,by lia,F,q,N⟩
    refine Vf ?_;cases V with
    |true=>exact aam nx|false=>exact ay nx
   ·rw[bN c];refine ay (ay (K ah _ (V7 ..) ?_));exact⟨_,J,_,L,ob,⟨Y.1,Y.2.1,Y.2.2⟩,rfl,e1,R,z1,D,sz,C⟩
  refine Vf ?_;have nx:az (VC prog w) A (if L.plain=ah then hashByValue 8 (.int k tk) >>= λm=>Z2 a J (if m=ah then L else { L with plain:=ak }) >>= λ_=>if (!B&&(if m=ah then L else { L with plain:=ak }).tooFull)=ah then (match relayAll (if m=ah then L else { L with plain:=ak }) J (SetTable.grown J.size) with | (U,f,V)=>(match V with | true=>rule "set.scan.the-table-gave-way" | false=>pure ()) >>= λ_=>Z2 a U f >>= λ_=>pure (aa ah)) else pure (aa ah) else
   (pure ah >>= λm=>Z2 a J (if m=ah then L else { L with plain:=ak }) >>= λ_=>if (!B&&(if m=ah then L else { L with plain:=ak }).tooFull)=ah then (match relayAll (if m=ah then L else { L with plain:=ak }) J (SetTable.grown J.size) with | (U,f,V)=>(match V with | true=>rule "set.scan.the-table-gave-way" | false=>pure ()) >>= λ_=>Z2 a U f >>= λ_=>pure (aa ah)) else pure (aa ah)))
   (λd u=>az (VC prog w) A (match d with|some O=>pure O|none=>abc a (.int k tk) ((intKind prog w).hash k) 99999) Q E u) E s:=by
   by_cases c:L.plain=ah
   ·rw[bM c];refine Vf ?_;rw[hashByValue.eq_def];exact ay fin
   ·rw[bN c];exact Vf (ay fin)
  cases gv with
  |true=>refine aam ?_;exact nx|false=>refine ay ?_;exact nx
end
section
variable{prog:Vy}{w:VQ}{A:V9}{E:aC->Vh->Prop}{R:Z7->Vh->Prop}
def C2(G:A.handled=af){S:aB}(hi:Yy items.toList ns)(L:S≠it)(p:S≠l)(m:it≠l)(I:items.size+1<X9):
 ∀(k i:Nat)(s:Vh),items.size-i=k->i<=items.size->s.heap.IsListIter it l i->s.heap.IsList l items->rE prog w bt s.heap S (λJ=>(WS (λi=>ns.getD i 0) i).any (·==J)) (WS (λi=>ns.getD i 0) i).length →
  (∀h' tk,(∀b o,b≠S->b≠it->s.heap.get? b=aa o->h'.get? b=aa o)->rE prog w bt h' S (λJ=>(WS (λi=>ns.getD i 0) items.size).any (·==J)) (WS (λi=>ns.getD i 0) items.size).length->R (.ok (.ret .none)) {s with heap:=h',toks:=tk}) →
  aq (VC prog w) A (.builtin "set.update.loop" ⟨[.ref S,.ref it],[]⟩) R s:=by
 intro k
 induction k with
 |zero =>
  intro i s E n v a u r;have:i=items.size:=by lia
  subst this;refine codeAny_builtin F.entry_set_update_loop ?_;rw[WR F.plain_set_update_loop _];show az _ A.in1 (Zz (.ref it) >>= _) _ _ _;refine Vf (wpAny_pyNext_list_end (A:=A.in1) G v a (Wq (Vo _)) λh' W=>?_);refine ay (r h' s.toks (λb o _ U e=>W b o U e) ?_);obtain⟨o,z,B,t,y,d⟩:=u;exact⟨o,z,B,t,W S o L y,d⟩
 |succ k D =>
  intro i s E n v a u r;have Y:i<items.size:=by lia
  have W:items[i]?=aa items[i]:=V2 Y;obtain⟨tk,ex⟩:=hi.int_at i items[i] (by simpa using W);refine codeAny_builtin F.entry_set_update_loop ?_;rw[WR F.plain_set_update_loop _];show az _ A.in1 (Zz (.ref it) >>= _) _ _ _;refine Vf (wpAny_pyNext_list_item v a W λh' y d=>?_);rw[ex];have q:rE prog w bt h' S (λJ=>(WS (λi=>ns.getD i 0) i).any (·==J)) (WS (λi=>ns.getD i 0) i).length:=by obtain⟨o,z,B,t,h,g⟩:=u;exact⟨o,z,B,t,(d.2 S L).trans h,g⟩
  have H:(WS (λi=>ns.getD i 0) i).length<=i:=firstMet_length_le _ _;refine Vf (V3 ?_);unfold setAdd;refine V3 (Vf (wpAny_pyHash_int ?_));refine add_int (bt:=bt) (s:={s with heap:=h',toks:=s.toks+1}) q (by lia) λb O C k2=>?_;have j:rE prog w bt O S (λJ=>(WS (λi=>ns.getD i 0) (i+1)).any (·==J)) (WS (λi=>ns.getD i 0) (i+1)).length:=by
   have e1:(λJ=>(WS (λi=>ns.getD i 0) (i+1)).any (·==J))=λJ=>(WS (λi=>ns.getD i 0) i).any (·==J)||decide (J=ns.getD i 0):=by funext J;rw[firstMet_succ,step_any]
   rw[e1,firstMet_succ,step_length];exact k2
  have V:∀c o,c≠S->c≠it->s.heap.get? c=aa o->O.get? c=aa o:=λc o Z U e=>(C.2 c Z).trans ((d.2 c U).trans e);refine ay ⟨plainId_quiet F.plain_set_update_loop _,D (i+1) {s with heap:=O,toks:=s.toks+1} (by lia) Y ?_ ?_ j λx f h g=>?_⟩
  ·obtain⟨o,e1,e2⟩:=y;exact⟨o,(C.2 it (Wa L)).trans e1,e2⟩
  ·obtain⟨o,e1,e2⟩:=a;exact⟨o,V l o (Wa p) (Wa m) e1,e2⟩
  exact r x f (λc o Z U e=>h c o Z U (V c o Z U e)) g
end
section
variable{prog:Vy}{w:VQ}{A:V9}{E:aC->Vh->Prop}{s:Vh}
def mQ(h:Q (w.params.followText "set-order") s):az (VC prog w) A setsByText Q E s:=by unfold setsByText;exact Vf (wpAny_askSetting (ay h))
def C3{S:aB}(d:A.handled=af)(J:s.heap.IsList l items)(hi:Yy items.toList ns)(g:items.size+1<X9)(U:S≠l)
(L:s.heap.get? S=aa {cls:=.type "set",data:=.set #[] 0 (SetTable.fresh 0 0 (!w.params.followText "set-order"))})
(j:∀h' tk,(∀b o,b≠S->s.heap.get? b=aa o->h'.get? b=aa o)->rE prog w (w.params.followText "set-order") h' S (λc=>(WS (λi=>ns.getD i 0) items.size).any (·==c)) (WS (λi=>ns.getD i 0) items.size).length->R (.ok (.ret .none)) {s with heap:=h',toks:=tk}):
 az (VC prog w) A.in1 (Builtin.«set.__init__» ⟨[.ref S,.ref l],[]⟩)
  (λfin s'=>match fin with|.done f=>R (.ok f) s'|.again c'=>c'.quiet=ah/\aq (VC prog w) A c' R s') (λe s'=>R (.error e) s') s:=by
 have h:s.TypeIs (.ref S) "set":=⟨_,L,rfl⟩;unfold Builtin.«set.__init__»;refine Vf (ay ?_);dsimp only;refine Vf ?_;unfold typeNameOfCut shownTypeOf;refine Vf ?_;refine Vf (X8 h ?_);rw[bN (by decide)];refine ay ?_;show az _ _ (typeName (.type "set")) _ _ s;refine ay ?_;refine Vf (ay ?_);refine Vf (ay ?_);refine Vf ?_;unfold setUsed;refine Vf (WW L rfl rfl (ay ?_));rw[bN (show ¬((SetTable.fresh 0 0 (!w.params.followText "set-order")).fill != 0)=ah from V0)];refine Vf ?_;unfold Builtin.Frozenset.updateFrom;refine Vf ?_;have V:s.TypeIs (.ref l) "list":=J.typeIs;unfold Builtin.Frozenset.isAnySet;refine Vf (Yi (b:=ak) V (isSubtype_of_subB (by decide +kernel)) ?_);show az _ _ (isInstance (.ref l) (.type "frozenset")) _ _ s;refine Yi (b:=ak) V (isSubtype_of_subB (by decide +kernel)) ?_;rw[bN V0];refine Vf (X8 V ?_);rw[bN (by decide)];refine Vf (wpAny_pyIter_list J ?_);refine Vf (wpAny_runValue ?_);have Z:S<s.heap.objs.size:=Vq L;have Y:l<s.heap.objs.size:=by obtain⟨o,e,_⟩:=J;exact Vq e
 have up:∀b o,s.heap.get? b=aa o->(s.heap.push {cls:=.type "list_iterator",data:=.fields #[.ref l,.int 0 0]}).get? b=aa o:=λb o e=>Vk _ e;refine C2 (bt:=w.params.followText "set-order") (A:=A.in1) d hi (VI Z) U (Xy Y) g items.size 0 _ rfl (Wg _) ⟨_,Vw _ rfl,rfl,rfl⟩ ?_ ?_ λh' tk a k2=>?_
 ·obtain⟨o,e,r⟩:=J;exact⟨o,up _ _ e,r⟩
 refine⟨_,#[],0,_,up _ _ L,⟨rfl,rfl,rfl⟩,rfl,λe O=>(by simp at O),λk=>⟨λz=>by simp[firstMet_zero]at z,λ⟨e,O,_⟩=>by simp at O⟩,by decide,rfl,by simp[firstMet_zero],CV _⟩;refine ay (ay (j h' tk (λb o W e=>a b o W (VI (Vq e)) (up b o e)) k2))
def GB(v:aC)(h:Q₁ (.ref s.heap.objs.size) {s with heap:=s.heap.push {cls:=.type "set",data:=.set #[] 0 (SetTable.fresh 0 0 (!w.params.followText "set-order"))} }):
 aq (VC prog w) A (.call (.builtin "set.__new__") {pos:=[.type "set",v]}) (wants Q₁ E) s:=by
 refine codeAny_call_builtin (by decide +kernel) PySem.F.entry_set_new ?_;rw[PySem.F.newCall_set_1];refine ay ?_;unfold Builtin.«set.__new__»;refine Vf (ay ?_);refine Vf ?_;unfold newSet;refine Vf (mQ ?_);refine V1 ?_ (by size_fits);exact ay h
def C4(d:A.handled=af)(V:s.heap.IsList l items)(hi:Yy items.toList ns)(f:items.size+1<X9)
(j:∀h' tk,rE prog w (w.params.followText "set-order") h' s.heap.objs.size (λO=>(WS (λi=>ns.getD i 0) items.size).any (·==O)) (WS (λi=>ns.getD i 0) items.size).length->(∀b o,s.heap.get? b=aa o->h'.get? b=aa o)->Q (.ref s.heap.objs.size) {s with heap:=h',toks:=tk}):
 az (VC prog w) A (call (.type "set") [.ref l]) Q E s:=by
 have Y:l<s.heap.objs.size:=by obtain⟨o,e,_⟩:=V;exact Vq e
 have up:∀b o,s.heap.get? b=aa o->(s.heap.push {cls:=.type "set",data:=.set #[] 0 (SetTable.fresh 0 0 (!w.params.followText "set-order"))}).get? b=aa o:=λb o e=>Vk _ e;have W:(s.heap.push {cls:=.type "set",data:=.set #[] 0 (SetTable.fresh 0 0 (!w.params.followText "set-order"))}).get? s.heap.objs.size=aa {cls:=.type "set",data:=.set #[] 0 (SetTable.fresh 0 0 (!w.params.followText "set-order"))}:=Vw _ rfl;refine aan (codeAny_of_tree ?_);show az _ _ (pure (Fin.again (.builtin "type.__call__" ⟨[.type "set",.ref l],[]⟩))) _ _ s;refine ay ⟨Code.quiet_builtin _ (by decide +kernel),codeAny_builtin PySem.F.entry_type_call ?_⟩;rw[Around.under_plain (weight_type_call_type "set" [.ref l] []) rfl];unfold Builtin.«type.__call__»;dsimp only;rw[bN (by rw[PySem.F.called_set.notType];exact V0)];rw[bN (by rw[PySem.F.called_set.canCreate];exact V0)];rw[PySem.F.typeCall_set_1];refine Vf (ay ?_);obtain⟨c,tl,a⟩:=PySem.F.called_set.mro;rw[a];refine Vf (ay ?_);rw[bN (by simp)];rw[PySem.F.called_set.made];refine Vf (ay ?_);refine Vf (ay ?_);refine Vf (V3 (aan ?_));refine codeAny_mono (GB (E:=E) (Q₁:=λobj J=>obj=.ref s.heap.objs.size/\J={s with heap:=s.heap.push {cls:=.type "set",data:=.set #[] 0 (SetTable.fresh 0 0 (!w.params.followText "set-order"))} }) _ ⟨rfl,rfl⟩) λr m h=>?_;cases r with
 |error e=>exact h
 |ok k =>
  cases k with
  |ret v =>
   obtain⟨rfl,rfl⟩:=(show _/\_ from h);have U:({s with heap:=s.heap.push {cls:=.type "set",data:=.set #[] 0 (SetTable.fresh 0 0 (!w.params.followText "set-order"))} }:Vh).TypeIs (.ref s.heap.objs.size) "set":=⟨_,W,rfl⟩;refine Vf (Yi (b:=ah) U PySem.F.called_set.sub ?_);rw[bN (by decide)];refine Vf (V3 (WZ U PySem.F.slot_set_init (aan ?_)));have L:∀R:Z7->Vh->Prop,(∀h' tk,(∀b o,b≠s.heap.objs.size->(s.heap.push {cls:=.type "set",data:=.set #[] 0 (SetTable.fresh 0 0 (!w.params.followText "set-order"))}).get? b=aa o->h'.get? b=aa o)->rE prog w (w.params.followText "set-order") h' s.heap.objs.size (λO=>(WS (λi=>ns.getD i 0) items.size).any (·==O)) (WS (λi=>ns.getD i 0) items.size).length->R (.ok (.ret .none)) {s with heap:=h',toks:=tk}) →
    aq (VC prog w) A.in1 (.call (.builtin "set.__init__") ⟨[.ref s.heap.objs.size,.ref l],[]⟩) R {s with heap:=s.heap.push {cls:=.type "set",data:=.set #[] 0 (SetTable.fresh 0 0 (!w.params.followText "set-order"))} }:=λR g =>
    codeAny_call_builtin (by decide +kernel) PySem.F.entry_set_init (check_set_init_1 U (C3 (prog:=prog) (w:=w) (s:={s with heap:=s.heap.push {cls:=.type "set",data:=.set #[] 0 (SetTable.fresh 0 0 (!w.params.followText "set-order"))} }) (A:=A.in1) d (let ⟨o,e,r⟩:=V;⟨o,up _ _ e,r⟩) hi f (Xy Y) W g))
   refine L _ λh' tk Z k2=>?_;show az _ _ (if(WX != WX)=ah then _ else PySem.ret (.ref s.heap.objs.size)) _ _ _;rw[bN (by decide)];exact ay (j h' tk k2 λb o e=>Z b o (VI (Vq e)) (up b o e))
  |_=>exact h
end
def mR:Slot "set_iterator" (Vu "__next__") "set_iterator.__next__":=Slot.of (owner:="set_iterator") (n:="__next__") (by rw[typeLookup_type,builtinLookup_eq_fast];kernel_rfl) (by kernel_rfl) (by kernel_rfl) (by kernel_rfl) (.inl (by kernel_rfl)) (by rw[isSubtype_type];kernel_rfl) (by decide +kernel)
def vz:entryFor table "set_iterator.__next__"=aa Builtin.«set_iterator.__next__»:=by kernel_rfl
def xH:entryFor table "set.__iter__"=aa Builtin.«frozenset.__iter__»:=by kernel_rfl
def yR(a:aC):argsOk "set_iterator.__next__" {pos:=[a]}:=by kernel_rfl
noncomputable def itO(first:aC)(i n ep:Nat)(a:aB):au:={cls:=.type "set_iterator",data:=.fields #[first,.int i 0,.ref a,.int n 0,.int ep 0]}
noncomputable def slotAt(pl:Array Nat):Nat->Nat
 |0=>0
 |i+1=>match pl[i]? with
  |some j=>j+1|none=>0
inductive Md(w:VQ)(h:av)(a:aB)(es:Array (Int×aC))(ep:Nat)(t:SetTable):aC->List aC->Nat->Prop
 |A{z:Int}{i:Nat}(J:w.params.followText "set-order"=ah):Md w h a es ep t (.int z 0) ((Yu (w.params.setOrder a ep) es).toList.map (·.2)) i
 |B{T:aB}{pl:List Nat}{i:Nat}(J:h.IsTuple T (pl.map λ(p:Nat)=>Yc p 0).toArray)(L:∀p∈pl,p<es.size):Md w h a es ep t (.ref T) (pl.filterMap λp=>es[p]?.map (·.2)) i
 |C{i:Nat}(J:w.params.followText "set-order"=ak)(O:(!t.plain&&decide (es.size>1))=ak)(L:Tb ak t):Md w h a es ep t (.int (slotAt t.place i) 0) (es.toList.map (·.2)) i
structure NX(w:VQ)(h:av)(it a:aB)(ord:List aC)(i:Nat):Prop where
 ex:∃o es ep t first,h.get? a=aa o/\o.data=.set es ep t/\t.fits es.size=ah/\h.get? it=aa (itO first i es.size ep a)/\Md w h a es ep t first ord i
def Md.at(m:Md w h a es ep t first ord i)(k:∀b o,(∃xs n,o.data=.seq xs n)->h.get? b=aa o->h'.get? b=aa o):Md w h' a es ep t first ord i:=by
 cases m with
 |A J=>exact .A J
 |B V O =>
  obtain⟨o,e,c,n,d⟩:=V;exact .B ⟨o,k _ o ⟨_,n,d⟩ e,c,n,d⟩ O
 |C J U L=>exact .C J U L
theorem fK(f:α->Option β):∀(l:List α),(∀x∈l,(f x).isSome=ah)->∀i:Nat,(l.filterMap f)[i]?=(l[i]?).bind f
 |[],_,i=>by simp
 |x::l,h,i=>by
  obtain⟨y,J⟩:=Option.isSome_iff_exists.mp (h x Vt);rw[VT,J];cases i with
  |zero=>simp[J]|succ i=>simpa using fK f l (λz L=>h z (Vn _ L)) i
section
variable{prog:Vy}{w:VQ}{A:V9}{E:aC->Vh->Prop}{s:Vh}
def vA{t:SetTable}{n i:Nat}(h:Ri t.place)(hn:t.place.size=n)(hi:i<n):SetTable.below t.place (slotAt t.place i)=i/\∃j,t.place[i]?=aa j/\slotAt t.place (i+1)=j+1:=by
 obtain⟨V,U,a⟩:=lZ h (slotAt t.place i);have L:t.place[i]?=aa t.place[i]:=V2 (by lia);refine⟨?_,t.place[i],L,by show(match t.place[i]? with|some j=>j+1|none=>0)=_;rw[L]⟩;have lo:∀k v,k<i->t.place[k]?=aa v->v<slotAt t.place i:=λk v W ev=>by
  cases i with
  |zero=>lia
  |succ i =>
   have J:t.place[i]?=aa t.place[i]:=V2 (by lia);have e:slotAt t.place (i+1)=t.place[i]+1:=by show(match t.place[i]? with|some j=>j+1|none=>0)=_;rw[J]
   rw[e];rcases VD k i with z|z
   have:=h k i v _ z ev J;lia
   ·have:k=i:=by lia
    subst this;rw[J]at ev;cases ev;lia
 have O:slotAt t.place i<=t.place[i]:=by
  cases i with
  |zero=>exact Wg _
  |succ i =>
   have J:t.place[i]?=aa t.place[i]:=V2 (by lia);have e:slotAt t.place (i+1)=t.place[i]+1:=by show(match t.place[i]? with|some j=>j+1|none=>0)=_;rw[J]
   rw[e];have:=h i (i+1) _ _ (Wy _) J L;lia
 rcases ZQ (SetTable.below t.place (slotAt t.place i)) i with z|z|z
 ·have J:t.place[SetTable.below t.place (slotAt t.place i)]?=aa t.place[SetTable.below t.place (slotAt t.place i)]:=V2 (by lia);have Z:=lo _ _ z J;have Y:=U _ _ (Vo _) J;lia
 exact z
 ·have:=V i _ z L;lia
def C5{t:SetTable}{n:Nat}(h:Ri t.place)(hn:t.place.size=n):n<=SetTable.below t.place (slotAt t.place n):=by
 obtain⟨O,L,U⟩:=lZ h (slotAt t.place n);cases n with
 |zero=>exact Wg _
 |succ n =>
  have J:t.place[n]?=aa t.place[n]:=V2 (by lia);have e:slotAt t.place (n+1)=t.place[n]+1:=by show(match t.place[n]? with|some j=>j+1|none=>0)=_;rw[J]
  rw[e]at O L⊢;rcases VD n (SetTable.below t.place (t.place[n]+1))with z|z
  exact z
  ·have:=L n _ z J;lia
def C6{h:av}{J:aB}{first L:aC}{i n ep:Nat}{a:aB}(e:h.get? J=aa (itO first i n ep a)):((h.update J (Wl λx=>x.setIfInBounds 0 L)).update J (Wl λx=>x.setIfInBounds 1 (.int ((i:Int)+1) 0))).get? J=aa (itO L (i+1) n ep a):=by have e1:=VZ (Wl λx=>x.setIfInBounds 0 L) e rfl;have e2:=VZ (Wl λx=>x.setIfInBounds 1 (.int ((i:Int)+1) 0)) e1 rfl;rw[e2];rfl
def GC{h:av}{J:aB}{first:aC}{i n ep:Nat}{a:aB}(e:h.get? J=aa (itO first i n ep a)):(h.update J (Wl λx=>x.setIfInBounds 1 (.int ((i:Int)+1) 0))).get? J=aa (itO first (i+1) n ep a):=by have e2:=VZ (Wl λx=>x.setIfInBounds 1 (.int ((i:Int)+1) 0)) e rfl;rw[e2];rfl
def C7(J:s.heap.get? a=aa o)(O:o.data=.set es ep t)(L:t.fits es.size=ah)(U:w.params.followText "set-order"=ah)
(h:Q ((Yu (w.params.setOrder a ep) es)[g]?.map λe=>(e.2,sl)) s):az (VC prog w) A (setNext a sl g ep) Q E s:=by
 unfold setNext;refine Vf (WW J O L ?_);dsimp only;refine Vf (mQ ?_);rw[bM U,bN (by simp)];refine Vf ?_;unfold setWalk;refine Vf (WW J O L ?_);dsimp only;refine Vf (mQ ?_);rw[bM U];refine Vf (wpAny_askSetting (ay (ay ?_)));exact h
def C8(O:s.heap.get? a=aa o)(V:o.data=.set es ep t)(U:t.fits es.size=ah)(W:w.params.followText "set-order"=ak)
(J:(!t.plain&&decide (es.size>1))=ak)(L:Tb ak t)(h:Q (match es[SetTable.below t.place sl]?,t.place[SetTable.below t.place sl]? with|some (_,x),aa j=>aa (x,j+1)|_,_=>af) s):az (VC prog w) A (setNext a sl g ep) Q E s:=by
 unfold setNext;refine Vf (WW O V U ?_);dsimp only;refine Vf (mQ ?_);rw[W,bN V0];show az _ _ (if(!t.plain&&decide (es.size>1))=ah then _ else _) _ _ s;rw[J,bN V0];refine Vf ?_;show az _ _ (if(!t.led&&!es.isEmpty)=ah then unsupported "set:maker-not-led" else pure ()) _ _ s;rw[L.led];show az _ _ (if(!(!ak)&&!es.isEmpty)=ah then unsupported "set:maker-not-led" else pure ()) _ _ s;rw[bN (by simp)];exact ay (ay h)
def KJ(J:s.heap.get? a=aa o)(U:o.data=.set es ep t)(L:t.fits es.size=ah)(O:es[p]?=aa e)(h:Q e.2 s):az (VC prog w) A (setNextDrawn a p ep) Q E s:=by unfold setNextDrawn;refine Vf (WW J U L ?_);dsimp only;rw[bN (by simp),O];exact ay h
def GD{J a:aB}{ord:List aC}{i:Nat}{x:aC}{Q:PySem.Fin->Vh->Prop}(N:NX w s.heap J a ord i)(Z:J≠a)(d:ord[i]?=aa x)(v:∀h',NX w h' J a ord (i+1)->V6 J s.heap h'->Q (.done (.ret x)) {s with heap:=h'}):
 az (VC prog w) A (Builtin.«set_iterator.__next__» {pos:=[.ref J]}) Q E s:=by
 obtain⟨o,O,f,t,first,Y,c,W,V,m⟩:=N.ex;have keep:∀{h':av},V6 J s.heap h'->∀b o,(∃D n,o.data=Data.seq D n)->s.heap.get? b=aa o->h'.get? b=aa o:=λ{h'} L b ob g e=>(L.2 b (λz=>by subst z;rw[V]at e;cases e;obtain⟨D,n,g⟩:=g;cases g)).trans e
 unfold Builtin.«set_iterator.__next__»;refine Vf (ay ?_);refine Vf (wpAny_fieldsOf V rfl ?_);dsimp only;refine Vf (ZJ Y c W ?_);rw[bN (by simp)];cases m with
 |@A z _ k =>
  have P:(Yu (w.params.setOrder a f) O)[i]?.map (λe=>(e.2,z.toNat))=aa (x,z.toNat):=by
   rw[VF]at d;obtain⟨e,e1,e2⟩:=Option.map_eq_some_iff.mp d;have U:(Yu (w.params.setOrder a f) O)[i]?=aa e:=by simpa using e1
   rw[U,←e2];rfl
  refine Vf (C7 Y c W k ?_);show az _ _ (match (Yu (w.params.setOrder a f) O)[i]?.map (λe=>(e.2,z.toNat))with|some (x,next)=>_|none=>_) _ _ s;rw[P];refine Vf (W5 V rfl (by simp) ?_);refine Vf (W5 (VZ _ V rfl) rfl (by simp) ?_);have L:V6 J s.heap ((s.heap.update J (Wl λy=>y.setIfInBounds 0 (.int (z.toNat:Int) 0))).update J (Wl λy=>y.setIfInBounds 1 (.int ((i:Int)+1) 0))):=(V7 ..).trans (V7 ..);exact ay (v _ ⟨⟨o,O,f,t,_,(L.2 a (Wa Z)).trans Y,c,W,C6 V,.A k⟩⟩ L)
 |@B T l _ G F =>
  have g:∀p∈l,((λp:Nat=>O[p]?.map (·.2)) p).isSome=ah:=λp M=>by have:=F p M;simp[this]
  rw[fK _ l g]at d;obtain⟨p,e1,e2⟩:=Option.bind_eq_some_iff.mp d;obtain⟨e,e3,e4⟩:=Option.map_eq_some_iff.mp e2;subst e4;obtain⟨oT,S,g2,nT,R⟩:=id G;show az _ _ (seqItems? (.ref T) >>= _) _ _ s;refine Vf (wpAny_seqItems S R ?_);have X:((l.map λ(p:Nat)=>Yc p 0).toArray)[i]?=aa (.int p 0):=by simp[e1]
  dsimp only;rw[WV,X];dsimp only;refine Vf (KJ Y c W (by rw[WV];exact e3) ?_);refine Vf (W5 V rfl (by simp) ?_);have L:V6 J s.heap (s.heap.update J (Wl λy=>y.setIfInBounds 1 (.int ((i:Int)+1) 0))):=V7 ..;refine ay (v _ ⟨⟨o,O,f,t,_,(L.2 a (Wa Z)).trans Y,c,W,GC V,?_⟩⟩ L);exact(Md.B (i:=i+1) G F).at (keep L)
 |C k h r =>
  have hn:t.place.size=O.size:=by unfold SetTable.fits at W;simp only[Vg,bW]at W;exact W.1
  rw[VF]at d;obtain⟨e,e1,e2⟩:=Option.map_eq_some_iff.mp d;have U:O[i]?=aa e:=by simpa using e1
  have u:i<O.size:=by
   rcases VD i O.size with q|q
   exact q;rw[Wq q]at U;cases U
  obtain⟨K,j,I,H⟩:=vA r.ri hn u;subst e2;refine Vf (C8 Y c W k h r ?_);rw[WV,K,U,I];refine Vf (W5 V rfl (by simp) ?_);refine Vf (W5 (VZ _ V rfl) rfl (by simp) ?_);have L:V6 J s.heap ((s.heap.update J (Wl λy=>y.setIfInBounds 0 (.int ((j+1:Nat):Int) 0))).update J (Wl λy=>y.setIfInBounds 1 (.int ((i:Int)+1) 0))):=(V7 ..).trans (V7 ..);refine ay (v _ ⟨⟨o,O,f,t,_,(L.2 a (Wa Z)).trans Y,c,W,C6 V,?_⟩⟩ L);rw[←H];exact .C k h r
def tM{first:aC}{i n ep:Nat}{a:aB}(O:A.handled=af)(J:V6 it h0 s.heap)(hi:∃o vs,s.heap.get? it=aa o/\o.data=.fields vs/\vs.size=5)(Y:f<5)
(V:∀h' e,abu it h0 h'->(∃o,h'.get? e=aa o/\o.cls=.type "StopIteration")->E (.ref e) {s with heap:=h'}):
 az (VC prog w) A (setField (.ref it) f .none >>= λ_=>newExc (.type "StopIteration") [] >>= λe=>(raiseNew e:Sem PySem.Fin)) Q E s:=by
 obtain⟨o,vs,L,U,W⟩:=hi;refine Vf (W5 L U (by lia) ?_);refine Vf ?_;simp only[newExc,newTuple];refine Vf (V1 ?_ (by size_fits));refine Vf (m:=firstArgMember _ _) (wpAny_of_eq (a:=WX) (by first|rfl|(simp only[firstArgMember];rfl)) ?_);refine V1 ?_ (by size_fits);simp only[raiseNew];refine Vf (wpAny_handled ?_);rw[O];refine wpAny_throw ?_;exact V _ _ (((J.trans (V7 ..)).extBut.push _).push _) ⟨_,Vw _ rfl,rfl⟩
def KM{U a:aB}{ord:List aC}{i:Nat}{Q:PySem.Fin->Vh->Prop}(d:A.handled=af)(N:NX w s.heap U a ord i)(Y:i=ord.length)(hn:∀o es ep t,s.heap.get? a=aa o->o.data=.set es ep t->ord.length=es.size)
(j:∀h' e,abu U s.heap h'->(∃o,h'.get? e=aa o/\o.cls=.type "StopIteration")->E (.ref e) {s with heap:=h'}):
 az (VC prog w) A (Builtin.«set_iterator.__next__» {pos:=[.ref U]}) Q E s:=by
 obtain⟨o,es,ep,t,first,V,W,L,O,m⟩:=N.ex;have u:=hn o es ep t V W;unfold Builtin.«set_iterator.__next__»;refine Vf (ay ?_);refine Vf (wpAny_fieldsOf O rfl ?_);dsimp only;refine Vf (ZJ V W L ?_);rw[bN (by simp)];cases m with
 |@A z _ h =>
  have F:(Yu (w.params.setOrder a ep) es)[i]?.map (λe=>(e.2,z.toNat))=af:=by rw[Y,Vx,VS,Wq (Vo _)];rfl
  refine Vf (C7 V W L h ?_);show az _ _ (match (Yu (w.params.setOrder a ep) es)[i]?.map (λe=>(e.2,z.toNat))with|some (x,next)=>_|none=>_) _ _ s;rw[F];exact tM (first:=.none) (i:=0) (n:=0) (ep:=0) (a:=a) d (Y4 _ _) ⟨_,_,O,rfl,rfl⟩ (by decide) j
 |@B T J _ G r =>
  have Z:∀p∈J,((λp:Nat=>es[p]?.map (·.2)) p).isSome=ah:=λp v=>by have:=r p v;simp[this]
  have D:i=J.length:=by
   have S:=fK _ J Z J.length;have R:=List.length_filterMap_le (λp:Nat=>es[p]?.map (·.2)) J;rcases VD i J.length with q|q
   ·have k:=fK _ J Z i;rw[Y,Vs (Vo _),Vm (by lia)]at k;have:=Z J[(List.filterMap (λp:Nat=>es[p]?.map (·.2)) J).length] (YN _);rw[VV]at k;dsimp only at this;rw[←k]at this;cases this
   lia
  obtain⟨M,I,X,P,H⟩:=id G;show az _ _ (seqItems? (.ref T) >>= _) _ _ s;refine Vf (wpAny_seqItems I H ?_);have K:((J.map λ(p:Nat)=>Yc p 0).toArray)[i]?=af:=by simp[D]
  dsimp only;rw[WV,K];dsimp only;refine Vf (W5 O rfl (by simp) ?_);exact tM (s:={s with heap:=s.heap.update U (Wl λy=>y.setIfInBounds 0 (Zn 0))}) (first:=.none) (i:=0) (n:=0) (ep:=0) (a:=a) d (V7 ..) ⟨_,_,VZ _ O rfl,rfl,rfl⟩ (by decide) j
 |C h f l =>
  have b:t.place.size=es.size:=by unfold SetTable.fits at L;simp only[Vg,bW]at L;exact L.1
  have c:i=es.size:=by rw[Y,Vx,VS]
  have g:=C5 l.ri b;refine Vf (C8 V W L h f l ?_);have e1:es[SetTable.below t.place (slotAt t.place i)]?=af:=Wq (by rw[c];exact g);rw[WV,e1];exact tM (first:=.none) (i:=0) (n:=0) (ep:=0) (a:=a) d (Y4 _ _) ⟨_,_,O,rfl,rfl⟩ (by decide) j
def GE(N:NX w s.heap it a ord i)(J:it≠a)(U:ord[i]?=aa x)(W:∀h',NX w h' it a ord (i+1)->V6 it s.heap h'->Q (aa x) {s with heap:=h'}):
 az (VC prog w) A (Zz (.ref it)) Q E s:=by
 have L:s.TypeIs (.ref it) "set_iterator":=by obtain⟨o,c,d,t,first,Y,b,Z,V,m⟩:=N.ex;exact⟨_,V,rfl⟩
 unfold Zz;exact Vf (abw (WZ (name:=Vu "__next__") L mR (XC mR L vz (GD N J U λh' O k2=>⟨x,rfl,ay (W h' O k2)⟩) (yR _))))
def KN(W:A.handled=af)(N:NX w s.heap it a ord i)(U:i=ord.length)(hn:∀o es ep t,s.heap.get? a=aa o->o.data=.set es ep t->ord.length=es.size)(Y:∀h',abu it s.heap h'->Q af {s with heap:=h'}):
 az (VC prog w) A (Zz (.ref it)) Q E s:=by
 have L:s.TypeIs (.ref it) "set_iterator":=by obtain⟨o,es,ep,t,first,J,c,Z,V,m⟩:=N.ex;exact⟨_,V,rfl⟩
 unfold Zz;refine Vf (abw (WZ (name:=Vu "__next__") L mR (XC mR L vz (KM (A:=A.in1) W N U hn λh' e O k2=>?_) (yR _))));obtain⟨o,J,hc⟩:=k2;refine Vf (Yi (T:="StopIteration") (b:=ah) ⟨o,J,hc⟩ isSubtype_stop ?_);exact ay (Y _ O)
theorem l6:∀{l:List α}{i:Nat}(h:i<l.length),(l[i]::l.eraseIdx i).Perm l
 |x::l,0,_=>.refl _
 |x::l,i+1,h=>by
  have J:i<l.length:=by simpa using h
  have:=l6 J;show(l[i]::x::l.eraseIdx i).Perm (x::l);exact(List.Perm.swap _ _ _).trans (this.cons x)
def wp_choose(hn:n≠0)(h:∀i d,i<n->Q i {s with drawn:=d}):az (VC prog w) A (choose src n) Q E s:=by intro J p _;unfold choose;rw[Sem.wp_choose];exact⟨hn,h _ _ (ZP _ (by lia))⟩
def AM:∀(n:Nat)(xs:List α)(s:Vh){Q:List α->Vh->Prop},xs.length=n->(∀ys d,ys.Perm xs->Q ys {s with drawn:=d})->az (VC prog w) A (drawOrder n xs) Q E s:=by
 intro n
 induction n with
 |zero =>
  intro xs s Q J h;have:=List.length_eq_zero_iff.mp J;subst this;exact ay (h [] s.drawn .nil)
 |succ n O =>
  intro xs s Q J h;cases xs with
  |nil=>cases J
  |cons x r =>
   show az _ _ (choose Source.order (x::r).length >>= λi=>match (x::r)[i]? with
    |some y=>drawOrder n ((x::r).eraseIdx i) >>= λl=>pure (y::l)
    | none=>unsupported "internal:drawOrder") _ _ s
   refine Vf (wp_choose (by simp) λi d L=>?_);rw[Vm L];dsimp only;refine Vf (O _ _ (by rw[aaB L];lia) λys V U=>?_);refine ay (h _ V ?_);exact(U.cons _).trans (l6 L)
def GF(next:Nat->Nat):∀(fuel k:Nat)(left:List α)(out:Array α),left.length<=fuel->(X6 next fuel k left out).toList.Perm (out.toList++left):=by
 intro fuel
 induction fuel with
 |zero =>
  intro k left out h;have:=List.length_eq_zero_iff.mp (Nat.le_zero.mp h);subst this;show out.toList.Perm _;rw[Wc]
 |succ fuel L =>
  intro k left out h;cases left with
  |nil =>
   have e:X6 next (fuel+1) k ([]:List α) out=out:=by show(match ([]:List α)[next k%0]? with|some x=>X6 next fuel (k+1) (([]:List α).eraseIdx (next k%0)) (out.push x)|none=>out)=out;rfl
   rw[e,Wc]
  |cons x r =>
   have J:next k%(x::r).length<(x::r).length:=ZP _ (by simp)
   have e:X6 next (fuel+1) k (x::r) out=X6 next fuel (k+1) ((x::r).eraseIdx (next k%(x::r).length)) (out.push (x::r)[next k%(x::r).length]):=by show(match (x::r)[next k%(x::r).length]? with|some y=>X6 next fuel (k+1) ((x::r).eraseIdx (next k%(x::r).length)) (out.push y)|none=>out)=_;rw[Vm J]
   rw[e];refine(L _ _ _ (by rw[aaB J];simp at h⊢;lia)).trans ?_;rw[Array.toList_push,Wd];exact(l6 J).append_left _
def AN(next:Nat->Nat)(xs:Array α):(Yu next xs).toList.Perm xs.toList:=by
 have:=GF next xs.size 0 xs.toList #[] (by simp)
 simpa [Yu]using this
def C9(J:s.heap.get? a=aa o)(l:o.ExactSet)(O:o.data=.set es ep t)(L:t.fits es.size=ah)(n:es.size<X9)(j:Tb (w.params.followText "set-order") t)
(g:∀h' d W ord,NX w h' W a ord 0->(∀b o,s.heap.get? b=aa o->h'.get? b=aa o)->s.heap.objs.size<=W->s.heap.objs.size<=h'.objs.size->ord.Perm (es.toList.map (·.2))->Q (.ref W) {s with heap:=h',drawn:=d}):
 az (VC prog w) A (pyIter (.ref a)) Q E s:=by
 have k:s.TypeIs (.ref a) "set":=⟨o,J,l.1⟩;refine wpAny_pyIter_slot k aaH (XC aaH k xH ?_ (PySem.F.args_set_iter_1 _));unfold Builtin.«frozenset.__iter__» Builtin.Frozenset.slot0;refine Vf (Vf (ay (ay ?_)));refine Vf ?_;unfold Builtin.Frozenset.sizeOf;refine Vf (ZJ J O L (ay ?_));refine Vf ?_;unfold setDrawn;refine Vf (WW J O L ?_);dsimp only;refine Vf (mQ (ay ?_));have h:typeLookup (.type "set_iterator") (Vu "__next__")=pure (aa (.builtin "set_iterator.__next__")):=mR.lookup;show az _ _ (if(!w.params.followText "set-order"&&(!t.plain&&decide (es.size>1)))=ah then _ else _) _ _ s;have v:a<s.heap.objs.size:=Vq J
 by_cases c:(!w.params.followText "set-order"&&(!t.plain&&decide (es.size>1)))=ah
 ·rw[bM c];refine Vf (AM es.size (VM es.size) s (by simp) λV d Y=>?_);refine Vf ?_;simp only[newTuple];have m:V.length=es.size:=by rw[Y.length_eq,YA]
  refine V1 ?_ (by
   have:=X4 n;show (List.map (λ(i:Nat)=>Zn i) V).toArray.size<=ao;rw[Vl,Vx];lia)
  refine Vf (wpAny_setEpoch_of (Vk _ J) O L ?_);refine Vf ?_;unfold newFields;refine V1 ?_ (by size_fits);refine ay ⟨_,rfl,"set_iterator",_,⟨_,Vw _ rfl,rfl⟩,h,?_⟩;have up:∀b o,s.heap.get? b=aa o->((s.heap.push {cls:=.type "tuple",data:=.seq (V.map λ(i:Nat)=>Zn i).toArray}).push {cls:=.type "set_iterator",data:=.fields #[.ref s.heap.objs.size,Zn 0,.ref a,Zn es.size,Zn ep]}).get? b=aa o:=λb o e=>Vk _ (Vk _ e);have lt:∀p∈V,p<es.size:=λp Z=>List.mem_range.mp (Y.mem_iff.mp Z);refine g _ d _ _ ⟨⟨o,es,ep,t,_,up _ _ J,O,L,Vw _ rfl,.B (pl:=V) ⟨_,Vk _ (Vw _ rfl),rfl,_,rfl⟩ lt⟩⟩ up (by rw[WB];exact Wh _) (by rw[WB,WB];exact Nat.le_succ_of_le (Wh _)) ?_;have u:=Y.filterMap λp=>es[p]?.map (·.2);refine u.trans ?_;have r:(VM es.size).filterMap (λp=>es[p]?.map (·.2))=es.toList.map (·.2):=by
   refine YB λi=>?_;rw[fK _ _ (λp Z=>by have:=List.mem_range.mp Z;simp[this])];rcases VD i es.size with q|q
   rw[Yh q];simp;rw[Vs (by simpa using q),Vs (by simpa using q)];rfl
  rw[r]
 ·rw[bN c];refine Vf (ay ?_);refine Vf (wpAny_setEpoch_of J O L ?_);refine Vf ?_;unfold newFields;refine V1 ?_ (by size_fits);refine ay ⟨_,rfl,"set_iterator",_,⟨_,Vw _ rfl,rfl⟩,h,?_⟩;have up:∀b o,s.heap.get? b=aa o->(s.heap.push {cls:=.type "set_iterator",data:=.fields #[Zn 0,Zn 0,.ref a,Zn es.size,Zn ep]}).get? b=aa o:=λb o e=>Vk _ e;cases U:w.params.followText "set-order" with
  |true =>
   refine g _ s.drawn _ _ ⟨⟨o,es,ep,t,_,up _ _ J,O,L,Vw _ rfl,.A (z:=0) U⟩⟩ up (Vo _) (by rw[WB];exact Wh _) ?_;exact(AN _ es).map _
  |false =>
   rw[U]at c j;have f:(!t.plain&&decide (es.size>1))=ak:=by
    cases z:(!t.plain&&decide (es.size>1))with
    |false=>rfl|true=>rw[z]at c;exact bO rfl c
   exact g _ s.drawn _ _ ⟨⟨o,es,ep,t,_,up _ _ J,O,L,Vw _ rfl,.C (i:=0) U f j⟩⟩ up (Vo _) (by rw[WB];exact Wh _) (.refl _)
end
end BX
end
section
namespace BX
open PySem PySem.Spec PyProof.Rows
section
variable{prog:Vy}{w:VQ}{A:V9}{E:aC->Vh->Prop}{h:av}{g:Array GenState}{d:Drawn}{t:Nat}{os:OsState}{a:aB}{o:au}
end
section
variable{prog:Vy}{w:VQ}{K:Type}[DecidableEq K]{knd:KeyKind prog w K}{A:V9}{E:aC->Vh->Prop}{s:Vh}
end
end BX
end
section
namespace BT
open PySem
def d7{P:Prop}(h:ak=ah):P:=nomatch h
def OA{P:Prop}(h:ah=ak):P:=nomatch h
def fU{J:Type}{a:J}{P:Prop}(h:(af:Option J)=aa a):P:=nomatch h
inductive D
 |aF|bl(b:Bool)|int(i:Int)|str(x:aA)|aE(xs:List D)|aD(xs:List D)
inductive FK
 |f(x:aA)|m(c x:aA)|l(i:Nat)
 deriving DecidableEq
instance:Coe String FK:=⟨λs=>.f (Vu s)⟩
inductive Cp
 |p(d:D)|o(n:Nat)
noncomputable abbrev Ky:=Int ⊕ aA
inductive Kd
 |t(kvs:List (aA×D))|l(kvs:List (Ky×D))
inductive W
 |p(d:D)|r(n:Nat)|k(kvs:Kd)|o(n:Nat)|c(f:FK)(J:List Cp)|x(c:aA)
noncomputable def Cp.w:Cp->W
 |.p d=>.p d|.o n=>.o n
@[simp]theorem Cp.w_p(d:D):Cp.w (.p d)=.p d:=rfl
@[simp]theorem Cp.w_o(n:Nat):Cp.w (.o n)=.o n:=rfl
noncomputable def yS:W->Option Cp
 |.p d=>aa (.p d)|.o n=>aa (.o n)|.r _=>af|.k _=>af|.c _ _=>af|.x _=>af
@[simp]theorem QM(d:D):yS (.p d)=aa (.p d):=rfl
@[simp]theorem QN(n:Nat):yS (.o n)=aa (.o n):=rfl
inductive Cl
 |l(xs:List D)|o(c:aA)(fs:List (aA×W))|d(kvs:List (Ky×D))|z|b(ns:List Nat)
noncomputable abbrev HH:=List Cl
noncomputable abbrev Sl:=List (Option W)
set_option genInjectivity false in
inductive Bin
 |add|sub|mul|mod|fdiv
set_option genInjectivity false in
inductive Cm
 |eq|ne|lt|le|gt|ge|isN|notN|mem|nmem
set_option genInjectivity false in
inductive Sr
 |seq|rng1|rng2|rev|enu|zip2|rng3|itm|chs|zipG
inductive Bi
 |len|int|str|list|tuple|all|isInt|isBool|isStr|isTuple|min2|max2
 |sorted|max1|sset|min1
set_option genInjectivity false in
inductive Me
 |append|pop|extend|tindex|sindex|dget|count|lindex
inductive Tx
 |join|split|str|intS|all|inS|ninS|dget|pre
inductive Dk
 |of|ks|so|it
set_option genInjectivity false in
mutual
inductive E
 |v(i:Nat)
 |j(d:D)
 |aG(x:aA)
 |bin(o:Bin)(a b:E)
 |neg(a:E)
 |not(a:E)
 |and(a b:E)
 |or(a b:E)
 |z(o:Cm)(a b:E)
 |chain(o o':Cm)(a b c:E)
 |ite(c a b:E)
 |aE(as:Es)
 |aD(mu:Bool)(as:Es)
 |y(a i:E)
 |n(a:E)(lo hi:Es)
 |rvs(a:E)
 |stp(mu:Bool)(k:Int)(a:E)
 |call(f:aA)(as:Es)
 |i(a:E)(f:aA)
 |aH(o:E)(m:aA)(as:Es)
 |make(c:aA)(as:Es)
 |bi(b:Bi)(mu:Bool)(as:Es)
 |lsr(mu:Bool)(J:Sr)(as:Es)
 |me(m:Me)(o:E)(as:Es)
 |comp(mu:Bool)(L:Sr)(U:Es)(tg:List aA)(O:List (Nat×aA))(cond:Es)(J:E)
 |callv(i:Nat)(as:Es)
 |methL(o:E)(m:aA)(as:Es)(L:Nat)(J:List (Nat×aA))
 |obl(a:E)
 |oba(o a:E)
 |obi(o i:E)
 |obn(o:E)
 |sup(c:aA)(as:Es)
inductive Es
 |nil
 |cons(a:E)(as:Es)
end
set_option genInjectivity false in
inductive S
 |nil
 |seq(a b:S)
 |set(i:Nat)(e:E)
 |unp(xs:List (Nat×aA))(e:E)
 |aug(i:Nat)(o:Bin)(e:E)
 |put(i:Nat)(k e:E)
 |setf(o:E)(f:aA)(e:E)
 |augf(o:E)(f:aA)(J:Bin)(e:E)
 |ex(e:E)
 |ret(e:E)
 |v(c:E)(a b:S)
 |j(c:E)(b:S)
 |for(tg:List (Nat×aA))(J:Sr)(L:Es)(b:S)
 |brk|cnt
 |bad
 |rai(c:aA)(e:E)
 |rai2(c:aA)(a e:E)
set_option genInjectivity false in
structure Fn where
 ps:List aA
 ns:List aA
 body:S
noncomputable abbrev cW(a:E):Es:=.cons a .nil
noncomputable abbrev cV(a b:E):Es:=.cons a (.cons b .nil)
noncomputable abbrev cU(a b c:E):Es:=.cons a (.cons b (.cons c .nil))
noncomputable abbrev cT(a b c d:E):Es:=.cons a (.cons b (.cons c (.cons d .nil)))
noncomputable abbrev cS(a b c d e:E):Es:=.cons a (.cons b (.cons c (.cons d (.cons e .nil))))
noncomputable abbrev cR(a b c d e f:E):Es:=.cons a (.cons b (.cons c (.cons d (.cons e (.cons f .nil)))))
noncomputable abbrev cP(a b c d e f g h:E):Es:=.cons a (.cons b (.cons c (.cons d (.cons e (.cons f (.cons g (.cons h .nil)))))))
noncomputable def bnd{L J:Type}(x:Option (L×HH))(k:L->HH->Option J):Option J :=
 match x with|some (a,h)=>k a h|none=>af
@[simp]theorem fu(a:α)(h:HH)(k:α->HH->Option β):bnd (aa (a,h)) k=k a h:=rfl
@[simp]theorem OB(k:α->HH->Option β):bnd af k=af:=rfl
@[simp]noncomputable def lim:Nat:=100000
mutual
@[simp]noncomputable def eqv:D->D->Bool
 |.aF,.aF=>ah|.bl a,.bl b=>a==b|.bl a,.int j=>(if a then(1:Int)else 0)==j|.int i,.bl b=>i==(if b then(1:Int)else 0)|.int i,.int j=>i==j|.str x,.str y=>x==y|.aE xs,.aE ys=>kH xs ys|.aD xs,.aD ys=>kH xs ys|_,_=>ak
@[simp]noncomputable def kH:List D->List D->Bool
 |[],[]=>ah|x::xs,y::ys=>eqv x y&&kH xs ys|_,_=>ak
end
noncomputable def pU:Cl->Option (List D)
 |.l J=>aa J|.o _ _=>af|.d _=>af|.z=>af|.b _=>af
def rF:Cl->Option (aA×List (aA×W))
 |.l _=>af|.o c fs=>aa (c,fs)|.d _=>af|.z=>af|.b _=>af
noncomputable def AO:Cl->Option (List (Ky×D))
 |.l _=>af|.o _ _=>af|.d J=>aa J|.z=>af|.b _=>af
noncomputable def oF:Cl->Option (List Nat)
 |.b J=>aa J|_=>af
@[simp]theorem Sk(ns:List Nat):pU (.b ns)=af:=rfl
@[simp]theorem Sn(ns:List Nat):rF (.b ns)=af:=rfl
@[simp]theorem So(ns:List Nat):AO (.b ns)=af:=rfl
@[simp]theorem QO(ns:List Nat):oF (.b ns)=aa ns:=rfl
@[simp]theorem QS(xs:List D):oF (.l xs)=af:=rfl
@[simp]theorem QT(c:aA)(fs:List (aA×W)):oF (.o c fs)=af:=rfl
@[simp]theorem Sq(kvs:List (Ky×D)):pU (.d kvs)=af:=rfl
@[simp]theorem Ss(kvs:List (Ky×D)):rF (.d kvs)=af:=rfl
@[simp]theorem Su(kvs:List (Ky×D)):AO (.d kvs)=aa kvs:=rfl
@[simp]theorem Sv:pU .z=af:=rfl
@[simp]theorem Sw:rF .z=af:=rfl
@[simp]theorem Sx:AO .z=af:=rfl
@[simp]theorem Sy(xs:List D):AO (.l xs)=af:=rfl
@[simp]theorem Sz(c:aA)(fs:List (aA×W)):AO (.o c fs)=af:=rfl
@[simp]theorem KO(xs:List D):pU (.l xs)=aa xs:=rfl
@[simp]theorem SA(c:aA)(fs:List (aA×W)):pU (.o c fs)=af:=rfl
@[simp]theorem SB(xs:List D):rF (.l xs)=af:=rfl
@[simp]theorem KP(c:aA)(fs:List (aA×W)):rF (.o c fs)=aa (c,fs):=rfl
def lat(h:HH)(n:Nat):Option (List D):=(h[n]?).bind pU
def oat(h:HH)(n:Nat):Option (aA×List (aA×W)):=(h[n]?).bind rF
def dat(h:HH)(n:Nat):Option (List (Ky×D)):=(h[n]?).bind AO
def bat(h:HH)(n:Nat):Option (List Nat):=(h[n]?).bind oF
noncomputable def rG:D->Option Ky
 |.aF=>af|.bl _=>af|.int i=>aa (.inl i)|.str x=>aa (.inr x)|.aE _=>af|.aD _=>af
@[simp]theorem OD(i:Int):rG (.int i)=aa (.inl i):=rfl
@[simp]theorem OE(x:aA):rG (.str x)=aa (.inr x):=rfl
noncomputable def KQ:Ky->D
 |.inl i=>.int i|.inr x=>.str x
@[simp]theorem SC(i:Int):KQ (.inl i)=.int i:=rfl
@[simp]theorem SD(x:aA):KQ (.inr x)=.str x:=rfl
noncomputable def gB(kvs:List (Ky×D))(k:Ky):Option D:=(kvs.find? λJ=>decide (J.1=k)).map (·.2)
noncomputable def Jw(kvs:List (Ky×D))(k:Ky)(v:D):List (Ky×D) :=
 if(kvs.any λJ=>decide (J.1=k))=ah then kvs.map (λJ=>if J.1=k then(J.1,v)else J)else kvs++[(k,v)]
def rd(w:W)(h:HH):Option D:=match w with
 |.p d=>aa d|.r n=>(lat h n).map D.aD|.k _=>af|.o _=>af|.c _ _=>af|.x _=>af
@[simp]theorem U7(d:D)(h:HH):rd (.p d) h=aa d:=rfl
noncomputable def big(i:Int):Bool:=decide (i.natAbs<2^64)
noncomputable def rep(k:Nat)(xs:List D):List D:=(VG k xs).flatten
def jK:Bin->D->D->Option D
 |.add,.int i,.int j=>aa (.int (i+j))
 |.add,.str x,.str y=>if x.length+y.length<=lim then aa (.str (x++y))else af
 |.add,.aE xs,.aE ys=>if xs.length+ys.length<=lim then aa (.aE (xs++ys))else af
 |.add,.aD xs,.aD ys=>if xs.length+ys.length<=lim then aa (.aD (xs++ys))else af
 |.sub,.int i,.int j=>aa (.int (i-j))
 |.mul,.int i,.int j=>if big i||big j then aa (.int (i*j))else af
 |.mul,.aE xs,.int k=>if 2<=k&&k<=1000&&!xs.isEmpty&&xs.length*k.toNat<=lim then aa (.aE (rep k.toNat xs))else af
 |.mul,.aD xs,.int k=>if -1000<=k&&k<=1000&&xs.length*k.toNat<=lim then aa (.aD (rep k.toNat xs))else af
 |.mod,.int i,.int j=>if 0<j then aa (.int (i%j))else af
 |.fdiv,.int i,.int j=>if 0<j&&j<1073741824 then aa (.int (i/j))else af
 |_,_,_=>af
def pV:Bin->D->D->Option D
 |.add,.int i,.int j=>aa (.int (i+j))|.sub,.int i,.int j=>aa (.int (i-j))
 |.mul,.int i,.int j=>if big i||big j then aa (.int (i*j))else af
 |_,_,_=>af
@[simp]theorem OF(i j:Int):pV .add (.int i) (.int j)=aa (.int (i+j)):=rfl
@[simp]theorem OG(i j:Int):pV .sub (.int i) (.int j)=aa (.int (i-j)):=rfl
@[simp]theorem vB(i j:Int):pV .mul (.int i) (.int j)=if big i||big j then aa (.int (i*j))else af:=rfl
@[simp]noncomputable def place(n:Nat)(i:Int):Option Nat :=
 if 0<=i then(if i<n then aa i.toNat else af)else if -(n:Int)<=i then aa (i+n).toNat else af
@[simp]def atP{J:Type}(xs:List J)(i:Int):Option J:=(place xs.length i).bind λj=>xs[j]?
@[simp]noncomputable def fS(k:aA):List (aA×D)->Option D
 |[]=>af
 |(x,d)::r=>if k=x then aa d else fS k r
def dZ:D->D->Option D
 |.aE xs,.int i=>atP xs i|.aD xs,.int i=>atP xs i
 |.str x,.int i=>if x.length<=lim then(atP x.cps.toList i).map λc=>.str ⟨#[c]⟩else af
 |_,_=>af
@[simp]noncomputable def clip(n d:Nat):Option Int->Nat
 |none=>d
 |some v=>if v<0 then(v+(n:Int)).toNat else if v<=(n:Int)then v.toNat else n
@[simp]def cut(xs:List D)(lo hi:Option Int):List D:=(xs.drop (clip xs.length 0 lo)).take (clip xs.length xs.length hi-clip xs.length 0 lo)
@[simp]noncomputable def tN:List D->Option (Option Int)
 |[]=>aa af|[.int i]=>aa (aa i)|_=>af
def oO(x:D)(lo hi:Option Int):Option D:=match x with
 |.aE J=>aa (.aE (cut J lo hi))|.aD J=>aa (.aD (cut J lo hi))|_=>af
noncomputable def dok:Nat->D->Bool
 |_,.aF=>ah|_,.bl _=>ah|_,.int _=>ah|_,.str _=>ah|0,.aE _=>ak|0,.aD _=>ak|n+1,.aE xs=>xs.all (dok n)|n+1,.aD xs=>xs.all (dok n)
@[simp]theorem QU(n:Nat):dok n .aF=ah:=by cases n<;>rfl
@[simp]theorem SE(n:Nat)(b:Bool):dok n (.bl b)=ah:=by cases n<;>rfl
@[simp]theorem o7(n:Nat)(i:Int):dok n (.int i)=ah:=by cases n<;>rfl
@[simp]theorem QV(n:Nat)(x:aA):dok n (.str x)=ah:=by cases n<;>rfl
@[simp]theorem yT(n:Nat)(xs:List D):dok (n+1) (.aE xs)=xs.all (dok n):=rfl
@[simp]theorem yU(n:Nat)(xs:List D):dok (n+1) (.aD xs)=xs.all (dok n):=rfl
def fk(x y:D):Bool:=dok 100 x||dok 100 y
@[simp]theorem OH(x:D)(y:aA):fk x (.str y)=ah:=by simp[fk]
@[simp]theorem OI(x:D)(y:Int):fk x (.int y)=ah:=by simp[fk]
@[simp]theorem Nj(x:D)(y:aA):fk (.str y) x=ah:=by simp[fk]
@[simp]theorem Nk(x:D)(y:Int):fk (.int y) x=ah:=by simp[fk]
@[simp]theorem Nl(x:D):fk x (.aE [])=ah:=by simp[fk,dok]
@[simp]theorem Nn(x:D):fk x (.aD [])=ah:=by simp[fk,dok]
@[simp]theorem QW(x:D)(b:Bool):fk x (.bl b)=ah:=by simp[fk]
def iP(h:dok 100 y=ah):fk x y=ah:=by simp[fk,h]
noncomputable def kr:D->Bool
 |.aF=>ah|.bl _=>ak|.int _=>ak|.str _=>ak|.aE _=>ak|.aD _=>ak
@[simp]theorem Np:kr .aF=ah:=rfl
@[simp]theorem OJ(z:Bool):kr (.bl z)=ak:=rfl
@[simp]theorem Nq(z:Int):kr (.int z)=ak:=rfl
@[simp]theorem Nr(z:aA):kr (.str z)=ak:=rfl
@[simp]theorem Nt(z:List D):kr (.aE z)=ak:=rfl
@[simp]theorem Nu(z:List D):kr (.aD z)=ak:=rfl
noncomputable def tO(b:Bool):D->Bool
 |.aF=>ak|.bl c=>c==b|.int _=>ak|.str _=>ak|.aE _=>ak|.aD _=>ak
@[simp]theorem OL(b:Bool):tO b .aF=ak:=rfl
@[simp]theorem QX(b z:Bool):tO b (.bl z)=(z==b):=rfl
@[simp]theorem OM(b:Bool)(z:Int):tO b (.int z)=ak:=rfl
@[simp]theorem ON(b:Bool)(z:aA):tO b (.str z)=ak:=rfl
@[simp]theorem OO(b:Bool)(z:List D):tO b (.aE z)=ak:=rfl
@[simp]theorem OP(b:Bool)(z:List D):tO b (.aD z)=ak:=rfl
def gR:Cm->D->D->Option Bool
 |.eq,x,y=>if fk x y then aa (eqv x y)else af
 |.ne,x,y=>if fk x y then aa (!eqv x y)else af
 |.lt,.int i,.int j=>aa (decide (i<j))|.le,.int i,.int j=>aa (decide (i<=j))|.gt,.int i,.int j=>aa (decide (j<i))|.ge,.int i,.int j=>aa (decide (j<=i))|.isN,x,.aF=>aa (kr x)|.notN,x,.aF=>aa (!kr x)|.notN,x,.bl b=>aa (!tO b x)
 |.mem,x,.aE ys=>if ys.all λy=>fk y x then aa (ys.any λy=>eqv y x)else af
 |.mem,x,.aD ys=>if ys.all λy=>fk y x then aa (ys.any λy=>eqv y x)else af
 |.nmem,x,.aE ys=>if ys.all λy=>fk y x then aa (!ys.any λy=>eqv y x)else af
 |.nmem,x,.aD ys=>if ys.all λy=>fk y x then aa (!ys.any λy=>eqv y x)else af
 |_,_,_=>af
@[simp]noncomputable def intsOf:List D->Option (List Int)
 |[]=>aa []|.int i::r=>(intsOf r).map (i :: ·)|_=>af
@[simp]noncomputable def allB:List D->Option Bool
 |[]=>aa ah
 |.bl b::r=>if b then allB r else aa ak
 |_=>af
@[simp]noncomputable def anyB:List D->Option Bool
 |[]=>aa ak
 |.bl b::r=>if b then aa ah else anyB r
 |_=>af
noncomputable def isI:D->Bool
 |.aF=>ak|.bl _=>ah|.int _=>ah|.str _=>ak|.aE _=>ak|.aD _=>ak
@[simp]theorem QY:isI .aF=ak:=rfl
@[simp]theorem SG(z:Bool):isI (.bl z)=ah:=rfl
@[simp]theorem QZ(z:Int):isI (.int z)=ah:=rfl
@[simp]theorem Q0(z:aA):isI (.str z)=ak:=rfl
@[simp]theorem Q2(z:List D):isI (.aE z)=ak:=rfl
@[simp]theorem Q3(z:List D):isI (.aD z)=ak:=rfl
noncomputable def isB:D->Bool
 |.aF=>ak|.bl _=>ah|.int _=>ak|.str _=>ak|.aE _=>ak|.aD _=>ak
@[simp]theorem Q4:isB .aF=ak:=rfl
@[simp]theorem SH(z:Bool):isB (.bl z)=ah:=rfl
@[simp]theorem Q5(z:Int):isB (.int z)=ak:=rfl
@[simp]theorem Q6(z:aA):isB (.str z)=ak:=rfl
@[simp]theorem Q7(z:List D):isB (.aE z)=ak:=rfl
@[simp]theorem Q8(z:List D):isB (.aD z)=ak:=rfl
noncomputable def isS:D->Bool
 |.aF=>ak|.bl _=>ak|.int _=>ak|.str _=>ah|.aE _=>ak|.aD _=>ak
@[simp]theorem Q9:isS .aF=ak:=rfl
@[simp]theorem SI(z:Bool):isS (.bl z)=ak:=rfl
@[simp]theorem Rc(z:Int):isS (.int z)=ak:=rfl
@[simp]theorem Re(z:aA):isS (.str z)=ah:=rfl
@[simp]theorem Rf(z:List D):isS (.aE z)=ak:=rfl
@[simp]theorem Rg(z:List D):isS (.aD z)=ak:=rfl
noncomputable def isT:D->Bool
 |.aF=>ak|.bl _=>ak|.int _=>ak|.str _=>ak|.aE _=>ah|.aD _=>ak
@[simp]theorem Rh:isT .aF=ak:=rfl
@[simp]theorem SJ(z:Bool):isT (.bl z)=ak:=rfl
@[simp]theorem Rj(z:Int):isT (.int z)=ak:=rfl
@[simp]theorem Rk(z:aA):isT (.str z)=ak:=rfl
@[simp]theorem Rl(z:List D):isT (.aE z)=ah:=rfl
@[simp]theorem Rm(z:List D):isT (.aD z)=ak:=rfl
noncomputable def isL:D->Bool
 |.aF=>ak|.bl _=>ak|.int _=>ak|.str _=>ak|.aE _=>ak|.aD _=>ah
noncomputable def sortI(ns:List Int):List Int:=ns.mergeSort λa b=>decide (a<=b)
noncomputable def Dc:List Int->Option Int
 |[]=>af|n::ns=>aa (ns.foldl max n)
noncomputable def KR:List Int->Option Int
 |[]=>af|n::ns=>aa (ns.foldl min n)
@[simp]noncomputable def GG:List D->List D->List D
 |x::xs,y::ys=>.aE [x,y]::GG xs ys|_,_=>[]
noncomputable def ded(ns:List Int):List Int:=ns.foldl (fun J v=>if J.any (·==v)then J else J++[v]) []
noncomputable def UI(a b c:Int):Nat:=if a<b then((b-a-1)/c+1).toNat else 0
noncomputable def stepI(a c:Int)(n:Nat):List Int:=(VM n).map λ(k:Nat)=>a+(k:Int)*c
def biD:Bi->List D->Option D
 |.len,[.aE xs]=>aa (.int xs.length)|.len,[.aD xs]=>aa (.int xs.length)
 |.len,[.str x]=>if x.length<=lim then aa (.int x.length)else af
 |.int,[.int i]=>aa (.int i)|.int,[.bl b]=>aa (.int (if b then 1 else 0))
 |.str,[.int i]=>if big i then aa (.str (toString i))else af
 |.tuple,[.aD xs]=>aa (.aE xs)|.tuple,[.aE xs]=>aa (.aE xs)|.list,[.aD xs]=>aa (.aD xs)|.list,[.aE xs]=>aa (.aD xs)|.all,[.aD xs]=>(allB xs).map .bl|.isInt,[x]=>aa (.bl (isI x))|.isBool,[x]=>aa (.bl (isB x))|.isStr,[x]=>aa (.bl (isS x))|.isTuple,[x]=>aa (.bl (isT x))|.min2,[.int i,.int j]=>aa (.int (if j<i then j else i))|.max2,[.int i,.int j]=>aa (.int (if j>i then j else i))
 |.sorted,[.aD xs]=>(intsOf xs).bind λJ=>if J.length<64 then aa (.aD ((sortI J).map .int))else af
 |.max1,[.aD xs]=>(intsOf xs).bind λJ=>(Dc J).map .int
 |.sset,[.aD xs]=>(intsOf xs).bind λJ=>if J.length<64 then aa (.aD ((sortI (ded J)).map .int))else af
 |.min1,[.aD xs]=>(intsOf xs).bind λJ=>(KR J).map .int
 |_,_=>af
@[simp]noncomputable def lA:Nat->List D->List D
 |_,[]=>[]|k,x::r=>.aE [.int k,x]::lA (k+1) r
noncomputable def tP:D->Option (List D)
 |.aE J=>aa J|.aD J=>aa J|_=>af
noncomputable def upto(lo:Int)(n:Nat):List D:=(VM n).map λ(k:Nat)=>D.int (lo+(k:Int))
noncomputable def down(a:Int)(n:Nat):List D:=(VM n).map λi=>.int (a-(i:Nat))
noncomputable def KS(x:aA):List D:=x.cps.toList.map λc=>.str ⟨#[c]⟩
def GH:D->Option (List D)
 |.aE J=>aa J|.aD J=>aa J|.str x=>aa (KS x)|_=>af
def gy:Sr->List D->Option (List D)
 |.seq,[x]=>tP x
 |.rng1,[.int n]=>if -100000<=n&&n<=100000 then aa (upto 0 n.toNat)else af
 |.rng2,[.int a,.int b]=>if -100000<=a&&a<=100000&&-100000<=b&&b<=100000 then aa (upto a (b-a).toNat)else af
 |.rev,[.aD J]=>aa J.reverse|.enu,[.aD J]=>aa (lA 0 J)|.zip2,[.aD J,.aD ys]=>aa (GG J ys)|.itm,[.aD J]=>aa J|.chs,[.str x]=>aa (KS x)
 |.zipG,[x,y]=>(GH x).bind λJ=>(GH y).map (GG J)
 |.rng3,[.int a,.int b,.int c]=>if c=-1/\-100000<=a/\a<=100000/\-100000<=b/\b<=100000 then aa (down a (a-b).toNat)else af
 |_,_=>af
@[simp]def kI(x:D):List D->Nat->Option Nat
 |[],_=>af
 |y::r,k=>if eqv y x then aa k else kI x r (k+1)
@[simp]noncomputable def OQ(c:Nat):List Nat->Nat->Option Nat
 |[],_=>af
 |y::r,k=>if y=c then aa k else OQ c r (k+1)
@[simp]noncomputable def dS:List W->Option (List D)
 |[]=>aa []|.p d::r=>(dS r).map (d :: ·)|.r _::_=>af|.k _::_=>af|.o _::_=>af|.c _ _::_=>af|.x _::_=>af
def meD:Me->D->List D->Option D
 |.tindex,.aE xs,[x]=>if xs.all λy=>fk y x then(kI x xs 0).map λ(q:Nat)=>D.int (q:Int)else af
 |.sindex,.str x,[.str y]=>match Yl x y 0 x.length 1 with
  |i::_=>aa (.int (i:Int))|[]=>af
 |.count,.aD xs,[x]=>if xs.all λy=>fk y x then aa (.int ((xs.countP λy=>eqv y x:Nat):Int))else af
 |.lindex,.aD xs,[x]=>if xs.all λy=>fk y x then(kI x xs 0).map λ(q:Nat)=>D.int (q:Int)else af
 |_,_,_=>af
theorem De:meD .count (.aD xs) [x]=if xs.all λy=>fk y x then aa (.int ((xs.countP λy=>eqv y x:Nat):Int))else af:=rfl
theorem Df:meD .tindex (.aE xs) [x]=if xs.all λy=>fk y x then(kI x xs 0).map λ(q:Nat)=>D.int (q:Int)else af:=rfl
theorem KU:meD .sindex (.str x) [.str y]=match Yl x y 0 x.length 1 with
 |i::_=>aa (.int (i:Int))|[]=>af:=rfl
def meW(m:Me)(o:W)(as:List W)(h:HH):Option (W×HH):=match m,o,as with
 |.append,.r n,[.p d]=>match lat h n with
  |some J=>if J.length<lim then aa (.p .aF,h.set n (.l (J++[d])))else af
  |none=>af
 |.pop,.r n,[]=>match lat h n with
  |some J=>match J.getLast? with
   |some d=>aa (.p d,h.set n (.l J.dropLast))|none=>af
  |none=>af
 |.extend,.r n,[w]=>match lat h n,(rd w h).bind tP with
  |some J,aa ys=>if J.length+ys.length<=lim then aa (.p .aF,h.set n (.l (J++ys)))else af
  |_,_=>af
 |.dget,.k (.t kvs),[.p (.str x)]=>aa (.p ((fS x kvs).getD .aF),h)|.dget,.k (.t _),[.p .aF]=>aa (.p .aF,h)|.dget,.k (.t kvs),[.p (.str x),.p d]=>aa (.p ((fS x kvs).getD d),h)
 |m,.p d,as=>match dS as with
  |some L=>(meD m d L).map λx=>(.p x,h)
  |none=>af
 |_,_,_=>af
section
variable(n:Nat)(d:D)(h:HH)(kvs:List (aA×D))(x:aA)(as:List W)
@[simp]theorem l7:meW .append (.r n) [.p d] h=match lat h n with
 |some J=>if J.length<lim then aa (.p .aF,h.set n (.l (J++[d])))else af
 |none=>af:=rfl
@[simp]theorem GI:meW .pop (.r n) [] h=match lat h n with
 |some J=>match J.getLast? with
  |some d=>aa (.p d,h.set n (.l J.dropLast))|none=>af
 |none=>af:=rfl
@[simp]theorem xJ(w:W):meW .extend (.r n) [w] h=match lat h n,(rd w h).bind tP with
 |some xs,aa ys=>if xs.length+ys.length<=lim then aa (.p .aF,h.set n (.l (xs++ys)))else af
 |_,_=>af:=rfl
@[simp]theorem pW:meW .tindex (.p d) as h=match dS as with
 |some J=>(meD .tindex d J).map λx=>(.p x,h)
 |none=>af:=rfl
@[simp]theorem AQ:meW .count (.p d) as h=match dS as with
 |some J=>(meD .count d J).map λx=>(.p x,h)
 |none=>af:=rfl
@[simp]theorem KW:meW .lindex (.p d) as h=match dS as with
 |some J=>(meD .lindex d J).map λx=>(.p x,h)
 |none=>af:=rfl
@[simp]theorem pX:meW .sindex (.p d) as h=match dS as with
 |some J=>(meD .sindex d J).map λx=>(.p x,h)
 |none=>af:=rfl
end
noncomputable def new(mu:Bool)(xs:List D)(h:HH):W×HH:=if mu then(.r h.length,h++[.l xs])else(.p (.aD xs),h)
@[simp]theorem UJ(xs:List D)(h:HH):new ak xs h=(.p (.aD xs),h):=rfl
@[simp]theorem UK(xs:List D)(h:HH):new ah xs h=(.r h.length,h++[.l xs]):=rfl
@[simp]def rds(ws:List W)(h:HH):Option (List D):=match ws with
 |[]=>aa []
 |w::r=>(rd w h).bind λd=>(rds r h).map (d :: ·)
noncomputable def unpack(n:Nat):D->Option (List D)
 |.aE J=>if J.length=n then aa J else af
 |.aD J=>if J.length=n then aa J else af
 |_=>af
def target(n:Nat)(d:D):Option (List D):=if n=1 then aa [d]else unpack n d
section
variable(i j k a b:Int)(c:Bool)(x y:aA)(xs ys:List D)(kvs:List (aA×D))(d e:D)(lo hi:Option Int)
@[simp]theorem vC:jK .add (.int i) (.int j)=aa (.int (i+j)):=rfl
@[simp]theorem pY:jK .add (.str x) (.str y)=if x.length+y.length<=lim then aa (.str (x++y))else af:=rfl
@[simp]theorem pZ:jK .add (.aE xs) (.aE ys)=if xs.length+ys.length<=lim then aa (.aE (xs++ys))else af:=rfl
@[simp]theorem dW:jK .add (.aD xs) (.aD ys)=if xs.length+ys.length<=lim then aa (.aD (xs++ys))else af:=rfl
@[simp]theorem qa:jK .sub (.int i) (.int j)=aa (.int (i-j)):=rfl
@[simp]theorem vD:jK .mul (.int i) (.int j)=if big i||big j then aa (.int (i*j))else af:=rfl
@[simp]theorem qb:jK .mul (.aE xs) (.int k)=if 2<=k&&k<=1000&&!xs.isEmpty&&xs.length*k.toNat<=lim then aa (.aE (rep k.toNat xs))else af:=rfl
@[simp]theorem qc:jK .mul (.aD xs) (.int k)=if -1000<=k&&k<=1000&&xs.length*k.toNat<=lim then aa (.aD (rep k.toNat xs))else af:=rfl
@[simp]theorem qd:jK .mod (.int i) (.int j)=if 0<j then aa (.int (i%j))else af:=rfl
@[simp]theorem nQ:jK .fdiv (.int i) (.int j)=if 0<j&&j<1073741824 then aa (.int (i/j))else af:=rfl
@[simp]theorem jL:dZ (.aE xs) (.int i)=atP xs i:=rfl
@[simp]theorem dP:dZ (.aD xs) (.int i)=atP xs i:=rfl
@[simp]theorem kJ:dZ (.str x) (.int i)=if x.length<=lim then(atP x.cps.toList i).map λc=>.str ⟨#[c]⟩else af:=rfl
@[simp]theorem tQ:oO (.aE xs) lo hi=aa (.aE (cut xs lo hi)):=rfl
@[simp]theorem qe:oO (.aD xs) lo hi=aa (.aD (cut xs lo hi)):=rfl
@[simp]theorem o8:gR .eq d e=if fk d e then aa (eqv d e)else af:=rfl
@[simp]theorem o9:gR .ne d e=if fk d e then aa (!eqv d e)else af:=rfl
@[simp]theorem mS:gR .lt (.int i) (.int j)=aa (decide (i<j)):=rfl
@[simp]theorem pq:gR .le (.int i) (.int j)=aa (decide (i<=j)):=rfl
@[simp]theorem pA:gR .gt (.int i) (.int j)=aa (decide (j<i)):=rfl
@[simp]theorem mT:gR .ge (.int i) (.int j)=aa (decide (j<=i)):=rfl
@[simp]theorem kK:gR .isN d .aF=aa (kr d):=rfl
@[simp]theorem lB:gR .notN d .aF=aa (!kr d):=rfl
@[simp]theorem AR{b:Bool}:gR .notN d (.bl b)=aa (!tO b d):=rfl
@[simp]theorem iQ:gR .mem d (.aE ys)=if ys.all λy=>fk y d then aa (ys.any λy=>eqv y d)else af:=rfl
@[simp]theorem jM:gR .mem d (.aD ys)=if ys.all λy=>fk y d then aa (ys.any λy=>eqv y d)else af:=rfl
@[simp]theorem jb:gR .nmem d (.aE ys)=if ys.all λy=>fk y d then aa (!ys.any λy=>eqv y d)else af:=rfl
@[simp]theorem g7:gR .nmem d (.aD ys)=if ys.all λy=>fk y d then aa (!ys.any λy=>eqv y d)else af:=rfl
@[simp]theorem r8:biD .len [.aE xs]=aa (.int xs.length):=rfl
@[simp]theorem AS:biD .len [.aD xs]=aa (.int xs.length):=rfl
@[simp]theorem AU:biD .len [.str x]=if x.length<=lim then aa (.int x.length)else af:=rfl
@[simp]theorem Rn:biD .int [.int i]=aa (.int i):=rfl
@[simp]theorem Nv:biD .int [.bl c]=aa (.int (if c then 1 else 0)):=rfl
@[simp]theorem Ro:biD .str [.int i]=if big i then aa (.str (toString i))else af:=rfl
@[simp]theorem Jx:biD .tuple [.aD xs]=aa (.aE xs):=rfl
@[simp]theorem Jy:biD .tuple [.aE xs]=aa (.aE xs):=rfl
theorem xK:biD .sorted [.aD xs]=(intsOf xs).bind λns=>if ns.length<64 then aa (.aD ((sortI ns).map .int))else af:=rfl
theorem vE:biD .sset [.aD xs]=(intsOf xs).bind λns=>if ns.length<64 then aa (.aD ((sortI (ded ns)).map .int))else af:=rfl
theorem vF:biD .min1 [.aD xs]=(intsOf xs).bind λns=>(KR ns).map .int:=rfl
theorem vG:biD .max1 [.aD xs]=(intsOf xs).bind λns=>(Dc ns).map .int:=rfl
def sortI_perm(ns:List Int):(sortI ns).Perm ns:=List.mergeSort_perm _ _
def qf(ns:List Int):(sortI ns).Pairwise (·<=·):=by have:=List.pairwise_mergeSort (le:=λ(a b:Int)=>decide (a<=b)) (λa b c L J=>by simp only[bP]at *;lia) (λa b=>by simp only[W9,bP];lia) ns;exact this.imp λh=>bS h
def foldl_max(l:List Int):∀n:Int,(l.foldl max n=n\/l.foldl max n∈l)/\n<=l.foldl max n/\∀a∈l,a<=l.foldl max n:=by
 induction l with
 |nil=>intro n;exact⟨.inl rfl,Int.le_refl _,λa h=>nomatch h⟩
 |cons x l L =>
  intro n;obtain⟨U,V,O⟩:=L (max n x);rw[WU];refine⟨?_,by lia,λa J=>?_⟩
  ·rcases U with h|h
   ·rw[h];rcases Int.le_total n x with q|q
    exact .inr (by rw[show max n x=x by lia];exact Vt);exact .inl (by lia)
   exact .inr (Vn _ h)
  ·rcases List.mem_cons.mp J with rfl|J
   lia;exact O a J
theorem foldl_min:∀(l:List Int)(n:Int),(l.foldl min n=n\/l.foldl min n∈l)/\l.foldl min n<=n/\∀a∈l,l.foldl min n<=a
 |[],n=>⟨.inl rfl,Int.le_refl _,λa h=>bO h (by simp)⟩
 |b::l,n=>by
  obtain⟨O,U,L⟩:=foldl_min l (min n b);rw[WU];refine⟨?_,by lia,λa J=>?_⟩
  ·rcases O with h|h
   ·rw[h];rcases Int.le_total n b with q|q
    exact .inl (by lia);exact .inr (by rw[show min n b=b by lia];exact Vt)
   exact .inr (Vn _ h)
  ·rcases List.mem_cons.mp J with rfl|J
   lia;exact L a J
def AV{ns:List Int}{M:Int}(h:KR ns=aa M):M∈ns/\∀a∈ns,M<=a:=by
 cases ns with
 |nil=>cases h
 |cons n l =>
  cases h;obtain⟨U,O,L⟩:=foldl_min l n;refine⟨?_,λa J=>?_⟩
  ·rcases U with q|q
   rw[q];exact Vt;exact Vn _ q
  ·rcases List.mem_cons.mp J with rfl|J
   exact O;exact L a J
def r9(h:Dc ns=aa M):M∈ns/\∀a∈ns,a<=M:=by
 cases ns with
 |nil=>cases h
 |cons n l =>
  cases h;obtain⟨U,O,L⟩:=foldl_max l n;refine⟨?_,λa J=>?_⟩
  ·rcases U with q|q
   rw[q];exact Vt;exact Vn _ q
  ·rcases List.mem_cons.mp J with rfl|J
   exact O;exact L a J
@[simp]theorem KY:biD .list [.aD xs]=aa (.aD xs):=rfl
@[simp]theorem KZ:biD .list [.aE xs]=aa (.aD xs):=rfl
@[simp]theorem Rp:biD .all [.aD xs]=(allB xs).map .bl:=rfl
@[simp]theorem Nx:biD .isInt [d]=aa (.bl (isI d)):=rfl
@[simp]theorem K0:biD .isBool [d]=aa (.bl (isB d)):=rfl
@[simp]theorem Ny:biD .isStr [d]=aa (.bl (isS d)):=rfl
@[simp]theorem Jz:biD .isTuple [d]=aa (.bl (isT d)):=rfl
@[simp]theorem yV:biD .min2 [.int i,.int j]=aa (.int (if j<i then j else i)):=rfl
@[simp]theorem Rq:biD .max2 [.int i,.int j]=aa (.int (if j>i then j else i)):=rfl
@[simp]theorem SK:tP (.aE xs)=aa xs:=rfl
@[simp]theorem SL:tP (.aD xs)=aa xs:=rfl
@[simp]theorem Dg:gy .seq [d]=tP d:=rfl
@[simp]theorem iM:gy .rng1 [.int a]=if -100000<=a&&a<=100000 then aa (upto 0 a.toNat)else af:=rfl
@[simp]theorem jB:gy .rng2 [.int a,.int b]=if -100000<=a&&a<=100000&&-100000<=b&&b<=100000 then aa (upto a (b-a).toNat)else af:=rfl
@[simp]theorem OR:gy .rev [.aD xs]=aa xs.reverse:=rfl
@[simp]theorem OS{x:aA}:gy .chs [.str x]=aa (KS x):=rfl
@[simp]theorem Nz{x y:D}:gy .zipG [x,y]=(GH x).bind λxs=>(GH y).map (GG xs):=rfl
@[simp]theorem OT:gy .itm [.aD xs]=aa xs:=rfl
@[simp]theorem K1:meD .tindex (.aE xs) [d]=if xs.all λy=>fk y d then(kI d xs 0).map λ(q:Nat)=>D.int (q:Int)else af:=rfl
@[simp]theorem vH(n:Nat):unpack n (.aD xs)=if xs.length=n then aa xs else af:=rfl
@[simp]theorem vI(n:Nat):unpack n (.aE xs)=if xs.length=n then aa xs else af:=rfl
end
@[simp]theorem mU(d:D):target 1 d=aa [d]:=rfl
@[simp]theorem OU(d:D):target 2 d=unpack 2 d:=rfl
noncomputable def yW(o:Option D)(out:List D)(h:HH):Option (List D×HH):=aa (match o with|some x=>x::out|none=>out,h)
def Dh(r:HH->Option (List D×HH))(o:Option D)(h:HH):Option (List D×HH):=bnd (r h) (yW o)
@[simp]theorem vJ(o:Option D)(out:List D)(h:HH):yW o out h=aa (match o with|some x=>x::out|none=>out,h):=rfl
@[simp]theorem yX(r:HH->Option (List D×HH))(o:Option D)(h:HH):Dh r o h=bnd (r h) (yW o):=rfl
def eH(f:List D->HH->Option (Option D×HH))(n:Nat):List D->HH->Option (List D×HH)
 |[],h=>aa ([],h)
 |d::r,h=>match target n d with
  |some J=>bnd (f J h) (Dh (eH f n r))|none=>af
noncomputable def fB(d:D):Option W:=aa (.p d)
noncomputable abbrev EH:=HH->Option (W×HH)
noncomputable abbrev OpW:=W->W->HH->Option (W×HH)
@[simp]def k2(L:EH)(J:OpW)(x:W)(h:HH):Option (W×HH):=bnd (L h) (J x)
@[simp]def tR(o:Bin)(x y:W)(h:HH):Option (W×HH):=match rd x h,rd y h with
 |some d,aa e=>(jK o d e).map λz=>(.p z,h)
 |_,_=>af
def inT(o:Cm)(x:W)(kvs:List (aA×D)):Option Bool:=match o,x with
 |.mem,.p (.str s)=>aa (fS s kvs).isSome|.mem,.p .aF=>aa ak|.nmem,.p (.str s)=>aa (!(fS s kvs).isSome)|_,_=>af
def inL(o:Cm)(x:W)(kvs:List (Ky×D)):Option Bool:=match o,x with
 |.mem,.p d=>(rG d).map λk=>(gB kvs k).isSome
 |_,_=>af
def inK(o:Cm)(x:W)(q:Kd):Option Bool:=match q with
 |.t J=>inT o x J|.l J=>inL o x J
noncomputable def memC:Cm->Bool
 |.mem=>ah|.nmem=>ah|_=>ak
def qh{o:Cm}{x:W}{q:Kd}{b:Bool}(h:memC o=ak):¬inK o x q=aa b:=by intro e;cases o<;>first|exact OA h|exact fU e|(cases q<;>first|exact fU e|(cases x<;>exact fU e))
@[simp]def l9(o:Cm)(x y:W)(h:HH):Option (W×HH):=match y with
 |.k J=>(inK o x J).map λz=>(.p (.bl z),h)
 |y=>match rd x h,rd y h with
  |some d,aa e=>(gR o d e).map λz=>(.p (.bl z),h)
  |_,_=>af
def atT(kvs:List (aA×D))(y:W):Option D:=match y with
 |.p (.str s)=>fS s kvs|_=>af
def atL(kvs:List (Ky×D))(y:W):Option D:=match y with
 |.p d=>(rG d).bind (gB kvs)|_=>af
def atK(q:Kd)(y:W):Option D:=match q with
 |.t J=>atT J y|.l J=>atL J y
@[simp]theorem UL(kvs:List (aA×D))(x:aA):atK (.t kvs) (.p (.str x))=fS x kvs:=rfl
@[simp]theorem UM(kvs:List (Ky×D))(i:Int):atK (.l kvs) (.p (.int i))=gB kvs (.inl i):=rfl
@[simp]theorem UN(kvs:List (aA×D))(x:aA):inK .mem (.p (.str x)) (.t kvs)=aa (fS x kvs).isSome:=rfl
@[simp]theorem UO(kvs:List (aA×D))(x:aA):inK .nmem (.p (.str x)) (.t kvs)=aa (!(fS x kvs).isSome):=rfl
@[simp]theorem UP(kvs:List (aA×D)):inK .mem (.p .aF) (.t kvs)=aa ak:=rfl
@[simp]theorem UQ(kvs:List (Ky×D))(i:Int):inK .mem (.p (.int i)) (.l kvs)=aa (gB kvs (.inl i)).isSome:=rfl
@[simp]def GJ(x y:W)(h:HH):Option (W×HH):=match x with
 |.k J=>(atK J y).map λz=>(.p z,h)
 |x=>match rd x h,rd y h with
  |some d,aa e=>(dZ d e).map λz=>(.p z,h)
  |_,_=>af
@[simp]noncomputable def GK(x:W)(h:HH):Option (W×HH):=match x with|.p (.int i)=>aa (.p (.int (-i)),h)|_=>af
@[simp]noncomputable def GL(x:W)(h:HH):Option (W×HH):=match x with|.p (.bl b)=>aa (.p (.bl (!b)),h)|_=>af
@[simp]noncomputable def GM(J:EH)(x:W)(h:HH):Option (W×HH):=match x with|.p (.bl c)=>if c then J h else aa (.p (.bl ak),h)|_=>af
@[simp]noncomputable def kOr(J:EH)(x:W)(h:HH):Option (W×HH):=match x with|.p (.bl c)=>if c then aa (.p (.bl ah),h)else J h|_=>af
@[simp]noncomputable def GN(L J:EH)(x:W)(h:HH):Option (W×HH):=match x with|.p (.bl c)=>if c then L h else J h|_=>af
@[simp]def OV(o':Cm)(e:D)(z:W)(h:HH):Option (W×HH):=match rd z h with
 |some f=>(gR o' e f).map λr=>(.p (.bl r),h)
 |none=>af
@[simp]def oCh(o o':Cm)(J:EH)(x y:W)(h:HH):Option (W×HH):=match rd x h,y with
 |some d,.p e=>match gR o d e with
  |some ah=>bnd (J h) (OV o' e)|some ak=>aa (.p (.bl ak),h)|none=>af
 |_,_=>af
@[simp]def K2(ws:List W)(h:HH):Option (W×HH):=match dS ws with|some J=>if J.length<=lim then aa (.p (.aE J),h)else af|none=>af
@[simp]def K3(mu:Bool)(ws:List W)(h:HH):Option (W×HH):=match dS ws with|some J=>if J.length<=lim then aa (new mu J h)else af|none=>af
@[simp]def OW(x:W)(l u:List W)(h:HH):Option (W×HH):=match rd x h,(dS l).bind tN,(dS u).bind tN with
 |some d,aa l',aa u'=>(oO d l' u').map λz=>(.p z,h)
 |_,_,_=>af
@[simp]def OX(J:HH->Option (List W×HH))(x:W)(l:List W)(h:HH):Option (W×HH):=bnd (J h) (OW x l)
@[simp]def OY(L J:HH->Option (List W×HH))(x:W)(h:HH):Option (W×HH):=bnd (L h) (OX J x)
@[simp]noncomputable def SM(x:W)(h:HH):Option (W×HH):=match x with
 |.p (.aE xs)=>aa (.p (.aE xs.reverse),h)|_=>af
noncomputable def oG(k:Int)(xs:List D):List D:=(YV (VU af af (aa k) xs.length).1 (VU af af (aa k) xs.length).2.1 (VU af af (aa k) xs.length).2.2).filterMap λi=>xs[i]?
@[simp]def K4(mu:Bool)(k:Int)(x:W)(h:HH):Option (W×HH):=match rd x h with
 |some (.aD xs)=>aa (new mu (oG k xs) h)|_=>af
@[simp]def kBi(b:Bi)(mu:Bool)(ws:List W)(h:HH):Option (W×HH):=match rds ws h with
 |some L=>match biD b L with
  |some d=>if mu then(match d with|.aD J=>aa (new ah J h)|_=>af)else aa (.p d,h)
  |none=>af
 |none=>af
def lO(x:W)(h:HH):Bool:=match x with
 |.r n=>(lat h n).isSome|.k (.l _)=>ak|_=>ah
@[simp]theorem SN(n:Nat)(h:HH):lO (.r n) h=(lat h n).isSome:=rfl
@[simp]theorem SO(d:D)(h:HH):lO (.p d) h=ah:=rfl
@[simp]theorem SQ(d:List (aA×D))(h:HH):lO (.k (.t d)) h=ah:=rfl
@[simp]def kMe(m:Me)(J:HH->Option (List W×HH))(x:W)(h:HH):Option (W×HH):=if lO x h then bnd (J h) (meW m x)else af
@[simp]def kLs(mu:Bool)(L:Sr)(ws:List W)(h:HH):Option (W×HH):=match (rds ws h).bind (gy L)with
 |some J=>if J.length<=lim then aa (new mu J h)else af
 |none=>af
@[simp]def oQ(w:W)(h:HH):Option (Option D×HH):=match w with|.p d=>aa (aa d,h)|_=>af
def yY(J:EH)(L:List W)(h:HH):Option (Option D×HH):=match L with
 |[]=>bnd (J h) oQ|[.p (.bl ah)]=>bnd (J h) oQ|[.p (.bl ak)]=>aa (af,h)|_=>af
@[simp]theorem Rr(J:EH)(h:HH):yY J [] h=bnd (J h) oQ:=rfl
@[simp]theorem Rt(J:EH)(h:HH):yY J [.p (.bl ah)] h=bnd (J h) oQ:=rfl
@[simp]theorem Ru(J:EH)(h:HH):yY J [.p (.bl ak)] h=aa (af,h):=rfl
@[simp]def fD(L:Sl->HH->Option (List W×HH))(J:Sl->EH)(fs:Sl)(xs:List D)(h:HH):Option (Option D×HH) :=
 bnd (L (xs.map fB++fs) h) (yY (J (xs.map fB++fs)))
@[simp]def g8(mu:Bool)(out:List D)(h:HH):Option (W×HH):=if out.length<=lim then aa (new mu out h)else af
def dR(f:aA):List (aA×W)->Option W
 |[]=>af
 |(x,w)::r=>if f=x then aa w else dR f r
def fy(f:aA)(w:W):List (aA×W)->List (aA×W)
 |[]=>[(f,w)]
 |(x,u)::r=>if f=x then(f,w)::r else(x,u)::fy f w r
@[simp]theorem OZ(f:aA):dR f []=af:=rfl
@[simp]theorem sf(f x:aA)(w:W)(r:List (aA×W)):dR f ((x,w)::r)=if f=x then aa w else dR f r:=rfl
@[simp]theorem O0(f:aA)(w:W):fy f w []=[(f,w)]:=rfl
@[simp]theorem AW(f x:aA)(w u:W)(r:List (aA×W)):fy f w ((x,u)::r)=if f=x then(f,w)::r else(x,u)::fy f w r:=rfl
noncomputable def attrOk:W->Bool
 |.p _=>ah|.r _=>ah|.k _=>ak|.o _=>ah|.c _ _=>ak|.x _=>ak
@[simp]theorem O4(d:D):attrOk (.p d)=ah:=rfl
@[simp]theorem O5(n:Nat):attrOk (.r n)=ah:=rfl
@[simp]theorem O6(n:Nat):attrOk (.o n)=ah:=rfl
def GO(f:aA)(x:W)(h:HH):Option (W×HH):=match x with
 |.o n=>match oat h n with
  |some (_,fs)=>(dR f fs).map λw=>(w,h)
  |none=>af
 |_=>af
@[simp]theorem K5(f:aA)(n:Nat)(h:HH):GO f (.o n) h=match oat h n with
 |some (_,fs)=>(dR f fs).map λw=>(w,h)
 |none=>af:=rfl
noncomputable def xM(F:FK->List W->HH->Option (W×HH))(q:FK)(n:Nat)(ws:List W)(h:HH):Option (W×HH):=F q (.o n::ws) h
@[simp]theorem NB(F:FK->List W->HH->Option (W×HH))(q:FK)(n:Nat)(ws:List W)(h:HH):xM F q n ws h=F q (.o n::ws) h:=rfl
def Di(F:FK->List W->HH->Option (W×HH))(m:aA)(J:HH->Option (List W×HH))(x:W)(h:HH):Option (W×HH):=match x with
 |.o n=>match oat h n with
  |some (c,fs)=>if(dR m fs).isNone then bnd (J h) (xM F (.m c m) n)else af
  |none=>af
 |_=>af
@[simp]theorem GP(F:FK->List W->HH->Option (W×HH))(m:aA)(J:HH->Option (List W×HH))(n:Nat)(h:HH):Di F m J (.o n) h=match oat h n with
 |some (c,fs)=>if(dR m fs).isNone then bnd (J h) (xM F (.m c m) n)else af
 |none=>af:=rfl
noncomputable def yZ(n:Nat)(x:W)(h:HH):Option (W×HH):=match x with
 |.p .aF=>aa (.o n,h)|_=>af
@[simp]theorem Rv(n:Nat)(h:HH):yZ n (.p .aF) h=aa (.o n,h):=rfl
def JA(F:FK->List W->HH->Option (W×HH))(c:aA)(ws:List W)(h:HH):Option (W×HH):=bnd (F (.m c "__init__") (.o h.length::ws) (h++[.o c []])) (yZ h.length)
@[simp]theorem Dj(F:FK->List W->HH->Option (W×HH))(c:aA)(ws:List W)(h:HH):JA F c ws h=bnd (F (.m c "__init__") (.o h.length::ws) (h++[.o c []])) (yZ h.length):=rfl
noncomputable def iB:List W->Bool
 |[]=>ah|.p _::r=>iB r|_=>ak
open Classical in
def chk(q:Nat)(ds:List D)(f:List D->HH->Option (Option D×HH))(xs:List D)(h:HH):Option (Option D×HH):=match f xs h with
 |some (o,h')=>if lat h' q=aa ds then aa (o,h')else af
 |none=>af
open Classical in
def K6(q:Nat)(ds:List D)(f:List D->HH->Option (Option D×HH))(xs:List D)(h:HH):Option (Option D×HH):=match f xs h with
 |some (o,h')=>if(lat h' q).map (lA 0)=aa ds then aa (o,h')else af
 |none=>af
def tS(mu:Bool)(J:Sr)(n:Nat)(f:List D->HH->Option (Option D×HH))(ws:List W)(ds:List D)(h:HH):Option (W×HH):=match ws,J with
 |[.r q],.seq=>bnd (eH (chk q ds f) n ds h) (g8 mu)|[.r q],.enu=>bnd (eH (K6 q ds f) n ds h) (g8 mu)|_,_=>af
theorem Dl(mu:Bool)(n:Nat)(f:List D->HH->Option (Option D×HH))(q:Nat)(ds:List D)(h:HH):tS mu .enu n f [.r q] ds h=bnd (eH (K6 q ds f) n ds h) (g8 mu):=rfl
theorem Dm(mu:Bool)(n:Nat)(f:List D->HH->Option (Option D×HH))(q:Nat)(ds:List D)(h:HH):tS mu .seq n f [.r q] ds h=bnd (eH (chk q ds f) n ds h) (g8 mu):=rfl
@[simp]def qk(mu:Bool)(J:Sr)(n:Nat)(fs:Option Sl)(O:Sl->HH->Option (List W×HH))(L:Sl->EH)(ws:List W)(h:HH):Option (W×HH) :=
 match (rds ws h).bind (gy J),fs with
 |some ds,aa fs=>if iB ws then bnd (eH (fD O L fs) n ds h) (g8 mu)else tS mu J n (fD O L fs) ws ds h
 |_,_=>af
@[simp]def jN(w:W)(ws:List W)(h:HH):Option (List W×HH):=aa (w::ws,h)
@[simp]def mV(J:HH->Option (List W×HH))(w:W)(h:HH):Option (List W×HH):=bnd (J h) (jN w)
@[simp]def frees(s:Sl):List (Nat×aA)->Option Sl
 |[]=>aa []
 |q::r=>match s[q.1]? with
  |some w=>(frees s r).map (w :: ·)|none=>af
def caps(s:Sl):List (Nat×aA)->Option (List Cp)
 |[]=>aa []
 |q::r=>match s[q.1]? with
  |some (aa w)=>(yS w).bind λx=>(caps s r).map (x :: ·)
  |_=>af
@[simp]theorem O7(s:Sl):caps s []=aa []:=rfl
@[simp]theorem NC(s:Sl)(q:Nat×aA)(r:List (Nat×aA)):caps s (q::r)=match s[q.1]? with
 |some (aa w)=>(yS w).bind λx=>(caps s r).map (x :: ·)
 |_=>af:=rfl
noncomputable def noC:List W->Bool
 |[]=>ah|.p _::r=>noC r|.r _::r=>noC r|.k _::_=>ak|.o _::r=>noC r|.c _ _::_=>ak|.x _::_=>ak
@[simp]theorem Rx:noC []=ah:=rfl
@[simp]theorem UR(d:D)(r:List W):noC (.p d::r)=noC r:=rfl
@[simp]theorem US(d:Nat)(r:List W):noC (.r d::r)=noC r:=rfl
@[simp]theorem UT(d:Nat)(r:List W):noC (.o d::r)=noC r:=rfl
def Dn(F:FK->List W->HH->Option (W×HH))(o:Option (Option W))(ws:List W)(h:HH):Option (W×HH):=match o with
 |some (aa (.c k cs))=>if noC ws then F k (ws++cs.map Cp.w) h else af
 |_=>af
@[simp]theorem O8(F:FK->List W->HH->Option (W×HH))(k:FK)(J:List Cp)(ws:List W)(h:HH):Dn F (aa (aa (.c k J))) ws h=if noC ws then F k (ws++J.map Cp.w) h else af:=rfl
def Do(w:W)(h:HH):Option (W×HH):=match w with
 |.c _ _=>af|.x _=>af|.k _=>af|w=>aa (w,h)
@[simp]theorem SR(d:D)(h:HH):Do (.p d) h=aa (.p d,h):=rfl
@[simp]theorem SS(n:Nat)(h:HH):Do (.r n) h=aa (.r n,h):=rfl
@[simp]theorem SV(n:Nat)(h:HH):Do (.o n) h=aa (.o n,h):=rfl
def tT(F:FK->List W->HH->Option (W×HH))(q:FK)(n:Nat)(L:Nat)(J:Option (List Cp))(ws:List W)(h:HH):Option (W×HH):=match J with
 |some J=>bnd (F q (.o n::(ws++[.c (.l L) J])) h) Do|none=>af
@[simp]theorem ND(F:FK->List W->HH->Option (W×HH))(q:FK)(n:Nat)(L:Nat)(J:List Cp)(ws:List W)(h:HH):tT F q n L (aa J) ws h=bnd (F q (.o n::(ws++[.c (.l L) J])) h) Do:=rfl
def Dp(F:FK->List W->HH->Option (W×HH))(m:aA)(J:HH->Option (List W×HH))(L:Nat)(O:Option (List Cp))(x:W)(h:HH):Option (W×HH):=match x with
 |.o n=>match oat h n with
  |some (c,fs)=>if(dR m fs).isNone then bnd (J h) (tT F (.m c m) n L O)else af
  |none=>af
 |_=>af
@[simp]theorem O9(F:FK->List W->HH->Option (W×HH))(m:aA)(J:HH->Option (List W×HH))(L:Nat)(O:Option (List Cp))(n:Nat)(h:HH):Dp F m J L O (.o n) h=match oat h n with
 |some (c,fs)=>if(dR m fs).isNone then bnd (J h) (tT F (.m c m) n L O)else af
 |none=>af:=rfl
noncomputable def SW(c cn:aA):Bool:=cn==c||cn=="TapeError"||cn=="ValueError"
noncomputable def SX(c cn:aA):Bool:=!(c=="NoText"&&cn=="NoRun")
noncomputable def strsOf:List D->Option (List aA)
 |[]=>aa []|.str x::r=>(strsOf r).map (x :: ·)|_=>af
noncomputable def boolsOf:List D->Option (List Bool)
 |[]=>aa []|.bl b::r=>(boolsOf r).map (b :: ·)|_=>af
def txD:Tx->List D->Option D
 |.join,[.str x,.aD ys]=>(strsOf ys).bind λJ=>if J.length<=4000/\x.length<=10/\∀t∈J,t.length<=4000 then aa (.str (Str.join x J))else af
 |.split,[.str x,.str y]=>if y.length=1/\x.length<=lim then aa (.aD ((Txt.split x y).map .str))else af
 |.str,[.int i]=>if big i then aa (.str (toString i))else af
 |.str,[.str x]=>aa (.str x)
 |.intS,[.str x]=>if x.length<=640 then(PySem.intText? x).map .int else af
 |.all,[.aD xs]=>(boolsOf xs).map λbs=>.bl (bs.all id)
 |.inS,[.str x,.str y]=>aa (.bl (Txt.contains y x))|.ninS,[.str x,.str y]=>aa (.bl (!Txt.contains y x))
 |.pre,[.str x,.int i]=>if 0<=i/\x.length<=lim then aa (.str ⟨x.cps.extract 0 i.toNat⟩)else if i=-1/\x.length<=lim then aa (.str ⟨x.cps.extract 0 (x.length-1)⟩)else af
 |_,_=>af
def Dq(kvs:List (aA×D))(as:List W)(h:HH):Option (W×HH):=match as with
 |[.p .aF]=>aa (.p .aF,h)|[.p (.str x)]=>aa (.p ((fS x kvs).getD .aF),h)|[.p (.str x),.p d]=>aa (.p ((fS x kvs).getD d),h)|_=>af
def xN(kvs:List (Ky×D))(as:List W)(h:HH):Option (W×HH):=match as with
 |[.p (.str x)]=>aa (.p ((gB kvs (.inr x)).getD .aF),h)|[.p (.str x),.p d]=>aa (.p ((gB kvs (.inr x)).getD d),h)|_=>af
def kTx(k:Tx)(ws:List W)(h:HH):Option (W×HH):=match k,ws with
 |.dget,.k (.t kvs)::as=>Dq kvs as h|.dget,.k (.l kvs)::as=>xN kvs as h
 |k,ws=>(rds ws h).bind λJ=>(txD k J).map λd=>(.p d,h)
def Pa(w:W)(h:HH):Option (W×HH):=match w with
 |.o n=>aa (.r h.length,h++[.b [n]])|_=>af
def K7(r:Nat)(y:W)(h:HH):Option (W×HH):=match y with
 |.o n=>(bat h r).bind λJ=>if J.length<lim then aa (.p .aF,h.set r (.b (J++[n])))else af
 |_=>af
def Pb(J:EH)(x:W)(h:HH):Option (W×HH):=match x with
 |.r r=>if(bat h r).isSome then bnd (J h) (K7 r)else af
 |_=>af
def K8(x y:W)(h:HH):Option (W×HH):=match x,y with
 |.r r,.p (.int i)=>(bat h r).bind λJ=>(atP J i).map λn=>(.o n,h)
 |_,_=>af
def Pc(x:W)(h:HH):Option (W×HH):=match x with
 |.r r=>(bat h r).bind λJ=>if J.length<=lim then aa (.p (.int J.length),h)else af
 |_=>af
@[simp]theorem SY(n:Nat)(h:HH):Pa (.o n) h=aa (.r h.length,h++[.b [n]]):=rfl
@[simp]theorem K9(r n:Nat)(h:HH):K7 r (.o n) h=(bat h r).bind λns=>if ns.length<lim then aa (.p .aF,h.set r (.b (ns++[n])))else af:=rfl
@[simp]theorem La(J:EH)(r:Nat)(h:HH):Pb J (.r r) h=if(bat h r).isSome then bnd (J h) (K7 r)else af:=rfl
@[simp]theorem GQ(r:Nat)(i:Int)(h:HH):K8 (.r r) (.p (.int i)) h=(bat h r).bind λns=>(atP ns i).map λn=>(.o n,h):=rfl
@[simp]theorem Lb(r:Nat)(h:HH):Pc (.r r) h=(bat h r).bind λns=>if ns.length<=lim then aa (.p (.int ns.length),h)else af:=rfl
section
variable(F:FK->List W->HH->Option (W×HH))(G:aA->Option W)
mutual
@[simp]noncomputable def ev:E->Sl->HH->Option (W×HH)
 |.v i,s,h=>match s[i]? with|some (aa w)=>aa (w,h)|_=>af
 |.j d,_,h=>aa (.p d,h)
 |.aG x,_,h=>(G x).map λw=>(w,h)
 |.bin o a b,s,h=>bnd (ev a s h) (k2 (ev b s) (tR o))|.neg a,s,h=>bnd (ev a s h) GK|.not a,s,h=>bnd (ev a s h) GL|.and a b,s,h=>bnd (ev a s h) (GM (ev b s))|.or a b,s,h=>bnd (ev a s h) (kOr (ev b s))|.z o a b,s,h=>bnd (ev a s h) (k2 (ev b s) (l9 o))|.chain o o' a b c,s,h=>bnd (ev a s h) (k2 (ev b s) (oCh o o' (ev c s)))|.ite c a b,s,h=>bnd (ev c s h) (GN (ev a s) (ev b s))|.aE as,s,h=>bnd (evs as s h) K2|.aD mu as,s,h=>bnd (evs as s h) (K3 mu)|.y a i,s,h=>bnd (ev a s h) (k2 (ev i s) GJ)|.n a lo hi,s,h=>bnd (ev a s h) (OY (evs lo s) (evs hi s))|.rvs a,s,h=>bnd (ev a s h) SM|.stp mu k a,s,h=>bnd (ev a s h) (K4 mu k)|.call f as,s,h=>bnd (evs as s h) (F (.f f))|.i a f,s,h=>bnd (ev a s h) (GO f)|.aH o m as,s,h=>bnd (ev o s h) (Di F m (evs as s))|.make c as,s,h=>bnd (evs as s h) (JA F c)|.bi b mu as,s,h=>bnd (evs as s h) (kBi b mu)|.lsr mu sr as,s,h=>bnd (evs as s h) (kLs mu sr)|.me m o as,s,h=>bnd (ev o s h) (kMe m (evs as s))|.comp mu sr sa tg fv cond elt,s,h=>bnd (evs sa s h) (qk mu sr tg.length (frees s fv) (evs cond) (ev elt))|.callv i as,s,h=>bnd (evs as s h) (Dn F s[i]?)|.methL o m as L fv,s,h=>bnd (ev o s h) (Dp F m (evs as s) L (caps s fv))|.obl a,s,h=>bnd (ev a s h) Pa|.oba o a,s,h=>bnd (ev o s h) (Pb (ev a s))|.obi o i,s,h=>bnd (ev o s h) (k2 (ev i s) K8)|.obn o,s,h=>bnd (ev o s h) Pc|.sup c as,s,h=>bnd (evs as s h) (F (.m c "__init__"))
@[simp]noncomputable def evs:Es->Sl->HH->Option (List W×HH)
 |.nil,_,h=>aa ([],h)|.cons a as,s,h=>bnd (ev a s h) (mV (evs as s))
end
inductive Fl
 |nx(s:Sl)(h:HH)|rt(w:W)(h:HH)|bk(s:Sl)(h:HH)|ct(s:Sl)(h:HH)
def Pd(k:Bool->HH->Option Fl)(w:W)(h:HH):Option Fl:=match w with|.p (.bl b)=>k b h|_=>af
def tst(x:Option (W×HH))(k:Bool->HH->Option Fl):Option Fl:=bnd x (Pd k)
@[simp]theorem jr(b:Bool)(h:HH)(k:Bool->HH->Option Fl):tst (aa (.p (.bl b),h)) k=k b h:=rfl
noncomputable def oH(x:Option Fl)(k:Sl->HH->Option Fl):Option Fl:=match x with
 |some (.nx s h)=>k s h|y=>y
@[simp]theorem Pe(s:Sl)(h:HH)(k:Sl->HH->Option Fl):oH (aa (.nx s h)) k=k s h:=rfl
@[simp]theorem Pf(w:W)(h:HH)(k:Sl->HH->Option Fl):oH (aa (.rt w h)) k=aa (.rt w h):=rfl
@[simp]theorem Ph(s:Sl)(h:HH)(k:Sl->HH->Option Fl):oH (aa (.bk s h)) k=aa (.bk s h):=rfl
@[simp]theorem Pi(s:Sl)(h:HH)(k:Sl->HH->Option Fl):oH (aa (.ct s h)) k=aa (.ct s h):=rfl
@[simp]theorem Lc(k:Sl->HH->Option Fl):oH af k=af:=rfl
noncomputable def ku(x:Option Fl)(k:Sl->HH->Option Fl):Option Fl:=match x with
 |some (.nx s h)=>k s h|some (.ct s h)=>k s h|some (.bk s h)=>aa (.nx s h)|y=>y
@[simp]theorem gC(s:Sl)(h:HH)(k:Sl->HH->Option Fl):ku (aa (.nx s h)) k=k s h:=rfl
@[simp]theorem Pj(s:Sl)(h:HH)(k:Sl->HH->Option Fl):ku (aa (.ct s h)) k=k s h:=rfl
@[simp]theorem Pk(s:Sl)(h:HH)(k:Sl->HH->Option Fl):ku (aa (.bk s h)) k=aa (.nx s h):=rfl
@[simp]theorem Pn(w:W)(h:HH)(k:Sl->HH->Option Fl):ku (aa (.rt w h)) k=aa (.rt w h):=rfl
@[simp]theorem Ld(k:Sl->HH->Option Fl):ku af k=af:=rfl
@[simp]noncomputable def sets:List (Nat×aA)->List D->Sl->Sl
 |(i,_)::r,d::ds,s=>sets r ds (s.set i (aa (.p d)))|_,_,s=>s
def Lf(b:Sl->HH->Option Fl)(again:Sl->HH->Option Fl)(s:Sl)(t:Bool)(h:HH):Option Fl:=if t then ku (b s h) again else aa (.nx s h)
@[simp]theorem nR(b again:Sl->HH->Option Fl)(s:Sl)(h:HH):Lf b again s ah h=ku (b s h) again:=rfl
@[simp]theorem nS(b again:Sl->HH->Option Fl)(s:Sl)(h:HH):Lf b again s ak h=aa (.nx s h):=rfl
def fz(c:Sl->HH->Option (W×HH))(b:Sl->HH->Option Fl):Nat->Sl->HH->Option Fl
 |0,_,_=>af|n+1,s,h=>tst (c s h) (Lf b (fz c b n) s)
@[simp]def fc(b:Sl->HH->Option Fl)(tg:List (Nat×aA)):List D->Sl->HH->Option Fl
 |[],s,h=>aa (.nx s h)
 |d::r,s,h=>match target tg.length d with
  |some J=>ku (b (sets tg J s) h) (fc b tg r)|none=>af
noncomputable def turns:Nat:=100000
@[simp]def Dr(s:Sl)(i:Nat)(w:W)(h:HH):Option Fl:=aa (.nx (s.set i (aa w)) h)
@[simp]def Lg(s:Sl)(xs:List (Nat×aA))(w:W)(h:HH):Option Fl:=match w with
 |.p d=>match unpack xs.length d with|some J=>aa (.nx (sets xs J s) h)|none=>af
 |_=>af
@[simp]def Po(s:Sl)(i:Nat)(o:Bin)(w:W)(h:HH):Option Fl:=match s[i]?,w with
 |some (aa (.p d)),.p d'=>(pV o d d').map λz=>.nx (s.set i (aa (.p z))) h
 |_,_=>af
@[simp]def JB(s:Sl)(n:Nat)(d:D)(q:W)(h:HH):Option Fl:=match q,lat h n with
 |.p (.int j),aa xs=>match place xs.length j with
  |some m=>aa (.nx s (h.set n (.l (xs.set m d))))|none=>af
 |_,_=>af
@[simp]def Lh(J:EH)(s:Sl)(i:Nat)(w:W)(h:HH):Option Fl:=match w,s[i]? with
 |.p d,aa (aa (.r n))=>bnd (J h) (JB s n d)|_,_=>af
def Ds(s:Sl)(n:Nat)(d:D)(q:W)(h:HH):Option Fl:=match q with
 |.p k=>(dat h n).bind λJ=>(rG k).bind λy=>if J.length<lim then aa (.nx s (h.set n (.d (Jw J y d))))else af
 |_=>af
@[simp]theorem Pp(s:Sl)(n:Nat)(d k:D)(h:HH):Ds s n d (.p k) h=(dat h n).bind λkvs=>(rG k).bind λy=>if kvs.length<lim then aa (.nx s (h.set n (.d (Jw kvs y d))))else af:=rfl
def UU(J:EH)(s:Sl)(i:Nat)(w:W)(h:HH):Option Fl:=match w,s[i]? with
 |.p d,aa (aa (.r n))=>bnd (J h) (Ds s n d)|_,_=>af
def tU(s:Sl)(f:aA)(v:W)(x:W)(h:HH):Option Fl:=match x with
 |.o n=>match oat h n with
  |some (c,fs)=>if attrOk v&&fs.length<1000 then aa (.nx s (h.set n (.o c (fy f v fs))))else af
  |none=>af
 |_=>af
@[simp]theorem Dt(s:Sl)(f:aA)(v:W)(n:Nat)(h:HH):tU s f v (.o n) h=match oat h n with
 |some (c,fs)=>if attrOk v&&fs.length<1000 then aa (.nx s (h.set n (.o c (fy f v fs))))else af
 |none=>af:=rfl
def Du(J:EH)(s:Sl)(f:aA)(v:W)(h:HH):Option Fl:=bnd (J h) (tU s f v)
@[simp]theorem Dv(J:EH)(s:Sl)(f:aA)(v:W)(h:HH):Du J s f v h=bnd (J h) (tU s f v):=rfl
def tV(s:Sl)(f:aA)(J:Bin)(n:Nat)(c:aA)(d:D)(v:W)(h:HH):Option Fl:=match v,oat h n with
 |.p e,aa (c',fs)=>match pV J d e with
  |some z=>if c'=c/\fs.length<1000 then aa (.nx s (h.set n (.o c' (fy f (.p z) fs))))else af
  |none=>af
 |_,_=>af
@[simp]theorem Dw(s:Sl)(f:aA)(J:Bin)(n:Nat)(c:aA)(d e:D)(h:HH):tV s f J n c d (.p e) h=match oat h n with
 |some (c',fs)=>match pV J d e with
  |some z=>if c'=c/\fs.length<1000 then aa (.nx s (h.set n (.o c' (fy f (.p z) fs))))else af
  |none=>af
 |none=>af:=by unfold tV;cases oat h n<;>rfl
def za(L:EH)(s:Sl)(f:aA)(J:Bin)(x:W)(h:HH):Option Fl:=match x with
 |.o n=>match oat h n with
  |some (c,fs)=>match dR f fs with
   |some (.p d)=>bnd (L h) (tV s f J n c d)|_=>af
  |none=>af
 |_=>af
@[simp]theorem GR(L:EH)(s:Sl)(f:aA)(J:Bin)(n:Nat)(h:HH):za L s f J (.o n) h=match oat h n with
 |some (c,fs)=>match dR f fs with
  |some (.p d)=>bnd (L h) (tV s f J n c d)|_=>af
 |none=>af:=rfl
@[simp]noncomputable def kEx(s:Sl)(_:W)(h:HH):Option Fl:=aa (.nx s h)
@[simp]def AX(w:W)(h:HH):Option Fl:=aa (.rt w h)
@[simp]noncomputable def kIf(L J:HH->Option Fl)(t:Bool)(h:HH):Option Fl:=if t then L h else J h
def lQ(L:Sr)(q:Nat)(h:HH):Option (List D):=(lat h q).bind λJ=>gy L [.aD J]
open Classical in
def GS(J:Sr)(q:Nat)(ds:List D)(b:Sl->HH->Option Fl)(s:Sl)(h:HH):Option Fl:=match b s h with
 |some (.nx s h)=>if lQ J q h=aa ds then aa (.nx s h)else af
 |some (.ct s h)=>if lQ J q h=aa ds then aa (.ct s h)else af
 |x=>x
def Dy(b:Sl->HH->Option Fl)(tg:List (Nat×aA))(J:Sr)(s:Sl)(ws:List W)(ds:List D)(h:HH):Option Fl:=match ws,J with
 |[.r q],.seq=>fc (GS .seq q ds b) tg ds s h|[.r q],.enu=>fc (GS .enu q ds b) tg ds s h|_,_=>af
@[simp]def kFor(b:Sl->HH->Option Fl)(tg:List (Nat×aA))(J:Sr)(s:Sl)(ws:List W)(h:HH):Option Fl:=match (rds ws h).bind (gy J)with
 |some L=>if iB ws then fc b tg L s h else Dy b tg J s ws L h
 |none=>af
@[simp]def evS:S->Sl->HH->Option Fl
 |.nil,s,h=>aa (.nx s h)|.seq a b,s,h=>oH (evS a s h) (evS b)|.set i e,s,h=>bnd (ev F G e s h) (Dr s i)|.unp xs e,s,h=>bnd (ev F G e s h) (Lg s xs)|.aug i o e,s,h=>bnd (ev F G e s h) (Po s i o)|.put i k e,s,h=>bnd (ev F G e s h) (Lh (ev F G k s) s i)|.setf o f e,s,h=>bnd (ev F G e s h) (Du (ev F G o s) s f)|.augf o f op e,s,h=>bnd (ev F G o s h) (za (ev F G e s) s f op)|.ex e,s,h=>bnd (ev F G e s h) (kEx s)|.ret e,s,h=>bnd (ev F G e s h) AX|.v c a b,s,h=>tst (ev F G c s h) (kIf (evS a s) (evS b s))|.j c b,s,h=>fz (ev F G c) (evS b) turns s h|.for tg sr sa b,s,h=>bnd (evs F G sa s h) (kFor (evS b) tg sr s)|.brk,s,h=>aa (.bk s h)|.cnt,s,h=>aa (.ct s h)|.bad,_,_=>af|.rai _ _,_,_=>af|.rai2 _ _ _,_,_=>af
open Classical in
def fin(h:HH)(w:W)(h':HH):Option (W×HH) :=
 if h'.length=h.length then aa (w,h')
 else if h'.take h.length=h then (match w with
  |.p d=>aa (.p d,h)
  |.r n=>if n<h.length then aa (.r n,h)else(lat h' n).map λJ=>(.p (.aD J),h)
  |.o n=>if n<h.length then aa (.o n,h)else aa (.o n,h')
  |.k _=>af|.c _ _=>af
  | .x _=>af)
 else aa (w,h')
@[simp]noncomputable def d8(n:Nat)(ws:List W):Sl:=ws.map aa++VG (n-ws.length) af
def i8(x:Option Fl)(k:W->HH->Option (W×HH)):Option (W×HH):=match x with
 |some (.rt w h)=>k w h|some (.nx _ h)=>k (.p .aF) h|_=>af
@[simp]theorem jO(w:W)(h:HH)(k:W->HH->Option (W×HH)):i8 (aa (.rt w h)) k=k w h:=rfl
@[simp]theorem Ry(s:Sl)(h:HH)(k:W->HH->Option (W×HH)):i8 (aa (.nx s h)) k=k (.p .aF) h:=rfl
@[simp]theorem NF(k:W->HH->Option (W×HH)):i8 af k=af:=rfl
end
section
variable(T:FK->Option Fn)(G:aA->Option W)
def runN:Nat->FK->List W->HH->Option (W×HH)
 |0,_,_,_=>af
 |k+1,f,ws,h=>match T f with
  |some fn=>if ws.length=fn.ps.length then i8 (evS (runN k) G fn.body (d8 fn.ns.length ws) h) (fin h)else af
  |none=>af
def run_eq{T:FK->Option Fn}{G:aA->Option W}{f:FK}{fn:Fn}{ws:List W}{h:HH}{k:Nat}(L:T f=aa fn)(J:ws.length=fn.ps.length):
 runN T G (k+1) f ws h=i8 (evS (runN T G k) G fn.body (d8 fn.ns.length ws) h) (fin h):=by
 rw[runN,L];exact bM J
end
def SZ:Fn:=⟨["state","thing"],["state","thing"],.ret (.call "worth_in" (cV (.v 0) (.v 1)))⟩
def S6:Fn:=⟨["state","thing","worth"],["state","thing","worth"],.ret (.z .ne (.call "worth_in" (cV (.v 0) (.v 1))) (.v 2))⟩
def S7:Fn:=⟨["state","thing","worth"],["state","thing","worth"],.ret (.z .ne (.call "worth_in" (cV (.v 0) (.v 1))) (.v 2))⟩
def S9:Fn:=⟨["state","term"],["state","term"],.ret (.call "reckoned" (cV (.v 1) (.v 0)))⟩
def Tc:Fn:=⟨["state","term"],["state","term"],.ret (.z .ne (.call "reckoned" (cV (.v 1) (.v 0))) (.j (.int 0)))⟩
def Td:Fn:=⟨["state","term"],["state","term"],.ret (.z .ne (.call "reckoned" (cV (.v 1) (.v 0))) (.j (.int 0)))⟩
noncomputable def Te:Fn:=⟨["state"],["state"],.ret (.y (.v 0) (.aG "ROW"))⟩
noncomputable def Tf:Fn:=⟨["state","row"],["state","row"],.ret (.z .eq (.y (.v 0) (.aG "ROW")) (.v 1))⟩
def Tg:Fn:=⟨["state","number"],["state","number"],.ret (.z .gt (.bi .len ak (cW (.y (.v 0) (.aG "SAID")))) (.v 1))⟩
def Ti:Fn:=⟨["state","bound"],["state","bound"],.ret (.z .le (.call "open_in" (cW (.v 0))) (.v 1))⟩
def Pq:Fn:=⟨["state","bound"],["state","bound"],.ret (.z .le (.call "open_in" (cW (.v 0))) (.v 1))⟩
noncomputable def Pr:Fn:=⟨["state","wanted"],["state","wanted"],.ret (.and (.z .eq (.y (.v 0) (.aG "NAMES")) (.y (.v 1) (.aG "NAMES"))) (.z .eq (.y (.v 0) (.aG "CELLS")) (.y (.v 1) (.aG "CELLS"))))⟩
def Pu:Fn:=⟨["state","tape","thing"],["state","tape","thing"],.ret (.z .eq (.call "written_next" (cV (.v 1) (.v 0))) (.v 2))⟩
noncomputable def Pv:Fn:=⟨[],[],.ret (.j .aF)⟩
noncomputable def Pw:Fn:=⟨[],[],.ret (.j .aF)⟩
def Li(i:Nat):Option Fn:=([SZ,S6,S7,S9,Tc,Td,Te,Tf,Tg,Ti,Pq,Pr,Pu,Pv,Pw]:List Fn)[i]?
noncomputable def jc:List aA:=["worths_of","last_change","next_change","moments_so","last_so","next_so","visits","last_visit","when_said","next_within","last_within","first_other","writer_of","judged","remade"]
def JC(i:Nat):aA:=jc.getD i ""
noncomputable def jt(x:aA):aA:="<"++x++">"
end BT
end
open BT renaming ev->aN,HH->aO,W->aP,D->aQ,runN->aS,evS->aT,d7->aU,rds->aV,meW->aW,Fn->aX,eqv->aY,evs->aZ,E->bf,Es->bg,Sl->bq,rd->bw,target->bx,lat->bz,dS->bA,FK->bB,oat->bC,ded->bD,Sr->bE,bnd->bF,Bin->bG,l9->bH,frees->bI,gB->bJ,fU->bK,sets->bL
section
namespace BS
open PySem PySem.Spec PyProof.Rows L2
variable{K:Ve}
def dG{J:Type}{c:Prop}[Decidable c]{a b:J}(h:(if c then aa a else af)=aa b):c/\a=b:=by
 by_cases z:c
 rw[bM z]at h;exact⟨z,Vp h⟩;rw[bN z]at h;exact nomatch h
def cX{J:Type}{a:J}{P:Prop}(h:(af:Option J)=aa a):P:=nomatch h
noncomputable def attrName(f:aA):Bool:=(["program","asked","gap","most","kept","farthest","front","now","origins","branches","tape","named"]:List aA).contains f
def vK:BT.Bi->Option (String×(aQ->Bool))
 |.isInt=>aa ("int",BT.isI)|.isBool=>aa ("bool",BT.isB)|.isStr=>aa ("str",BT.isS)|.isTuple=>aa ("tuple",BT.isT)|_=>af
noncomputable def vL(sc:V8)(x:aA):Bool:=match sc.names.lookup x with
 |some .local=>ah|some .cell=>ah|some .free=>ah|_=>ak
noncomputable def dU(sc:V8)(x:aA):Bool:=sc.names.lookup x==aa .globalImplicit
noncomputable def dY(x:aA):Bool:=!(x=="__debug__")&&!(x=="__classdict__")&&!(x=="__name__")
noncomputable def noStar:Vj->Bool
 |.Starred _ _=>ak|_=>ah
noncomputable def mW:Vj->Bool
 |.Slice _ _ _ _=>ak|_=>ah
noncomputable def dQ:Vj->Bool
 |.Name _ _=>ah|.Constant _ _ _=>ah|.Subscript _ _ _=>ah|.Attribute _ _ _=>ah|.Call (.Attribute _ _ _) _ _ _=>ah|.Dict _ _ _=>ah|_=>ak
noncomputable def Px:bG->Zs
 |.add=>.Add|.sub=>.Sub|.mul=>.Mult|.mod=>.Mod|.fdiv=>.FloorDiv
def JD(o:bG)(J:Zs):Bool:=decide (J=Px o)
noncomputable def Tj:BT.Cm->CmpOp
 |.eq=>.Eq|.ne=>.NotEq|.lt=>.Lt|.le=>.LtE|.gt=>.Gt|.ge=>.GtE|.isN=>.Is|.notN=>.IsNot|.mem=>.In|.nmem=>.NotIn
def GT(o:BT.Cm)(J:CmpOp):Bool:=decide (J=Tj o)
noncomputable def JE:aQ->Const->Bool
 |.aF,.none=>ah|.bl a,.bool b=>a==b|.int i,.int j=>i==j|.str x,.str y=>x==y&&PyData.strOk x|_,_=>ak
noncomputable def Dz:BT.Bi->Bool->Option aA
 |.len,ak=>aa "len"|.int,ak=>aa "int"|.list,_=>aa "list"|.tuple,ak=>aa "tuple"|.sorted,_=>aa "sorted"|.max1,ak=>aa "max"|.min1,ak=>aa "min"|_,_=>af
def JF(b:BT.Bi)(mu:Bool)(x:aA):Bool:=Dz b mu==aa x
noncomputable def DA:BT.Bi->aA->Bool
 |.min2,x=>x=="min"|.max2,x=>x=="max"|_,_=>ak
noncomputable def GU:Vj->Option Const
 |.Constant c _ _=>aa c|_=>af
noncomputable def cInt:Const->Option Int
 |.int j=>aa j|_=>af
noncomputable def unE:Vj->Option Vj
 |.UnaryOp o e _=>if o=.USub then aa e else af
 |_=>af
def tW(k:Int)(e:Vj):Bool:=((GU e).bind cInt==aa k&&decide (0<k))||(((unE e).bind GU).bind cInt==aa (-k)&&decide (k<0))
noncomputable def DB:BT.Me->aA
 |.append=>"append"|.pop=>"pop"|.extend=>"extend"|.tindex=>"index"|.sindex=>"index"|.dget=>"get"|.count=>"count"|.lindex=>"index"
noncomputable def xO:bf->Bool
 |.aG _=>ah|_=>ak
def GV(m:BT.Me)(o:bf):Bool:=match m with
 |.append=>ah|.pop=>ah|.extend=>ah|.sindex=>ah|.tindex=>xO o|.dget=>ak|.count=>ah|.lindex=>ak
noncomputable def JG(c:aA):Bool:=(["NoMoment","NoThing","NoRun","NoText"]:List aA).contains c
def UV(cn:aA):Bool:=JG cn||cn=="ValueError"
noncomputable def fT(N:List aA):Bool:=!N.contains "_law_flags"
noncomputable def tOK:bf->Bool
 |.ite _ _ _=>ak|.not a=>tOK a|.and a b=>tOK a&&tOK b|.or a b=>tOK a&&tOK b|.aE _=>ak|.aD _ _=>ak|.obl _=>ak|.comp _ _ _ _ _ _ _=>ak|_=>ah
noncomputable def ju:Vj->Bool
 |.Set _ _ _=>ak|_=>ah
noncomputable def qm:bE->Vj->Bool
 |.zip2,.Tuple _ _ _=>ah|.enu,.Tuple _ _ _=>ah|.itm,.Tuple _ _ _=>ah|.zipG,.Tuple _ _ _=>ah|.zip2,_=>ak|.enu,_=>ak|.itm,_=>ak|.zipG,_=>ak|_,_=>ah
noncomputable def d9(scope sc:V8):V8 :=
 {scope with names:=scope.names.map λ(n,k)=>if(k==.free&&sc.kind==.function&&sc.names.lookup n==aa .cell)then(n,.cell)else(n,k)}
noncomputable def nmE:Vj->Option aA
 |.Name y _=>aa y|_=>af
noncomputable def Lj:Vj->List Vj
 |.Tuple J _ _=>J|_=>[]
def qo(sc:V8)(tg:List aA)(te:Vj):Bool:=((tg.map aa==[nmE te])||(Nat.ble 2 tg.length&&tg.map aa==(Lj te).map nmE))&&tg.all λx=>sc.names.lookup x==aa .local
noncomputable def qp:List aA->Bool
 |[]=>ah|x::r=>!r.contains x&&qp r
def jP(sc:V8)(N:List aA)(tg:List aA)(J:List (Nat×aA))(scope:V8):Bool :=
 scope.kind==.function&&sc.kind==.function&&scope.names.all (λy=>!(y.2==.cell))&&scope.names.all (λy=>!(y.2==.local)||scope.names.lookup y.1==aa .local) &&
 scope.names.all (λy=>!(y.2==.free)||sc.names.lookup y.1==aa .cell) &&
 J.all (λq=>N[q.1]?==aa q.2&&scope.names.contains (q.2,.free)&&sc.names.lookup q.2==aa .cell&&(d9 scope sc).names.lookup q.2==aa .cell)&&qp (tg++J.map (·.2))
noncomputable def dlQ:aQ->PyData
 |.str x=>.str x|.int i=>.int i|_=>.none
noncomputable def Py:aQ->Bool
 |.str x=>PyData.strOk x|.int _=>ah|_=>ak
def dlD(kvs:List (aA×aQ)):List (PyData×PyData):=kvs.map λp=>(.str p.1,dlQ p.2)
def dlV:List (aA×aQ)->Bool
 |[]=>ah|p::r=>PyData.strOk p.1&&Py p.2&&dlV r
def dlB(kvs:List (aA×aQ))(J:List (Option Vj))(L:List Vj):Bool:=dlV kvs&&(J.all λx=>x.isSome)&&decide (J.length=L.length)&&!J.isEmpty&&decide (J.length<=15)&&decide (kvs.length<=15)
inductive Tq
 |e(a:bf)(x:Vj)|es(as:bg)(xs:List Vj)|o(as:bg)(x:Option Vj)|c(as:bg)(xs:List Vj)|i(J:bE)(L:bg)(x:Vj)
set_option autoImplicit true in
class inductive CQ:V8->List aA->Tq->Prop where
 |v(h1:N[i]?=aa x)(h2:vL sc x=ah)(J:dY x=ah):CQ sc N (.e (.v i) (.Name x p))
 |j(h:JE d c=ah):CQ sc N (.e (.j d) (.Constant c k p))
 |aG(h2:dU sc x=ah)(J:dY x=ah):CQ sc N (.e (.aG x) (.Name x p))
 |bin(h:JD o op=ah)(L:CQ sc N (.e a l))(J:CQ sc N (.e b r)):CQ sc N (.e (.bin o a b) (.BinOp l op r p))
 |neg(J:CQ sc N (.e a x)):CQ sc N (.e (.neg a) (.UnaryOp .USub x p))
 |not(J:CQ sc N (.e a x)):CQ sc N (.e (.not a) (.UnaryOp .Not x p))
 |and2(L:CQ sc N (.e a x))(J:CQ sc N (.e b y)):CQ sc N (.e (.and a b) (.BoolOp .And [x,y] p))
 |and3(L:CQ sc N (.e a x))(J:CQ sc N (.e b (.BoolOp .And (y::z::r) p))):CQ sc N (.e (.and a b) (.BoolOp .And (x::y::z::r) p))
 |or2(L:CQ sc N (.e a x))(J:CQ sc N (.e b y)):CQ sc N (.e (.or a b) (.BoolOp .Or [x,y] p))
 |or3(L:CQ sc N (.e a x))(J:CQ sc N (.e b (.BoolOp .Or (y::z::r) p))):CQ sc N (.e (.or a b) (.BoolOp .Or (x::y::z::r) p))
 |z(h:GT o op=ah)(O:CQ sc N (.e a l))(J:CQ sc N (.e b r))(L:abF op r=ak):CQ sc N (.e (.z o a b) (.Compare l [op] [r] p))
 |chain(h:GT o op=ah)(h':GT o' op'=ah)(O:CQ sc N (.e a l))(J:CQ sc N (.e b r))(hc:CQ sc N (.e c r'))(L:lastMarks [op,op'] [r,r']=ak):CQ sc N (.e (.chain o o' a b c) (.Compare l [op,op'] [r,r'] p))
 |ite(h:tOK c=ah)(hc:CQ sc N (.e c t))(L:CQ sc N (.e a x))(J:CQ sc N (.e b y)):CQ sc N (.e (.ite c a b) (.IfExp t x y p))
 |aE(h:CQ sc N (.es as es)):CQ sc N (.e (.aE as) (.Tuple es k p))
 |aD(h:CQ sc N (.es as es)):CQ sc N (.e (.aD mu as) (.List es p))
 |y(L:CQ sc N (.e a x))(hi:CQ sc N (.e i sl))(J:mW sl=ah):CQ sc N (.e (.y a i) (.Subscript x sl p))
 |n{lo:bg}(O:CQ sc N (.e a x))(J:CQ sc N (.o lo l))(L:CQ sc N (.o hi u)):CQ sc N (.e (.n a lo hi) (.Subscript x (.Slice l u af p2) p))
 |call(L:dU sc f=ah)(hn:dY f=ah)(J:CQ sc N (.es as es)):CQ sc N (.e (.call f as) (.Call (.Name f np) es [] p))
 |sset(L:fT N=ah)(U:dU sc "sorted"=ah)(J:dU sc "set"=ah)(O:noStar e=ah)(h:CQ sc N (.e a e)):
  CQ sc N (.e (.bi .sset ak (.cons a .nil)) (.Call (.Name "sorted" np) [.Call (.Name "set" zp) [e] [] pos] [] p))
 |bi(V:fT N=ah)(J:JF b mu x=ah)(O:dU sc x=ah)(L:noStar e=ah)(U:CQ sc N (.e a e)):CQ sc N (.e (.bi b mu (.cons a .nil)) (.Call (.Name x np) [e] [] p))
 |inst(L:vK b=aa (c,f))(U:dU sc "isinstance"=ah)(J:dU sc (Vu c)=ah)(O:noStar e=ah)(V:CQ sc N (.e a e)):
  CQ sc N (.e (.bi b ak (.cons a .nil)) (.Call (.Name "isinstance" np) [e,.Name (Vu c) p2] [] p))
 |me(h1:GV m o=ah)(h2:name=DB m)(V:dQ oe=ah)(U:(apos.endLine==cpos.line)=ah)(J:es.length<20)(O:CQ sc N (.e o oe))(L:CQ sc N (.es as es)):
  CQ sc N (.e (.me m o as) (.Call (.Attribute oe name apos) es [] cpos))
 |comp{cond:bg}
  (U:fT N=ah) (L:jP sc N tg fv scope=ah) (O:qo (d9 scope sc) tg te=ah) (hz:qm sr te=ah) (J:ju iter=ah) (hi:CQ sc N (.i sr sa iter))
  (hc:CQ (d9 scope sc) (tg++fv.map (·.2)) (.c cond ifs)) (V:CQ (d9 scope sc) (tg++fv.map (·.2)) (.e elt elt')):CQ sc N (.e (.comp mu sr sa tg fv cond elt) (.ListComp elt' [⟨te,iter,ifs,0⟩] scope pos))
 |i(J:dQ x=ah)(O:attrName f=ah)(L:CQ sc N (.e a x)):CQ sc N (.e (.i a f) (.Attribute x f p))
 |aH(V:dQ oe=ah)(U:(apos.endLine==cpos.line)=ah)(J:es.length<20)(O:CQ sc N (.e o oe))(L:CQ sc N (.es as es)):
  CQ sc N (.e (.aH o m as) (.Call (.Attribute oe m apos) es [] cpos))
 |stp(L:tW k se=ah)(J:CQ sc N (.e a x)):CQ sc N (.e (.stp mu k a) (.Subscript x (.Slice af af (aa se) p2) p))
 |bi2(V:fT N=ah)(O:DA b x=ah)(U:dU sc x=ah)(J:noStar e1=ah)(L:noStar e2=ah)(h1:CQ sc N (.e a1 e1))(h2:CQ sc N (.e a2 e2)):
  CQ sc N (.e (.bi b ak (.cons a1 (.cons a2 .nil))) (.Call (.Name x np) [e1,e2] [] p))
 |make(L:dU sc c=ah)(hn:dY c=ah)(J:CQ sc N (.es as es)):CQ sc N (.e (.make c as) (.Call (.Name c np) es [] p))
 |obl(J:noStar e=ah)(h:CQ sc N (.e a e)):CQ sc N (.e (.obl a) (.List [e] p))
 |oba(V:dQ oe=ah)(U:(apos.endLine==cpos.line)=ah)(J:noStar e=ah)(O:CQ sc N (.e o oe))(L:CQ sc N (.e a e)):CQ sc N (.e (.oba o a) (.Call (.Attribute oe "append" apos) [e] [] cpos))
 |obi(L:CQ sc N (.e a x))(hi:CQ sc N (.e i sl))(J:mW sl=ah):CQ sc N (.e (.obi a i) (.Subscript x sl p))
 |obn(L:dU sc "len"=ah)(J:noStar e=ah)(h:CQ sc N (.e a e)):CQ sc N (.e (.obn a) (.Call (.Name "len" np) [e] [] p))
 |sup(U:dU sc c=ah)(hn:dY c=ah)(O:(apos.endLine==cpos.line)=ah)(J:(e::es).length<20)(L:CQ sc N (.es as (e::es))):CQ sc N (.e (.sup c as) (.Call (.Attribute (.Name c np) "__init__" apos) (e::es) [] cpos))
 |es_nil:CQ sc N (.es .nil [])
 |es_cons(L:noStar e=ah)(O:CQ sc N (.e a e))(J:CQ sc N (.es as es)):CQ sc N (.es (.cons a as) (e::es))
 |o_nil:CQ sc N (.o .nil af)
 |o_one(J:CQ sc N (.e a e)):CQ sc N (.o (.cons a .nil) (aa e))
 |c_nil:CQ sc N (.c .nil [])
 |c_one(J:tOK a=ah)(L:CQ sc N (.e a e)):CQ sc N (.c (.cons a .nil) [e])
 |rng1(L:dU sc "range"=ah)(J:noStar e=ah)(h:CQ sc N (.e a e)):CQ sc N (.i .rng1 (.cons a .nil) (.Call (.Name "range" p) [e] [] pos))
 |rng2(U:dU sc "range"=ah)(O:noStar x=ah)(J:noStar y=ah)(V:CQ sc N (.e a x))(L:CQ sc N (.e b y)):CQ sc N (.i .rng2 (.cons a (.cons b .nil)) (.Call (.Name "range" p) [x,y] [] pos))
 |rev(L:dU sc "reversed"=ah)(J:noStar e=ah)(h:CQ sc N (.e a e)):CQ sc N (.i .rev (.cons a .nil) (.Call (.Name "reversed" p) [e] [] pos))
 |seq(h:CQ sc N (.e a x)):CQ sc N (.i .seq (.cons a .nil) x)
noncomputable abbrev CE'(sc:V8)(N:List aA)(a:bf)(x:Vj):Prop:=CQ sc N (.e a x)
noncomputable abbrev CEs(sc:V8)(N:List aA)(as:bg)(xs:List Vj):Prop:=CQ sc N (.es as xs)
noncomputable abbrev CC(sc:V8)(N:List aA)(as:bg)(xs:List Vj):Prop:=CQ sc N (.c as xs)
noncomputable abbrev CI(sc:V8)(N:List aA)(J:bE)(L:bg)(x:Vj):Prop:=CQ sc N (.i J L x)
inductive LPa:aa4->List aA->Prop
 |one{p:Pos}:LPa ⟨[],[⟨"state",af,p⟩],af,[],[],af,[]⟩ ["state"]
 |two{p q:Pos}:LPa ⟨[],[⟨"row",af,p⟩,⟨"state",af,q⟩],af,[],[],af,[]⟩ ["row","state"]
def DC(ps fs:List aA)(sc:V8):Bool :=
 sc.kind==.function&&!sc.isCoroutine&&!sc.isGenerator&&sc.names.all (λy=>!(y.2==.cell))&&ps.all (λx=>sc.names.lookup x==aa .local) &&
 fs.all (λx=>sc.names.lookup x==aa .free&&sc.names.contains (x,.free))&&sc.names.all (λy=>!(y.2==.free)||fs.contains y.1)&&qp (ps++fs)
noncomputable def Pz(sc:V8)(N:List aA)(J:List (Nat×aA)):Bool:=J.all λq=>N[q.1]?==aa q.2&&sc.names.lookup q.2==aa .cell
inductive CL(sc:V8)(N:List aA):bf->aA->bg->Nat->List (Nat×aA)->Vj->Prop
 |zero{o bt:bf}{m:aA}{L:Nat}{J:List (Nat×aA)}{O U:Vj}{apos cpos W:Pos}{V:aa4}{scope:V8}{ns ps:List aA}(Y:BT.Li L=aa ⟨ns,ns,.ret bt⟩)(hp:LPa V ps)(hn:ns=ps++J.map (·.2))(hk:DC ps (J.map (·.2)) scope=ah)(Z:Pz sc N J=ah)
  (ht:N.contains (BT.jt (BT.JC L))=ah) (hc:CE' scope ns bt U) (h3:dQ O=ah) (h6:(apos.endLine==cpos.line)=ah) (ho:CE' sc N o O):CL sc N o m .nil L J (.Call (.Attribute O m apos) [.Lambda V U scope W] [] cpos)
 |one{o bt a:bf}{m:aA}{L:Nat}{J:List (Nat×aA)}{O U e:Vj}{apos cpos W:Pos}{V:aa4}{scope:V8}{ns ps:List aA}(Z:BT.Li L=aa ⟨ns,ns,.ret bt⟩)(hp:LPa V ps)(hn:ns=ps++J.map (·.2))(hk:DC ps (J.map (·.2)) scope=ah)(hv:Pz sc N J=ah)
  (ht:N.contains (BT.jt (BT.JC L))=ah) (hc:CE' scope ns bt U) (h3:dQ O=ah) (h6:(apos.endLine==cpos.line)=ah) (ho:CE' sc N o O) (Y:noStar e=ah) (ha:CE' sc N a e):CL sc N o m (.cons a .nil) L J (.Call (.Attribute O m apos) [e,.Lambda V U scope W] [] cpos)
def KT(K:Ve)(a:aB)(xs:List V):Prop :=
 ∃(o:au) (J:Array aC) (n:Nat),(K.lookup a=aa o/\o.cls=.type "tuple"/\o.data=.seq J n/\J.size<=ao/\dD xs J.toList)/\o.dict=af
def KL(K:Ve)(a:aB)(xs:List V):Prop:=∃(J:List aC) (n:Nat),K.lookup a=aa {cls:=.type "list",data:=.seq J.toArray n}/\J.length<=ao/\dD xs J
def LL(K:Ve)(H:Hp)(a:aB)(xs:List V):Prop:=Rd H a (.aD xs)\/KL K a xs
def LL.sq(h:LL K H a xs):SqL K H a xs:=by
 rcases h with h|⟨its,n,h1,h2,h3⟩
 exact .inl h;exact .inr ⟨_,its.toArray,n,h1,rfl,rfl,rfl,by simpa using h2,by simpa using h3⟩
def KD(P:Vy)(w:VQ)(K:Ve)(a:aB)(es:List (aA×V)):Prop :=
 (a==X3)=ak/\∃J:List (Key×aC),KV (es.map λq=>(Sum.inr q.1,q.2)) J/\∀h:av,K.In h->h.DictOf (dO P w) a J
mutual
inductive RD(K:Ve)(m:List aB)(H:Hp):V->aQ->Prop
 |aF:RD K m H .aF .aF
 |bl(b:Bool):RD K m H (.bl b) (.bl b)
 |int(i:Int):RD K m H (.int i) (.int i)
 |str(x:aA)(h:PyData.strOk x=ah):RD K m H (.str x) (.str x)
 |aE{a:aB}{vs:List V}{ds:List aQ}(h:(Rd H a (.aE vs)/\a∉m)\/KT K a vs)(r:RDs K m H vs ds):RD K m H (.ref a) (.aE ds)
 |aD{a:aB}{vs:List V}{ds:List aQ}(h:(Rd H a (.aD vs)/\a∉m)\/KL K a vs)(r:RDs K m H vs ds):RD K m H (.ref a) (.aD ds)
inductive RDs(K:Ve)(m:List aB)(H:Hp):List V->List aQ->Prop
 |nil:RDs K m H [] []
 |cons{v:V}{d:aQ}{vs:List V}{ds:List aQ}(r:RD K m H v d)(t:RDs K m H vs ds):RDs K m H (v::vs) (d::ds)
end
inductive RDk(K:Ve):List (aA×V)->List (aA×aQ)->Prop
 |nil:RDk K [] []
 |cons{x:aA}{v:V}{d:aQ}{es:List (aA×V)}{kvs:List (aA×aQ)}(r:∀m H,RD K m H v d)(t:RDk K es kvs):RDk K ((x,v)::es) ((x,d)::kvs)
inductive RA(K:Ve)(m:List aB)(H:Hp):V->aP->Prop
 |p{v:V}{d:aQ}(r:RD K m H v d):RA K m H v (.p d)
 |r{a:aB}{n:Nat}(h:m[n]?=aa a):RA K m H (.ref a) (.r n)
 |o{a:aB}{n:Nat}(h:m[n]?=aa a):RA K m H (.ref a) (.o n)
def Tr(m:List aB)(H:Hp)(a:aB)(o:au):Prop:=H a=aa (.frz o (.own 0))/\a∉m
noncomputable def Tn(x:aA):aA:=x++".<locals>."++"<lambda>"
inductive xP(m:List aB)(H:Hp)(cl:List (aA×aB)):List aA->List V->Prop
 |nil:xP m H cl [] []
 |cons{x:aA}{c:aB}{o:au}{u:aC}{v:V}{xs:List aA}{vs:List V}(h1:cl.lookup x=aa c)(h2:Tr m H c o)(J:o.data=.cell (aa u))(r:RelV v u)(t:xP m H cl xs vs):xP m H cl (x::xs) (v::vs)
inductive qq(m:List aB)(H:Hp)(f:aB)(L:Nat)(vs:List V):Prop
 |mk(bt:_)(ps:_)(fs:_)(Y:_)(O:_)(sc:_)(cl:_)(pm:_)(J:_)(c':_)(U:_)(os:_)(t:_)(q:_)(h1:BT.Li L=aa ⟨ps++fs,ps++fs,.ret bt⟩)(h2:LPa Y ps)(h3:DC ps fs sc=ah)(h4:CE' sc (ps++fs) bt O)(h5:(∀x y c,cl.lookup x=aa c->cl.lookup y=aa c->x=y))(h6:(∀x c,cl.lookup x=aa c->x∈fs))(h7:Tr m H f (PySem.W.kla_obj "<lambda>" q Y O sc cl pm c' J))(h8:Tr m H c' U)(h9:U.data=.fields os)(h10:os[1]?=aa (.str q t))(Z:xP m H cl fs vs):qq m H f L vs
inductive RCs(K:Ve)(m:List aB)(H:Hp):List V->List BT.Cp->Prop
 |nil:RCs K m H [] []
 |cons{v:V}{x:BT.Cp}{vs:List V}{xs:List BT.Cp}(r:RA K m H v x.w)(t:RCs K m H vs xs):RCs K m H (v::vs) (x::xs)
def TB(K:Ve)(H:Hp):Prop:=∀x∈BT.jc,∀c P,WG K x=aa (c,P)->∃J,H P=aa (.tbl J)/\TriplesOk J.toList ∧
 ∀L v,codeAmong L J.toList=aa v->∃U O os t,v=.ref U/\H U=aa (.frz O (.own 0))/\O.data=.fields os/\os[1]?=aa (.str (Tn x) t)
def TB.mono(h:TB K H)(h1:∀P ps,H P=aa (.tbl ps)->H' P=aa (.tbl ps))(h2:∀a o vs,o.data=.fields vs->H a=aa (.frz o (.own 0))->H' a=aa (.frz o (.own 0))):TB K H':=λx W c P e=>by obtain⟨ps,e1,e2,Y⟩:=h x W c P e;refine⟨ps,h1 _ _ e1,e2,λJ v q=>?_⟩;obtain⟨Z,V,os,t,U,O,L⟩:=Y J v q;exact⟨Z,V,os,t,U,h2 _ _ _ L.1 O,L⟩
def CN(K:Ve)(c:aA)(C:aB):Prop:=V4 K VB c=aa (aa (.ref C))
structure XT(K:Ve)(c:aA)(C:aB):Prop where
 ga:VO K (.ref C) "__getattribute__"=aa (aa (.builtin "BaseException.__getattribute__"))
 nga:VO K (.ref C) "__getattr__"=aa af
 mrb:Zd K C (.type "BaseException")=aa ah
 dct:W4 K C=ah
 fnd:VO K (.ref C) "__class__"=aa (aa (.builtin "object.__class__"))
 spc:W3 K (.builtin "object.__class__") "__get__"=aa (aa (.builtin "getset_descriptor.__get__"))
 tak:YI K (.builtin "object.__class__")=aa ah
 mro:Zd K C (.type "object")=aa ah
 own:∀cn,JG cn=ah->BT.SX c cn=ah->∃D,CN K cn D/\WJ K (.ref C) (.ref D)=aa (BT.SW c cn)
 val:WJ K (.ref C) (.type "ValueError")=aa ah
def excAt(K:Ve)(c:aA)(a:aB):av->Prop:=λh=>∃o C,CN K c C/\XT K c C/\h.get? a=aa o/\o.cls=.ref C
inductive RKs(K:Ve)(m:List aB)(H:Hp):List (Key×V)->List (BT.Ky×aQ)->Prop
 |nil:RKs K m H [] []
 |cons{k:Key}{v:V}{d:aQ}{vs:List (Key×V)}{kvs:List (BT.Ky×aQ)}(J:RD K m H (kV k) (BT.KQ k))(r:RD K m H v d)(t:RKs K m H vs kvs):RKs K m H ((k,v)::vs) ((k,d)::kvs)
inductive RW(P:Vy)(w:VQ)(K:Ve)(m:List aB)(H:Hp):V->aP->Prop
 |p{v:V}{d:aQ}(r:RD K m H v d):RW P w K m H v (.p d)
 |r{a:aB}{n:Nat}(h:m[n]?=aa a):RW P w K m H (.ref a) (.r n)
 |k{a:aB}{es:List (aA×V)}{kvs:List (aA×aQ)}(h:KD P w K a es)(r:RDk K es kvs):RW P w K m H (.ref a) (.k (.t kvs))
 |kl{a:aB}{o:au}{vs:List (Key×V)}{kvs:List (BT.Ky×aQ)}(h:H a=aa (.frz o (.dK vs))/\a∉m)(r:RKs K m H vs kvs):RW P w K m H (.ref a) (.k (.l kvs))
 |o{a:aB}{n:Nat}(h:m[n]?=aa a):RW P w K m H (.ref a) (.o n)
 |c{f:aB}{L:Nat}{vs:List V}{J:List BT.Cp}(h:qq m H f L vs)(r:RCs K m H vs J):RW P w K m H (.ref f) (.c (.l L) J)
 |x{a:aB}{c:aA}(h:H a=aa (.ext (excAt K c a)))(n:a∉m)(J:∃C,XT K c C):RW P w K m H (.ref a) (.x c)
 |g{f:aB}{x:aA}(h:V4 K VB x=aa (aa (.ref f)))(r:We K (.ref f)=ah):RW P w K m H (.ref f) (.c (.f x) [])
inductive RFs(K:Ve)(m:List aB)(H:Hp):List (aA×V)->List (aA×aP)->Prop
 |nil:RFs K m H [] []
 |cons{f:aA}{v:V}{x:aP}{vs:List (aA×V)}{fs:List (aA×aP)}(r:RA K m H v x)(t:RFs K m H vs fs):RFs K m H ((f,v)::vs) ((f,x)::fs)
def CN.inj(h:CN K c C)(h':CN K c C'):C=C':=by have e:=h.symm.trans h';simpa using e
structure lR(K:Ve)(c:aA)(C:aB):Prop where
 cn:CN K c C
 cls:Cls K C
 no:∀f,attrName f=ah->kG K C f
 rd:ZN K C (.type "type")=ah
inductive RBs(m:List aB):List V->List Nat->Prop
 |nil:RBs m [] []
 |cons{n:Nat}{a:aB}{vs:List V}{ns:List Nat}(h:m[n]?=aa a)(t:RBs m vs ns):RBs m (.ref a::vs) (n::ns)
def kL(K:Ve)(m:List aB)(H:Hp)(a:aB):BT.Cl->Prop
 |.l O=>∃J,H a=aa (.aD J)/\RDs K m H J O|.o c fs=>∃C V J,H a=aa (.ins C V J)/\lR K c C/\RFs K m H J fs|.d L=>∃J,H a=aa (.dK J)/\RKs K m H J L|.z=>∃ob J,H a=aa (.frz ob (.dK J))|.b U=>∃J,H a=aa (.aD J)/\RBs m J U
inductive RWs(P:Vy)(w:VQ)(K:Ve)(m:List aB)(H:Hp):List V->List aP->Prop
 |nil:RWs P w K m H [] []
 |cons{v:V}{x:aP}{vs:List V}{xs:List aP}(r:RW P w K m H v x)(t:RWs P w K m H vs xs):RWs P w K m H (v::vs) (x::xs)
structure RH(K:Ve)(m:List aB)(H:Hp)(h:aO):Prop where
 nd:m.Nodup
 len:m.length=h.length
 cl:∀(i:Nat)(a:aB)(c:BT.Cl),m[i]?=aa a->h[i]?=aa c->kL K m H a c
 tb:TB K H
def DE(e:bz h n=aa xs):h[n]?=aa (.l xs):=by
 unfold bz at e;cases g:h[n]? with
 |none=>rw[g]at e;exact cX e|some c=>rw[g]at e;cases c<;>simp[BT.pU]at e;rw[e]
def DF(e:bC h n=aa (c,fs)):h[n]?=aa (.o c fs):=by
 unfold bC at e;cases g:h[n]? with
 |none=>rw[g]at e;exact cX e|some c=>rw[g]at e;cases c<;>simp[BT.rF]at e;rw[e.1,e.2]
def DG{h:aO}{n:Nat}{ns:List Nat}(e:BT.bat h n=aa ns):h[n]?=aa (.b ns):=by
 unfold BT.bat at e;cases g:h[n]? with
 |none=>rw[g]at e;exact cX e|some c=>rw[g]at e;cases c<;>simp[BT.oF]at e;rw[e]
def RH.zb{m:List aB}{H:Hp}{h:aO}(R:RH K m H h)(i:Nat)(a:aB)(ns:List Nat)(e:m[i]?=aa a)(g:BT.bat h i=aa ns):∃vs,H a=aa (.aD vs)/\RBs m vs ns:=R.cl i a _ e (DG g)
def RH.cell(R:RH K m H h)(i:Nat)(a:aB)(xs:List aQ)(e:m[i]?=aa a)(g:bz h i=aa xs):∃vs,H a=aa (.aD vs)/\RDs K m H vs xs:=R.cl i a _ e (DE g)
inductive OC(K:Ve)(m:List aB)(H:Hp)(a:aB)(c:aA)(fs:List (aA×aP)):Prop
 |mk(C:aB)(dx:_)(vs:_)(h1:H a=aa (.ins C dx vs))(h2:lR K c C)(J:RFs K m H vs fs):OC K m H a c fs
def RH.sj(R:RH K m H h)(i:Nat)(a:aB)(c:aA)(fs:List (aA×aP))(e:m[i]?=aa a)(g:bC h i=aa (c,fs)):OC K m H a c fs:=by obtain⟨C,V,J,U,O,L⟩:=R.cl i a _ e (DF g);exact⟨C,V,J,U,O,L⟩
structure RS(P:Vy)(w:VQ)(K:Ve)(m:List aB)(H:Hp)(σ:L2.St)(s:bq):Prop where
 len:σ.length=s.length
 get:∀(i:Nat)(x:aP),s[i]?=aa (aa x)->∃v,σ[i]?=aa (aa v)/\RW P w K m H v x
noncomputable def JH:HO->Bool
 |.tbl _=>ah|_=>ak
structure Ext(m:List aB)(H:Hp)(m':List aB)(H':Hp):Prop where
 pre:∃e,m'=m++e/\∀a∈e,H a=af
 keep:∀a o,H a=aa o->a∉m->JH o=ak->H' a=aa o
 live:∀a,H' a=af->H a=af
 frz:∀a ob vs,H a=aa (.frz ob (.dK vs))->H' a=aa (.frz ob (.dK vs))
def Ext.refl(m:List aB)(H:Hp):Ext m H m H:=⟨⟨[],by simp,by simp⟩,λ_ _ h _ _=>h,λ_ h=>h,λ_ _ _ h=>h⟩
def Ext.lT(x:Ext m H m' H')(h:H a=aa o)(n:a∉m):a∉m':=by
 obtain⟨e,rfl,J⟩:=x.pre;intro q;rcases List.mem_append.mp q with q|q
 exact n q;rw[J a q]at h;exact cX h
def Ext.trans(x:Ext m H m1 H1)(y:Ext m1 H1 m2 H2):Ext m H m2 H2:=by
 obtain⟨e,rfl,O⟩:=x.pre;obtain⟨V,rfl,J⟩:=y.pre;refine⟨⟨e++V,by rw[Wd],λa U=>?_⟩,λa o h n t=>y.keep a o (x.keep a o h n t) (x.lT h n) t,λa h=>x.live a (y.live a h),λa ob L h=>y.frz a ob L (x.frz a ob L h)⟩;rcases List.mem_append.mp U with q|q
 exact O a q;exact x.live a (J a q)
def Rd.ext(x:Ext m H m' H')(h:Rd H a u)(n:a∉m)(t:JH u=ak:=by rfl):Rd H' a u/\a∉m':=by
 rcases h with h|⟨o,h⟩
 exact⟨.inl (x.keep _ _ h n t),x.lT h n⟩;exact⟨.inr ⟨o,x.keep _ _ h n rfl⟩,x.lT h n⟩
def Tr.ext(x:Ext m H m' H')(h:Tr m H a o):Tr m' H' a o:=⟨x.keep _ _ h.1 h.2 rfl,x.lT h.1 h.2⟩
def xP.ext(x:Ext m H m' H')(r:xP m H cl xs vs):xP m' H' cl xs vs:=by
 induction r with
 |nil=>exact .nil|cons U O L r t J=>exact .cons U (O.ext x) L r J
def qq.ext(x:Ext m H m' H')(h:qq m H f L vs):qq m' H' f L vs:=by obtain⟨o,V,fs,Y,p,U,cl,W,O,n,Z,os,t,q,l,k,j,i,g,e,d,c,b,a,J⟩:=h;exact⟨o,V,fs,Y,p,U,cl,W,O,n,Z,os,t,q,l,k,j,i,g,e,d.ext x,c.ext x,b,a,J.ext x⟩
section
variable{K:Ve}
mutual
theorem RD.ext(x:Ext m H m' H'):∀{v:V}{d:aQ},RD K m H v d->RD K m' H' v d
 |_,_,.aF=>.aF|_,_,.bl b=>.bl b|_,_,.int i=>.int i|_,_,.str y h=>.str y h|_,_,.aE h r=>.aE (h.elim (λq=>.inl (Rd.ext x q.1 q.2)) .inr) (RDs.ext x r)|_,_,.aD h r=>.aD (h.elim (λq=>.inl (Rd.ext x q.1 q.2)) .inr) (RDs.ext x r)
theorem RDs.ext(x:Ext m H m' H'):∀{vs:List V}{ds:List aQ},RDs K m H vs ds->RDs K m' H' vs ds
 |_,_,.nil=>.nil|_,_,.cons r t=>.cons (RD.ext x r) (RDs.ext x t)
end
def RA.rw(r:RA K m H v d):RW P w K m H v d:=by
 cases r with
 |p r=>exact .p r|r h=>exact .r h|o h=>exact .o h
def RW.ra(r:RW P w K m H v d)(J:BT.attrOk d=ah):RA K m H v d:=by
 cases r with
 |p r=>exact .p r|r h=>exact .r h|o h=>exact .o h|_=>exact aU J
def Ext.ix(x:Ext m H m' H'){n:Nat}(h:m[n]?=aa a):m'[n]?=aa a:=by obtain⟨e,rfl,_⟩:=x.pre;rw[Vi (by rcases VD _ m.length with q|q;exact q;rw[Vs q]at h;exact cX h)];exact h
def RA.ext(x:Ext m H m' H')(r:RA K m H v d):RA K m' H' v d:=by
 cases r with
 |p r=>exact .p (r.ext x)|r h=>exact .r (x.ix h)|o h=>exact .o (x.ix h)
def RCs.ext(x:Ext m H m' H')(r:RCs K m H vs cs):RCs K m' H' vs cs:=by
 induction r with
 |nil=>exact .nil|cons r t J=>exact .cons (r.ext x) J
def RKs.ext(x:Ext m H m' H')(r:RKs K m H vs kvs):RKs K m' H' vs kvs:=by
 induction r with
 |nil=>exact .nil|cons L r t J=>exact .cons (L.ext x) (r.ext x) J
def RW.ext(x:Ext m H m' H')(r:RW P w K m H v d):RW P w K m' H' v d:=by
 cases r with
 |p r=>exact .p (r.ext x)
 |r h =>
  obtain⟨e,rfl,_⟩:=x.pre;refine .r ?_;rw[Vi (by rcases VD _ m.length with q|q;exact q;rw[Vs q]at h;exact cX h)];exact h
 |k h r=>exact .k h r|kl h r=>exact .kl ⟨x.keep _ _ h.1 h.2 rfl,x.lT h.1 h.2⟩ (r.ext x)|c h r=>exact .c (h.ext x) (r.ext x)|g h r=>exact .g h r|x h n J=>exact .x (x.keep _ _ h n rfl) (x.lT h n) J
 |o h =>
  obtain⟨e,rfl,_⟩:=x.pre;refine .o ?_;rw[Vi (by rcases VD _ m.length with q|q;exact q;rw[Vs q]at h;exact cX h)];exact h
def RFs.ext(x:Ext m H m' H')(r:RFs K m H vs fs):RFs K m' H' vs fs:=by
 induction r with
 |nil=>exact .nil|cons r t J=>exact .cons (r.ext x) J
def RBs.ext(x:Ext m H m' H'){vs:List V}{ns:List Nat}(r:RBs m vs ns):RBs m' vs ns:=by
 induction r with
 |nil=>exact .nil|cons h t J=>exact .cons (x.ix h) J
def kL.ext(x:Ext m H m' H')(e:H' a=H a)(r:kL K m H a c):kL K m' H' a c:=by
 cases c with
 |o c fs=>obtain⟨C,V,J,L,O,U⟩:=r;exact⟨C,V,J,e.trans L,O,U.ext x⟩|z=>obtain⟨ob,J,L⟩:=r;exact⟨ob,J,e.trans L⟩|_=>obtain⟨J,L,O⟩:=r;exact⟨J,e.trans L,O.ext x⟩
def kL.some(r:kL K m H a c):∃o,H a=aa o:=by
 cases c with
 |o c fs=>obtain⟨C,V,L,J,O,U⟩:=r;exact⟨_,J⟩|z=>obtain⟨ob,L,J⟩:=r;exact⟨_,J⟩|_=>obtain⟨L,J,O⟩:=r;exact⟨_,J⟩
def RWs.ext(x:Ext m H m' H')(r:RWs P w K m H vs ds):RWs P w K m' H' vs ds:=by
 induction r with
 |nil=>exact .nil|cons r t J=>exact .cons (r.ext x) J
def RS.ext(x:Ext m H m' H')(r:RS P w K m H σ s):RS P w K m' H' σ s :=
 ⟨r.len,λi y e=>by obtain⟨v,h,q⟩:=r.get i y e;exact⟨v,h,q.ext x⟩⟩
theorem RDs.length:∀{vs:List V}{ds:List aQ},RDs K m H vs ds->vs.length=ds.length
 |_,_,.nil=>rfl
 |_,_,.cons _ t=>by rw[Vv,Vv,RDs.length t]
theorem RWs.length:∀{vs:List V}{ds:List aP},RWs P w K m H vs ds->vs.length=ds.length
 |_,_,.nil=>rfl
 |_,_,.cons _ t=>by rw[Vv,Vv,RWs.length t]
theorem RDs.get:∀{vs:List V}{ds:List aQ}{i:Nat}{d:aQ},RDs K m H vs ds->ds[i]?=aa d->∃v,vs[i]?=aa v/\RD K m H v d
 |_,_,_,_,.nil,e=>by simp at e
 |_,_,0,_,.cons r _,e=>by simp at e;subst e;exact⟨_,rfl,r⟩
 |_,_,i+1,d,.cons _ t,e=>by obtain⟨u,L,J⟩:=RDs.get (i:=i) (d:=d) t (by simpa using e);exact⟨u,by simpa using L,J⟩
theorem RDs.append:∀{vs ws:List V}{ds es:List aQ},RDs K m H vs ds->RDs K m H ws es->RDs K m H (vs++ws) (ds++es)
 |_,_,_,_,.nil,s=>s|_,_,_,_,.cons r t,s=>.cons r (RDs.append t s)
theorem RDs.take:∀{vs:List V}{ds:List aQ}(n:Nat),RDs K m H vs ds->RDs K m H (vs.take n) (ds.take n)
 |_,_,0,_=>.nil|_,_,_+1,.nil=>.nil|_,_,n+1,.cons r t=>.cons r (RDs.take n t)
theorem RDs.drop:∀{vs:List V}{ds:List aQ}(n:Nat),RDs K m H vs ds->RDs K m H (vs.drop n) (ds.drop n)
 |_,_,0,r=>r|_,_,_+1,.nil=>.nil|_,_,n+1,.cons _ t=>RDs.drop n t
theorem RDs.set(r:RD K m H v d):∀{vs:List V}{ds:List aQ}(i:Nat),RDs K m H vs ds->RDs K m H (vs.set i v) (ds.set i d)
 |_,_,_,.nil=>.nil|_,_,0,.cons _ t=>.cons r t|_,_,i+1,.cons q t=>.cons q (RDs.set r i t)
theorem RDs.pick(r:RDs K m H vs ds):∀l:List Nat,RDs K m H (l.filterMap λi=>vs[i]?) (l.filterMap λi=>ds[i]?)
 |[]=>.nil
 |i::l=>by
  rw[VT,VT];cases g:ds[i]? with
  |none =>
   have:vs[i]?=af:=by have h:=r.length;rw[aaD]at g⊢;lia
   rw[this];exact RDs.pick r l
  |some d =>
   obtain⟨v,e,q⟩:=r.get g;rw[e];exact .cons q (RDs.pick r l)
theorem RDs.dropLast:∀{vs:List V}{ds:List aQ},RDs K m H vs ds->RDs K m H vs.dropLast ds.dropLast
 |_,_,.nil=>.nil|_,_,.cons _ .nil=>.nil|_,_,.cons r (.cons q t)=>.cons r (RDs.dropLast (.cons q t))
theorem RDs.rep(r:RDs K m H vs ds):∀k:Nat,RDs K m H (VG k vs).flatten (VG k ds).flatten
 |0=>.nil
 |k+1=>by rw[WC,WC,Xb,Xb];exact RDs.append r (RDs.rep r k)
def su{N:List aB}(O:N.Nodup){i j:Nat}{x:aB}(a:N[i]?=aa x)(b:N[j]?=aa x):i=j:=by
 have L:i<N.length:=by
  rcases VD i N.length with z|z
  exact z;rw[Vs z]at a;exact cX a
 have J:j<N.length:=by
  rcases VD j N.length with z|z
  exact z;rw[Vs z]at b;exact cX b
 rw[Vm L]at a;rw[Vm J]at b;exact(ZY O).mp ((Vp a).trans (Vp b).symm)
inductive RR(K:Ve)(m:List aB)(H:Hp):V->aQ->Prop
 |d{v:V}{d:aQ}(r:RD K m H v d):RR K m H v d
 |l{a:aB}{vs:List V}{ds:List aQ}(h:H a=aa (.aD vs))(r:RDs K m H vs ds):RR K m H (.ref a) (.aD ds)
def fh(J:RH K m H h)(r:RW P w K m H v x)(e:bw x h=aa d):RR K m H v d:=by
 cases r with
 |p r=>cases e;exact .d r
 |@r a n q =>
  simp only[bw]at e;cases g:bz h n with
  |none=>rw[g]at e;exact cX e
  |some L =>
   rw[g]at e;cases e;obtain⟨V,U,O⟩:=J.cell n a L q g;exact .l U O
 |_=>exact cX e
inductive RLs(K:Ve)(m:List aB)(H:Hp)(v:V)(ds:List aQ):Prop
 |mk(a:aB)(vs:List V)(e:v=.ref a)(l:LL K H a vs)(r:RDs K m H vs ds):RLs K m H v ds
inductive RTs(K:Ve)(m:List aB)(H:Hp)(v:V)(ds:List aQ):Prop
 |mk(a:aB)(vs:List V)(e:v=.ref a)(l:SqT K H a vs)(r:RDs K m H vs ds):RTs K m H v ds
theorem RR.aD{v:V}{ds:List aQ}(r:RR K m H v (.aD ds)):RLs K m H v ds:=by
 cases r with
 |d r=>cases r with|aD h r=>exact⟨_,_,rfl,h.elim (λq=>.inl q.1) .inr,r⟩
 |l h r=>exact⟨_,_,rfl,.inl (.inl h),r⟩
theorem RR.aE{v:V}{ds:List aQ}(r:RR K m H v (.aE ds)):RTs K m H v ds:=by
 cases r with
 |d r=>cases r with|aE h r=>exact⟨_,_,rfl,h.elim (λq=>.inl q.1) (λ⟨o,its,n,q,_⟩=>.inr ⟨o,its,n,q⟩),r⟩
def RR.int{v:V}{i:Int}(r:RR K m H v (.int i)):v=.int i:=by cases r with|d r=>cases r;rfl
theorem RR.str{v:V}{x:aA}(r:RR K m H v (.str x)):v=.str x/\PyData.strOk x=ah:=by cases r with|d r=>cases r with|str _ h=>exact⟨rfl,h⟩
def RR.bl{v:V}{b:Bool}(r:RR K m H v (.bl b)):v=.bl b:=by cases r with|d r=>cases r;rfl
def RR.aF(r:RR K m H v .aF):v=.aF:=by cases r with|d r=>cases r;rfl
def TB.new(J:H p=af)(h:TB K H):TB K (upd H p o) :=
 h.mono (λP L e=>by rw[dI (eS e J)];exact e) λa o _ _ e=>by rw[dI (eS e J)];exact e
def lD(J:H p=af):Ext m H m (upd H p o) :=
 ⟨⟨[],by simp,by simp⟩,λa q h _ _=>by rw[dI (eS h J)];exact h,λa h=>by
  by_cases e:a=p
  rw[e];exact J
  ·rw[dI e] at h;exact h,λa ob L h=>by rw[dI (eS h J)];exact h⟩
def RH.lT(R:RH K m H h)(L:H p=af):p∉m:=by
 intro q;obtain⟨i,J⟩:=Xf q;have O:i<h.length:=by
  rw[←R.len];rcases VD i m.length with z|z
  exact z;rw[Vs z]at J;exact cX J
 obtain⟨o,e⟩:=(R.cl i p h[i] J (Vm O)).some;rw[e]at L;cases L
def Le(H H':Hp):Prop:=∀a u,H a=aa u->H' a=aa u
def Le.tb(q:Le H H')(t:TB K H):TB K H':=t.mono (λ_ _ e=>q _ _ e) λ_ _ _ _ e=>q _ _ e
def Lk(J:H p=af):Le H (upd H p o):=λa u e=>by rw[dI (eS e J)];exact e
def RH.ext(R:RH K m H h)(x:Ext m H m H')(k:Le H H'):RH K m H' h :=
 ⟨R.nd,R.len,λi a c e1 e2=>by obtain⟨o,e⟩:=(R.cl i a c e1 e2).some;exact(R.cl i a c e1 e2).ext x (by rw[e];exact k _ _ e),k.tb R.tb⟩
noncomputable def PB:HO->Bool
 |.aD _=>ah|.ins _ _ _=>ah|.dK _=>ah|_=>ak
noncomputable def PC:HO->Bool
 |.frz _ (.dK _)=>ah|.aD _=>ah|.ins _ _ _=>ah|.dK _=>ah|_=>ak
def RH.mu(R:RH K m H h)(V:a∈m):∃o,H a=aa o/\PC o=ah:=by
 obtain⟨i,L⟩:=Xf V;have U:i<h.length:=by
  rw[←R.len];rcases VD i m.length with z|z
  exact z;rw[Vs z]at L;exact cX L
 have z:=R.cl i a h[i] L (Vm U);cases g:h[i]with
 |o c fs=>rw[g]at z;obtain⟨C,Z,O,J,W,Y⟩:=z;exact⟨_,J,rfl⟩|z=>rw[g]at z;obtain⟨ob,O,J⟩:=z;exact⟨_,J,rfl⟩|_=>rw[g]at z;obtain⟨O,J,W⟩:=z;exact⟨_,J,rfl⟩
def RH.new(R:RH K m H h)(J:H p=af):RH K m (upd H p o) h :=
 R.ext (lD J) (Lk J)
def jC(J:H p=af):Ext m H (m++[p]) (upd H p o) :=
 ⟨⟨[p],rfl,by simpa using J⟩,λa q h _ _=>by rw[dI (eS h J)];exact h,λa h=>by
  by_cases e:a=p
  rw[e];exact J
  ·rw[dI e] at h;exact h,λa ob L h=>by rw[dI (eS h J)];exact h⟩
def RH.Ll(R:RH K m H h)(J:H p=af)(r:kL K (m++[p]) (upd H p o) p c):RH K (m++[p]) (upd H p o) (h++[c]):=by
 have L:=R.lT J;have x:Ext m H (m++[p]) (upd H p o):=jC J;refine⟨List.nodup_append.mpr ⟨R.nd,by simp,λa W b O=>by simp at O;subst O;exact λe=>L (e ▸ W)⟩,by simp[R.len],λi a U e1 e2=>?_,R.tb.new J⟩
 by_cases c:i<m.length
 ·rw[Vi c]at e1;rw[Vi (by rw[←R.len];exact c)]at e2;have V:a≠p:=by intro e;subst e;exact L (Vz e1)
  exact(R.cl i a U e1 e2).ext x (dI V)
 ·have e:i=m.length:=by
   rcases VD i (m++[p]).length with z|z
   simp at z;lia;rw[Vs z]at e1;exact cX e1
  subst e;simp at e1;rw[R.len]at e2;simp at e2;subst e1 e2;exact r
def RH.To(R:RH K m H h)(J:H p=af)(r:RDs K m H vs xs):RH K (m++[p]) (upd H p (.aD vs)) (h++[.l xs]) :=
 R.Ll J ⟨vs,fq,r.ext (jC J)⟩
def TB.set(L:∃u,H a=aa u/\PC u=ah)(h:TB K H):TB K (upd H a o):=by obtain⟨w,hw,J⟩:=L;refine h.mono (λP O e=>?_) λb ob _ _ e=>?_;rw[dI (λz=>by subst z;rw[hw]at e;cases e;exact aU J)];exact e;rw[dI (λz=>by subst z;rw[hw]at e;cases e;exact aU J)];exact e
def qt{a:aB}{o:HO}(V:a∈m)(J:∃u,H a=aa u/\PB u=ah):Ext m H m (upd H a o) :=
 ⟨⟨[],by simp,by simp⟩,λb u q n _=>by
  have L:b≠a:=by intro e;subst e;exact n V
  rw[dI L];exact q,λb q=>by
  by_cases e:b=a
  subst e;rw[fq]at q;cases q
  ·rw[dI e]at q;exact q,λb ob W q=>by
  obtain ⟨u,O,U⟩:=J;rw[dI (λz=>by subst z;rw[O] at q;cases q;exact aU U)];exact q⟩
def iR(J:a∈m)(h:H a=aa (.aD us)):Ext m H m (upd H a (.aD vs)):=qt J ⟨_,h,rfl⟩
def RH.setC{h:aO}(R:RH K m H h){n:Nat}{a:aB}{o:HO}{c:BT.Cl}(hn:m[n]?=aa a)(L:∃u,H a=aa u/\PB u=ah)(r:kL K m (upd H a o) a c):RH K m (upd H a o) (h.set n c):=by
 have x:Ext m H m (upd H a o):=qt (Vz hn) L;refine⟨R.nd,by simp[R.len],λi b J e1 e2=>?_,R.tb.set (R.mu (Vz hn))⟩
 by_cases c:i=n
 ·subst c;rw[hn]at e1;cases e1;have U:i<h.length:=by
   rw[←R.len];rcases VD i m.length with z|z
   exact z;rw[Vs z]at hn;exact cX hn
  rw[VH U]at e2;cases e2;exact r
 ·rw[Vr (Wa c)]at e2;have O:b≠a:=by intro e;subst e;exact c (su R.nd e1 hn)
  exact(R.cl i b J e1 e2).ext x (dI O)
def RH.set(R:RH K m H h)(hn:m[n]?=aa a)(J:H a=aa (.aD us))(r:RDs K m H vs xs):RH K m (upd H a (.aD vs)) (h.set n (.l xs)) :=
 R.setC hn ⟨_,J,rfl⟩ ⟨vs,fq,r.ext (iR (Vz hn) J)⟩
end
end BS
end
section
namespace BS
open PySem PySem.Spec PyProof.Rows L2 PySem.SeqAt
def oR{E:aC->Vh->Prop}(f:Nat->β->Sem (ForInStep β))(n:Nat)(I:Nat->β->Vh->Prop)(Q:β->Vh->Prop)
(turn:∀i b s,i<n->I i b s->az M A (f i b) (λr s'=>match r with|.yield L=>I (i+1) L s'|.done L=>Q L s') E s)
(fin:∀b s,I n b s->Q b s)(b:β)(h:I 0 b s):az M A (forIn [:n] b f) Q E s:=by
 rw[Std.Legacy.Range.forIn_eq_forIn_range'];have e:abt [:n].start [:n].size [:n].step=abt 0 (n-0):=by simp[Std.Legacy.Range.size]
 rw[e];refine wpAny_forIn_list f (λrest b s=>∃i,i<=n/\rest=abt i (n-i)/\I i b s) Q (λx rest b s ⟨i,hi,hr,q⟩=>?_) (λb s ⟨i,hi,hr,q⟩=>?_) _ b ⟨0,Wg _,rfl,h⟩
 ·have J:i<n:=by
   rcases VD i n with z|z
   exact z;rw[show n-i=0 by lia]at hr;simp at hr
  rw[show n-i=(n-(i+1))+1 by lia,List.range'_succ]at hr
  injection hr with e1 e2
  subst e1;refine Wk (turn x b s J q) (λr s' z=>?_) λ_ _ z=>z;cases r with
  |yield L=>exact⟨x+1,J,e2,z⟩|done L=>exact z
 ·have:i=n:=by
   rcases VD i n with z|z
   rw[show n-i=(n-(i+1))+1 by lia,List.range'_succ]at hr;simp at hr;lia
  subst this;exact fin b s q
def rH(l:aB)(items:Array aC)(n:Nat)(dd:Option aB)(Y:Array (Option aC))(x:aC)(e:aC->Bool)(j:Nat)(o:j<items.size)
(V:e items[j]=ah)(U:∀m (k:m<items.size),m<j->e items[m]=ak):
 Meets (Builtin.«tuple.index» ⟨[.ref l,x],[]⟩)
  (λA R s=>s.heap.get? l=aa {cls:=.type "tuple",dict:=dd,data:=.seq items n,slots:=Y}/\(∀y,y∈items->EqAt A.in1 s y x (e y))/\R (.ok (.ret (.int j s.toks))) {s with toks:=s.toks+1}) :=
 .of_wp λL w A R s h=>by
 obtain⟨Z,g,d,W,os⟩:=s;obtain⟨a,f,h⟩:=h
 wp_walk using XM a,oR _ _ (λi b O=>i<=j/\b.1=af/\O=⟨Z,g,d,W,os⟩) _
 case turn =>
  rintro i b O hi ⟨hij,hb,rfl⟩
  have J:i<items.size:=by lia
  rw[V2 J];refine Vf (f _ (Array.getElem_mem J) L w _ _ ?_)
  by_cases c:i=j
  ·subst c;rw[V]
   wp_walk
   exact⟨_,rfl,h⟩
  ·rw[U i J (by lia)]
   wp_walk
   exact⟨by lia,rfl,rfl⟩
 case fin =>
  rintro b O ⟨hij,_,_⟩
  lia
 case h=>exact⟨Wg _,rfl,rfl⟩
def xQ(l:aB)(items:Array aC)(n:Nat)(dd:Option aB)(Z:Array (Option aC))(k:Int)(t:Tok)(h1:-1000<=k)(h2:k<=1000)(O:¬items.isEmpty=ah)(a:k≠1)(p:0<k)(hz:items.size*k.toNat<=ao):
 Meets (Builtin.«tuple.__mul__» ⟨[.ref l,.int k t],[]⟩)
  (λA R s=>s.heap.get? l=aa {cls:=.type "tuple",dict:=dd,data:=.seq items n,slots:=Z}/\R (.ok (.ret (.ref s.heap.objs.size))) {s with heap:=s.heap.push {cls:=.type "tuple",data:=.seq ((VG k.toNat items).foldl (λL J=>L++J) #[])} }) :=
 .of_wp λW w A R s h=>by
 obtain⟨m,g,d,j,os⟩:=s;obtain⟨V,h⟩:=h;have o:=abi;have f:¬(decide (k < -2^63)||decide (k ≥ 2^63))=ah:=by simp;lia
 have u:¬(items.isEmpty||k==1)=ah:=by simp at O⊢;exact⟨O,a⟩
 have r:¬(decide (k<=0)||items.isEmpty)=ah:=by simp at O⊢;exact⟨by lia,O⟩
 have Y:(k.toNat:Int)=k:=by lia
 have e:¬((items.size:Int)*k>(2^63-1)/8):=by
  have z:((items.size*k.toNat:Nat):Int)<=(ao:Nat):=Int.ofNat_le.mpr hz;rw[Int.natCast_mul,Y]at z;have i:((ao:Nat):Int)<=(2^63-1)/8:=by decide
  lia
 have q:¬Zf ((items.size:Int)*k)=ah:=by have z:((items.size*k.toNat:Nat):Int)<=(ao:Nat):=Int.ofNat_le.mpr hz;rw[Int.natCast_mul,Y]at z;simp only[Zf,bP];lia
 have U:sizeOk (.seq ((VG k.toNat items).foldl (λL J=>L++J) #[])):=by show((VG k.toNat items).foldl (λL J=>L++J) #[]).size<=ao;rw[AutoListH.size_joined,Array.size_empty,Xz];lia
 wp_walk using XM V
 rw[bN f]
 wp_walk using XM V
 refine Zl (λc=>bO c ?_) (λ_=>?_);intro c;have b:=e;simp at b c;lia
 wp_walk using XM V
 refine wpAny_ite_false (bQ (Nat.not_lt.mpr U)) ?_
 wp_walk
 exact⟨_,rfl,h⟩
def nU:fillsNumberSlot (.type "tuple") "mul"=pure ak :=
 PySem.fillsNumberSlot_seq (id:="tuple.__mul__") (r:=aa (.builtin "tuple.__rmul__")) F.slot_tuple_mul.lookup (by decide +kernel) F.slot_tuple_rmul.lookup (by decide +kernel)
def tX:seqRepeat? (.type "tuple")=pure (aa (.builtin "tuple.__mul__")):=by unfold seqRepeat?;rw[PySem.seqSlot_of (T:="tuple") (name:="__mul__") (id:="tuple.__mul__") F.slot_tuple_mul.lookup (by decide +kernel),PySem.seqSlot_of (T:="tuple") (name:="__rmul__") (id:="tuple.__rmul__") F.slot_tuple_rmul.lookup (by decide +kernel)];rfl
def qu(a:Int)(t:Tok)(l:aB)(items:Array aC)(n:Nat)(dd:Option aB)(L:Array (Option aC)):
 Meets (Builtin.«int.__rmul__» ⟨[.int a t,.ref l],[]⟩) (λ_ R s=>s.heap.get? l=aa {cls:=.type "tuple",dict:=dd,data:=.seq items n,slots:=L}/\R (.ok (.ret Value.notImplemented)) s) :=
 .of_wp λJ w A R s h=>by obtain⟨U,g,d,O,os⟩:=s;obtain⟨V,h⟩:=h;wp_walk;exact⟨_,rfl,h⟩
def oU(l:aB)(items:Array aC)(n:Nat)(b:aB)(J:Array aC)(Z:Nat)(dd:Option aB)(Y:Array (Option aC))(a:¬(!items.isEmpty&&Wr (items.size+J.size))=ah)(U:items.size<=ao)(O:items.size+J.size<=ao+1):
 Meets (Builtin.«list.extend» ⟨[.ref l,.ref b],[]⟩) (λ_ R s=>s.heap.get? l=aa {cls:=.type "list",dict:=af,data:=.seq items n,slots:=#[]}/\s.heap.get? b=aa {cls:=.type "tuple",dict:=dd,data:=.seq J Z,slots:=Y}/\R (.ok (.ret WX)) {s with heap:=s.heap.update l (Xc λx=>x++J),toks:=s.toks}) :=
 .of_wp λV w A R s h=>by
  obtain⟨f,g,d,e,os⟩:=s;obtain⟨W,c,h⟩:=h;have o:=abi;have m:=AutoSeq1.sub_tuple_tuple;have k:=AutoSeq1.sub_list_list;have j:=AutoSeq1.sub_tuple_list;have i:=AutoSeq1.sub_list_tuple;have L:(items++J).size<=ao+1:=by rw[Array.size_append];exact O
  wp_walk using (Zj W rfl (hz:=U) (_hz':=L)),XM W,XM c;exact⟨_,rfl,h⟩
end BS
end
section
namespace BS
open PySem PySem.Spec PyProof.Rows L2
inductive Bnd{α β:Type}(x:Option (α×aO))(k:α->aO->Option β)(r:β):Prop
 |mk(a:α)(g:aO)(h1:x=aa (a,g))(h2:k a g=aa r):Bnd x k r
inductive PD{α β:Type}(x:Option α)(f:α->β)(r:β):Prop
 |mk(a:α)(h1:x=aa a)(h2:f a=r):PD x f r
inductive Bind(o:bG)(x y:aP)(h:aO)(z:aP)(h':aO):Prop
 |mk(d d' q:aQ)(h1:bw x h=aa d)(h2:bw y h=aa d')(O:BT.jK o d d'=aa q)(J:z=.p q)(L:h'=h):Bind o x y h z h'
def dg{L J:Type}{x:Option (L×aO)}{k:L->aO->Option J}{r:J}(h:bF x k=aa r):Bnd x k r:=by
 cases x with
 |none=>exact cX h|some q=>exact⟨q.1,q.2,rfl,h⟩
def dH{L J:Type}{x:Option L}{f:L->J}{r:J}(h:x.map f=aa r):PD x f r:=by
 cases x with
 |none=>exact cX h|some a=>exact⟨a,rfl,Vp h⟩
def Post(P:Vy)(w:VQ)(K:Ve)(m:List aB)(H:Hp)(z:aP)(h':aO)(Q:VK):Prop :=
 ∀v J L,Ext m H L J->RH K L J h'->RW P w K L J v z->Q v J
inductive rOp(P:Vy)(w:VQ)(K:Ve)(f:aP->aP->aO->Option (aP×aO))(v u:V)(H:Hp)(Q:VK):Prop
 |mk(m:List aB)(h:aO)(x y z:aP)(h':aO)(R:RH K m H h)(L:RW P w K m H v x)(J:RW P w K m H u y)(e:f x y h=aa (z,h'))(p:Post P w K m H z h' Q):rOp P w K f v u H Q
def mX{o:bG}{x y:aP}{h:aO}{z:aP}{h':aO}(e:BT.tR o x y h=aa (z,h')):Bind o x y h z h':=by
 unfold BT.tR at e;cases e1:bw x h with
 |none=>rw[e1]at e;exact cX e
 |some d =>
  cases e2:bw y h with
  |none=>rw[e1,e2]at e;exact cX e
  |some L =>
   rw[e1,e2]at e;obtain⟨q,eq,J⟩:=dH e;cases J;exact⟨d,L,q,e1,e2,eq,rfl,rfl⟩
section
variable{X:Cx}
def gf:BT.lim<=ao:=by decide
inductive PF(s:Vh)(a:aB)(xs:List V):Prop
 |mk(z:xs.length<=ao)(J:List aC)(n:Nat)(r:dD xs J)(l:xs.length=J.length)(e:s.heap.get? a=aa {cls:=.type "list",data:=.seq J.toArray n}):PF s a xs
def rdL(I:Inv X zt σ H s)(r:LL X.K H a xs):PF s a xs:=by
 rcases r with r|⟨J,n,h1,h2,h3⟩
 ·obtain⟨z,J,n,r,e⟩:=r.ok I.aL;exact⟨z,J,n,r,r.length,e⟩
 exact⟨by rw[h3.length];exact h2,J,n,h3,h3.length,I.kIn a _ h1⟩
def DH(I:Inv X zt σ H s)(W:LL X.K H a xs)(V:LL X.K H b ys)(hz:xs.length+ys.length<=ao)
(q:∀p,H p=af->Q (.ref p) (upd H p (.aD (xs++ys)))):az (VC X.prog X.w) X.A (WT .Add (.ref a) (.ref b)) (EP X zt σ Q) X.xe s:=by
 obtain⟨z,L,n,r,d,e⟩:=rdL I W;obtain⟨Z,J,c,O,U,e2⟩:=rdL I V;refine PySem.P.add_list e e2 ?_ (by rw[Vl,Vl];lia);have Y:L.toArray++J.toArray=(L++J).toArray:=by simp
 rw[Y];exact⟨.ref _,_,I.Ou (t':=s.toks) (r.append O) (by rw[VN];lia),rfl,q _ I.fresh⟩
def AY(I:Inv X zt σ H s)(f:SqT X.K H a xs)(e:SqT X.K H b ys)(hz:xs.length+ys.length<=ao)
(l:xs=[]->Q (.ref b) H)(k:ys=[]->Q (.ref a) H)(q:∀p,H p=af->Q (.ref p) (upd H p (.aE (xs++ys)))):az (VC X.prog X.w) X.A (WT .Add (.ref a) (.ref b)) (EP X zt σ Q) X.xe s:=by
 by_cases c:xs=[]
 ·obtain⟨L,j,o,_⟩:=I.tuple f;obtain⟨J,u,m,_⟩:=I.tuple e;obtain⟨⟨t,dd,g,i⟩,Z,hc,n,d⟩:=id o;obtain⟨⟨h,Y,data2,W⟩,O,V,r,U⟩:=id m;simp only at hc d V U;subst hc d V U;have z:L=[]:=j.mL.mpr c;exact concat_meets ⟨_,Z,rfl⟩ ⟨_,O,rfl⟩ aaF abz YE Yx (Yr _ _)
   (tuple_addW0 a b L.toArray J.toArray n r dd Y i W (by simp[z])) ⟨Z,O,⟨.ref b,H,I,rfl,l c⟩⟩
 exact Gu zt s σ H (.ref a) (.ref b) _ _ Q I rfl rfl ⟨a,b,xs,ys,rfl,rfl,f,e,c,hz,k,λ_=>q⟩
def mY(R:RH X.K m H h)(J:H p=af)(r:RDs X.K m H vs ds)(L:Post X.prog X.w X.K m H (.p (.aE ds)) h Q):Q (.ref p) (upd H p (.aE vs)) :=
 L _ _ m (lD J) (R.new J) (.p (.aE (.inl ⟨.inl fq,R.lT J⟩) (r.ext (lD J))))
def jQ(R:RH X.K m H h)(J:H p=af)(r:RDs X.K m H vs ds)(L:Post X.prog X.w X.K m H (.p (.aD ds)) h Q):Q (.ref p) (upd H p (.aD vs)) :=
 L _ _ m (lD J) (R.new J) (.p (.aD (.inl ⟨.inl fq,R.lT J⟩) (r.ext (lD J))))
def tY(R:RH X.K m H h)(J:H p=af)(r:RDs X.K m H vs ds)(L:Post X.prog X.w X.K m H (.r h.length) (h++[.l ds]) Q):Q (.ref p) (upd H p (.aD vs)) :=
 L _ _ (m++[p]) (jC J) (R.To J r) (.r (by rw[←R.len];simp))
def tZ(R:RH X.K m H h)(L:H p=af)(r:RDs X.K m H vs ds)(J:Post X.prog X.w X.K m H (BT.new mu ds h).1 (BT.new mu ds h).2 Q):Q (.ref p) (upd H p (.aD vs)):=by
 cases mu with
 |false=>exact jQ R L r J|true=>exact tY R L r J
def Post.here(R:RH X.K m H h)(J:Post X.prog X.w X.K m H (.p d) h Q)(r:RD X.K m H v d):Q v H:=J v H m (.refl _ _) R (.p r)
def ua(L:PyData.strOk x=ah)(J:PyData.strOk y=ah):PyData.strOk (x++y)=ah:=by show(x.cps++y.cps).all _=ah;rw[Array.all_append];simp only[PyData.strOk]at L J;rw[L,J];rfl
def Lm:OpR X (WT .Add) (rOp X.prog X.w X.K (BT.tR .add)):=by
 intro j s i H v u F G Q I W Y h;obtain⟨m,h,x,y,z,M,R,o,n,e,L⟩:=h;obtain⟨d,E,q,e1,e2,J,rfl,rfl⟩:=mX e;have V:=fh R o e1;have U:=fh R n e2;cases d<;>cases E<;>first|exact cX J|simp only[BT.vC,BT.pY,BT.pZ,BT.dW,BT.qa,BT.vD,BT.qb,BT.qc,BT.qd,BT.nQ]at J
 ·cases J;cases V.int;cases U.int;exact Kl j s i H _ _ _ _ Q I W Y ⟨_,_,rfl,rfl,L.here R (.int _)⟩
 ·obtain⟨c,J⟩:=dG J;cases J;obtain⟨ev,t⟩:=V.str;obtain⟨D,A⟩:=U.str;subst ev;subst D;have:=gf;exact xr j s i H _ _ _ _ Q I W Y ⟨_,_,rfl,rfl,by lia,L.here R (.str _ (ua t A))⟩
 ·obtain⟨c,J⟩:=dG J;cases J;obtain⟨a,k,rfl,g,ra⟩:=V.aE;obtain⟨b,l,rfl,f,O⟩:=U.aE;cases W;cases Y;have C:=ra.length;have B:=O.length;have:=gf;refine AY I g f (by lia) (λz=>?_) (λz=>?_) λp Z=>mY R Z (ra.append O) L
  ·subst z;cases ra;cases U with|d r=>exact L.here R r
  ·subst z;cases O;rw[Wc]at L;cases V with|d r=>exact L.here R r
 ·obtain⟨c,J⟩:=dG J;cases J;obtain⟨a,k,rfl,g,ra⟩:=V.aD;obtain⟨b,l,rfl,f,O⟩:=U.aD;cases W;cases Y;have C:=ra.length;have B:=O.length;have:=gf;exact DH I g f (by lia) λp Z=>jQ R Z (ra.append O) L
noncomputable def Tt:bG->Bool
 |.add=>ak|.mul=>ak|_=>ah
def uc{o:bG}{d d' z:aQ}(J:Tt o=ah)(e:BT.jK o d d'=aa z):∃i j,d=.int i/\d'=.int j:=by cases o<;>first|exact aU J|(cases d<;>first|exact cX e|(cases d'<;>first|exact cX e|exact⟨_,_,rfl,rfl⟩))
def Ln:OpR X (WT .Sub) (rOp X.prog X.w X.K (BT.tR .sub)):=by intro O s L H v u a b Q I Y Z h;obtain⟨m,h,x,y,z,c,R,W,V,e,U⟩:=h;obtain⟨d,f,q,e1,e2,J,rfl,rfl⟩:=mX e;obtain⟨i,j,rfl,rfl⟩:=uc rfl J;rw[BT.qa]at J;cases J;cases (fh R W e1).int;cases (fh R V e2).int;exact Km O s L H _ _ _ _ Q I Y Z ⟨_,_,rfl,rfl,U.here R (.int _)⟩
def Lo:OpR X (WT .Mod) (rOp X.prog X.w X.K (BT.tR .mod)):=by intro O s L H v u a b Q I Y Z h;obtain⟨m,h,x,y,z,f,R,W,V,e,U⟩:=h;obtain⟨d,g,q,e1,e2,J,rfl,rfl⟩:=mX e;obtain⟨i,j,rfl,rfl⟩:=uc rfl J;rw[BT.qd]at J;obtain⟨c,J⟩:=dG J;cases J;cases (fh R W e1).int;cases (fh R V e2).int;exact Ko O s L H _ _ _ _ Q I Y Z ⟨_,_,rfl,rfl,c,U.here R (.int _)⟩
def GW:OpR X (WT .FloorDiv) (rOp X.prog X.w X.K (BT.tR .fdiv)):=by intro O s L H v u a b Q I Y Z h;obtain⟨m,h,x,y,z,f,R,W,V,e,U⟩:=h;obtain⟨d,g,q,e1,e2,J,rfl,rfl⟩:=mX e;obtain⟨i,j,rfl,rfl⟩:=uc rfl J;rw[BT.nQ]at J;obtain⟨c,J⟩:=dG J;simp only[Vg,bP]at c;cases J;cases (fh R W e1).int;cases (fh R V e2).int;exact Ge O s L H _ _ _ _ Q I Y Z ⟨_,_,rfl,rfl,⟨c.1,c.2⟩,U.here R (.int _)⟩
def ud(h:BT.big i=ah):-(2^64)<i/\i<2^64:=by unfold BT.big at h;have:=bS h;lia
def AZ(I:Inv X zt σ H s)(j:SqT X.K H a xs)(h1:2<=k)(h2:k<=1000)(O:xs≠[])(hz:xs.length*k.toNat<=ao)
(q:∀p,H p=af->Q (.ref p) (upd H p (.aE (VG k.toNat xs).flatten))):az (VC X.prog X.w) X.A (WT .Mult (.ref a) (.int k t)) (EP X zt σ Q) X.xe s:=by
 obtain⟨J,r,p,_⟩:=I.tuple j;obtain⟨⟨m,dd,Y,V⟩,e,hc,n,W⟩:=id p;simp only at hc W;subst hc W;have g:=r.length;have L:J.toArray.size*k.toNat<=ao:=by rw[Vl,←g];exact hz
 have l:ZG (λd c=>d++c) #[] (VG k.toNat J.toArray)=(VG k.toNat J).flatten.toArray:=by have:=foldl_rep J k.toNat [];rw[XD]at this;exact this
 have h:¬J.toArray.isEmpty=ah:=by
  intro z;have Z:J=[]:=by simpa using z
  exact O (r.mL.mp Z)
 refine aba (T:="tuple") (U:="int") (by decide) ⟨_,e,rfl⟩ (λf=>typeIs_int f k t) nU F.fills_int_mul F.slot_int_rmul tX F.slot_int_index.lookup
  (XH F.slot_int_rmul (typeIs_int s k t) F.entry_int_rmul (F.args_int_rmul_2 _ _) (qu k t a J.toArray n dd V)
   ⟨e,rfl,⟨_,e,rfl⟩,XH F.slot_tuple_mul ⟨_,e,rfl⟩ F.entry_tuple_mul (F.args_tuple_mul_2 _ _) (xQ a J.toArray n dd V k t (by lia) h2 h (by lia) (by lia) L) ⟨e,?_⟩⟩)
 rw[l];have i:H s.heap.objs.size=af:=I.aL.fresh (Vo _);refine⟨.ref s.heap.objs.size,_,I.laid (t':=s.toks) (o:=.aE (VG k.toNat xs).flatten) (λb ob q=>Vk _ q) (Vo _) ?_,rfl,q _ i⟩;exact⟨by rw[len_rep,Xz];exact hz,_,r.rep k.toNat,IsTup.new _ _⟩
def DI(I:Inv X zt σ H s)(g:LL X.K H l xs)(h1:-(2^63)<=k)(h2:k<=1000)(hz:xs.length*k.toNat<=ao)
(q:∀p,H p=af->Q (.ref p) (upd H p (.aD (VG k.toNat xs).flatten))):az (VC X.prog X.w) X.A (WT .Mult (.ref l) (.int k t)) (EP X zt σ Q) X.xe s:=by
 have c:k<2^63:=by lia
 obtain⟨z,J,n,r,f,e⟩:=rdL I g;have V:J.toArray.size*k.toNat<=ao:=by rw[Vl,←f];exact hz
 have Y:¬J.toArray.size*k.toNat>(2^63-1)/8:=by
  have:(ao:Nat)<=(2^63-1)/8:=by decide
  lia
 have W:¬(!Builtin.List.listFitsIndex k)=ah:=by rw[fitsIndex_both h1 c];exact V0
 have L:¬Wr (J.toArray.size*k.toNat)=ah:=by rw[pS V];exact V0
 have O:ZG (λb Z=>b++Z) #[] (VG (if J.toArray.isEmpty=ah then 0 else k.toNat) J.toArray)=(VG k.toNat J).flatten.toArray:=by
  have h:∀m:Nat,ZG (λb Z=>b++Z) #[] (VG m J.toArray)=(VG m J).flatten.toArray:=λm=>by have:=foldl_rep J m [];rw[XD]at this;exact this
  rw[h];cases J with
  |nil=>simp|cons a i=>rw[bN (by simp)]
 refine aba (T:="list") (U:="int") (by decide) ⟨_,e,rfl⟩ (λd=>typeIs_int d k t) noFill_list_mul F.fills_int_mul F.slot_int_rmul repeat_list F.slot_int_index.lookup
  (XH F.slot_int_rmul (typeIs_int s k t) F.entry_int_rmul (F.args_int_rmul_2 _ _) (int___rmul___int_list k t l J.toArray n)
   ⟨e,rfl,⟨_,e,rfl⟩,XH F.slot_list_mul ⟨_,e,rfl⟩ F.entry_list_mul (F.args_list_mul_2 _ _) (AutoListH.list___mul___list_int_3 l J.toArray n k t W Y L) ⟨e,?_⟩⟩)
 rw[O];exact⟨.ref _,_,I.Ou (t':=s.toks) (r.rep k.toNat) (by rw[len_rep,Xz];exact hz),rfl,q _ I.fresh⟩
def Lp:OpR X (WT .Mult) (rOp X.prog X.w X.K (BT.tR .mul)):=by
 intro g s f H v u n o Q I O U h;obtain⟨m,h,x,y,z,r,R,k,j,e,L⟩:=h;obtain⟨d,l,q,e1,e2,J,rfl,rfl⟩:=mX e;have W:=fh R k e1;have V:=fh R j e2;cases d<;>cases l<;>first|exact cX J|simp only[BT.vC,BT.pY,BT.pZ,BT.dW,BT.qa,BT.vD,BT.qb,BT.qc,BT.qd,BT.nQ]at J
 ·obtain⟨c,J⟩:=dG J;cases J;cases W.int;cases V.int;refine Kn g s f H _ _ _ _ Q I O U ⟨_,_,rfl,rfl,?_,L.here R (.int _)⟩;rcases W9 _ _ ▸ c with c|c
  exact .inl (ud c);exact .inr (ud c)
 ·obtain⟨c,J⟩:=dG J;simp only[Vg,bP]at c;cases J;obtain⟨a,i,rfl,b,ra⟩:=W.aE;cases V.int;obtain⟨t,rfl⟩:=U;cases O;have Y:=ra.length;have:=gf;simp only[YD,List.isEmpty_eq_false_iff]at c;refine AZ I b (by lia) (by lia) (λz=>?_) (by rw[Y];lia) λp Z=>mY R Z (ra.rep _) L;subst z;cases ra;exact c.1.2 rfl
 ·obtain⟨c,J⟩:=dG J;simp only[Vg,bP]at c;cases J;obtain⟨a,i,rfl,b,ra⟩:=W.aD;cases V.int;obtain⟨t,rfl⟩:=U;cases O;have Y:=ra.length;have:=gf;refine DI I b (by lia) (by lia) (by rw[Y];lia) λp Z=>jQ R Z (ra.rep _) L
end
mutual
noncomputable def pd:aQ->PyData
 |.aF=>.none|.bl b=>.bool b|.int i=>.int i|.str x=>.str x|.aE J=>.tuple (pds J)|.aD J=>.list (pds J)
noncomputable def pds:List aQ->List PyData
 |[]=>[]|x::r=>pd x::pds r
end
mutual
theorem qv:∀x y:aQ,PyData.eqv (pd x) (pd y)=aY x y
 |.aF,.aF=>rfl|.aF,.bl _=>rfl|.aF,.int _=>rfl|.aF,.str _=>rfl
 |.aF,.aE _=>by simp[pd,PyData.eqv,aY]
 |.aF,.aD _=>by simp[pd,PyData.eqv,aY]
 |.bl _,.aF=>rfl|.bl _,.bl _=>rfl|.bl _,.int _=>rfl|.bl _,.str _=>rfl
 |.bl _,.aE _=>by simp[pd,PyData.eqv,aY]
 |.bl _,.aD _=>by simp[pd,PyData.eqv,aY]
 |.int _,.aF=>rfl|.int _,.bl _=>rfl|.int _,.int _=>rfl|.int _,.str _=>rfl
 |.int _,.aE _=>by simp[pd,PyData.eqv,aY]
 |.int _,.aD _=>by simp[pd,PyData.eqv,aY]
 |.str _,.aF=>rfl|.str _,.bl _=>rfl|.str _,.int _=>rfl|.str _,.str _=>rfl
 |.str _,.aE _=>by simp[pd,PyData.eqv,aY]
 |.str _,.aD _=>by simp[pd,PyData.eqv,aY]
 |.aE _,.aF=>by simp[pd,PyData.eqv,aY]
 |.aE _,.bl _=>by simp[pd,PyData.eqv,aY]
 |.aE _,.int _=>by simp[pd,PyData.eqv,aY]
 |.aE _,.str _=>by simp[pd,PyData.eqv,aY]
 |.aE xs,.aE ys=>by simp only[pd,PyData.eqv,aY];exact ue xs ys
 |.aE _,.aD _=>by simp[pd,PyData.eqv,aY]
 |.aD _,.aF=>by simp[pd,PyData.eqv,aY]
 |.aD _,.bl _=>by simp[pd,PyData.eqv,aY]
 |.aD _,.int _=>by simp[pd,PyData.eqv,aY]
 |.aD _,.str _=>by simp[pd,PyData.eqv,aY]
 |.aD _,.aE _=>by simp[pd,PyData.eqv,aY]
 |.aD xs,.aD ys=>by simp only[pd,PyData.eqv,aY];exact ue xs ys
theorem ue:∀xs ys:List aQ,PyData.eqvAll (pds xs) (pds ys)=BT.kH xs ys
 |[],[]=>by simp[pds,PyData.eqvAll,BT.kH]
 |[],_::_=>by simp[pds,PyData.eqvAll,BT.kH]
 |_::_,[]=>by simp[pds,PyData.eqvAll,BT.kH]
 |x::xs,y::ys=>by simp only[pds,PyData.eqvAll,BT.kH];rw[qv x y,ue xs ys]
end
theorem kM:∀{xs:List aQ},(∀x∈xs,(pd x).depth<=n)->PyData.depthAll (pds xs)<=n
 |[],_=>by simp[pds,PyData.depthAll]
 |x::xs,h=>by simp only[pds,PyData.depthAll];exact Nat.max_le.mpr ⟨h x Vt,kM λy J=>h y (Vn _ J)⟩
theorem lE:∀(n:Nat)(d:aQ),BT.dok n d=ah->(pd d).depth<=n
 |n,.aF,_=>by simp[pd,PyData.depth]
 |n,.bl _,_=>by simp[pd,PyData.depth]
 |n,.int _,_=>by simp[pd,PyData.depth]
 |n,.str _,_=>by simp[pd,PyData.depth]
 |0,.aE _,h=>by simp[BT.dok]at h
 |0,.aD _,h=>by simp[BT.dok]at h
 |n+1,.aE xs,h=>by simp only[pd,PyData.depth];rw[BT.yT,WY]at h;exact aac (kM λx J=>lE n x (h x J))
 |n+1,.aD xs,h=>by simp only[pd,PyData.depth];rw[BT.yU,WY]at h;exact aac (kM λx J=>lE n x (h x J))
section
variable{K:Ve}
mutual
theorem iN:∀{v:V}{d:aQ},RD K m H v d->(pd d).canLay0=ah
 |_,_,.aF=>rfl|_,_,.bl _=>rfl|_,_,.int _=>rfl
 |_,_,.str _ h=>by simpa [pd,PyData.canLay0]using h
 |_,_,.aE _ r=>by simp only[pd,PyData.canLay0];exact jR r
 |_,_,.aD _ r=>by simp only[pd,PyData.canLay0];exact jR r
theorem jR:∀{vs:List V}{ds:List aQ},RDs K m H vs ds->PyData.canLayAll0 (pds ds)=ah
 |_,_,.nil=>by simp[pds,PyData.canLayAll0]
 |_,_,.cons r t=>by simp only[pds,PyData.canLayAll0];rw[iN r,jR t];rfl
end
mutual
theorem kN(I:Inv X zt σ H s):∀{v:V}{d:aQ}{u:aC},RD X.K m H v d->RelV v u->∃as,Reads s.heap u (pd d) as
 |_,_,_,.aF,r=>by cases r;exact⟨_,.none⟩
 |_,_,_,.bl b,r=>by cases r;exact⟨_,.bool b⟩
 |_,_,_,.int i,r=>by obtain⟨t,rfl⟩:=r;exact⟨_,.int i t⟩
 |_,_,_,.str x _,r=>by obtain⟨t,rfl⟩:=r;exact⟨_,.str x t⟩
 |_,_,_,.aE h r,q=>by cases q;obtain⟨J,L,⟨o,e1,e2,n,O⟩,_⟩:=I.tuple (h.elim (λq=>.inl q.1) (λ⟨o,J,n,q,_⟩=>.inr ⟨o,J,n,q⟩));obtain⟨as,ra⟩:=lF I r L;exact⟨_,.tuple e1 e2 O (by simpa using ra)⟩
 |_,_,_,.aD h r,q=>by cases q;obtain⟨z,J,n,L,_,e⟩:=rdL I (h.elim (λq=>.inl q.1) .inr);obtain⟨as,ra⟩:=lF I r L;exact⟨_,.list e rfl rfl (by simpa using ra)⟩
theorem lF(I:Inv X zt σ H s):∀{vs:List V}{ds:List aQ}{us:List aC},RDs X.K m H vs ds->dD vs us->∃as,ReadsAll s.heap us (pds ds) as
 |_,_,_,.nil,q=>by cases q;exact⟨_,.nil⟩
 |_,_,_,.cons r t,q=>by
  cases q with
  |cons O L =>
   obtain⟨as,ra⟩:=kN I r O;obtain⟨bs,J⟩:=lF I t L;exact⟨_,.cons ra J⟩
end
def kO(I:Inv X zt σ H s)(r:RR X.K m H v d)(q:RelV v u):∃as,Reads s.heap u (pd d) as:=by
 cases r with
 |d r=>exact kN I r q
 |l h r =>
  cases q;obtain⟨z,L,n,J,_,e⟩:=rdL I (.inl (.inl h));obtain⟨as,ra⟩:=lF I r J;exact⟨_,.list e rfl rfl (by simpa using ra)⟩
def jD(r:RR K m H v d):(pd d).canLay0=ah:=by
 cases r with
 |d r=>exact iN r|l h r=>simp only[pd,PyData.canLay0];exact jR r
def uf(h:BT.fk x y=ah):min (pd x).depth (pd y).depth<=100:=by
 unfold BT.fk at h;rcases W9 _ _ ▸ h with h|h
 have:=lE 100 x h;lia;have:=lE 100 y h;lia
def jS(e:bH o x y h=aa (z,h')):
 (∃kvs b,y=.k kvs/\BT.inK o x kvs=aa b/\z=.p (.bl b)/\h'=h)\/∃d d' b,bw x h=aa d/\bw y h=aa d'/\BT.gR o d d'=aa b/\z=.p (.bl b)/\h'=h:=by
 unfold bH at e;split at e
 ·rename_i kvs;obtain⟨b,e1,e2⟩:=dH e;cases e2;exact .inl ⟨kvs,b,rfl,e1,rfl,rfl⟩
 ·refine .inr ?_;cases e1:bw x h with
  |none=>rw[e1]at e;exact cX e
  |some d =>
   cases e2:bw y h with
   |none=>rw[e1,e2]at e;exact cX e
   |some d' =>
    rw[e1,e2]at e;obtain⟨q,eq,J⟩:=dH e;cases J;exact⟨d,d',q,rfl,rfl,eq,rfl,rfl⟩
def PJ(l:X.A.units+150<cLine):OpR X (Wj .Eq) (rOp X.prog X.w X.K (bH .eq)):=by
 intro i s g H v u j k Q I Y Z h;obtain⟨m,h,x,y,z,n,R,W,V,e,U⟩:=h;rcases jS e with⟨f,b,rfl,e1,_,_⟩|⟨d,d',b,e1,e2,J,rfl,rfl⟩
 exact bO e1 (BT.qh rfl)
 ·have O:=fh R W e1;have L:=fh R V e2;rw[BT.o8]at J;obtain⟨c,J⟩:=dG J;cases J;obtain⟨o,ra⟩:=kO I O Y;obtain⟨bs,a⟩:=kO I L Z;have:=uf c;refine SeqAt.compareEq_reads ra a (jD O) (jD L) (by lia) ?_;rw[qv];exact⟨.bl _,H,I,rfl,U.here R (.bl _)⟩
def PK(l:X.A.units+150<cLine):OpR X (Wj .NotEq) (rOp X.prog X.w X.K (bH .ne)):=by
 intro i s g H v u j k Q I Y Z h;obtain⟨m,h,x,y,z,n,R,W,V,e,U⟩:=h;rcases jS e with⟨f,b,rfl,e1,_,_⟩|⟨d,d',b,e1,e2,J,rfl,rfl⟩
 exact bO e1 (BT.qh rfl)
 ·have O:=fh R W e1;have L:=fh R V e2;rw[BT.o9]at J;obtain⟨c,J⟩:=dG J;cases J;obtain⟨o,ra⟩:=kO I O Y;obtain⟨bs,a⟩:=kO I L Z;have:=uf c;refine SeqAt.compareNe_reads ra a (jD O) (jD L) (by lia) ?_;rw[qv];exact⟨.bl _,H,I,rfl,U.here R (.bl _)⟩
noncomputable def PL:BT.Cm->Bool
 |.lt=>ah|.le=>ah|.gt=>ah|.ge=>ah|_=>ak
def GX{o:BT.Cm}{d d':aQ}{b:Bool}(J:PL o=ah)(e:BT.gR o d d'=aa b):∃i j,d=.int i/\d'=.int j:=by cases o<;>first|exact aU J|(cases d<;>first|exact cX e|(cases d'<;>first|exact cX e|exact⟨_,_,rfl,rfl⟩))
def ug{o:BT.Cm}{c:CmpOp}{f:Int->Int->Bool}(Z:OpR X (Wj c) (rI0 λi j=>.bl (f i j)))(g:PL o=ah)(k:BT.memC o=ak)(l:∀i j,BT.gR o (.int i) (.int j)=aa (f i j)):OpR X (Wj c) (rOp X.prog X.w X.K (bH o)):=by
 intro L s J H v u n p Q I W Y h;obtain⟨m,h,x,y,z,q,R,V,U,e,O⟩:=h;rcases jS e with⟨a,b,rfl,e1,_,_⟩|⟨d,d',b,e1,e2,e3,rfl,rfl⟩
 exact bO e1 (BT.qh k)
 ·obtain⟨i,j,rfl,rfl⟩:=GX g e3;rw[l]at e3;cases e3;cases (fh R V e1).int;cases (fh R U e2).int;exact Z L s J H _ _ _ _ Q I W Y ⟨_,_,rfl,rfl,O.here R (.bl _)⟩
def zc(r:RR K m H v d):decide (v=.aF)=BT.kr d:=by
 cases r with
 |d r=>cases r<;>rfl|l h r=>rfl
def GY{v:V}{d:aQ}{u:aC}{b:Bool}(r:RR K m H v d)(J:RelV v u):isSame u (.bool b)=pure (BT.tO b d):=by
 cases r with
 |d r=>cases r<;>first|(cases J;cases b<;>first|rfl|(rename_i c;cases c<;>rfl))|(obtain⟨t,rfl⟩:=J;cases b<;>rfl)
 |l h r=>cases J;rfl
def Lq:OpR X (Wj .Is) (rOp X.prog X.w X.K (bH .isN)):=by
 intro L s J H v u f g Q I W Y h;obtain⟨m,h,x,y,z,i,R,V,U,e,O⟩:=h;rcases jS e with⟨c,b,rfl,e1,_,_⟩|⟨d,d',b,e1,e2,e3,rfl,rfl⟩
 exact bO e1 (BT.qh rfl)
 ·have a:=fh R V e1;have Z:=fh R U e2;cases d'<;>first|exact cX e3|simp only[BT.mS,BT.pq,BT.pA,BT.mT,BT.kK,BT.lB,BT.iQ,BT.jM,BT.jb,BT.g7]at e3
  cases e3;cases Z.aF;refine Kp L s J H _ _ _ _ Q I W Y ⟨rfl,?_⟩;rw[zc a];exact O.here R (.bl _)
def GZ:OpR X (Wj .IsNot) (rOp X.prog X.w X.K (bH .notN)):=by
 intro Y s W H v u f g Q I L O h;obtain⟨m,h,x,y,z,i,R,a,Z,e,J⟩:=h;rcases jS e with⟨c,b,rfl,e1,_,_⟩|⟨d,d',b,e1,e2,e3,rfl,rfl⟩
 exact bO e1 (BT.qh rfl)
 ·have V:=fh R a e1;have U:=fh R Z e2;cases d'<;>first|exact cX e3|simp only[BT.mS,BT.pq,BT.pA,BT.mT,BT.kK,BT.lB,BT.AR,BT.iQ,BT.jM,BT.jb,BT.g7]at e3
  ·cases e3;cases U.aF;refine Gf Y s W H _ _ _ _ Q I L O ⟨rfl,?_⟩;rw[zc V];exact J.here R (.bl _)
  ·cases e3;cases U.bl;cases O;exact Vf (wpAny_of_eq (GY V L) (ay ⟨.bl _,H,I,rfl,J.here R (.bl _)⟩))
open Classical in
def fV(h:av)(dx:PyData)(y:aC):Bool:=if q:∃J L,Reads h y J L/\J.canLay0=ah then PyData.eqv (Classical.choose q) dx else ak
def xR(r:Reads h y J as)(c:J.canLay0=ah):fV h dx y=PyData.eqv J dx:=by have q:∃J as,Reads h y J as/\J.canLay0=ah:=⟨J,as,r,c⟩;unfold fV;rw[dif_pos q];obtain⟨O,L,U⟩:=Classical.choose_spec q;rw[SeqAt.Reads.unique _ _ _ _ _ c r L]
theorem mZ(I:Inv X zt σ H s):∀{vs:List V}{ds:List aQ}{us:List aC},RDs X.K m H vs ds->dD vs us->us.any (fV s.heap (pd d))=ds.any λy=>aY y d
 |_,_,_,.nil,q=>by cases q;rfl
 |_,_,_,.cons r t,q=>by
  cases q with
  |cons L J =>
   obtain⟨O,ra⟩:=kN I r L;rw[List.any_cons,List.any_cons,mZ I t J,xR ra (iN r),qv]
theorem jT(Z:X.A.units+150<cLine)(I:Inv X zt σ H s)(L:RR X.K m H v d)(O:RelV v u):∀{vs:List V}{ds:List aQ}{us:List aC},RDs X.K m H vs ds->dD vs us->(ds.all λy=>BT.fk y d)=ah →
 ∀y∈us,SeqAt.EqAt X.A.in1 s y u (fV s.heap (pd d) y)
 |_,_,_,.nil,q,_=>by cases q;intro y J;simp at J
 |_,_,_,.cons r t,q,c=>by
  cases q with
  |cons Y W =>
   rw[List.all_cons,Vg]at c;intro y J;rcases List.mem_cons.mp J with rfl|J
   ·obtain⟨a,ra⟩:=kN I r Y;obtain⟨bs,U⟩:=kO I L O;rw[xR ra (iN r)];have:=uf c.1;refine SeqAt.eqAt_reads _ _ _ _ _ _ _ _ ra U (iN r) (jD L) ?_;show X.A.units+1+_<_;lia
   exact jT Z I L O t W c.2 y J
def Lr(r:X.A.units+150 < cLine)(B:∀ {kvs:BT.Kd}{x:aP}{b:Bool}{m:List aB}{H:Hp}{v u:V}{W Y:aC}{zt σ s Q},Inv X zt σ H s->RelV v W->RelV u Y->RW X.prog X.w X.K m H v x->RW X.prog X.w X.K m H u (.k kvs)->BT.inK .mem x kvs=aa b->Q (V.bl b) H →
 az (VC X.prog X.w) X.A (Wj .In W Y) (EP X zt σ Q) X.xe s):OpR X (Wj .In) (rOp X.prog X.w X.K (bH .mem)):=by
 intro zt s σ H v u W Y Q I Z f h;obtain⟨m,h,x,y,z,C,R,o,l,e,U⟩:=h;rcases jS e with⟨kvs,b,rfl,e1,rfl,rfl⟩|⟨d,d',b,e1,e2,L,rfl,rfl⟩
 exact B I Z f o l e1 (U.here R (.bl _))
 ·have q:=fh R o e1;have p:=fh R l e2;cases d'<;>first|exact cX L|simp only[BT.mS,BT.pq,BT.pA,BT.mT,BT.kK,BT.lB,BT.iQ,BT.jM,BT.jb,BT.g7]at L
  ·obtain⟨c,L⟩:=dG L;cases L;obtain⟨a,t,rfl,j,ra⟩:=p.aE;cases f;obtain⟨J,O,g,_⟩:=I.tuple j;refine SeqAt.in_tupleAt (fV s.heap (pd d)) g (λy i=>jT r I q Z ra O c y (by simpa using i)) ⟨.bl _,H,I,rfl,?_⟩;rw[show J.toArray.any (fV s.heap (pd d))=J.any (fV s.heap (pd d)) by simp,mZ I ra O];exact U.here R (.bl _)
  ·obtain⟨c,L⟩:=dG L;cases L;obtain⟨a,t,rfl,j,ra⟩:=p.aD;cases f;obtain⟨z,J,n,O,_,g⟩:=rdL I j;refine SeqAt.in_listAt (fV s.heap (pd d)) ⟨_,g,rfl,_,rfl⟩ (λy i=>jT r I q Z ra O c y (by simpa using i)) ⟨.bl _,H,I,rfl,?_⟩;rw[show J.toArray.any (fV s.heap (pd d))=J.any (fV s.heap (pd d)) by simp,mZ I ra O];exact U.here R (.bl _)
def G0(r:X.A.units+150 < cLine)(B:∀ {kvs:BT.Kd}{x:aP}{b:Bool}{m:List aB}{H:Hp}{v u:V}{W Y:aC}{zt σ s Q},Inv X zt σ H s->RelV v W->RelV u Y->RW X.prog X.w X.K m H v x->RW X.prog X.w X.K m H u (.k kvs)->BT.inK .nmem x kvs=aa b->Q (V.bl b) H →
 az (VC X.prog X.w) X.A (Wj .NotIn W Y) (EP X zt σ Q) X.xe s):OpR X (Wj .NotIn) (rOp X.prog X.w X.K (bH .nmem)):=by
 intro zt s σ H v u W Y Q I Z f h;obtain⟨m,h,x,y,z,C,R,o,l,e,U⟩:=h;rcases jS e with⟨kvs,b,rfl,e1,rfl,rfl⟩|⟨d,d',b,e1,e2,L,rfl,rfl⟩
 exact B I Z f o l e1 (U.here R (.bl _))
 ·have q:=fh R o e1;have p:=fh R l e2;cases d'<;>first|exact cX L|simp only[BT.mS,BT.pq,BT.pA,BT.mT,BT.kK,BT.lB,BT.iQ,BT.jM,BT.jb,BT.g7]at L
  ·obtain⟨c,L⟩:=dG L;cases L;obtain⟨a,t,rfl,j,ra⟩:=p.aE;cases f;obtain⟨J,O,g,_⟩:=I.tuple j;refine SeqAt.notIn_tupleAt (fV s.heap (pd d)) g (λy i=>jT r I q Z ra O c y (by simpa using i)) ⟨.bl _,H,I,rfl,?_⟩;rw[show J.toArray.any (fV s.heap (pd d))=J.any (fV s.heap (pd d)) by simp,mZ I ra O];exact U.here R (.bl _)
  ·obtain⟨c,L⟩:=dG L;cases L;obtain⟨a,t,rfl,j,ra⟩:=p.aD;cases f;obtain⟨z,J,n,O,_,g⟩:=rdL I j;refine SeqAt.notIn_listAt (fV s.heap (pd d)) ⟨_,g,rfl,_,rfl⟩ (λy i=>jT r I q Z ra O c y (by simpa using i)) ⟨.bl _,H,I,rfl,?_⟩;rw[show J.toArray.any (fV s.heap (pd d))=J.any (fV s.heap (pd d)) by simp,mZ I ra O];exact U.here R (.bl _)
end
section
variable{P:Vy}{w:VQ}{K:Ve}{m m':List aB}{H H':Hp}
def A9(e:p.1=k):bJ (p::r) k=aa p.2:=by simp[bJ,W7,e]
def Ba(e:¬p.1=k):bJ (p::r) k=bJ r k:=by simp[bJ,W7,e]
def RKs.get(r:RKs K m H vs kvs)(k:Key):(bJ kvs k=af/\vo vs k=af)\/∃v d,bJ kvs k=aa d/\vo vs k=aa v/\RD K m H v d:=by
 induction r with
 |nil=>exact .inl ⟨rfl,rfl⟩
 |@cons j v d vs kvs L r t J =>
  by_cases c:j=k
  exact .inr ⟨v,d,A9 c,vp c,r⟩;rw[Ba (p:=(j,d)) c,vq (p:=(j,v)) c];exact J
def DJ(r:RD K m H v d)(e:BT.rG d=aa k):v=kV k:=by cases r<;>cases e<;>rfl
inductive DK(X:Cx)(m:List aB)(H:Hp)(s:Vh)(a:aB)(kvs:List (BT.Ky×aQ))(k:Key):Prop
 |no(vs:List (Key×aC))(d:s.heap.DictOf (dO X.prog X.w) a vs)(n:(a==X3)=ak)(e1:bJ kvs k=af)(e2:valueAt vs k=af):DK X m H s a kvs k
 |is(vs:List (Key×aC))(d:s.heap.DictOf (dO X.prog X.w) a vs)(n:(a==X3)=ak)(x:aQ)(v:V)(u:aC)(e1:bJ kvs k=aa x)(e2:valueAt vs k=aa u)(r:RelV v u)(q:RD X.K m H v x):DK X m H s a kvs k
def xS(I:Inv X zt σ H s)(h:Rd H a (.dK ws))(Y:RKs X.K m H ws kvs)(k:Key):DK X m H s a kvs k:=by
 obtain⟨z,W,L,O,dd⟩:=Oz I.aL h;have J:=O.val k;rcases Y.get k with⟨V,U⟩|⟨v,d,V,U,g3⟩
 ·rw[U]at J;cases e:valueAt L k with
  |none=>exact .no L dd W V e|some u=>rw[e]at J;exact J.elim
 ·rw[U]at J;cases e:valueAt L k with
  |none=>rw[e]at J;exact J.elim|some u=>rw[e]at J;exact .is L dd W d v u V e J g3
end
section
variable{prog:Vy}{w:VQ}{A:V9}{E:aC->Vh->Prop}{s:Vh}
def Bb{Q:Int->Vh->Prop}(h:Q 4238894112 {s with toks:=s.toks+1}):az (VC prog w) A (pyHash .none) Q E s:=by show az _ _ (pyHashByItsType .none) _ _ _;refine PySem.W.pyHash_slot (T:="NoneType") (typeIs_none s) PySem.F.slot_NoneType_hash PySem.F.entry_NoneType_hash (PySem.F.args_NoneType_hash_1 _) (by decide) (.inl rfl) ?_;show az _ _ (slotArgs "__hash__" 0 ⟨[WX],[]⟩ >>= λ_=>retInt 4238894112) _ _ _;rw[slotArgs.eq_1];refine Vf (ay ?_);unfold retInt;refine Vf (wpAny_mkInt ?_);exact ay ⟨_,_,rfl,h⟩
end
def DL:Option Key->aC->Bool
 |none,.none=>ah|none,_=>ak|some k,v=>kq k v
def jU{v:aC}(h:DL af v=ah):v=.none:=by cases v<;>first|rfl|(exfalso;exact V0 h)
def DM(a b:Key):decide (aa a=aa b)=decide (a=b):=by simp
def optKind(prog:Vy)(w:VQ):PySem.KeyKind prog w (Option Key) where
 is:=DL
 hash:=λk=>match k with|none=>4238894112|some k=>NS w k
 inj:=λv a b L J=>by
  cases a with
  |none =>
   cases jU L;cases b with
   |none=>rfl
   |some b=>rcases dN (show kq b .none=ah from J)with⟨i,t,rfl,e⟩|⟨x,t,rfl,e⟩<;>exact nomatch e
  |some a =>
   cases b with
   |none =>
    cases jU J;rcases dN (show kq a .none=ah from L)with⟨i,t,rfl,e⟩|⟨x,t,rfl,e⟩<;>exact nomatch e
   |some b=>rw[(dO prog w).inj v a b L J]
 byValue:=λk v h=>by
  cases k with
  |none=>cases jU h;rfl|some k=>exact(dO prog w).byValue k v h
 pyHash:=λ{A E s k v Q} hv h=>by
  cases k with
  |none=>cases jU hv;exact Bb h|some k=>exact(dO prog w).pyHash (k:=k) hv h
 eqBool:=λ{A E s a b u v Q} hu hv h=>by
  cases a with
  |none =>
   cases jU hu;cases b with
   |none=>cases jU hv;exact SeqAt.EqAt.same _ _ _ _ _ (by simpa using h)
   |some b =>
    have h:Q ak s:=by simpa using h
    rcases dN (show kq b v=ah from hv)with⟨i,t,rfl,rfl⟩|⟨x,t,rfl,rfl⟩
    exact SeqAt.EqAt.none_int i t _ _ _ _ h;exact SeqAt.EqAt.none_str x t _ _ _ _ h
  |some a =>
   cases b with
   |none =>
    cases jU hv;have h:Q ak s:=by simpa using h
    rcases dN (show kq a u=ah from hu)with⟨i,t,rfl,rfl⟩|⟨x,t,rfl,rfl⟩
    exact SeqAt.EqAt.int_none i t _ _ _ _ h;exact SeqAt.EqAt.str_none x t _ _ _ _ h
   |some b=>rw[DM]at h;exact(dO prog w).eqBool (a:=a) (b:=b) hu hv h
 «strs»:=λk x t v h=>by
  cases k with
  |none=>exact nomatch jU h
  |some k=>exact(dO prog w).strs k x t v h
def map_none{prog:Vy}{w:VQ}{h:av}{a:aB}{vs:List (Key×aC)}(dd:h.DictOf (dO prog w) a vs):∃f,h.MapOf (optKind prog w) a f/\f af=af:=by
 obtain⟨o,L,b,W,V,Y,U,_⟩:=dd;refine⟨λk=>findBy DL L k,⟨o,L,b,W,V,Y,λe O=>?_,λk=>rfl⟩,?_⟩
 ·obtain⟨k,J,Z⟩:=U e O;exact⟨aa k,J,Z⟩
 ·show(Array.find? (λe=>DL af e.key) L).map (·.val)=af;have:Array.find? (λe=>DL af e.key) L=af:=by rw[Array.find?_eq_none];intro e O q;obtain⟨k,J,_⟩:=U e O;rw[jU q]at J;rcases dN (show kq k .none=ah from J)with⟨i,t,rfl,e⟩|⟨x,t,rfl,e⟩<;>exact nomatch e
  rw[this];rfl
section
def RDs.atI{K:Ve}(r:RDs K m H vs ds)(e:BT.atP ds i=aa d):∃v,L2.atI vs i=aa v/\RD K m H v d:=by unfold BT.atP at e;unfold L2.atI;obtain⟨j,U,O⟩:=Option.bind_eq_some_iff.mp e;obtain⟨v,L,J⟩:=r.get O;refine⟨v,?_,J⟩;rw[r.length];show((BT.place ds.length i).bind λj=>vs[j]?)=aa v;rw[U];exact L
def G1{x y:aP}{h:aO}{z:aP}{h':aO}(e:BT.GJ x y h=aa (z,h')):
 (∃kvs k d,x=.k (.t kvs)/\y=.p (.str k)/\BT.fS k kvs=aa d/\z=.p d/\h'=h)\/(∃kvs e k d,x=.k (.l kvs)/\y=.p e/\BT.rG e=aa k/\bJ kvs k=aa d/\z=.p d/\h'=h)\/∃d d' b,bw x h=aa d/\bw y h=aa d'/\BT.dZ d d'=aa b/\z=.p b/\h'=h:=by
 unfold BT.GJ at e;split at e
 ·rename_i kvs;obtain⟨b,e1,e2⟩:=dH e;cases e2;cases kvs with
  |t kvs =>
   cases y with
   |p d =>
    cases d with
    |str x=>exact .inl ⟨kvs,_,b,rfl,rfl,e1,rfl,rfl⟩|_=>exact cX e1
   |_=>exact cX e1
  |l kvs =>
   cases y with
   |p d =>
    obtain⟨k,L,J⟩:=Option.bind_eq_some_iff.mp (show(BT.rG d).bind (bJ kvs)=aa b from e1);exact .inr (.inl ⟨kvs,d,k,b,rfl,rfl,L,J,rfl,rfl⟩)
   |_=>exact cX e1
 ·refine .inr (.inr ?_);cases e1:bw x h with
  |none=>rw[e1]at e;exact cX e
  |some d =>
   cases e2:bw y h with
   |none=>rw[e1,e2]at e;exact cX e
   |some d' =>
    rw[e1,e2]at e;obtain⟨q,eq,O⟩:=dH e;cases O;exact⟨d,d',q,rfl,rfl,eq,rfl,rfl⟩
theorem DN{K:Ve}:∀{es:List (aA×V)}{kvs:List (aA×aQ)}{vs:List (Key×aC)},RDk K es kvs->KV (es.map λq=>((Sum.inr q.1:Key),q.2)) vs->BT.fS k kvs=aa d →
 ∃u v,valueAt vs (Sum.inr k)=aa u/\RelV v u/\∀m H,RD K m H v d
 |_,_,_,.nil,_,e=>by simp[BT.fS]at e
 |_,_,_,@RDk.cons _ x v dd es kvs r t,q,e=>by
  cases q with
  |@cons p z i h Z Y =>
   obtain⟨g,U⟩:=z;obtain⟨L,J⟩:=Z;simp only at L J;subst L;rw[BT.fS]at e
   by_cases c:k=x
   ·rw[bM c]at e;cases e;subst c;exact⟨U,v,by simp[valueAt],J,r⟩
   ·rw[bN c]at e;obtain⟨u,W,O,f,b⟩:=DN t Y e;refine⟨u,W,?_,f,b⟩;have a:¬((Sum.inr x:Key)=Sum.inr k):=λz=>c (Sum.inr.inj z).symm;simp only[valueAt]at O⊢;rw[YU (by simpa using a)];exact O
def Bc(h:PyData.strOk x=ah)(hc:c∈x.cps.toList):PyData.strOk ⟨#[c]⟩=ah:=by simp only[PyData.strOk,Array.all_eq_true_iff_forall_mem]at h⊢;intro y J;simp at J;subst J;exact h y (by simpa using hc)
def Ls:IxR X (rOp X.prog X.w X.K BT.GJ):=by
 intro J L g s f H v u v' P Q I W Y h Z;obtain⟨m,h,x,y,z,h',R,i,O,e,U⟩:=h;rcases G1 e with⟨B,k,d,rfl,rfl,e1,rfl,rfl⟩|⟨B,e',k,d,rfl,rfl,e0,e1,rfl,rfl⟩|⟨d,d',b,e1,e2,e3,rfl,rfl⟩
 ·cases i with
  |@k a es _ T l =>
   cases W;cases O with
   |p O =>
    cases O with
    |str _ ok =>
     obtain⟨t,rfl⟩:=Y;obtain⟨hm,V,S,dd⟩:=T;obtain⟨w',z,G,E,h3⟩:=DN l S e1;have D:=dd s.heap I.kIn;refine abx (ops:=[.ref a,.str k t]) D.typeIs slot_dict_getitem.lookup ?_ Z;exact wpAny_getItem_of (knd:=dO X.prog X.w) (i9 _ _ k t) D.mapOf G ⟨z,H,I.tok _,E,U.here R (h3 _ _)⟩
 ·cases i with
  |@kl a ob ws _ hh l =>
   cases W;cases O with
   |p O =>
    have ek:=DJ O e0;subst ek;cases xS I (.inr ⟨_,hh.1⟩) l k with
    |no _ _ _ F _=>rw[F]at e1;exact cX e1
    |is V dd n x N u1 F g2 g3 g4 =>
     rw[F]at e1;cases e1;refine abx (ops:=[.ref a,P]) dd.typeIs slot_dict_getitem.lookup ?_ Z;exact wpAny_getItem_of (knd:=dO X.prog X.w) (CO Y) dd.mapOf g2 ⟨N,H,I.tok _,g3,U.here R g4⟩
 ·have q:=fh R i e1;have o:=fh R O e2;cases d<;>cases d'<;>first|exact cX e3|simp only[BT.jL,BT.dP,BT.kJ]at e3
  ·split at e3
   ·rename_i c;obtain⟨cc,M,e5⟩:=dH e3;subst e5;obtain⟨rfl,ok⟩:=q.str;cases o.int;have:=gf;refine Kz J L g s f H _ _ _ _ Q I W Y ⟨_,_,cc,rfl,rfl,by lia,M,U.here R (.str _ (Bc ok ?_))⟩ Z;obtain⟨j,G,E⟩:=Option.bind_eq_some_iff.mp M;exact Vz E
   exact cX e3
  ·obtain⟨a,V,rfl,C,ra⟩:=q.aE;cases o.int;obtain⟨z,A,r⟩:=ra.atI e3;exact Kx J L g s f H _ _ _ _ Q I W Y ⟨a,V,_,z,rfl,rfl,C,A,U.here R r⟩ Z
  ·obtain⟨a,V,rfl,C,ra⟩:=q.aD;cases o.int;obtain⟨z,A,r⟩:=ra.atI e3;exact yQ J L g s f H _ _ _ _ Q I W Y ⟨a,V,_,z,rfl,rfl,C.sq,A,U.here R r⟩ Z
def m6(n d:Nat)(o:Option Int):BT.clip n d o=HT.sIx n d o:=by
 cases o with
 |none=>rfl
 |some v =>
  simp only[BT.clip,HT.sIx];split;rfl
  ·split;lia;lia
def rJ{E:aC->Vh->Prop}{lo:Option Int}(J:IsTup s.heap t items)(W:s.heap.IsSliceOf sl vl vu .none)(pl:aaE vl lo)(Y:aaE vu hi)
(hw:HT.sIx items.size 0 lo=0/\HT.sIx items.size items.size hi=items.size)(h:Q (.ref t) s):az (VC prog w) A (aar (.ref t) (.ref sl)) Q E s:=by
 obtain⟨os,L,U,Z⟩:=id W;have V:s.TypeIs (.ref sl) "slice":=⟨os,L,U⟩;unfold aar
 try with_reducible refine V3 ?_
 first|refine Vf (ay ?_)|skip
 refine Vf (wpAny_sequenceKey J.typeIs (by decide) ?_);refine Vf (WZ (name:=Vu "__getitem__") J.typeIs WH
  (XC WH J.typeIs entry_tuple_getitem ?_ (args_tuple_getitem _ _)))
 show az _ _ (Zg (.ref t) >>= _) _ _ s;refine Vf (tupleItemsOf_ J ?_);refine Vf (X8 V ?_);rw[bM (by decide)];refine Vf (HT.jA W pl Y ?_);have O:(((HT.sIx items.size 0 lo:Nat):Int)==0&&(1:Int)==1&&(HT.sIx items.size items.size hi-HT.sIx items.size 0 lo)==items.size)=ah:=by rw[hw.1,hw.2];simp
 show az _ _ (if(((HT.sIx items.size 0 lo:Nat):Int)==0&&(1:Int)==1&&(HT.sIx items.size items.size hi-HT.sIx items.size 0 lo)==items.size)=ah then _ else _) _ _ s;rw[bM O];unfold Builtin.Tuple.tupleIsExact;refine Vf (Vf (X8 J.typeIs (ay ?_)));rw[bM (by decide)];refine Vf (aam ?_)
 first
  |exact ay ⟨_,rfl,ay h⟩
  |exact ay ⟨_,rfl,h⟩
  |exact Vf (ay (ay ⟨_,rfl,ay h⟩))
inductive rSl(P:Vy)(w:VQ)(K:Ve)(v:V)(lo hi:Option Int)(H:Hp)(Q:VK):Prop
 |mk(m:List aB)(h:aO)(x:aP)(d b:aQ)(R:RH K m H h)(J:RW P w K m H v x)(e:bw x h=aa d)(e2:BT.oO d lo hi=aa b)(p:Post P w K m H (.p b) h Q):rSl P w K v lo hi H Q
def RDs.cut{K:Ve}(r:RDs K m H vs ds)(lo hi:Option Int):RDs K m H (vm vs lo hi) (BT.cut ds lo hi):=by unfold vm BT.cut;rw[m6,m6,r.length];exact(r.drop _).take _
def Bd{lo:Option Int}(h1:HT.sIx ds.length 0 lo=0)(h2:HT.sIx ds.length ds.length hi=ds.length):BT.cut ds lo hi=ds:=by unfold BT.cut;rw[m6,m6,h1,h2];simp
def osl:SlR X (rSl X.prog X.w X.K):=by
 intro i s g H v y k j lo L l Q I n e Y W h;obtain⟨m,h,x,d,b,R,q,e1,e2,U⟩:=h;have V:=fh R q e1;cases d<;>simp only[BT.oO]at e2<;>try contradiction
 ·cases e2;obtain⟨a,J,rfl,O,ra⟩:=V.aE;cases n
  by_cases c:HT.sIx J.length 0 lo=0/\HT.sIx J.length J.length L=J.length
  ·obtain⟨Z,t,o,_⟩:=I.tuple O;have u:Z.toArray.size=J.length:=by rw[Vl];exact t.length.symm
   refine⟨"tuple",_,PyProof.Rows.slot_tuple_getitem.lookup,o.typeIs,rJ o e Y W (by rw[u];exact c) ⟨.ref a,H,I,rfl,?_⟩⟩;cases V with
   |d r =>
    refine U.here R ?_;rw[Bd (by rw[←ra.length];exact c.1) (by rw[←ra.length];exact c.2)];exact r
  exact Kw i s g H (.ref a) (.ref a) k j lo L l Q I rfl e Y W ⟨a,J,rfl,O,c,λp f=>mY R f (ra.cut lo L) U⟩
 ·cases e2;obtain⟨a,J,rfl,O,ra⟩:=V.aD;exact Gv i s g H _ _ k j lo L l Q I n e Y W ⟨a,J,rfl,O.sq,λp f=>jQ R f (ra.cut lo L) U⟩
end
def vM(m:BT.Me)(d:aQ)(as:List aP)(h:aO):aW m (.p d) as h=(match bA as with|some ds=>(BT.meD m d ds).map λx=>(.p x,h)|none=>af):=by cases m<;>rfl
section
inductive rMe(P:Vy)(w:VQ)(K:Ve)(me:BT.Me)(v:V)(vs:List V)(H:Hp)(Q:VK):Prop
 |mk(m:List aB)(h:aO)(x:aP)(ws:List aP)(z:aP)(h':aO)(R:RH K m H h)(J:RW P w K m H v x)(rs:RWs P w K m H vs ws)(e:aW me x ws h=aa (z,h'))(p:Post P w K m H z h' Q):rMe P w K me v vs H Q
def getD_some{J:Type}{xs:List J}{n:Nat}{a:J}(h:xs[n]?=aa a):n<xs.length:=by
 rcases VD n xs.length with z|z
 exact z;rw[Vs z]at h;exact cX h
def Be:MtR X "list.append" (rMe X.prog X.w X.K .append):=by
 intro Y s W H v l o q Q I j U h;obtain⟨m,h,x,f,z,A,R,i,O,e,Z⟩:=h;cases x with
 |p d=>cases f with
  |nil=>exact cX e|cons _ _=>rw[vM]at e;split at e<;>(try exact cX e)
 |r n =>
  cases O with
  |nil=>(first|exact cX e|simp[aW]at e)
  |@cons y k _ _ J t =>
   cases t with
   |cons _ _=>cases J<;>(first|exact cX e|simp[aW]at e)
   |nil =>
    cases J with
    |p J =>
     rw[BT.l7]at e;cases g:bz h n with
     |none=>rw[g]at e;exact cX e
     |some b =>
      rw[g]at e;simp only at e;obtain⟨c,e⟩:=dG e;cases e;cases i with
      |@r a _ hn =>
       obtain⟨L,V,r⟩:=R.cell n a b hn g;have:=gf;have u:=r.length;exact r6 Y s W H _ _ _ _ Q I j U ⟨a,L,y,rfl,rfl,V,by lia,Z _ _ m (iR (Vz hn) V) (R.set hn V (r.append (.cons J .nil))) (.p .aF)⟩
    |_=>(first|exact cX e|simp[aW]at e)
 |_=>(first|exact cX e|simp[aW]at e)
def DO{J:Type}{xs:List J}{d:J}(h:xs.getLast?=aa d):xs[xs.length-1]?=aa d:=by rw[←List.getLast?_eq_getElem?];exact h
def Lu:MtR X "list.pop" (rMe X.prog X.w X.K .pop):=by
 intro b s Z H v q t u Q I k O h;obtain⟨m,h,x,f,z,A,R,j,L,e,c⟩:=h;cases x with
 |p d=>cases f with
  |nil=>exact cX e|cons _ _=>rw[vM]at e;split at e<;>(try exact cX e)
 |r n =>
  cases L with
  |cons _ _=>(first|exact cX e|simp[aW]at e)
  |nil =>
   rw[BT.GI]at e;cases g:bz h n with
   |none=>rw[g]at e;exact cX e
   |some W =>
    rw[g]at e;simp only at e;cases V:W.getLast? with
    |none=>rw[V]at e;exact cX e
    |some d =>
     rw[V]at e;cases e;cases j with
     |@r a _ hn =>
      obtain⟨J,U,r⟩:=R.cell n a W hn g;have o:=r.length;obtain⟨y,l,i⟩:=r.get (DO V);have Y:Ext m H m (upd H a (.aD J.dropLast)):=iR (Vz hn) U;exact KC b s Z H _ _ _ _ Q I k O ⟨a,J,y,rfl,rfl,U,by rw[o];exact l,c _ _ m Y (R.set hn U r.dropLast) (.p (i.ext Y))⟩
 |_=>(first|exact cX e|simp[aW]at e)
def DP(I:Inv X zt σ H s)(V:H l=aa (.aD xs))(a:LL X.K H b zs)(hz:xs.length+zs.length<=ao)(q:Q .aF (upd H l (.aD (xs++zs)))):
 az (VC X.prog X.w) X.A (call (.builtin "list.extend") [.ref l,.ref b]) (EP X zt σ Q) X.xe s:=by
 obtain⟨z,L,n,r,d,e⟩:=I.Gx V;obtain⟨c,J,Y,W,Z,e2⟩:=rdL I a;have U:L.toArray.size+J.toArray.size<=ao:=by rw[Vl,Vl];lia
 have O:¬(!L.toArray.isEmpty&&Wr (L.toArray.size+J.toArray.size))=ah:=by rw[pS U,Bool.and_false];exact V0
 refine XH F.slot_list_extend ⟨_,e,rfl⟩ F.entry_list_extend (F.args_list_extend_2 _ _)
  (AutoSeq1.list_extend_list_list_0 l L.toArray n b J.toArray Y O (by rw[Vl];lia) (by lia)) ⟨e,e2,?_⟩
 refine⟨.aF,_,I.Gw (its':=L++J) V e (by simp) (r.append W) ?_,rfl,q⟩;rw[VN];lia
def G2(I:Inv X zt σ H s)(Y:H l=aa (.aD xs))(g:SqT X.K H b zs)(hz:xs.length+zs.length<=ao)(q:Q .aF (upd H l (.aD (xs++zs)))):
 az (VC X.prog X.w) X.A (call (.builtin "list.extend") [.ref l,.ref b]) (EP X zt σ Q) X.xe s:=by
 obtain⟨z,L,n,r,i,e⟩:=I.Gx Y;obtain⟨J,V,c,_⟩:=I.tuple g;obtain⟨⟨h,dd,Z,a⟩,e2,hc,d,W⟩:=id c;simp only at hc W;subst hc W;have f:=V.length;have U:L.toArray.size+J.toArray.size<=ao:=by rw[Vl,Vl];lia
 have O:¬(!L.toArray.isEmpty&&Wr (L.toArray.size+J.toArray.size))=ah:=by rw[pS U,Bool.and_false];exact V0
 refine XH F.slot_list_extend ⟨_,e,rfl⟩ F.entry_list_extend (F.args_list_extend_2 _ _)
  (oU l L.toArray n b J.toArray d dd a O (by rw[Vl];lia) (by lia)) ⟨e,e2,?_⟩
 refine⟨.aF,_,I.Gw (its':=L++J) Y e (by simp) (r.append V) ?_,rfl,q⟩;rw[VN];lia
def Bg:MtR X "list.extend" (rMe X.prog X.w X.K .extend):=by
 intro E s D H v G M N Q I C U h;obtain⟨m,h,x,l,z,S,R,B,O,e,Z⟩:=h;cases x with
 |p d=>cases l with
  |nil=>exact cX e|cons _ _=>rw[vM]at e;split at e<;>(try exact cX e)
 |r n =>
  cases O with
  |nil=>(first|exact cX e|simp[aW]at e)
  |@cons y k _ _ A t =>
   cases t with
   |cons _ _=>(first|exact cX e|simp[aW]at e)
   |nil =>
    rw[BT.xJ]at e;cases g:bz h n with
    |none=>rw[g]at e;exact cX e
    |some j =>
     cases Y:(bw k h).bind BT.tP with
     |none=>rw[g,Y]at e;exact cX e
     |some F =>
      rw[g,Y]at e;simp only at e;obtain⟨c,e⟩:=dG e;cases e;obtain⟨d,e1,e2⟩:=Option.bind_eq_some_iff.mp Y;have i:=fh R A e1;cases B with
      |@r a _ hn =>
       obtain⟨q,J,r⟩:=R.cell n a j hn g;cases C;obtain⟨u,rfl,f⟩:=U.one;have:=gf;have P:=r.length;cases d<;>simp only[BT.tP]at e2<;>try contradiction
       ·cases e2;obtain⟨b,o,rfl,W,L⟩:=i.aE;cases f;have V:=L.length;exact G2 I J W (by lia) (Z _ _ m (iR (Vz hn) J) (R.set hn J (r.append L)) (.p .aF))
       ·cases e2;obtain⟨b,o,rfl,W,L⟩:=i.aD;cases f;have V:=L.length;exact DP I J W (by lia) (Z _ _ m (iR (Vz hn) J) (R.set hn J (r.append L)) (.p .aF))
 |_=>(first|exact cX e|simp[aW]at e)
def RWs.pure{K:Ve}:∀{vs:List V}{ws:List aP}{ds:List aQ},RWs P w K m H vs ws->bA ws=aa ds->RDs K m H vs ds:=by
 intro vs ws
 induction ws generalizing vs with
 |nil =>
  intro ds r e;cases r;cases e;exact .nil
 |cons x ws J =>
  intro ds r e;cases r with
  |cons r t =>
   cases r with
   |p r =>
    simp only[bA]at e;obtain⟨q,e1,e2⟩:=dH e;subst e2;exact .cons r (J t e1)
   |_=>exact cX e
theorem qw:∀{ds:List aQ}{k j:Nat},BT.kI x ds k=aa j->∃i,j=k+i/\∃(hi:i<ds.length),aY ds[i] x=ah/\∀m (J:m<ds.length),m<i->aY ds[m] x=ak
 |[],_,_,e=>by exact cX e
 |y::r,k,j,e=>by
  simp only[BT.kI]at e;split at e
  ·rename_i c;cases e;exact⟨0,rfl,by simp,c,λm _ h=>by lia⟩
  ·rename_i c;obtain⟨i,rfl,hi,U,O⟩:=qw e;refine⟨i+1,by lia,by simp;lia,by simpa using U,λm J L=>?_⟩;cases m with
   |zero=>simpa using c|succ m=>simpa using O m (by simpa using J) (by lia)
theorem pB(I:Inv X zt σ H s):∀{vs:List V}{ds:List aQ}{us:List aC},RDs X.K m H vs ds->dD vs us->∀(i:Nat)(h1:i<us.length)(h2:i<ds.length),fV s.heap (pd d) us[i]=aY ds[i] d
 |_,_,_,.nil,q=>by cases q;intro i h1;simp at h1
 |_,_,_,.cons r t,q=>by
  cases q with
  |cons L J =>
   intro i h1 h2;cases i with
   |zero =>
    obtain⟨O,ra⟩:=kN I r L;simp only[List.getElem_cons_zero];rw[xR ra (iN r),qv]
   |succ i=>simpa using pB I t J i (by simpa using h1) (by simpa using h2)
def Bh(N:X.A.units+150<cLine):MtR X "tuple.index" (rMe X.prog X.w X.K .tindex):=by
 intro zt s σ H v vs v' us Q I C W h;obtain⟨m,h,x,f,z,h',R,U,V,e,t⟩:=h;cases x with
 |r n=>cases f with
  |_=>(first|exact cX e|simp[aW]at e)
 |p d =>
  rw[BT.pW]at e;cases g:bA f with
  |none=>rw[g]at e;exact cX e
  |some ds =>
   rw[g]at e;obtain⟨b,e1,e2⟩:=dH e;cases e2;have rds:=V.pure g;cases d<;>first|exact cX e1|skip
   rename_i xs;cases ds with
   |nil=>exact cX e1
   |cons d0 dr =>
    cases dr with
    |cons _ _=>exact cX e1
    |nil =>
     rw[BT.Df]at e1;split at e1
     ·rename_i c;obtain⟨j,e3,e4⟩:=dH e1;subst e4;obtain⟨i,rfl,T,h1,h2⟩:=qw e3;cases rds with
      |cons E rn =>
       cases rn;obtain⟨u,rfl,D⟩:=W.one;cases U with
       |p U =>
        obtain⟨a,vt,rfl,ha,ra⟩:=RR.aE (.d U);cases C;obtain⟨J,O,G,_⟩:=I.tuple ha;obtain⟨⟨cls,dd,q,B⟩,l,hc,n,o⟩:=id G;simp only at hc o;subst hc o;have hl:=O.length;have P:=ra.length;have Z:i<J.toArray.size:=by rw[Vl];lia
        refine XH F.slot_tuple_index ⟨_,l,rfl⟩ F.entry_tuple_index (F.args_tuple_index_2 _ _)
         (rH a J.toArray n dd B u (fV s.heap (pd d0)) i Z ?_ ?_) ⟨l,?_,?_⟩
        rw[show J.toArray[i]=J[i]'(by lia) by simp,pB I ra O i (by lia) T];exact h1
        ·intro k S Y;have L:k<J.length:=by simpa using S
         rw[show J.toArray[k]=J[k]'L by simp,pB I ra O k L (by lia)];exact h2 k (by lia) Y
        ·intro y M;exact jT N I (.d E) D ra O c y (by simpa using M)
        ·refine⟨.int (((0+i:Nat):Nat):Int),H,I.tok _,⟨s.toks,?_⟩,t.here R (.int _)⟩;simp
     exact cX e1
 |_=>(first|exact cX e|simp[aW]at e)
def Bj:MtR X "str.index" (rMe X.prog X.w X.K .sindex):=by
 intro l s k H v o q A Q I a O h;obtain⟨m,h,x,V,z,B,R,J,L,e,Y⟩:=h;cases x with
 |r n=>cases V with
  |_=>(first|exact cX e|simp[aW]at e)
 |p d =>
  rw[BT.pX]at e;cases g:bA V with
  |none=>rw[g]at e;exact cX e
  |some f =>
   rw[g]at e;obtain⟨b,e1,e2⟩:=dH e;cases e2;have rds:=L.pure g;cases d<;>first|exact cX e1|skip
   cases f with
   |nil=>exact cX e1
   |cons W i =>
    cases i with
    |cons _ _=>cases W<;>exact cX e1
    |nil =>
     cases W<;>first|exact cX e1|skip
     rename_i x y;rw[BT.KU]at e1;cases U:Yl x y 0 x.length 1 with
     |nil=>rw[U]at e1;exact cX e1
     |cons j rest =>
      rw[U]at e1;cases e1;cases rds with
      |cons c rn =>
       cases rn;cases c;obtain⟨u,rfl,Z,rfl⟩:=O.one;cases J with
       |p J =>
        cases J;obtain⟨t,rfl⟩:=a;exact call_gives F.slot_str_index (typeIs_str s x t) F.entry_str_index (F.args_str_index_2 _ _) (gives_str_index x y t Z j rest U) ⟨.int j,H,I.tok _,⟨_,rfl⟩,Y.here R (.int _)⟩
 |_=>(first|exact cX e|simp[aW]at e)
end
section
inductive rBi(P:Vy)(w:VQ)(K:Ve)(b:BT.Bi)(mu:Bool)(vs:List V)(H:Hp)(Q:VK):Prop
 |mk(m:List aB)(h:aO)(ws:List aP)(z:aP)(h':aO)(R:RH K m H h)(rs:RWs P w K m H vs ws)(e:BT.kBi b mu ws h=aa (z,h'))(p:Post P w K m H z h' Q):rBi P w K b mu vs H Q
inductive RRs(K:Ve)(m:List aB)(H:Hp):List V->List aQ->Prop
 |nil:RRs K m H [] []
 |cons{v:V}{d:aQ}{vs:List V}{ds:List aQ}(r:RR K m H v d)(t:RRs K m H vs ds):RRs K m H (v::vs) (d::ds)
theorem iS{K:Ve}(R:RH K m H h):∀{vs:List V}{ws:List aP}{ds:List aQ},RWs P w K m H vs ws->aV ws h=aa ds->RRs K m H vs ds
 |_,_,_,.nil,e=>by cases e;exact .nil
 |_,_,_,.cons r t,e=>by simp only[aV]at e;obtain⟨d,e1,e2⟩:=Option.bind_eq_some_iff.mp e;obtain⟨q,L,J⟩:=dH e2;subst J;exact .cons (fh R r e1) (iS R t L)
inductive BiI(b:BT.Bi)(mu:Bool)(ws:List aP)(h:aO)(z:aP)(h':aO):Prop
 |mk(ds:List aQ)(d:aQ)(h1:aV ws h=aa ds)(h2:BT.biD b ds=aa d)(J:(mu=ak/\z=.p d/\h'=h)\/∃xs,mu=ah/\d=.aD xs/\z=.r h.length/\h'=h++[.l xs]):BiI b mu ws h z h'
def jv(e:BT.kBi b mu ws h=aa (z,h')):BiI b mu ws h z h':=by
 unfold BT.kBi at e;cases e1:aV ws h with
 |none=>rw[e1]at e;exact cX e
 |some J =>
  rw[e1]at e;simp only at e;cases e2:BT.biD b J with
  |none=>rw[e2]at e;exact cX e
  |some d =>
   rw[e2]at e;simp only at e;cases mu with
   |false=>cases e;exact⟨J,d,e1,e2,.inl ⟨rfl,rfl,rfl⟩⟩
   |true =>
    simp only[if_true]at e;cases d<;>simp only at e<;>try contradiction
    cases e;exact⟨J,_,e1,e2,.inr ⟨_,rfl,rfl,rfl,rfl⟩⟩
def RRs.one{K:Ve}{m:List aB}{H:Hp}{vs:List V}{d:aQ}(r:RRs K m H vs [d]):∃v,vs=[v]/\RR K m H v d:=by
 cases r with
 |cons r t=>cases t;exact⟨_,rfl,r⟩
def Lv:fQ X (.builtin "len") (rBi X.prog X.w X.K .len ak):=by
 intro O s L H i W Q I J h;obtain⟨m,h,g,z,j,R,Y,e,U⟩:=h;obtain⟨f,d,e1,e2,⟨_,rfl,rfl⟩|⟨_,q,_⟩⟩:=jv e
 ·have Z:=iS R Y e1
  match f,e2 with
  |[.aE xs],e2 =>
   cases e2;obtain⟨v,rfl,r⟩:=Z.one;obtain⟨a,V,rfl,b,ra⟩:=r.aE;exact jJ O s L H _ W Q I J ⟨a,V,rfl,.inr b,by rw[ra.length];exact U.here R (.int _)⟩
  |[.aD xs],e2 =>
   cases e2;obtain⟨v,rfl,r⟩:=Z.one;obtain⟨a,V,rfl,b,ra⟩:=r.aD;exact jJ O s L H _ W Q I J ⟨a,V,rfl,.inl b.sq,by rw[ra.length];exact U.here R (.int _)⟩
  |[.str x],e2 =>
   rw[BT.AU]at e2;split at e2
   ·rename_i c;cases e2;obtain⟨v,rfl,r⟩:=Z.one;obtain⟨rfl,_⟩:=r.str;have:=gf;exact tL O s L H _ W Q I J ⟨x,rfl,by lia,U.here R (.int _)⟩
   exact cX e2
 exact aU q
def Lx:fQ X (.type "int") (rBi X.prog X.w X.K .int ak):=by
 intro U s O H b W Q I J h;obtain⟨m,h,a,z,c,R,L,e,V⟩:=h;obtain⟨Z,d,e1,e2,⟨_,rfl,rfl⟩|⟨_,q,_⟩⟩:=jv e
 ·have Y:=iS R L e1
  match Z,e2 with
  |[.int i],e2 =>
   cases e2;obtain⟨v,rfl,r⟩:=Y.one;cases r.int;exact rV U s O H _ W Q I J (.inl ⟨i,rfl,V.here R (.int _)⟩)
  |[.bl i],e2 =>
   cases e2;obtain⟨v,rfl,r⟩:=Y.one;cases r.bl;exact rV U s O H _ W Q I J (.inr ⟨i,rfl,V.here R (.int _)⟩)
 exact aU q
def zd:fQ X (.type "list") (rBi X.prog X.w X.K .list mu):=by
 intro b s Z H n f Q I U h;obtain⟨m,h,l,z,o,R,W,e,c⟩:=h;obtain⟨k,d,e1,e2,j⟩:=jv e;have g:=iS R W e1;have fin:∀{p:aB}{J:List V}{O:List aQ},d=.aD O->H p=af->RDs X.K m H J O->Q (.ref p) (upd H p (.aD J)):=by
  intro p J O i L r;rcases j with⟨_,rfl,rfl⟩|⟨ys,_,e3,rfl,rfl⟩
  subst i;exact jQ R L r c;rw[i]at e3;cases e3;exact tY R L r c
 match k,e2 with
 |[.aE O],e2 =>
  cases e2;obtain⟨v,rfl,r⟩:=g.one;obtain⟨a,J,rfl,Y,ra⟩:=r.aE;exact mO b s Z H _ f Q I U ⟨a,J,rfl,.inr Y,λp L=>fin rfl L ra⟩
 |[.aD O],e2 =>
  cases e2;obtain⟨v,rfl,r⟩:=g.one;obtain⟨a,J,rfl,Y,ra⟩:=r.aD;exact mO b s Z H _ f Q I U ⟨a,J,rfl,.inl Y.sq,λp L=>fin rfl L ra⟩
theorem iT:∀{xs:List aQ}{ns:List Int},BT.intsOf xs=aa ns->xs=ns.map aQ.int
 |[],ns,h=>by cases h;rfl
 |.int i::r,ns,h=>by simp only[BT.intsOf]at h;obtain⟨q,e1,e2⟩:=dH h;subst e2;rw[iT e1];rfl
 |.aF::_,_,h=>by exact cX h
 |.bl _::_,_,h=>by exact cX h
 |.str _::_,_,h=>by exact cX h
 |.aE _::_,_,h=>by exact cX h
 |.aD _::_,_,h=>by exact cX h
theorem g9{K:Ve}:∀{ns:List Int}{vs:List V},RDs K m H vs (ns.map aQ.int)->vs=ns.map V.int
 |[],vs,r=>by cases r;rfl
 |n::ns,vs,r=>by
  cases r with
  |cons r t=>cases r;rw[g9 t];rfl
theorem qx{K:Ve}:∀(ns:List Int),RDs K m H (ns.map V.int) (ns.map aQ.int)
 |[]=>.nil|n::ns=>.cons (.int n) (qx ns)
def Bk(hc:X.calm=ah):fQ X (.builtin "max") (λxs H Q=>∃(a:aB) (ns:List Int),xs=[.ref a]/\SqL X.K H a (ns.map V.int)/\0<ns.length/\∀M,M∈ns->(∀z∈ns,z<=M)->Q (.int M) H):=by
 intro n s m H xs o Q I r h;obtain⟨a,ns,rfl,g,W,q⟩:=h;obtain⟨u,rfl,e⟩:=vals1 r;cases e;obtain⟨d,c,p,O⟩:=I.list g;have Z:=intsAre_of c;obtain⟨L,e⟩:=Z.allInts.items;have J:ns=L.toList.map (·.1):=by rw[←Z.numsOf,←nums_intItems,←e]
 have U:0<L.size:=by have b:=W;rw[J,Vx,VS]at b;exact b
 have Y:=p.isList;rw[e]at Y;refine max_intList (I.ok.hd hc) Y U λv y w f i=>?_;obtain⟨t,rfl⟩:=intItems_at f;obtain⟨x,l⟩:=argBest_gt (numAt L) (L.size-1);refine⟨.int _,H,I.aJ i,⟨t,rfl⟩,q _ ?_ λz O=>?_⟩;rw[J,numAt_eq];exact getD_mem (by rw[Vx,VS];lia)
 ·rw[J]at O;obtain⟨j,k,rfl⟩:=mem_getD O;rw[Vx,VS]at k;rw[←numAt_eq];exact l j (by lia)
def Bl(hc:X.calm=ah):fQ X (.builtin "min") (λxs H Q=>∃(a:aB) (ns:List Int),xs=[.ref a]/\SqL X.K H a (ns.map V.int)/\0<ns.length/\∀M,M∈ns->(∀z∈ns,M<=z)->Q (.int M) H):=by
 intro n s m H xs o Q I r h;obtain⟨a,ns,rfl,g,W,q⟩:=h;obtain⟨u,rfl,e⟩:=vals1 r;cases e;obtain⟨d,c,p,O⟩:=I.list g;have Z:=intsAre_of c;obtain⟨L,e⟩:=Z.allInts.items;have J:ns=L.toList.map (·.1):=by rw[←Z.numsOf,←nums_intItems,←e]
 have U:0<L.size:=by have b:=W;rw[J,Vx,VS]at b;exact b
 have Y:=p.isList;rw[e]at Y;refine min_intList (I.ok.hd hc) Y U λv y w f i=>?_;obtain⟨t,rfl⟩:=intItems_at f;obtain⟨x,l⟩:=argBest_lt (numAt L) (L.size-1);refine⟨.int _,H,I.aJ i,⟨t,rfl⟩,q _ ?_ λz O=>?_⟩;rw[J,numAt_eq];exact getD_mem (by rw[Vx,VS];lia)
 ·rw[J]at O;obtain⟨j,k,rfl⟩:=mem_getD O;rw[Vx,VS]at k;rw[←numAt_eq];exact l j (by lia)
def vN:fQ X (.builtin "sorted") (λxs H Q=>∃(a:aB) (ns:List Int),xs=[.ref a]/\SqL X.K H a (ns.map V.int)/\ns.length<64/\∀(l:aB)(J:List Int),H l=af->J.Perm ns->J.Pairwise (·<=·)->Q (.ref l) (upd H l (.aD (J.map V.int)))):=by intro k s j H xs m Q I r h;obtain⟨a,ns,rfl,Z,f,q⟩:=h;obtain⟨u,rfl,e⟩:=vals1 r;cases e;obtain⟨O,U,p,t⟩:=I.list Z;have c:=intsAre_of U;have len:=U.length;rw[Vx]at len;refine sorted_ints p.isList c (by lia) λL J i W g=>?_;obtain⟨e,d⟩:=sortedAll_at s.heap O L;have Y:=ly i;have o:=W.length_eq;refine⟨.ref _,_,I.laid (t':=s.toks) (λb u q=>sortedAll_old q) (Wh _) ?_,rfl,q _ J (I.aL.fresh (Wh _)) W g⟩;have n:ao=16777216:=aaW;exact⟨by rw[Vx];lia,L.toList,e,Y,d⟩
def G3(hc:X.calm=ah):fQ X (.builtin "max") (rBi X.prog X.w X.K .max1 ak):=by
 intro W s V H x Z Q I L h;obtain⟨m,h,t,z,y,R,J,e,Y⟩:=h;obtain⟨o,d,e1,e2,⟨_,rfl,rfl⟩|⟨_,q,_⟩⟩:=jv e
 ·have f:=iS R J e1
  match o,e2 with
  |[.aD xs],e2 =>
   rw[BT.vG]at e2;obtain⟨U,j,i⟩:=Option.bind_eq_some_iff.mp e2;obtain⟨M,O,g⟩:=dH i;subst g;obtain⟨v,rfl,r⟩:=f.one;obtain⟨a,u,rfl,n,ra⟩:=r.aD;rw[iT j]at ra;have ev:=g9 ra;subst ev;obtain⟨c,b⟩:=BT.r9 O;refine Bk hc W s V H _ Z Q I L ⟨a,U,rfl,n.sq,by cases U with|nil=>cases O|cons _ _=>exact ZU _,λp l k=>?_⟩;have:p=M:=Int.le_antisymm (b _ l) (k _ c);subst this;exact Y.here R (.int _)
 exact aU q
def G4(hc:X.calm=ah):fQ X (.builtin "min") (rBi X.prog X.w X.K .min1 ak):=by
 intro W s V H x Z Q I L h;obtain⟨m,h,t,z,y,R,J,e,Y⟩:=h;obtain⟨o,d,e1,e2,⟨_,rfl,rfl⟩|⟨_,q,_⟩⟩:=jv e
 ·have f:=iS R J e1
  match o,e2 with
  |[.aD xs],e2 =>
   rw[BT.vF]at e2;obtain⟨U,j,i⟩:=Option.bind_eq_some_iff.mp e2;obtain⟨M,O,g⟩:=dH i;subst g;obtain⟨v,rfl,r⟩:=f.one;obtain⟨a,u,rfl,n,ra⟩:=r.aD;rw[iT j]at ra;have ev:=g9 ra;subst ev;obtain⟨c,b⟩:=BT.AV O;refine Bl hc W s V H _ Z Q I L ⟨a,U,rfl,n.sq,by cases U with|nil=>cases O|cons _ _=>exact ZU _,λp l k=>?_⟩;have:p=M:=Int.le_antisymm (k _ c) (b _ l);subst this;exact Y.here R (.int _)
 exact aU q
def sy:fQ X (.builtin "sorted") (rBi X.prog X.w X.K .sorted mu):=by
 intro j s i H C k Q I Z h;obtain⟨m,h,B,z,D,R,Y,e,f⟩:=h;obtain⟨A,d,e1,e2,u⟩:=jv e;have n:=iS R Y e1;have fin:∀{p:aB}{O:List V}{L:List aQ},d=.aD L->H p=af->RDs X.K m H O L->Q (.ref p) (upd H p (.aD O)):=by
  intro p O L W g r;rcases u with⟨_,rfl,rfl⟩|⟨ys,_,e3,rfl,rfl⟩
  subst W;exact jQ R g r f;rw[W]at e3;cases e3;exact tY R g r f
 match A,e2 with
 |[.aD L],e2 =>
  rw[BT.xK]at e2;obtain⟨J,o,U⟩:=Option.bind_eq_some_iff.mp e2
  by_cases c:J.length<64
  ·rw[bM c]at U;have W:=(Vp U).symm;obtain⟨v,rfl,r⟩:=n.one;obtain⟨a,O,rfl,y,ra⟩:=r.aD;rw[iT o]at ra;have ev:=g9 ra;subst ev;refine vN j s i H _ k Q I Z ⟨a,J,rfl,y.sq,c,λl b x t q=>?_⟩;have:b=BT.sortI J:=abn (t.trans (BT.sortI_perm J).symm) q (BT.qf J);subst this;exact fin W x (qx _)
  rw[bN c]at U;exact cX U
def DQ:fQ X (.type "tuple") (rBi X.prog X.w X.K .tuple ak):=by
 intro W s V H i Z Q I J h;obtain⟨m,h,g,z,j,R,O,e,Y⟩:=h;obtain⟨f,d,e1,e2,⟨_,rfl,rfl⟩|⟨_,q,_⟩⟩:=jv e
 ·have b:=iS R O e1
  match f,e2 with
  |[.aE xs],e2 =>
   cases e2;obtain⟨v,rfl,r⟩:=b.one;obtain⟨a,L,rfl,U,ra⟩:=r.aE;refine lP W s V H _ Z Q I J ⟨a,L,rfl,.inr ⟨U,?_⟩⟩;cases r with
   |d r=>exact Y.here R r
  |[.aD xs],e2 =>
   cases e2;obtain⟨v,rfl,r⟩:=b.one;obtain⟨a,L,rfl,U,ra⟩:=r.aD;exact lP W s V H _ Z Q I J ⟨a,L,rfl,.inl ⟨U.sq,λp c=>mY R c ra Y⟩⟩
 exact aU q
noncomputable def tyD:aQ->String
 |.aF=>"NoneType"|.bl _=>"bool"|.int _=>"int"|.str _=>"str"|.aE _=>"tuple"|.aD _=>"list"
def G5{E:aC->Vh->Prop}
(I:Inv X zt σ H s)(r:RR X.K m H v d)(J:RelV v u)(e:WJ X.K (.type (tyD d)) (.type c)=aa b)(h:∀tk,Q (.bool b) {s with toks:=tk}):
 az (VC X.prog X.w) A (call (.builtin "isinstance") [u,.type c]) Q E s:=by
 cases d with
 |aF=>cases r.aF;cases J;exact Xw PySem.W.kitx_none I.kIn Xv e (λz=>nomatch z) h|bl y=>cases r.bl;cases J;exact Xw PySem.W.kitx_bool I.kIn Xv e (λz=>nomatch z) h|int i=>cases r.int;obtain⟨t,rfl⟩:=J;exact Xw PySem.W.kitx_int I.kIn Xv e (λz=>nomatch z) h|str y=>obtain⟨rfl,_⟩:=r.str;obtain⟨t,rfl⟩:=J;exact Xw PySem.W.kitx_str I.kIn Xv e (λz=>nomatch z) h
 |aE V =>
  obtain⟨a,Y,rfl,O,_⟩:=r.aE;cases J;obtain⟨L,_,⟨o,U,Z,_⟩,_⟩:=I.tuple O;exact Xw PySem.W.kitx_tuple I.kIn ⟨o,U,Z⟩ e (λz=>nomatch z) h
 |aD V =>
  obtain⟨a,Y,rfl,O,_⟩:=r.aD;cases J;obtain⟨_,L,n,_,_,U⟩:=rdL I O;exact Xw PySem.W.kitx_list I.kIn ⟨_,U,rfl⟩ e (λz=>nomatch z) h
def DR(K:Ve)(t:String):WJ K (.type t) (.type t)=aa ah:=by unfold WJ;rw[bM (by simp)]
def DS(h:vK b=aa (c,f))(d:aQ):BT.biD b [d]=aa (.bl (f d)):=by
 cases b<;>simp only[vK]at h<;>try contradiction
 all_goals (cases h;rfl)
def DT(h:vK b=aa (c,f))(K:Ve)(d:aQ):WJ K (.type (tyD d)) (.type c)=aa (f d):=by
 cases b<;>simp only[vK]at h<;>try contradiction
 all_goals (cases h;cases d)
 all_goals first
  |exact DR K _
  |(simp only[tyD];unfold WJ;rw[bN (by decide)];unfold PySem.W.kitCls;first|rfl|kernel_rfl|decide +kernel)
end
end BS
end
section
namespace BX
open PySem PySem.Spec PyProof.Rows
section
variable{prog:Vy}{w:VQ}{A:V9}{R:Z7->Vh->Prop}{I:aB}{fp wr:List aB}{n:Nat}{P:Nat->aC->Prop}{St:Nat->av->Prop}{kw:List (aA×aC)}
end
end BX
end
section
namespace BS
open PySem PySem.Spec PyProof.Rows L2
variable{K:Ve}
noncomputable abbrev FT:=bB->List aP->aO->Option (aP×aO)
inductive spF(P:Vy)(w:VQ)(K:Ve)(g:List aP->aO->Option (aP×aO))(vs:List V)(H:Hp)(Q:VK)(E:XK):Prop
 |mk(m:List aB)(ws:List aP)(h:aO)(z:aP)(h':aO)(R:RH K m H h)(r:RWs P w K m H vs ws)(e:g ws h=aa (z,h'))(p:Post P w K m H z h' Q):spF P w K g vs H Q E
inductive tD(X:Cx)(F:FT)(G:aA->Option aP)(e:bf)(σ:L2.St)(H:Hp)(Q:VK):Prop
 |mk(m:List aB)(s:bq)(h:aO)(z:aP)(h':aO)(R:RH X.K m H h)(S:RS X.prog X.w X.K m H σ s)(q:aN F G e s h=aa (z,h'))(p:Post X.prog X.w X.K m H z h' Q):tD X F G e σ H Q
inductive tDs(X:Cx)(F:FT)(G:aA->Option aP)(es:bg)(σ:L2.St)(H:Hp)(Q:List V->Hp->Prop):Prop
 |mk(m:List aB)(s:bq)(h:aO)(zs:List aP)(h':aO)(R:RH X.K m H h)(S:RS X.prog X.w X.K m H σ s)(q:aZ F G es s h=aa (zs,h'))(p:∀vs H' m',Ext m H m' H'->RH X.K m' H' h'->RWs X.prog X.w X.K m' H' vs zs->Q vs H'):tDs X F G es σ H Q
inductive tDT(X:Cx)(F:FT)(G:aA->Option aP)(e:bf)(σ:L2.St)(H:Hp)(Q:Bool->Hp->Prop):Prop
 |mk(m:List aB)(s:bq)(h:aO)(b:Bool)(h':aO)(R:RH X.K m H h)(S:RS X.prog X.w X.K m H σ s)(q:aN F G e s h=aa (.p (.bl b),h'))(p:∀H' m',Ext m H m' H'->RH X.K m' H' h'->Q b H'):tDT X F G e σ H Q
def DU(P:Vy)(w:VQ)(K:Ve)(mg:aA->Option aC)(base:av)(k L:Nat)(g:List aP->aO->Option (aP×aO)):Prop :=
 ∀(A:V9)(J:List Env)(s:Vh)(H:Hp) (f:aB) (Y:List aC) (W O:List V) (m:List aB) (U:List aP) (a:List BT.Cp) (h:aO) (z:aP) (Z:aO) (Q:VK) (E:XK),fG k A->tG P w K mg base A J s H->dD W Y →
  RH K m H h->RWs P w K m H W U->BT.noC U=ah->qq m H f L O->RCs K m H O a->g (U++a.map BT.Cp.w) h=aa (z,Z)->Post P w K m H z Z Q->aq (VC P w) A (.call (.ref f) ⟨Y,[]⟩) (CR CX0 J P w H s Q E) s
structure LX(X:Cx)(x:aA):Prop where
 mem:x∈BT.jc
 ex:∃c P,WG X.K x=aa (c,P)/\X.env.code=.ref c/\PySem.W.CodeHd X.base c P/\∀y∈BT.jc,∀c2,WG X.K y=aa (c2,P)->y=x
 ql:X.env.qual=x++".<locals>."
 bm:∃bm ob,X.mg "__builtins__"=aa (.ref bm)/\bm≠XI/\X.base.get? bm=aa ob/\ob.cls=.type "module"/\ob.dict=aa XI/\ob.data=.plain
noncomputable def PM:List aA:=["len","abs","int","list","tuple","isinstance","str","bool","range","reversed","enumerate","zip","min","max","sorted","sum","all","any","set","ValueError","dict"]
inductive OkC(P:Vy)(w:VQ)(K:Ve)(mg:aA->Option aC)(base:av)(A:V9)(f:aA)(sp:Sp):Prop
 |mk(J:aB)(fd:Wp)(ps:List aA)(k:Nat)(h1:mg f=aa (.ref J))(h2:We K (.ref J)=ah)(U:Binds K fd ps [])(L:fG k A)(O:gO P w K mg base CX0 k J fd ps sp):OkC P w K mg base A f sp
inductive OkM(P:Vy)(w:VQ)(K:Ve)(mg:aA->Option aC)(base:av)(A:V9)(CX:CXT)(c m:aA)(sp:Sp):Prop
 |mk(C g:aB)(fd:Wp)(ps:List aA)(k:Nat)(h1:lR K c C)(h2:ve K C m g)(O:Binds K fd ps [])(J:fG k A)(L:gO P w K mg base CX k g fd ps sp):OkM P w K mg base A CX c m sp
inductive OkN(P:Vy)(w:VQ)(K:Ve)(mg:aA->Option aC)(base:av)(A:V9)(c:aA)(sp:Sp):Prop
 |mk(C g:aB)(fd:Wp)(ps:List aA)(k:Nat)(h1:lR K c C)(h2:mg c=aa (.ref C))(U:Mk K C g)(J:Binds K fd ps [])(O:fG (k+1) A)(L:gO P w K mg base CX0 k g fd ps sp):OkN P w K mg base A c sp
structure Ok(X:Cx)(F:FT)(G:aA->Option aP)(sc:V8)(N:List aA):Prop where
 hsc:X.env.scope=sc
 hN:X.N=N
 nd:X.N.Nodup
 calm:fT N=ah->X.calm=ah
 hu:X.A.units+150<cLine
 own:aab (VC X.prog X.w) X.A X.env X.xe
 glob:∀x z,G x=aa z->∃u v,X.mg x=aa u/\RelV v u/\∀m H,RW X.prog X.w X.K m H v z
 call:∀(f:aA) ws h r,F (.f f) ws h=aa r->OkC X.prog X.w X.K X.mg X.base X.A f (spF X.prog X.w X.K (F (.f f)))
 aH:∀(c m:aA) ws h r,F (.m c m) ws h=aa r->OkM X.prog X.w X.K X.mg X.base X.A CX0 c m (spF X.prog X.w X.K (F (.m c m)))
 mkc:∀(c:aA) ws h r,F (.m c "__init__") ws h=aa r->OkN X.prog X.w X.K X.mg X.base X.A c (spF X.prog X.w X.K (F (.m c "__init__")))
 blt:∀x∈PM,X.mg x=af
 lam:∀(L:Nat) ws h r,F (.l L) ws h=aa r->∃k,fG k X.A/\DU X.prog X.w X.K X.mg X.base k L (F (.l L))
 lamx:(∀x,X.fn x=ah)->∀x,N.contains (BT.jt x)=ah->LX X x
def PE.weak(h:PE X e t)(q:∀σ H Q,t' σ H Q->t σ H Q):PE X e t':=λJ s σ H Q I hw=>h J s σ H Q I (q _ _ _ hw)
def PT.weak(h:PT X e t)(q:∀σ H Q,t' σ H Q->t σ H Q):PT X e t':=λJ s σ H Q I hw=>h J s σ H Q I (q _ _ _ hw)
def PW.weak(h:PW X e t)(q:∀σ H Q,t' σ H Q->t σ H Q):PW X e t':=λL J s σ H Q I hw=>h L J s σ H Q I (q _ _ _ hw)
def PA.weak(h:PA X es t)(q:∀σ H Q,t' σ H Q->t σ H Q):PA X es t':=λJ L s σ H Q I hw=>h J L s σ H Q I (q _ _ _ hw)
def c7(h:noStar e=ah):VR (e::es) env=(ak,eval e env)::VR es env:=by cases e<;>first|rfl|exact aU h
def vO(h:mW b=ah):yP b:=λo i=>by cases b<;>first|rfl|exact aU h
def lG(h:dQ o=ah):Y8 o name env (eval o env)=eval o env:=by
 cases o with
 |Call fn L J p =>
  cases fn with
  |Attribute _ _ _=>rfl|_=>exact aU h
 |_=>first|rfl|exact cX h
def dw:List Vj->Bool
 |[]=>ah|e::es=>noStar e&&dw es
theorem dM:∀{es:List Vj},dw es=ah->(Xh pos (VR es env)).any (·.1)=ak
 |[],_=>rfl
 |e::es,h=>by simp only[dw,Vg]at h;rw[c7 h.1];show(ak||(Xh pos (VR es env)).any (·.1))=ak;rw[dM h.2];rfl
theorem jE:∀{es:List Vj},dw es=ah->(Xh pos (VR es env)).all (λx=>!x.1)=ah
 |[],_=>rfl
 |e::es,h=>by simp only[dw,Vg]at h;rw[c7 h.1];show(!ak&&(Xh pos (VR es env)).all (λx=>!x.1))=ah;rw[jE h.2];rfl
def PN:Tq->Prop
 |.es _ J=>dw J=ah|_=>True
def DV(h:CQ sc N t):PN t:=by
 induction h with
 |es_nil=>exact rfl
 |es_cons L _ _ _ J =>
  show(noStar _&&dw _)=ah;rw[Vg];exact⟨L,J⟩
 |_=>exact Xv
def gn(h:CEs sc N as es):dw es=ah:=DV h
noncomputable def noM:Tq->Prop
 |.es (.cons _ _) []=>False|_=>True
def Ly(h:CQ sc N t):noM t:=by
 induction h with
 |_=>exact Xv
def mh(h:CEs sc N (.cons a r) []):False:=Ly h
section
def qy(l:∀s h,aN F G e s h=bF (aN F G a s h) (BT.k2 (aN F G b s) f))(σ:L2.St)(H:Hp)(Q:VK)(q:tD X F G e σ H Q):
 tOp (rOp X.prog X.w X.K f) (tD X F G a) (tD X F G b) σ H Q:=by
 obtain⟨m,s,h,z,n,R,S,V,W⟩:=q;rw[l]at V;obtain⟨x,U,e1,e2⟩:=dg V;simp only[BT.k2]at e2;obtain⟨y,O,p,o⟩:=dg e2;refine⟨m,s,h,x,U,R,S,e1,λv C k L t g=>?_⟩;refine⟨k,s,U,y,O,t,S.ext L,p,λu B j J R2 d=>?_⟩;exact⟨j,O,x,y,z,n,R2,g.ext J,d,o,λZ A i Y r c=>W Z A i ((L.trans J).trans Y) r c⟩
def vP(h:∀σ H Q,tD X F G e σ H Q->t σ H Q)(σ:L2.St)(H:Hp)(Q:Bool->Hp->Prop)(q:tDT X F G e σ H Q):Cv t σ H Q:=by
 obtain⟨m,s,O,b,U,R,S,V,J⟩:=q;refine h σ H _ ⟨m,s,O,_,U,R,S,V,λv Y L x W r=>?_⟩;cases r with
 |p r=>cases r;exact⟨b,rfl,J Y L x W⟩
def opB(h:JD o op=ah):OpR X (WT op) (rOp X.prog X.w X.K (BT.tR o)):=by rw[bS h];cases o;exact Lm;exact Ln;exact Lp;exact Lo;exact GW
def JI:∀{es:List (aA×V)}{kvs:List (aA×aQ)}{K:Ve},RDk K es kvs->KV (es.map λq=>((Sum.inr q.1:Key),q.2)) vs->(valueAt vs (Sum.inr k)).isSome=(BT.fS k kvs).isSome:=by
 intro es
 induction es generalizing vs with
 |nil =>
  intro kvs K r q;cases r;cases q;rfl
 |cons p es Y =>
  intro kvs K r q;cases r with
  |@cons x v dd _ kvs r t =>
   cases q with
   |@cons p z d b U O =>
    obtain⟨a,Z⟩:=z;obtain⟨J,L⟩:=U;simp only at J L;subst J;rw[BT.fS]
    by_cases c:k=x
    ·subst c;simp[valueAt]
    ·rw[bN c];have W:¬((Sum.inr x:Key)=Sum.inr k):=λz=>c (Sum.inr.inj z).symm;have:=Y t O;simp only[valueAt]at this⊢;rw[YU (by simpa using W)];exact this
def opC(O:Ok X F G sc N)(h:GT o op=ah):OpR X (Wj op) (rOp X.prog X.w X.K (bH o)):=by
 rw[bS h];cases o;exact PJ O.hu;exact PK O.hu;exact ug Oh rfl rfl λ_ _=>rfl;exact ug Oi rfl rfl λ_ _=>rfl;exact ug Oj rfl rfl λ_ _=>rfl;exact ug Ol rfl rfl λ_ _=>rfl;exact Lq;exact GZ
 ·refine Lr O.hu ?_;intro J x b m H v u A B z y s Q I V W L U e q;cases J with
  |t J =>
   cases x with
   |p d =>
    cases d<;>first|exact cX e|skip
    ·obtain rfl:=Vp e;cases U with
     |@k a r _ Y U =>
      cases W;cases L with
      |p L =>
       cases L;cases V;obtain⟨Z,i,j,dd⟩:=Y;obtain⟨f,C,fn⟩:=map_none (dd s.heap I.kIn);refine aaU (knd:=optKind X.prog X.w) (k:=af) rfl Z C ?_;rw[fn];exact⟨.bl _,H,I.tok _,rfl,q⟩
    obtain rfl:=Vp e;cases U with
    |@k a r _ Y U =>
     cases W;cases L with
     |p L =>
      cases L with
      |str x ok =>
       obtain⟨t,rfl⟩:=V;obtain⟨Z,i,j,dd⟩:=Y;have D:=dd s.heap I.kIn;refine aaU (knd:=dO X.prog X.w) (i9 _ _ _ t) Z D.mapOf ?_;rw[JI U j];exact⟨.bl _,H,I.tok _,rfl,q⟩
   |_=>exact cX e
  |l J =>
   cases x with
   |p d =>
    obtain⟨k,g,c⟩:=dH (show(BT.rG d).map (λk=>(bJ J k).isSome)=aa b from e);subst c;cases U with
    |@kl a ob P _ E U =>
     cases W;cases L with
     |p L =>
      have M:=DJ L g;subst M;cases xS I (.inr ⟨_,E.1⟩) U k with
      |no i dd n g c =>
       refine aaU (knd:=dO X.prog X.w) (CO V) n dd.mapOf ?_;rw[c];exact⟨.bl _,H,I.tok _,rfl,by rw[g]at q;exact q⟩
      |is i dd n x R S g c g3 T =>
       refine aaU (knd:=dO X.prog X.w) (CO V) n dd.mapOf ?_;rw[c];exact⟨.bl _,H,I.tok _,rfl,by rw[g]at q;exact q⟩
   |_=>exact cX e
 ·refine G0 O.hu ?_;intro J x b m H v u A B z y s Q I V W L U e q;cases J with
  |t J =>
   cases x with
   |p d =>
    cases d<;>first|exact cX e|skip
    obtain rfl:=Vp e;cases U with
    |@k a r _ Y U =>
     cases W;cases L with
     |p L =>
      cases L with
      |str x ok =>
       obtain⟨t,rfl⟩:=V;obtain⟨Z,i,j,dd⟩:=Y;have D:=dd s.heap I.kIn;refine wpAny_notIn_of (knd:=dO X.prog X.w) (i9 _ _ _ t) Z D.mapOf ?_;rw[JI U j];exact⟨.bl _,H,I.tok _,rfl,q⟩
   |_=>exact cX e
  |l J=>exact cX e
end
section
variable{X:Cx}{F:FT}{G:aA->Option aP}{sc:V8}{N:List aA}
def G6(O:Ok X F G sc N)(x:aA):X.env.kindOf x=sc.names.lookup x:=by rw[←O.hsc];rfl
def fE(h:dY x=ah):(x==("__debug__":aA))=ak/\(x==("__classdict__":aA))=ak/\x≠"__name__":=by simp only[dY,Vg,YD]at h;exact⟨h.1.1,h.1.2,λe=>by rw[e]at h;simp at h⟩
def ef(O:Ok X F G sc N)(h:dU sc x=ah):Gl X x:=by show X.env.kindOf x=_;rw[G6 O];exact bT h
def Lz(O:Ok X F G sc N)(h:vL sc x=ah):Vis X.env.scope x:=by
 rw[O.hsc];unfold vL at h;unfold Vis;cases e:sc.names.lookup x with
 |none=>rw[e]at h;exact aU h
 |some k=>rw[e]at h;cases k<;>first|(exact .inl rfl)|(exact .inr (.inl rfl))|(exact .inr (.inr rfl))|exact aU h
def ze(O:Ok X F G sc N)(h2:N[i]?=aa y)(W:vL sc y=ah)(V:dY y=ah):PE X (.Name y pos) (tD X F G (.v i)):=by
 obtain⟨Z,Y,_⟩:=fE V;refine PE.weak (JZ (i:=i) (by rw[O.hN];exact h2) (Lz O W) Z Y) fun a H Q q=>?_;obtain⟨m,s,h,z,b,R,S,J,L⟩:=q;simp only[aN]at J;split at J
 ·rename_i w e;cases J;obtain⟨v,U,r⟩:=S.get i _ e;exact⟨v,U,L v H m (.refl _ _) R r⟩
 exact cX J
def G7(h:JE d c=ah):PE X (.Constant c k pos) (tD X F G (.j d)):=by
 have fin:∀{v:V},(∀m H,RD X.K m H v d)->∀J H Q,tD X F G (.j d) J H Q->tC v J H Q:=λr J H Q q=>by obtain⟨m,s,h,z,U,R,S,L,O⟩:=q;simp only[aN]at L;cases L;exact O _ H m (.refl _ _) R (.p (r m H))
 cases d<;>cases c<;>first|exact aU h|skip
 exact PE.weak J0 (fin λ_ _=>.aF);cases bT h;exact PE.weak NU (fin λ_ _=>.bl _);cases bT h;exact PE.weak xg (fin λ_ _=>.int _)
 ·have h:=Bool.and_eq_true_iff.mp h;cases bT h.1;exact PE.weak J1 (fin λ_ _=>.str _ h.2)
def G8(O:Ok X F G sc N)(h2:dU sc y=ah)(Y:dY y=ah):PE X (.Name y pos) (tD X F G (.aG y)):=by obtain⟨Z,c,_⟩:=fE Y;intro U s L H Q I q;obtain⟨m,a,h,z,b,R,S,J,V⟩:=q;simp only[aN]at J;obtain⟨w,e1,e2⟩:=dH J;cases e2;obtain⟨u,v,W,r,rw⟩:=O.glob _ _ e1;exact tE (ef O h2) W r Z U s L H Q I (V v H m (.refl _ _) R (rw m H))
def JJ(c:∀s h,aN F G e s h=bF (aN F G a s h) k)(q:tD X F G e σ H Q)
(h1:∀m h x z h' v H1,RH X.K m H1 h->RW X.prog X.w X.K m H1 v x->k x h=aa (z,h')->Post X.prog X.w X.K m H1 z h' Q->R' v H1):tD X F G a σ H R':=by
 obtain⟨m,s,h,z,h',R,S,J,L⟩:=q;rw[c]at J;obtain⟨x,g,e1,e2⟩:=dg J;exact⟨m,s,h,x,g,R,S,e1,λv H1 b U f Y=>h1 b g x z h' v H1 f Y e2 λV i Z O d W=>L V i Z (U.trans O) d W⟩
def pC(b:∀s h,aN F G e s h=bF (aZ F G as s h) k)(q:tD X F G e σ H Q)
(h1:∀m h xs z h' vs H1,RH X.K m H1 h->RWs X.prog X.w X.K m H1 vs xs->k xs h=aa (z,h')->Post X.prog X.w X.K m H1 z h' Q->R' vs H1):tDs X F G as σ H R':=by
 obtain⟨m,s,h,z,h',R,S,J,L⟩:=q;rw[b]at J;obtain⟨x,g,e1,e2⟩:=dg J;exact⟨m,s,h,x,g,R,S,e1,λv H1 a U d Y=>h1 a g x z h' v H1 d Y e2 λV f Z O c W=>L V f Z (U.trans O) c W⟩
def ty_list(R:RH X.K m H h)(r:RW X.prog X.w X.K m H v (.r n))(ok:BT.lO (.r n) h=ah):tyV X.K "list" v H:=by
 cases r with
 |@r a _ hn =>
  obtain⟨J,e⟩:=Option.isSome_iff_exists.mp ok;obtain⟨L,e,_⟩:=R.cell n a J hn e;exact .inl ⟨rfl,L,.inl (.inl e)⟩
def zf(e:BT.kMe m ea x h=aa r):BT.lO x h=ah/\bF (ea h) (aW m x)=aa r:=by unfold BT.kMe at e;split at e;rename_i c;exact⟨c,e⟩;exact cX e
def Tu(J:m=.append\/m=.pop\/m=.extend)(e:aW m x ws h=aa (z,h')):∃n,x=.r n:=by
 cases x with
 |r n=>exact⟨n,rfl⟩
 |p d =>
  rcases J with rfl|rfl|rfl<;>cases ws<;>rw[vM]at e<;>(split at e<;>(try exact cX e))<;>exact cX e
 |k q =>
  rcases J with rfl|rfl|rfl<;>cases ws<;>(first|exact cX e|simp[aW]at e)
 |x _ =>
  rcases J with rfl|rfl|rfl<;>cases ws<;>(first|exact cX e|simp[aW]at e)
 |c _ _ =>
  rcases J with rfl|rfl|rfl<;>cases ws<;>(first|exact cX e|simp[aW]at e)
 |o q =>
  rcases J with rfl|rfl|rfl<;>cases ws<;>(first|exact cX e|simp[aW]at e)
end
section
def uh{X:Cx}{e a:bf}{k:bq->aP->aO->Option (aP×aO)}(f:∀s h,aN F G e s h=bF (aN F G a s h) (k s)){σ:L2.St}{H:Hp}{Q:VK}(q:tD X F G e σ H Q){O:V->Hp->Prop}
(h1:∀m s h x z h' v H1,RH X.K m H1 h->RS X.prog X.w X.K m H1 σ s->RW X.prog X.w X.K m H1 v x->k s x h=aa (z,h')->Post X.prog X.w X.K m H1 z h' Q->O v H1):tD X F G a σ H O:=by
 obtain⟨m,s,h,z,h',R,S,L,U⟩:=q;rw[f]at L;obtain⟨x,g,e1,e2⟩:=dg L;exact⟨m,s,h,x,g,R,S,e1,λv H1 d J j b=>h1 d s g x z h' v H1 j (S.ext J) b e2 λY l c W i Z=>U Y l c (J.trans W) i Z⟩
def LC{X:Cx}{e a:bf}{k:bq->Bool->aO->Option (aP×aO)}{kk:bq->aP->aO->Option (aP×aO)}(f:∀s h,aN F G e s h=bF (aN F G a s h) (kk s))
(d:∀s x h r,kk s x h=aa r->∃b,x=.p (.bl b)/\k s b h=aa r){σ:L2.St}{H:Hp}{Q:VK}(q:tD X F G e σ H Q){O:Bool->Hp->Prop}
(h1:∀m s h b z h' H1,RH X.K m H1 h->RS X.prog X.w X.K m H1 σ s->k s b h=aa (z,h')->Post X.prog X.w X.K m H1 z h' Q->O b H1):tDT X F G a σ H O:=by
 obtain⟨m,s,h,z,h',R,S,L,U⟩:=q;rw[f]at L;obtain⟨x,g,e1,e2⟩:=dg L;obtain⟨b,rfl,i⟩:=d _ _ _ _ e2;exact⟨m,s,h,b,g,R,S,e1,λH1 c J l=>h1 c s g b z h' H1 l (S.ext J) i λW n Z V j Y=>U W n Z (J.trans V) j Y⟩
def nV(r:RW P w K m H v (.p (.bl b))):v=.bl b:=by cases r with|p r=>cases r;rfl
def zg(e:BT.GM eb x h=aa r):∃b,x=.p (.bl b)/\(if b=ah then eb h else aa (.p (.bl ak),h))=aa r:=by
 cases x with
 |p d =>
  cases d<;>simp only[BT.GM]at e<;>try contradiction
  exact⟨_,rfl,e⟩
 |_=>exact cX e
def DW(e:BT.kOr eb x h=aa r):∃b,x=.p (.bl b)/\(if b=ah then aa (.p (.bl ah),h)else eb h)=aa r:=by
 cases x with
 |p d =>
  cases d<;>simp only[BT.kOr]at e<;>try contradiction
  exact⟨_,rfl,e⟩
 |_=>exact cX e
def G9(e:BT.GN ea eb x h=aa r):∃b,x=.p (.bl b)/\(if b=ah then ea h else eb h)=aa r:=by
 cases x with
 |p d =>
  cases d<;>simp only[BT.GN]at e<;>try contradiction
  exact⟨_,rfl,e⟩
 |_=>exact cX e
def zh(e:BT.GL x h=aa r):∃b,x=.p (.bl b)/\r=(.p (.bl (!b)),h):=by
 cases x with
 |p d =>
  cases d<;>simp only[BT.GL]at e<;>try contradiction
  cases e;exact⟨_,rfl,rfl⟩
 |_=>exact cX e
def Hf(e:BT.GK x h=aa r):∃i,x=.p (.int i)/\r=(.p (.int (-i)),h):=by
 cases x with
 |p d =>
  cases d<;>simp only[BT.GK]at e<;>try contradiction
  cases e;exact⟨_,rfl,rfl⟩
 |_=>exact cX e
def zk{X:Cx}{a b:bf}(σ:L2.St)(H:Hp)(Q:VK)(q:tD X F G (.and a b) σ H Q):Jp (tD X F G a) (tD X F G b) σ H Q:=by
 refine uh (k:=λs=>BT.GM (aN F G b s)) (λs h=>by simp only[aN]) q λm s h x z L v O R S r e J=>?_;obtain⟨c,rfl,e2⟩:=zg e;refine⟨c,nV r,?_⟩;cases c with
 |true=>rw[bM rfl]at e2⊢;exact⟨m,s,h,z,L,R,S,e2,J⟩|false=>rw[bN (by decide)]at e2⊢;cases e2;exact J.here R (.bl _)
def DX{X:Cx}{a b:bf}(σ:L2.St)(H:Hp)(Q:VK)(q:tD X F G (.or a b) σ H Q):NY (tD X F G a) (tD X F G b) σ H Q:=by
 refine uh (k:=λs=>BT.kOr (aN F G b s)) (λs h=>by simp only[aN]) q λm s h x z L v O R S r e J=>?_;obtain⟨c,rfl,e2⟩:=DW e;refine⟨c,nV r,?_⟩;cases c with
 |true=>rw[bM rfl]at e2⊢;cases e2;exact J.here R (.bl _)|false=>rw[bN (by decide)]at e2⊢;exact⟨m,s,h,z,L,R,S,e2,J⟩
def zl(σ:L2.St)(H:Hp)(Q:Bool->Hp->Prop)(q:tDT X F G (.and a b) σ H Q):NV (tDT X F G a) (tDT X F G b) σ H Q:=by
 obtain⟨m,s,h,c,e,R,S,V,O⟩:=q;simp only[aN]at V;obtain⟨x,g,e1,e2⟩:=dg V;obtain⟨d,rfl,J⟩:=zg e2;refine⟨m,s,h,d,g,R,S,e1,λi U L W=>?_⟩;cases d with
 |true=>rw[bM rfl]at J⊢;exact⟨U,s,g,c,e,W,S.ext L,J,λf Z Y R2=>O f Z (L.trans Y) R2⟩|false=>rw[bN (by decide)]at J⊢;cases J;exact O i U L W
def DY(σ:L2.St)(H:Hp)(Q:Bool->Hp->Prop)(q:tDT X F G (.or a b) σ H Q):tOr (tDT X F G a) (tDT X F G b) σ H Q:=by
 obtain⟨m,s,h,c,e,R,S,V,O⟩:=q;simp only[aN]at V;obtain⟨x,g,e1,e2⟩:=dg V;obtain⟨d,rfl,J⟩:=DW e2;refine⟨m,s,h,d,g,R,S,e1,λi U L W=>?_⟩;cases d with
 |true=>rw[bM rfl]at J⊢;cases J;exact O i U L W|false=>rw[bN (by decide)]at J⊢;exact⟨U,s,g,c,e,W,S.ext L,J,λf Z Y R2=>O f Z (L.trans Y) R2⟩
def Hg(σ:L2.St)(H:Hp)(Q:Bool->Hp->Prop)(q:tDT X F G (.not a) σ H Q):NW (tDT X F G a) σ H Q:=by obtain⟨m,s,h,c,V,R,S,J,L⟩:=q;simp only[aN]at J;obtain⟨x,g,e1,e2⟩:=dg J;obtain⟨d,rfl,W⟩:=zh e2;cases W;exact⟨m,s,h,d,V,R,S,e1,λZ U O Y=>L Z U O Y⟩
def Hh{X:Cx}{a:bf}(σ:L2.St)(H:Hp)(Q:VK)(q:tD X F G (.not a) σ H Q):Jq (tD X F G a) σ H Q:=by refine uh (k:=λs=>BT.GL) (λs h=>by simp only[aN]) q λm s h x z L v O R S r e J=>?_;obtain⟨c,rfl,e2⟩:=zh e;cases e2;exact⟨c,nV r,J.here R (.bl _)⟩
def LD{X:Cx}{c a b:bf}(σ:L2.St)(H:Hp)(Q:VK)(q:tD X F G (.ite c a b) σ H Q):tIf (tDT X F G c) (tD X F G a) (tD X F G b) σ H Q:=by
 refine LC (k:=λs t h=>if t=ah then aN F G a s h else aN F G b s h) (kk:=λs=>BT.GN (aN F G a s) (aN F G b s)) (λs h=>by simp only[aN]) (λs x h r e=>G9 e) q λm s h t z L O R S e J=>?_;cases t with
 |true=>rw[bM rfl]at e⊢;exact⟨m,s,h,z,L,R,S,e,J⟩|false=>rw[bN (by decide)]at e⊢;exact⟨m,s,h,z,L,R,S,e,J⟩
def LF{X:Cx}{a:bf}(σ:L2.St)(H:Hp)(Q:VK)(q:tD X F G (.neg a) σ H Q):tUn (rU λi=>.int (-i)) (tD X F G a) σ H Q:=by refine uh (k:=λs=>BT.GK) (λs h=>by simp only[aN]) q λm s h x z L v O R S r e J=>?_;obtain⟨c,rfl,e2⟩:=Hf e;cases e2;cases r with|p r=>cases r;exact⟨c,rfl,J.here R (.int _)⟩
def vQ(σ:L2.St)(H:Hp)(Q:VK)(q:tD X F G (.chain o o' a b c) σ H Q):
 xq (rOp X.prog X.w X.K (bH o)) (rOp X.prog X.w X.K (bH o')) (tD X F G a) (tD X F G b) (tD X F G c) σ H Q:=by
 obtain⟨m,s,h,z,h',R,S,T,C⟩:=q;simp only[aN]at T;obtain⟨x,P,e1,e2⟩:=dg T;simp only[BT.k2]at e2;obtain⟨y,U,e3,J⟩:=dg e2;refine⟨m,s,h,x,P,R,S,e1,λv H1 m1 g R1 r1=>?_⟩;refine⟨m1,s,P,y,U,R1,S.ext g,e3,λu H2 m2 e R2 E=>?_⟩;unfold BT.oCh at J;cases k:bw x U with
 |none=>rw[k]at J;exact cX J
 |some d =>
  cases y with
  |p O =>
   rw[k]at J;simp only at J;have N:∀(o:BT.Cm)(l:aP)(W:aO) dd,bw l W=aa dd->∀Y L,bw Y W=aa L->bH o l Y W=(BT.gR o dd L).map λz=>(.p (.bl z),W):=by
    intro o l W dd I Y L n;unfold bH;cases Y with
    |p _=>simp only[I,n]|r _=>simp only[I,n]|_=>exact cX n
   cases B:BT.gR o d O with
   |none=>rw[B]at J;exact cX J
   |some t =>
    rw[B]at J;refine⟨m2,U,x,.p O,.p (.bl t),U,R2,r1.ext e,E,by rw[N o x U d k (.p O) O rfl,B];rfl,λv3 H3 M Z R3 r3=>⟨t,nV r3,?_⟩⟩;cases t with
    |false =>
     rw[bN (by decide)];cases J;exact C _ H3 M ((g.trans e).trans Z) R3 (.p (.bl _))
    |true =>
     rw[bM rfl];obtain⟨i,j,e5,V⟩:=dg J;refine⟨M,s,U,i,j,R3,((S.ext g).ext e).ext Z,e5,λv4 H4 m4 D R4 r4=>?_⟩;unfold BT.OV at V;cases A:bw i j with
     |none=>rw[A]at V;exact cX V
     |some f =>
      rw[A]at V;simp only at V;refine⟨m4,j,.p O,i,z,h',R4,(E.ext Z).ext D,r4,by rw[N o' (.p O) j O rfl i f A];exact V,λv5 H5 m5 x5 R5 r5=>C v5 H5 m5 ((((g.trans e).trans Z).trans D).trans x5) R5 r5⟩
  |_=>rw[k]at J;exact cX J
def LG{lo:bg}(C:∀σ H (Q:Option Int->Hp->Prop),(∃m s h l zs h',RH X.K m H h/\RS X.prog X.w X.K m H σ s/\aZ F G lo s h=aa (zs,h')/\(bA zs).bind BT.tN=aa l/\∀H' m',Ext m H m' H'->RH X.K m' H' h'->Q l H')->tl σ H Q)
(D:∀σ H (Q:Option Int->Hp->Prop),(∃m s h l zs h',RH X.K m H h/\RS X.prog X.w X.K m H σ s/\aZ F G hi s h=aa (zs,h')/\(bA zs).bind BT.tN=aa l/\∀H' m',Ext m H m' H'->RH X.K m' H' h'->Q l H')->th σ H Q)
(σ:L2.St)(H:Hp)(Q:VK)(q:tD X F G (.n a lo hi) σ H Q):tSl (rSl X.prog X.w X.K) (tD X F G a) tl th σ H Q:=by
 obtain⟨m,s,h,z,h',R,S,g,j⟩:=q;simp only[aN]at g;obtain⟨x,f,e1,e2⟩:=dg g;simp only[BT.OY]at e2;obtain⟨c,e,P,i⟩:=dg e2;simp only[BT.OX]at i;obtain⟨Z,E,N,J⟩:=dg i;unfold BT.OW at J;cases L:bw x E with
 |none=>rw[L]at J;exact cX J
 |some d =>
  cases O:(bA c).bind BT.tN with
  |none=>rw[L,O]at J;exact cX J
  |some l =>
   cases W:(bA Z).bind BT.tN with
   |none=>rw[L,O,W]at J;exact cX J
   |some u =>
    rw[L,O,W]at J;simp only at J;obtain⟨b,M,I⟩:=dH J;cases I;refine⟨m,s,h,x,f,R,S,e1,λv H1 B V R1 r=>C σ H1 _ ⟨B,s,f,l,c,e,R1,S.ext V,P,O,λH2 A U R2=>D σ H2 _ ⟨A,s,e,u,Z,h',R2,(S.ext V).ext U,N,W,λH3 y Y R3=>?_⟩⟩⟩;exact⟨y,h',x,d,b,R3,(r.ext U).ext Y,L,M,λo H5 t k T p=>j o H5 t (((V.trans U).trans Y).trans k) T p⟩
end
section
def zm(U:sp=spF X.prog X.w X.K (F (.f f)))(q:tD X F G (.call f as) σ H Q):yJ sp [] E0 (tDs X F G as) σ H Q:=by subst U;refine pC (k:=λO h=>F (.f f) O h) (λs h=>by simp only[aN]) q λm h L z V W Y R r e J=>?_;rw[Wc];exact⟨m,L,h,z,V,R,r,e,J⟩
def jV(q:tDs X F G .nil σ H Q):CB σ H Q:=by obtain⟨m,s,h,O,U,R,S,J,L⟩:=q;simp only[aZ]at J;cases J;exact L [] H m (.refl _ _) R .nil
def DZ(O:Ok X F G sc N)(b:dU sc f=ah)(hn:dY f=ah)(hc:CEs sc N as es)(g:PA X es (tDs X F G as)):
 PE X (.Call (.Name f p) es [] pos) (tD X F G (.call f as)):=by
 have J:=gn hc;intro U s L H Q I q;have V:=q;obtain⟨m,l,h,z,t,R,S,d,i⟩:=q;simp only[aN]at d;obtain⟨j,o,e1,e2⟩:=dg d;obtain⟨v,u,n,k,Y,Z,c,W,ok⟩:=O.call _ _ _ _ e2;cases es with
 |nil =>
  cases as with
  |cons a r=>exact(mh hc).elim|nil=>exact(PE.weak (vf ok W (ef O b) Y Z c .nil pT (fE hn).1) (fun L H Q z=>jV (zm (X:=X) rfl z))) U s L H Q I V
 |cons e es =>
  simp only[dw,Vg]at J;exact(PE.weak (yL ok W (ef O b) Y Z c .nil pT g (fE hn).1 (c7 J.1) (dM J.2)) (fun L H Q z=>zm rfl z)) U s L H Q I V
def qz{id:String}(n:PlainAttrs T)(L:Slot T name id)
(Z:typeOf (.builtin id)=pure (.type "method_descriptor"))(t:MtR X id (rMe X.prog X.w X.K me))(y:dQ oe=ah)(u:(apos.endLine==cpos.line)=ah)(b:es.length<20)(p:PE X oe (tD X F G o))(hc:CEs sc N as es)(P:PA X es (tDs X F G as))
(ty:∀(m:List aB)(h h2:aO)(H:Hp)(v:V) (x:aP) ws r,RH X.K m H h->RW X.prog X.w X.K m H v x->BT.lO x h=ah->aW me x ws h2=aa r->(∃σ s,RS X.prog X.w X.K m H σ s/\∃h0,aN F G o s h0=aa (x,h))->tyV X.K T v H):
 PE X (.Call (.Attribute oe name apos) es [] cpos) (tD X F G (.me me o as)):=by
 have J:=gn hc;have Y:∀σ H Q,tD X F G (.me me o as) σ H Q->tBM X.K T (rMe X.prog X.w X.K me) (tD X F G o) (tDs X F G as) σ H Q:=by intro σ H Q q;obtain⟨m,s,h,z,k,R,S,f,d⟩:=q;simp only[aN]at f;obtain⟨x,j,e1,e2⟩:=dg f;obtain⟨ok,e2⟩:=zf e2;obtain⟨ws,h2,e3,A⟩:=dg e2;refine⟨m,s,h,x,j,R,S,e1,λv g W O c U=>⟨ty W j h2 g v x ws _ c U ok A ⟨σ,s,S.ext O,h,e1⟩,W,s,j,ws,h2,c,S.ext O,e3,λvs H2 M l R2 E=>?_⟩⟩;exact⟨M,h2,x,ws,z,k,R2,U.ext l,E,A,λC H5 I B R5 D=>d C H5 I ((O.trans l).trans B) R5 D⟩
 cases es with
 |nil =>
  cases as with
  |cons a r=>exact(mh hc).elim
  |nil =>
   refine PE.weak (KB n L Z t p (lG y) u) fun σ H Q q=>?_;obtain⟨m,s,h,z,k,R,S,f,d⟩:=Y σ H Q q;exact⟨m,s,h,z,k,R,S,f,λv g W O c U=>⟨(d v g W O c U).1,jV (d v g W O c U).2⟩⟩
 |cons e es =>
  simp only[dw,Vg] at J;refine PE.weak (CM n L Z t p P (lG y) ?_ u (c7 J.1) (dM J.2)) Y;rw[jE (es:=e::es) (by simp only[dw,Vg];exact J)];have i:decide ((e::es).length+([]:List YO).length+(if ([]:List YO).isEmpty then 0 else 1) < 30)=ah:=bR (by
   simp only[Vv,VY,ZW,if_true] at b ⊢;lia)
  rw[i];rfl
def kB(q:tD X F G (.bi b mu as) σ H Q):tCB (rBi X.prog X.w X.K b mu) (tDs X F G as) σ H Q:=by refine pC (k:=λO h=>BT.kBi b mu O h) (λs h=>by simp only[aN]) q λm h L z U V W R r e J=>?_;exact⟨m,h,L,z,U,R,r,e,J⟩
def LH(O:Ok X F G sc N)(Z:fT N=ah)(a:JF b mu x=ah)(L:dU sc x=ah)(J:dw (e::es)=ah)(U:PA X (e::es) (tDs X F G as)):
 PE X (.Call (.Name x p) (e::es) [] pos) (tD X F G (.bi b mu as)):=by
 simp only[dw,Vg]at J;have Y:Dz b mu=aa x:=bT a;have V:=O.blt;cases b<;>cases mu<;>first|exact cX Y|(change aa _=aa _ at Y)
 all_goals (cases Y)
 exact PE.weak (gA Lv (ef O L) (V _ (by decide)) PySem.boot_len U (by decide) (by decide) (c7 J.1) (dM J.2)) (fun W H Q z=>kB z);exact PE.weak (lu Lx (ef O L) (V _ (by decide)) (by decide +kernel) U (by decide) (by decide) (c7 J.1) (dM J.2)) (fun W H Q z=>kB z);exact PE.weak (lu zd (ef O L) (V _ (by decide)) (by decide +kernel) U (by decide) (by decide) (c7 J.1) (dM J.2)) (fun W H Q z=>kB z);exact PE.weak (lu zd (ef O L) (V _ (by decide)) (by decide +kernel) U (by decide) (by decide) (c7 J.1) (dM J.2)) (fun W H Q z=>kB z);exact PE.weak (lu DQ (ef O L) (V _ (by decide)) (by decide +kernel) U (by decide) (by decide) (c7 J.1) (dM J.2)) (fun W H Q z=>kB z);exact PE.weak (gA sy (ef O L) (V _ (by decide +kernel)) (by decide +kernel) U (by decide) (by decide) (c7 J.1) (dM J.2)) (fun W H Q z=>kB z);exact PE.weak (gA sy (ef O L) (V _ (by decide +kernel)) (by decide +kernel) U (by decide) (by decide) (c7 J.1) (dM J.2)) (fun W H Q z=>kB z);exact PE.weak (gA (G3 (O.calm Z)) (ef O L) (V _ (by decide +kernel)) (by decide +kernel) U (by decide) (by decide) (c7 J.1) (dM J.2)) (fun W H Q z=>kB z);exact PE.weak (gA (G4 (O.calm Z)) (ef O L) (V _ (by decide +kernel)) (by decide +kernel) U (by decide) (by decide) (c7 J.1) (dM J.2)) (fun W H Q z=>kB z)
def Bm(U:vK b=aa (c,f)):fQ X (.builtin "isinstance") (λvs H Q=>∃v,vs=[v,.ty c]/\rBi X.prog X.w X.K b ak [v] H Q):=by
 intro g s a H vs j Q I L h;obtain⟨v,rfl,m,h,i,z,l,R,J,e,V⟩:=h;obtain⟨u,k,rfl,Y,O⟩:=L.two;cases O;obtain⟨n,d,e1,e2,⟨_,rfl,rfl⟩|⟨_,q,_⟩⟩:=jv e
 ·have Z:=iS R J e1;cases Z with
  |cons r t =>
   cases t;rw[DS U]at e2;cases e2;exact G5 I r Y (DT U X.K _) λW=>⟨.bl _,H,I.tok W,rfl,V.here R (.bl _)⟩
 exact aU q
def D0(O:Ok X F G sc N)(V:vK b=aa (c,f))(r:dU sc "isinstance"=ah)(J:dU sc (Vu c)=ah)(L:noStar e=ah)(t:PE X e (tD X F G a)):
 PE X (.Call (.Name "isinstance" p) [e,.Name (Vu c) p2] [] pos) (tD X F G (.bi b ak (.cons a .nil))):=by
 have U:=O.blt;have hc:PE X (.Name (Vu c) p2) (tC (.ty c)):=by
  cases b<;>simp only[vK]at V<;>try contradiction
  all_goals (cases V)
  exact oY (ef O J) (U _ (by decide)) (u:=.type "int") (by decide +kernel) rfl (by decide) (by decide);exact oY (ef O J) (U _ (by decide)) (u:=.type "bool") (by decide +kernel) rfl (by decide) (by decide);exact oY (ef O J) (U _ (by decide)) (u:=.type "str") (by decide +kernel) rfl (by decide) (by decide);exact oY (ef O J) (U _ (by decide)) (u:=.type "tuple") (by decide +kernel) rfl (by decide) (by decide)
 refine PE.weak (gA (Bm V) (ef O r) (U _ (by decide)) (by decide +kernel) (lq t (lq hc tF) (c7 L)) (by decide) (by decide) (c7 L) rfl) fun D H Q q=>?_;obtain⟨m,s,h,z,w,R,S,Y,d⟩:=q;simp only[aN,aZ]at Y;obtain⟨E,W,e1,e2⟩:=dg Y;obtain⟨x,I,y,Z⟩:=dg e1;simp only[BT.mV,BT.fu,BT.jN]at Z;cases Z;refine⟨m,s,h,x,W,R,S,y,λv K o i B l=>?_⟩;exact⟨v,rfl,o,W,[x],z,w,B,.cons l .nil,e2,λj C n g A k=>d j C n (i.trans g) A k⟩
def LJ(σ:L2.St)(H:Hp)(Q:VK)(q:tD X F G (.aE as) σ H Q):Oo (tDs X F G as) σ H Q:=by
 refine pC (k:=λO h=>BT.K2 O h) (λs h=>by simp only[aN]) q λm h L z Y V a R r e J=>?_;unfold BT.K2 at e;cases g:bA L with
 |none=>rw[g]at e;exact cX e
 |some Z =>
  rw[g]at e;simp only at e;obtain⟨c,e⟩:=dG e;cases e;have rd:=r.pure g;have:=gf;have W:=rd.length;exact⟨by lia,λp U=>mY R U rd J⟩
def LK(σ:L2.St)(H:Hp)(Q:VK)(q:tD X F G (.aD mu as) σ H Q):Ks (tDs X F G as) σ H Q:=by
 refine pC (k:=λO h=>BT.K3 mu O h) (λs h=>by simp only[aN]) q λm h L z V Z b R r e J=>?_;unfold BT.K3 at e;cases g:bA L with
 |none=>rw[g]at e;exact cX e
 |some Y =>
  rw[g]at e;simp only at e;split at e
  ·rename_i c;have rd:=r.pure g;have:=gf;have a:=rd.length;have W:BT.new mu Y h=(z,V):=Vp e;exact⟨by lia,λp U=>tZ (mu:=mu) R U rd (by rw[W];exact J)⟩
  exact cX e
def cons_of(σ:L2.St)(H:Hp)(Q:List V->Hp->Prop)(q:tDs X F G (.cons a as) σ H Q):Jt (tD X F G a) (tDs X F G as) σ H Q:=by obtain⟨m,s,h,k,f,R,S,U,Y⟩:=q;simp only[aZ]at U;obtain⟨x,O,e1,e2⟩:=dg U;simp only[BT.mV]at e2;obtain⟨Z,n,g,W⟩:=dg e2;simp only[BT.jN]at W;cases W;exact⟨m,s,h,x,O,R,S,e1,λv o e L i c=>⟨e,s,O,Z,f,i,S.ext L,g,λl j d J R2 b=>Y _ j d (L.trans J) R2 (.cons (c.ext J) b)⟩⟩
end
section
variable{K:Ve}
theorem RFs.get:∀{vs:List (aA×V)}{fs:List (aA×aP)},RFs K m H vs fs->BT.dR f fs=aa x->∃v,vs.lookup f=aa v/\RA K m H v x
 |_,_,.nil,e=>by exact cX e
 |_,_,.cons (f:=g) r t,e=>by
  rw[BT.sf]at e
  by_cases c:f=g
  rw[bM c]at e;cases e;subst c;exact⟨_,by simp,r⟩
  ·rw[bN c]at e;obtain⟨v,L,J⟩:=RFs.get t e;exact⟨v,by rw[Xp];rw[beq_false_of_ne c];exact L,J⟩
theorem RFs.none:∀{vs:List (aA×V)}{fs:List (aA×aP)},RFs K m H vs fs->(BT.dR f fs).isNone=ah->vs.lookup f=af
 |_,_,.nil,_=>rfl
 |_,_,.cons (f:=g) r t,e=>by
  rw[BT.sf]at e
  by_cases c:f=g
  rw[bM c]at e;exact aU e
  ·rw[bN c]at e;rw[Xp,beq_false_of_ne c];exact RFs.none t e
theorem RFs.put(q:RA K m H v x):∀{vs:List (aA×V)}{fs:List (aA×aP)},RFs K m H vs fs->RFs K m H (L2.fy f v vs) (BT.fy f x fs)
 |_,_,.nil=>.cons q .nil
 |_,_,.cons (f:=g) r t=>by
  rw[L2.fy,BT.AW]
  by_cases c:f=g
  rw[bM c,bM c.symm];subst c;exact .cons q t;rw[bN c,bN (Wa c)];exact .cons r (RFs.put q t)
theorem RFs.length:∀{vs:List (aA×V)}{fs:List (aA×aP)},RFs K m H vs fs->vs.length=fs.length
 |_,_,.nil=>rfl
 |_,_,.cons _ t=>by rw[Vv,Vv,RFs.length t]
end
section
def Hi(e:BT.GO f x h=aa r):∃n c fs w,x=.o n/\bC h n=aa (c,fs)/\BT.dR f fs=aa w/\r=(w,h):=by
 cases x with
 |o n =>
  rw[BT.K5]at e;cases g:bC h n with
  |none=>rw[g]at e;exact cX e
  |some q =>
   obtain⟨c,fs⟩:=q;rw[g]at e;obtain⟨w,e1,e2⟩:=dH e;exact⟨n,c,fs,w,rfl,g,e1,e2.symm⟩
 |_=>exact cX e
def Hj{sc:V8}{N:List aA}(V:dQ x=ah)(U:attrName f=ah)(W:PE X x (tD X F G a)):PE X (.Attribute x f p) (tD X F G (.i a f)):=by
 refine PE.weak (Kq W (lG V)) fun j H Q q=>?_;refine JJ (k:=BT.GO f) (λs h=>by simp only[aN]) q λm h x z t v g R r e L=>?_;obtain⟨n,c,fs,w,rfl,e1,e2,b⟩:=Hi e;cases b;cases r with
 |o hn =>
  obtain⟨C,d,O,Z,J,Y⟩:=R.sj _ _ _ _ hn e1;obtain⟨u,l,ra⟩:=Y.get e2;exact⟨_,C,d,O,u,rfl,Z,J.cls,J.no f U,l,L u g m (.refl _ _) R ra.rw⟩
def jF(Y:dQ o=ah)(J:dw args=ah)(O:args.length<20)(V:(apos.endLine==pos.line)=ah):
 eval (.Call (.Attribute o m apos) args [] pos) env=(do
  let ov ←eval o env
  aaV apos.atName
  let (f,first) ←Y6 [ov] (aaX ov m (do return (←importBound o env).getD ah))
  callWith pos f first (Xh pos (VR args env)) (aaM pos (Y5 [] env))):=by
 have W:methodCallForm (args.length+([]:List YO).length) (Xh pos (VR args env)) (aaM pos (Y5 [] env))=ah:=by
  unfold methodCallForm;have L:decide (args.length+([]:List YO).length+(if (aaM pos (Y5 [] env)).isEmpty then 0 else 1) < 30)=ah:=bR (by
   show args.length+0+0 < 30;lia)
  rw[L,jE J];rfl
 rw[arm_eval_Call,lG Y];unfold methodCall;rw[W];have U:methodCallPos ah o env apos pos=pure pos:=by unfold methodCallPos;rw[V];rfl
 rw[U];rfl
def D3(e:BT.Di F m ea x h=aa r):
 ∃n c fs ws g,x=.o n/\bC h n=aa (c,fs)/\(BT.dR m fs).isNone=ah/\ea h=aa (ws,g)/\F (.m c m) (.o n::ws) g=aa r:=by
 cases x with
 |o n =>
  rw[BT.GP]at e;cases g:bC h n with
  |none=>rw[g]at e;exact cX e
  |some q =>
   obtain⟨c,fs⟩:=q;rw[g]at e;simp only at e;split at e
   ·rename_i L;obtain⟨ws,J,e1,e2⟩:=dg e;exact⟨n,c,fs,ws,J,rfl,g,L,e1,e2⟩
   exact cX e
 |_=>exact cX e
def D4(O:Ok X F G sc N)(hb:dQ oe=ah)(T:(apos.endLine==cpos.line)=ah)(L:es.length<20)(P:PE X oe (tD X F G o))(hc:CEs sc N as es)(ha:PA X es (tDs X F G as)):
 PE X (.Call (.Attribute oe m apos) es [] cpos) (tD X F G (.aH o m as)):=by
 have U:=gn hc;intro B s d H Q I q;obtain⟨m0,M,h,z,y,R,S,Z,f⟩:=q;simp only[aN]at Z;obtain⟨x,h1,e1,e2⟩:=dg Z;obtain⟨n,c,fs,E,g,rfl,e3,e4,e5,e6⟩:=D3 e2;obtain⟨C,ga,fd,ps,k,u,hM,hB,hR,ok⟩:=O.aH _ _ _ _ _ e6;have W:yK C m (spF X.prog X.w X.K (F (.m c m))) [] E0 (tD X F G o) (tDs X F G as) d H Q:=by
  refine⟨m0,M,h,.o n,h1,R,S,e1,λv H1 t Y b i=>?_⟩;cases i with
  |@o a _ hn =>
   obtain⟨C',A,vs,p,l,j⟩:=b.sj _ _ _ _ hn e3;cases l.cn.inj u.cn;refine⟨a,A,vs,rfl,p,j.none e4,t,M,h1,E,g,b,S.ext Y,e5,λus H2 m2 D R2 r2=>?_⟩;show spF X.prog X.w X.K (F (.m c m)) (V.ref a::(us++[])) H2 Q E0;rw[Wc];exact⟨m2,.o n::E,g,z,y,R2,.cons (.o (D.ix hn)) r2,e6,λv5 H5 m5 x5 R5 r5=>f v5 H5 m5 ((Y.trans D).trans x5) R5 r5⟩
 cases es with
 |nil =>
  cases as with
  |cons a r=>exact(mh hc).elim
  |nil =>
   refine vg P u.cls hM ok hR hB .nil pT (jF hb U L T) B s d H Q I ?_;obtain⟨m,s,h,z,y,R,S,Z,f⟩:=W;refine⟨m,s,h,z,y,R,S,Z,λv H1 t Y b i=>?_⟩;obtain⟨a,A,fs,p,l,j,q4⟩:=f v H1 t Y b i;exact⟨a,A,fs,p,l,j,jV q4⟩
 |cons e es =>
  have J:=U;simp only[dw,Vg]at J;exact yM P u.cls hM ok hR hB .nil pT ha (c7 J.1) (dM J.2) (jF hb U L T) B s d H Q I W
def D5(O:Ok X F G sc N)(D:dU sc c=ah)(hn:dY c=ah)(hc:CEs sc N as es)(ha:PA X es (tDs X F G as)):
 PE X (.Call (.Name c p) es [] pos) (tD X F G (.make c as)):=by
 have U:=gn hc;intro n s i H Q I q;obtain⟨m0,s',h,z,T,R,S,ee,zr⟩:=q;simp only[aN]at ee;obtain⟨B,V,e1,e2⟩:=dg ee;rw[BT.Dj]at e2;obtain⟨y,h2,e3,g⟩:=dg e2;have l:y=.p .aF/\(z,T)=(.o V.length,h2):=by
  cases y with
  |p d=>cases d<;>simp[BT.yZ]at g;exact⟨rfl,by rw[g.1,g.2]⟩|_=>exact cX g
 obtain⟨rfl,l⟩:=l;cases l;obtain⟨C,ga,fd,ps,k,hC,f,M,P,E,ok⟩:=O.mkc _ _ _ _ e3;have b:CF C (spF X.prog X.w X.K (F (.m c "__init__"))) [] E0 (tDs X F G as) i H Q:=by
  refine⟨m0,s',h,B,V,R,S,e1,λus W L x1 R1 r1 x J nx Z ne=>?_⟩;rw[Wc];have u:Ext L W L (upd W J (.own x)):=lD Z;have Ra:RH X.K L (upd W J (.own x)) V:=R1.new Z;have Y:upd W J (.own x) x=af:=by rw[dI (Wa ne)];exact nx
  have t:Ext L (upd W J (.own x)) (L++[x]) (upd (upd W J (.own x)) x (.ins C J [])):=jC Y;have Rb:RH X.K (L++[x]) (upd (upd W J (.own x)) x (.ins C J [])) (V++[.o c []]):=Ra.Ll Y ⟨C,J,[],fq,hC,.nil⟩;have ix:(L++[x])[V.length]?=aa x:=by rw[←R1.len];simp
  refine⟨L++[x],.o V.length::B,V++[.o c []],.p .aF,T,Rb,.cons (.o ix) (r1.ext (u.trans t)),e3,λv H2 m2 A R2 j=>?_⟩;cases j with
  |p j =>
   cases j;exact⟨rfl,zr _ H2 m2 (((x1.trans u).trans t).trans A) R2 (.o (A.ix ix))⟩
 cases es with
 |nil =>
  cases as with
  |cons a r=>exact(mh hc).elim
  |nil =>
   refine CG M ok E (ef O D) f P .nil pT (fE hn).1 n s i H Q I ?_;exact jV b
 |cons e es =>
  simp only[dw,Vg]at U;exact Gm M ok E (ef O D) f P .nil pT ha (fE hn).1 (c7 U.1) (dM U.2) n s i H Q I b
def LM(o:bG):TIp:=λx y H Q=>∃i j z,x=.int i/\y=.int j/\BT.pV o (.int i) (.int j)=aa (.int z)/\Q (.int z) H
noncomputable def D6:bG->Zs->Bool
 |.add,.Add=>ah|.sub,.Sub=>ah|.mul,.Mult=>ah|_,_=>ak
def zo(h:D6 o op=ah):PIp X op (LM o):=by
 rintro zt s σ H x y u v Q I rx ry ⟨i,j,z,rfl,rfl,e,q⟩
 obtain⟨t,rfl⟩:=(show ∃t,u=Yc i t from rx);obtain⟨J,rfl⟩:=(show ∃J,v=Yc j J from ry);cases o<;>cases op<;>cases h;cases e;exact PyProof.Rows.iadd_int ⟨.int (i+j),H,I.tok _,⟨_,rfl⟩,q⟩;cases e;exact PyProof.Rows.isub_int ⟨.int (i-j),H,I.tok _,⟨_,rfl⟩,q⟩
 ·rw[BT.vB]at e;obtain⟨c,e⟩:=dG e;cases e;have hc:Gd i j:=by
   rcases W9 _ _ ▸ c with c|c
   exact .inl (ud c);exact .inr (ud c)
  exact PyProof.Rows.imul_int ⟨.int (i*j),H,I.tok _,⟨_,rfl⟩,q⟩ hc.ok
def zu(h:BT.pV o d e=aa z):∃i j k,d=.int i/\e=.int j/\z=.int k:=by
 cases d with
 |int i =>
  cases e with
  |int j =>
   refine⟨i,j,?_⟩;cases o with
   |add=>exact⟨_,rfl,rfl,(Vp h).symm⟩|sub=>exact⟨_,rfl,rfl,(Vp h).symm⟩
   |mul =>
    rw[BT.vB]at h;split at h;exact⟨_,rfl,rfl,(Vp h).symm⟩;exact cX h
   |_=>exact cX h
  |_=>cases o<;>exact cX h
 |_=>cases o<;>exact cX h
end
section
variable{K:Ve}
end
theorem nW(r:dD vs us):∀l:List Nat,dD (l.filterMap λi=>vs[i]?) (l.filterMap λi=>us[i]?)
 |[]=>.nil
 |i::l=>by
  rw[VT,VT];cases g:vs[i]? with
  |none =>
   have:us[i]?=af:=by have h:=r.length;rw[aaD]at g⊢;lia
   rw[this];exact nW r l
  |some d =>
   obtain⟨v,e,q⟩:=r.get g;rw[e];exact .cons q (nW r l)
noncomputable def vR(k:Int)(xs:List V):List V:=(YV (VU af af (aa k) xs.length).1 (VU af af (aa k) xs.length).2.1 (VU af af (aa k) xs.length).2.2).filterMap λi=>xs[i]?
section
def LN(r:k≠0)(C:PE X e te)(n:PE X se (tC (.int k))):
 PE X (.Subscript e (.Slice af af (aa se) p2) pos) (fun σ H Q=>te σ H λx H1=>∃a xs,x=.ref a/\SqL X.K H1 a xs/\∀p,H1 p=af->Q (.ref p) (upd H1 p (.aD (vR k xs)))):=by
 intro O s σ H Q I h;refine abl (thn (C O s σ H _ I h) λv d V=>?_);obtain⟨x,H1,E,g,a,xs,ex,m,q⟩:=V;subst ex;cases g;refine wpAny_Slice ?_;rw[abC];refine ay (ay ?_);rw[evalPart_some];refine thn (n O d σ H1 (λv G=>v=.int k/\G=H1) E ⟨rfl,rfl⟩) λM J V=>?_;obtain⟨y,F,D,f,l,u⟩:=V;subst l u;obtain⟨t,rfl⟩:=f;have W:Inv X O σ F {J with heap:=J.heap.push {cls:=.type "slice",data:=.fields #[.none,.none,.int k t]} }:=D.aJ (t':=J.toks) λb ob q=>Vk _ q;obtain⟨L,Y,p,N⟩:=W.list m;have B:az (VC X.prog X.w) X.A (aar (.ref a) (.ref J.heap.objs.size)) (EP X O σ Q) X.xe {J with heap:=J.heap.push {cls:=.type "slice",data:=.fields #[.none,.none,.int k t]} }:=by
  have U:=Y.length;refine abk p.isList (aae ..) .none .none (.int k t) (by intro z;exact r (Vp z)) ?_ (by rw[Vl];lia);have c:slicePick L.toArray af af (aa k)=((YV (VU af af (aa k) xs.length).1 (VU af af (aa k) xs.length).2.1 (VU af af (aa k) xs.length).2.2).filterMap λi=>L[i]?).toArray:=by unfold slicePick;rw[Vl,←U];simp
  rw[c];have Z:=nW Y (YV (VU af af (aa k) xs.length).1 (VU af af (aa k) xs.length).2.1 (VU af af (aa k) xs.length).2.2);have j:(vR k xs).length<=xs.length:=by have:=slicePick_size_le L.toArray af af (aa k);rw[c,Vl,Vl]at this;have e:=Z.length;unfold vR;lia
  refine⟨.ref (J.heap.push {cls:=.type "slice",data:=.fields #[.none,.none,.int k t]}).objs.size,_,W.laid (t':=J.toks) (o:=.aD (vR k xs)) (λb ob q=>Vk _ q) (Vo _) ?_,rfl,q _ (W.aL.fresh (Vo _))⟩;exact⟨by lia,_,0,Z,Vw _ rfl⟩
 show az (VC X.prog X.w) X.A (aby e (.Slice af af (aa se) p2) (.ref a) (.ref J.heap.objs.size)) (EP X O σ Q) X.xe {J with heap:=J.heap.push {cls:=.type "slice",data:=.fields #[.none,.none,.int k t]} };exact abx (ops:=[.ref a,.ref J.heap.objs.size]) p.isList.typeIs slot_list_getitem.lookup B (by with_unfolding_all rfl)
def zw(h:(GU e).bind cInt=aa k):∃a b,e=.Constant (.int k) a b:=by
 cases e with
 |Constant c a b =>
  cases c with
  |int j=>cases h;exact⟨a,b,rfl⟩|_=>exact bO (show(af:Option Int)=aa _ from h) (λz=>nomatch z)
 |_=>exact bO (show(af:Option Int)=aa _ from h) (λz=>nomatch z)
def D7(h:tW k e=ah):(∃a b,e=.Constant (.int k) a b/\0<k)\/∃j a b p,e=.UnaryOp .USub (.Constant (.int j) a b) p/\k=-j/\0<j:=by
 unfold tW at h;rw[W9,Vg,Vg,bP,bP]at h;rcases h with⟨J,L⟩|⟨J,L⟩
 ·obtain⟨a,b,e1⟩:=zw (bT J);exact .inl ⟨a,b,e1,L⟩
 ·have J:=bT J;cases e with
  |UnaryOp o e p =>
   by_cases c:o=.USub
   ·subst c;have O:(GU e).bind cInt=aa (-k):=J;obtain⟨a,b,rfl⟩:=zw O;exact .inr ⟨-k,a,b,p,rfl,by lia,by lia⟩
   ·have:unE (.UnaryOp o e p)=af:=bN c;rw[this]at J;exact cX J
  |_=>exact bO (show(af:Option Int)=aa _ from J) (λz=>nomatch z)
def Hl(f:tW k se=ah)(i:PE X x (tD X F G a)):PE X (.Subscript x (.Slice af af (aa se) p2) p) (tD X F G (.stp mu k a)):=by
 have L:k≠0/\PE X se (tC (.int k)):=by
  rcases D7 f with⟨a,b,rfl,h⟩|⟨j,a,b,p,rfl,rfl,h⟩
  exact⟨by lia,xg⟩;exact⟨by lia,PE.weak (Js Ct xg) fun O H Q q=>⟨_,rfl,q⟩⟩
 refine PE.weak (LN L.1 i L.2) fun O H Q q=>?_;refine JJ (k:=BT.K4 mu k) (λs h=>by simp only[aN]) q λm h x z l v o R r e U=>?_;unfold BT.K4 at e;cases g:bw x h with
 |none=>rw[g]at e;exact cX e
 |some d =>
  rw[g]at e;cases d with
  |aD V =>
   simp only at e;have Y:=fh R r g;obtain⟨a,W,rfl,c,J⟩:=Y.aD;have n:BT.new mu (BT.oG k V) h=(z,l):=Vp e;refine⟨a,W,rfl,c.sq,λp Z=>tZ (mu:=mu) R Z ?_ (by rw[n];exact U)⟩;unfold vR BT.oG;rw[J.length];exact RDs.pick J _
  |_=>exact cX e
def D8{X:Cx}{b:BT.Bi}{g:Int->Int->Int}(c:∀ds d,BT.biD b ds=aa d->∃i j,ds=[.int i,.int j]/\d=.int (g i j)){id:String}(hc:fQ X (.builtin id) (λxs H Q=>∃i j,xs=[.int i,.int j]/\Q (.int (g i j)) H)):fQ X (.builtin id) (rBi X.prog X.w X.K b ak):=by
 intro U s O H k W Q I L h;obtain⟨m,h,f,z,l,R,J,e,V⟩:=h;obtain⟨ds,d,e1,e2,⟨_,rfl,rfl⟩|⟨_,q,_⟩⟩:=jv e
 ·have Z:=iS R J e1;obtain⟨i,j,rfl,rfl⟩:=c _ _ e2;cases Z with
  |cons r t =>
   cases t with
   |cons a Y =>
    cases Y;cases r.int;cases a.int;exact hc U s O H _ W Q I L ⟨i,j,rfl,V.here R (.int _)⟩
 exact aU q
def Ho{X:Cx}{sc:V8}{N:List aA}(O:Ok X F G sc N)(V:fT N=ah){b:BT.Bi}{as:bg}{x:aA}{e:Vj}{es:List Vj}{p pos:Pos}(L:DA b x=ah)(W:dU sc x=ah)(J:dw (e::es)=ah)(Y:PA X (e::es) (tDs X F G as)):
 PE X (.Call (.Name x p) (e::es) [] pos) (tD X F G (.bi b ak as)):=by
 simp only[dw,Vg]at J;have Z:=O.blt;cases b<;>first|exact aU L|(replace L:=bT L)
 ·subst L;refine PE.weak (gA (D8 (b:=.min2) (g:=λi j=>if j<i then j else i) (λU d h=>?_) (AE (O.calm V))) (ef O W) (Z _ (by decide +kernel)) (by decide +kernel) Y (by decide) (by decide) (c7 J.1) (dM J.2)) (fun a H Q z=>kB z)
  match U,h with
  |[.int i,.int j],h=>exact⟨i,j,rfl,(Vp h).symm⟩
 ·subst L;refine PE.weak (gA (D8 (b:=.max2) (g:=λi j=>if j>i then j else i) (λU d h=>?_) (AD (O.calm V))) (ef O W) (Z _ (by decide +kernel)) (by decide +kernel) Y (by decide) (by decide) (c7 J.1) (dM J.2)) (fun a H Q z=>kB z)
  match U,h with
  |[.int i,.int j],h=>exact⟨i,j,rfl,(Vp h).symm⟩
end
section
variable{K:Ve}
def PP(H H':Hp):Prop:=(∀a J,Rd H a (.aE J)->Rd H' a (.aE J))/\∀a J,Rd H a (.aD J)->Rd H' a (.aD J)
mutual
theorem RD.tr(q:PP H H'):∀{v:V}{d:aQ},RD K m H v d->RD K m H' v d
 |_,_,.aF=>.aF|_,_,.bl b=>.bl b|_,_,.int i=>.int i|_,_,.str y h=>.str y h|_,_,.aE h r=>.aE (h.elim (λz=>.inl ⟨q.1 _ _ z.1,z.2⟩) .inr) (RDs.tr q r)|_,_,.aD h r=>.aD (h.elim (λz=>.inl ⟨q.2 _ _ z.1,z.2⟩) .inr) (RDs.tr q r)
theorem RDs.tr(q:PP H H'):∀{vs:List V}{ds:List aQ},RDs K m H vs ds->RDs K m H' vs ds
 |_,_,.nil=>.nil|_,_,.cons r t=>.cons (RD.tr q r) (RDs.tr q t)
end
end
open Classical in
noncomputable def hid(cl:List (aA×aB))(H:Hp):Hp:=λb=>if ∃x,cl.lookup x=aa b then af else H b
open Classical in
noncomputable def ret(cl:List (aA×aB))(H0 H:Hp):Hp:=λb=>if ∃x,cl.lookup x=aa b then H0 b else H b
section
end
def PR(P:Vy)(w:VQ)(K:Ve)(mg:aA->Option aC)(base:av)(N:List aA)(q:aA)(sc:V8)(cl:List (aA×aB))(f c':aB)(A:V9)(outer:List Env)(s:Vh)(H:Hp):Cx where
 prog:=P
 w:=w
 K:=K
 mg:=mg
 base:=base
 A:=A.deeper (YL q sc s.heap.objs.size f (.ref c') cl)
 N:=N
 s₀:=s
 H₀:=hid cl H
 env:=YL q sc s.heap.objs.size f (.ref c') cl
 outer:=outer
 stack:=YL q sc s.heap.objs.size f (.ref c') cl::outer
 ex:=[]
 calm:=ah
 fn:=λ_=>ak
 pn:=[]
 xe:=λ_ _=>False
section
end
section
open PySem.W PySem.Calls PySem.Builtin PySem.Builtin.ObjectAttr PySem.Builtin.Getset_descriptor
variable{E:aC->Vh->Prop}{K:Ve}
end
section
end
section
variable{X:Cx}
def D9(N:X.A.units+150<cLine):MtR X "list.count" (rMe X.prog X.w X.K .count):=by
 intro zt s σ H v vs v' us Q I D W h;obtain⟨m,h,x,k,z,h',R,U,V,e,C⟩:=h;cases x with
 |r n=>cases k with
  |_=>(first|exact cX e|simp[aW]at e)
 |p d =>
  rw[BT.AQ]at e;cases g:bA k with
  |none=>rw[g]at e;exact cX e
  |some ds =>
   rw[g]at e;obtain⟨b,e1,e2⟩:=dH e;cases e2;have rds:=V.pure g;cases d<;>first|exact cX e1|skip
   rename_i O;cases ds with
   |nil=>exact cX e1
   |cons L dr =>
    cases dr with
    |cons _ _=>exact cX e1
    |nil =>
     rw[BT.De]at e1;obtain⟨c,e1⟩:=dG e1;cases e1;cases rds with
     |cons G rn =>
      cases rn;obtain⟨u,rfl,E⟩:=W.one;cases U with
      |p U =>
       obtain⟨a,vt,rfl,S,ra⟩:=RR.aD (.d U);cases D;obtain⟨zz,J,n,Y,_,o⟩:=rdL I S;have hl:=Y.length;have P:=ra.length;have T:J.countP (fV s.heap (pd L))=O.countP λy=>aY y L:=by
        have Z:J.map (fV s.heap (pd L))=O.map λy=>aY y L:=by refine List.ext_getElem (by rw[Vx,Vx];lia) λi t q=>?_;rw[Vx]at t q;rw[ZX,ZX];exact pB I ra Y i t q
        have B:∀{j:Type}(f:j->Bool)(l:List j),l.countP f=(l.map f).countP id:=λf l=>by rw[List.countP_map];rfl
        rw[B,B (λy=>aY y L),Z]
       refine XH F.slot_list_count ⟨_,o,rfl⟩ F.entry_list_count (F.args_list_count_2 _ _) (SeqAt.list_countAt a J.toArray n af #[] u (fV s.heap (pd L))) ⟨o,?_,?_⟩
       ·intro y M;exact jT N I (.d G) E ra Y c y (by simpa using M)
       ·refine⟨.int ((O.countP λy=>aY y L:Nat):Int),H,I.tok _,⟨s.toks,?_⟩,C.here R (.int _)⟩;rw[←T]
 |_=>(first|exact cX e|simp[aW]at e)
end
structure vS(K:Ve)(J:It)(m0:List aB)(H0:Hp)(ds:List aQ)(C:aO->Prop):Prop where
 go:∀m H h (i:Nat),Ext m0 H0 m H->RH K m H h->C h->i<ds.length->J.go i H
 yld:∀m H h (i:Nat) x H' d,Ext m0 H0 m H->RH K m H h->C h->ds[i]?=aa d->J.yld i H x H'->Ext m H m H'/\Le H H'/\RD K m H' x d
 stop:∀m H h,Ext m0 H0 m H->RH K m H h->C h->J.stop ds.length H
def vU(J:bE)(ws:List aP):Prop:=BT.iB ws=ah\/((J=.seq\/J=.enu)/\∃q,ws=[.r q])
def m7(J:bE)(ws:List aP)(ds:List aQ)(h:aO):Prop:=∀q,ws=[.r q]->BT.lQ J q h=aa ds
def vU.p{J:bE}{ws:List aP}(h:vU J ws)(n:¬(J=.seq\/J=.enu)):BT.iB ws=ah:=h.resolve_right λz=>n z.1
def LP{q:Nat}{ds:List aQ}{h:aO}(e:BT.lQ .seq q h=aa ds):bz h q=aa ds:=by
 unfold BT.lQ at e;cases g:bz h q with
 |none=>rw[g]at e;exact cX e|some J=>rw[g]at e;exact e
def jW{J:bE}{ws:List aP}{ds:List aQ}{h:aO}(a:BT.iB ws=ah):m7 J ws ds h:=λq e=>by subst e;exact aU a
noncomputable def Itv(K:Ve)(a:aB)(n:Nat):It :=
 ⟨λi H=>i<n/\∃J,SqL K H a J/\J.length=n,λi H x L=>L=H/\∀J,SqL K H a J->J[n-1-i]?=aa x,λi H=>i=n⟩
theorem Ea(a L:aB)(n:Nat):Turn P w K tg (Itv K a n) [L] L (λi h=>h.IsRevIter L a ((n:Int)-1-i)) where
 mem:=by simp
 obj:=λi h st b U=>by
  have e:b=L:=by simpa using U
  subst e;obtain⟨o,e,c,d⟩:=st;exact⟨o,e,λv z=>by rw[d]at z;cases z⟩
 keep:=λi h Y st k=>st.at λo e=>k L (by simp) o e
 item:=by
  intro X Z hw f hc i t s r H E I W st V;subst Z hw f;obtain⟨hi,C,A,hx⟩:=V;obtain⟨G,y,p,hz⟩:=I.list A;have hl:=y.length;have B:n-1-i<C.length:=by lia
  obtain⟨u,N,F⟩:=y.get (Vm B);obtain⟨q,m,Q,l,j,g⟩:=W L (by simp);have R:((n:Int)-1-(i:Int))=(((n-1-i:Nat)):Int):=by lia
  have O:s.heap.IsRevIter L a (((n-1-i:Nat)):Int):=by rw[←R];exact st
  refine wpAny_pyNext_rev_item O p.isList (x:=u) (by simpa using N) λY J D=>?_;have T:Inv X t r H {s with heap:=Y}:=I.turned (t':=s.toks) (λb o U e=>(D.2 b U).trans e) q m l j g;obtain⟨o,e,c,d⟩:=id J;refine⟨u,rfl,yG (s:={s with heap:=Y}) e c d (by decide) ⟨_,H,T,F,⟨rfl,λys M=>by rw[I.u9 M A];exact Vm B⟩,?_,λb U=>(W b U).1⟩⟩;have e2:(((n-1-i:Nat)):Int)-1=(n:Int)-1-((i+1:Nat):Int):=by lia
  rw[e2]at J;exact J
 done:=by
  intro X Z hw f hc i t s r H E I W st V;subst Z hw f;have V:i=n:=V;subst V;obtain⟨q,m,Q,l,j,g⟩:=W L (by simp);have e1:(i:Int)-1-(i:Int)=-1:=by lia
  have O:s.heap.IsRevIter L a (-1):=by rw[←e1];exact st
  exact wpAny_pyNext_rev_end (I.ok.hd hc) O λY S=>⟨rfl,I.turned (t':=s.toks) (λb o U e=>S b o U e) q m l j g⟩
 self:=λ_ _ _ _ _ st h=>wpAny_pyIter_revIter st h
inductive iD(X:Cx)(F:FT)(G:aA->Option aP)(sr:bE)(sa:bg)(σ:L2.St)(H:Hp)(R:It->Hp->Prop):Prop
 |mk(m:List aB)(s:bq)(h:aO)(ws:List aP)(h':aO)(ds:List aQ)(RR:RH X.K m H h)(S:RS X.prog X.w X.K m H σ s)(e:aZ F G sa s h=aa (ws,h'))(e2:(aV ws h').bind (BT.gy sr)=aa ds)(L:vU sr ws)
  (p:∀H' m' J,Ext m H m' H'->RH X.K m' H' h'->vS X.K J m' H' ds (m7 sr ws ds)->R J H'):iD X F G sr sa σ H R
def PI.weak(h:PI X tg e t)(q:∀σ H R,t' σ H R->t σ H R):PI X tg e t':=λJ s σ H R I hw=>h J s σ H R I (q _ _ _ hw)
section
def Hq(h:(Rd H0 a (.aD vs)/\a∉m0)\/KL K a vs)(r:RDs K m0 H0 vs ds):vS K (Itl K a) m0 H0 ds C:=by
 have k:∀{m H},Ext m0 H0 m H->SqL K H a vs:=λx=>LL.sq (h.elim (λq=>.inl (Rd.ext x q.1 q.2).1) .inr);refine⟨λm H L i x _ _ J=>?_,λm H L i v W d x RR _ O y=>?_,λm H _ x _ _=>⟨vs,k x,by rw[r.length];exact Vo _⟩⟩;exact⟨vs,_,k x,Vm (by rw[r.length];exact J)⟩
 ·obtain⟨rfl,y⟩:=y;obtain⟨u,V,U⟩:=(r.ext x).get O;have:=y vs (k x);rw[V]at this;cases this;exact⟨.refl _ _,λ_ _ e=>e,U⟩
def LQ(h:(Rd H0 a (.aE vs)/\a∉m0)\/KT K a vs)(r:RDs K m0 H0 vs ds):vS K (Itt K a) m0 H0 ds C:=by
 have k:∀{m H},Ext m0 H0 m H->SqT K H a vs:=λx=>h.elim (λq=>.inl (Rd.ext x q.1 q.2).1) λ⟨o,its,n,q,_⟩=>.inr ⟨o,its,n,q⟩;refine⟨λm H L i x _ _ J=>?_,λm H L i v W d x RR _ O y=>?_,λm H _ x _ _=>⟨vs,k x,by rw[r.length];exact Vo _⟩⟩;exact⟨vs,_,k x,Vm (by rw[r.length];exact J)⟩
 ·obtain⟨rfl,y⟩:=y;obtain⟨u,V,U⟩:=(r.ext x).get O;have:=y vs (k x);rw[V]at this;cases this;exact⟨.refl _ _,λ_ _ e=>e,U⟩
def LR(h:(Rd H0 a (.aD vs)/\a∉m0)\/KL K a vs)(r:RDs K m0 H0 vs ds):vS K (Itv K a ds.length) m0 H0 ds.reverse C:=by
 have k:∀{m H},Ext m0 H0 m H->SqL K H a vs:=λx=>LL.sq (h.elim (λq=>.inl (Rd.ext x q.1 q.2).1) .inr);refine⟨λm H U i x _ _ J=>?_,λm H U i v Y d x RR _ O y=>?_,λm H _ x _ _=>by show ds.reverse.length=ds.length;simp⟩;exact⟨by simpa using J,vs,k x,r.length⟩
 ·obtain⟨rfl,y⟩:=y;have J:i<ds.length:=by have:=getD_some O;simpa using this
  have L:ds[ds.length-1-i]?=aa d:=by rw[List.getElem?_reverse J]at O;exact O
  obtain⟨u,W,V⟩:=(r.ext x).get L;have:=y vs (k x);rw[W]at this;cases this;exact⟨.refl _ _,λ_ _ e=>e,V⟩
def Eb(lo:Int)(n:Nat):vS K (Itr lo n) m0 H0 (BT.upto lo n) C:=by
 have O:(BT.upto lo n).length=n:=by simp[BT.upto]
 refine⟨λm H U i x _ _ J=>by rw[O]at J;exact J,λm H U i v V d x RR _ L y=>?_,λm H _ x _ _=>by rw[O];exact Vo n⟩;obtain⟨rfl,rfl⟩:=y;have:d=.int (lo+i):=by
  have J:i<n:=by have:=getD_some L;rw[O]at this;exact this
  simp only[BT.upto,VF]at L;rw[Yh J]at L;simpa using L.symm
 subst this;exact⟨.refl _ _,λ_ _ e=>e,.int _⟩
def zx:∀{ws:List aP},BT.iB ws=ah->∃ds:List aQ,ws=ds.map aP.p:=by
 intro ws
 induction ws with
 |nil=>exact λ_=>⟨[],rfl⟩
 |cons w ws J =>
  intro h;cases w with
  |p d =>
   obtain⟨ds,rfl⟩:=J h;exact⟨d::ds,rfl⟩
  |_=>exact aU h
def Ec(h:aO)(ds:List aQ):aV (ds.map aP.p) h=aa ds:=by
 induction ds with
 |nil=>rfl
 |cons d ds J =>
  show(aV (ds.map aP.p) h).map (d :: ·)=_;rw[J];rfl
def Ed(L:sr=.seq\/sr=.rev\/sr=.rng1)(e:(aV ws h).bind (BT.gy sr)=aa ds)(O:BT.iB ws=ah):∃d,ws=[.p d]/\BT.gy sr [d]=aa ds:=by
 obtain⟨J,rfl⟩:=zx O;rw[Ec,VV]at e;cases J with
 |nil=>rcases L with rfl|rfl|rfl<;>exact cX e
 |cons d J =>
  cases J with
  |nil=>exact⟨d,rfl,e⟩
  |cons U J=>rcases L with rfl|rfl|rfl<;>cases d<;>exact cX e
def um(e:aZ F G (.cons a .nil) s h=aa (ws,h')):∃w,ws=[w]/\aN F G a s h=aa (w,h'):=by simp only[aZ]at e;obtain⟨w,g,e1,e2⟩:=dg e;simp only[BT.mV,BT.fu,BT.jN]at e2;cases e2;exact⟨w,rfl,e1⟩
def Hr{O:List aB}{H0:Hp}{a:aB}{q:Nat}{ds:List aQ}(U:O[q]?=aa a):vS K (Itl K a) O H0 ds (m7 .seq [.r q] ds):=by
 have k:∀{m H h},Ext O H0 m H->RH K m H h->m7 .seq [.r q] ds h->∃J,SqL K H a J/\RDs K m H J ds:=λ{m H h} x RR c=>by
  obtain⟨e,rfl,_⟩:=x.pre;have e1:(O++e)[q]?=aa a:=by rw[Vi (List.getElem?_eq_some_iff.mp U).1];exact U
  obtain⟨J,g,f⟩:=RR.cell q a ds e1 (LP (c q rfl));exact⟨J,LL.sq (.inl (.inl g)),f⟩
 refine⟨λm H V i x RR c W=>?_,λm H V i v j d x RR c Y y=>?_,λm H V x RR c=>?_⟩
 ·obtain⟨J,L,k2⟩:=k x RR c;exact⟨J,_,L,Vm (by rw[k2.length];exact W)⟩
 ·obtain⟨J,L,k2⟩:=k x RR c;obtain⟨rfl,y⟩:=y;obtain⟨u,b,Z⟩:=k2.get Y;have:=y J L;rw[b]at this;cases this;exact⟨.refl _ _,λ_ _ e=>e,Z⟩
 ·obtain⟨J,L,k2⟩:=k x RR c;exact⟨J,L,by rw[k2.length];exact Vo _⟩
def Hs(k:PE X x (tD X F G a)):PI X tg x (iD X F G .seq (.cons a .nil)):=by
 intro f s c H R I q;obtain⟨m,j,h,A,W,u,RR,S,e,e2,l,i⟩:=q;rcases l with l|⟨_,q,rfl⟩
 case inr =>
  obtain⟨w,t,Z⟩:=um e;cases t;have g:bz W q=aa u:=by
   simp only[aV,bw,X7]at e2;cases g:bz W q with
   |none=>rw[g]at e2;exact cX e2|some z=>rw[g]at e2;cases e2;rfl
  refine yH k f s c H R I ⟨m,j,h,_,W,RR,S,Z,λv Y V O L J=>?_⟩;cases J with
  |@r a n hn =>
   obtain⟨U,y,B⟩:=L.cell q a u hn g;exact⟨a,rfl,⟨U,LL.sq (.inl (.inl y))⟩,i Y V _ O L (Hr hn)⟩
 obtain⟨d,rfl,b⟩:=Ed (.inl rfl) e2 l;obtain⟨w,t,Z⟩:=um e;cases t;rw[BT.Dg]at b;cases d<;>simp only[BT.tP]at b<;>try contradiction
 ·cases b;refine Ke k f s c H R I ⟨m,j,h,_,W,RR,S,Z,λv Y V O L J=>?_⟩;cases J with
  |p J =>
   cases J with
   |@aE a U _ h r=>exact⟨a,rfl,⟨U,h.elim (λq=>.inl q.1) λ⟨o,its,n,q,_⟩=>.inr ⟨o,its,n,q⟩⟩,i Y V _ O L (LQ h r)⟩
 ·cases b;refine yH k f s c H R I ⟨m,j,h,_,W,RR,S,Z,λv Y V O L J=>?_⟩;cases J with
  |p J =>
   cases J with
   |@aD a U _ h r=>exact⟨a,rfl,⟨U,LL.sq (h.elim (λq=>.inl q.1) .inr)⟩,i Y V _ O L (Hq h r)⟩
def Ef(O:Ok X F G sc N)(b:dU sc "range"=ah)(a:noStar e=ah)(L:PA X [e] (tDs X F G sa)):PI X tg (.Call (.Name "range" p) [e] [] pos) (iD X F G .rng1 sa):=by
 refine PI.weak (AA (ef O b) (O.blt _ (by decide)) L (c7 a)) fun k H R q=>?_;obtain⟨m,W,h,l,f,o,RR,S,e,e2,L,U⟩:=q;obtain⟨d,rfl,J⟩:=Ed (.inr (.inr rfl)) e2 (L.p (by rintro (z|z)<;>cases z));refine⟨m,W,h,_,f,RR,S,e,λn i Z V g Y=>?_⟩;obtain⟨j,rfl⟩:∃j:Int,d=.int j:=by
  cases d with
  |int j=>exact⟨j,rfl⟩|_=>exact bO (show(af:Option (List aQ))=aa _ from J) (λz=>nomatch z)
 rw[BT.iM]at J;obtain⟨c,J⟩:=dG J;simp only[Vg,bP]at c;cases J;cases Y with
 |cons r t =>
  cases t;cases r with
  |p r =>
   cases r;exact⟨j,rfl,by lia,by lia,U i Z _ V g (Eb 0 j.toNat)⟩
def PU(e:(aV ws h).bind (BT.gy .rng2)=aa ds)(O:BT.iB ws=ah):∃i j:Int,ws=[.p (.int i),.p (.int j)]/\(-100000<=i/\i<=100000/\-100000<=j/\j<=100000)/\ds=BT.upto i (j-i).toNat:=by
 obtain⟨J,rfl⟩:=zx O;rw[Ec,VV]at e;have L:∃i j:Int,J=[.int i,.int j]:=by
  match J,e with
  |[.int i,.int j],_=>exact⟨i,j,rfl⟩
 obtain⟨i,j,rfl⟩:=L;rw[BT.jB]at e;obtain⟨c,e⟩:=dG e;simp only[Vg,bP]at c;cases e;exact⟨i,j,rfl,⟨c.1.1.1,c.1.1.2,c.1.2,c.2⟩,rfl⟩
def Eg(O:Ok X F G sc N)(f:dU sc "range"=ah)(d:noStar x=ah)(J:noStar y=ah)(U:PA X [x,y] (tDs X F G sa)):PI X tg (.Call (.Name "range" p) [x,y] [] pos) (iD X F G .rng2 sa):=by
 refine PI.weak (AB (ef O f) (O.blt _ (by decide)) U (by rw[c7 d,c7 J];rfl) (by rw[c7 J];rfl)) fun n H R q=>?_;obtain⟨m,Z,h,o,g,u,RR,S,e,e2,U,V⟩:=q;obtain⟨i,j,rfl,c,rfl⟩:=PU e2 (U.p (by rintro (z|z)<;>cases z));refine⟨m,Z,h,_,g,RR,S,e,λs l b W k a=>?_⟩;cases a with
 |cons r t =>
  cases t with
  |cons L Y =>
   cases Y;cases r with
   |p r =>
    cases r;cases L with
    |p L =>
     cases L;exact⟨i,j,rfl,⟨by lia,by lia,by lia,by lia⟩,V l b _ W k (Eb i (j-i).toNat)⟩
def Hu(O:Ok X F G sc N)(D:dU sc "reversed"=ah)(k:noStar e=ah)(E:PE X e (tD X F G a)):PI X tg (.Call (.Name "reversed" p) [e] [] pos) (iD X F G .rev (.cons a .nil)):=by
 intro x s t H R I q;obtain⟨m,A,h,ws,l,ds,RR,S,e,e2,P,y⟩:=q;obtain⟨d,rfl,n⟩:=Ed (.inr (.inl rfl)) e2 (P.p (by rintro (z|z)<;>cases z));obtain⟨w,T,e4⟩:=um e;cases T;obtain⟨U,rfl⟩:∃U:List aQ,d=.aD U:=by
  cases d with
  |aD U=>exact⟨U,rfl⟩|_=>exact bO (show(af:Option (List aQ))=aa _ from n) (λz=>nomatch z)
 ·cases n;refine Call_ (jI (u:=.type "reversed") I (ef O D) (O.blt _ (by decide)) (by decide +kernel) (Wi (thn (lq E tF (c7 k) pos x s t H (λj L=>∃a W,j=[.ref a]/\∃J,Ext m H J L/\RH X.K J L l/\((Rd L a (.aD W)/\a∉J)\/KL X.K a W)/\RDs X.K J L W U) I ?_) λus s1 ⟨j,L,I1,Z,q1⟩=>?_) (c7 k) rfl))
  ·refine⟨m,A,h,_,l,RR,S,e4,λv L J g i Z=>?_⟩;cases Z with
   |p Z =>
    cases Z with
    |@aD a W _ f r=>exact⟨a,W,rfl,J,g,i,f,r⟩
  ·obtain⟨a,W,rfl,J,g,i,f,r⟩:=q1;obtain⟨u,rfl,B⟩:=vals1 Z;cases B;obtain⟨z,V,nn,rv,C,ee⟩:=rdL I1 (f.elim (λq=>.inl q.1) .inr);have Q:s1.heap.IsList a V.toArray:=⟨_,ee,rfl,_,rfl⟩;have c:=r.length;refine call_reversed_list Q ?_;have Y:({s1 with heap:=s1.heap.push (revObj a ((V.toArray.size:Int)-1))}:Vh).heap.IsRevIter s1.heap.objs.size a ((U.length:Int)-1-((0:Nat):Int)):=by refine⟨_,Vw _ rfl,rfl,?_⟩;show Data.fields #[.ref a,Zn ((V.toArray.size:Int)-1)]=_;rw[Vl,←C,c];simp
   refine wpAny_pyIter_revIter Y ?_;refine⟨s1.heap.objs.size,[s1.heap.objs.size],_,_,L,rfl,I1.aJ (t':=s1.toks) λb o e=>Vk _ e,Ea a _ U.length,Y,λb M=>?_,y L J _ g i (LR f r)⟩;have e:b=s1.heap.objs.size:=by simpa using M
   subst e;exact I1.Gb (Vo _) (I1.aL.fresh (Vo _))
end
section
variable{K:Ve}
end
section
variable{X:Cx}{F:FT}{G:aA->Option aP}
def UW:V->V->V->Hp->(Hp->Prop)->Prop:=λo i v H Q=>∃p J k,o=.ref p/\i=kV k/\H p=aa (.dK J)/\J.length<ao/\Q (upd H p (.dK (putK J k v)))
end
section
variable{E:aC->Vh->Prop}
def vV(hc:az (VC prog w) A.in1 (collect v) (λvs J=>vs.length<=ao/\az (VC prog w) A.in1.in1 (Builtin.«list.sort» { pos:=[.ref J.heap.objs.size] }) (λfin s2=>∃ u,fin=.done (.ret u)/\Q (.ref J.heap.objs.size) s2) E
 { J with heap:=J.heap.push (seqObj "list" vs.toArray 0) }) E s):az (VC prog w) A (call (.builtin "sorted") [v]) Q E s:=by
 refine Calls.call_function_entry kind_sorted plain_sorted entry_sorted (args_sorted1 v) ?_;show az _ _ (Builtin.sorted {pos:=[v]}) _ _ s;unfold Builtin.sorted;refine Vf (ay ?_);refine Vf (Wk hc (λvs J L=>?_) λ_ _ x=>x);obtain⟨O,L⟩:=L;simp only[newList];refine Vf (V1 ?_ (by first|size_fits|(rw[Vl];exact O)|exact O));refine Vf (V3 (XC slot_list_sort ⟨_,Vw _ rfl,rfl⟩ entry_list_sort ?_ (args_list_sort _)));refine Wk L (λfin s2 q=>?_) λ_ _ x=>x;obtain⟨u,rfl,q⟩:=q;exact⟨u,rfl,ay ⟨_,rfl,q⟩⟩
end
section
variable{X:Cx}{F:FT}{G:aA->Option aP}
end
section
variable{X:Cx}{F:FT}{G:aA->Option aP}{K:Ve}{m:List aB}{H:Hp}
end
section
variable{F:FT}{G:aA->Option aP}
end
section
variable{F:FT}{G:aA->Option aP}
end
section
variable{X:Cx}{F:FT}{G:aA->Option aP}
def TyX(X:Cx)(T:String)(k:BT.Tx):Prop:=∀(O:List (aB×au)) (s:Vh) (L:L2.St) (H:Hp) (v:V) (J:aC) (m:List aB) (x:aP) (U:List aP) (h:aO) (r:aP×aO),
 Inv X O L H s->RelV v J->RW X.prog X.w X.K m H v x->BT.kTx k (x::U) h=aa r->s.TypeIs J T/\∀a,J=.ref a->∃ob,s.heap.get? a=aa ob/\ob.dict=af
def Hv{k:BT.Tx}{ws:List aP}{h:aO}{z:aP}{h':aO}(J:k≠.dget)(e:BT.kTx k ws h=aa (z,h')):∃ds d,aV ws h=aa ds/\BT.txD k ds=aa d/\z=.p d/\h'=h:=by
 have e:((aV ws h).bind λds=>(BT.txD k ds).map λd=>(aP.p d,h))=aa (z,h'):=by
  cases k with
  |dget=>exact bO rfl J|_=>exact e
 obtain⟨ds,e1,e2⟩:=Option.bind_eq_some_iff.mp e;obtain⟨d,O,L⟩:=dH e2;cases L;exact⟨ds,d,e1,O,rfl,rfl⟩
def Eh{J:Type}{c:Prop}[Decidable c]{a:Option J}{b:J}(h:(if c then a else af)=aa b):c/\a=aa b:=by
 by_cases z:c
 rw[bM z]at h;exact⟨z,h⟩;rw[bN z]at h;exact cX h
def PV{ds:List aQ}{d:aQ}(e:BT.txD .join ds=aa d):∃x ys ts,ds=[.str x,.aD ys]/\BT.strsOf ys=aa ts/\(ts.length<=4000/\x.length<=10/\∀t∈ts,t.length<=4000)/\d=.str (Str.join x ts):=by
 match ds,e with
 |[.str x,.aD ys],e =>
  obtain⟨ts,e1,e2⟩:=Option.bind_eq_some_iff.mp (show((BT.strsOf ys).bind λts=>if ts.length<=4000/\x.length<=10/\∀t∈ts,t.length<=4000 then aa (aQ.str (Str.join x ts))else af)=aa d from e);obtain⟨c,J⟩:=dG e2;exact⟨x,ys,ts,rfl,e1,c,J.symm⟩
def NG{ds:List aQ}{d:aQ}(e:BT.txD .split ds=aa d):∃x y,ds=[.str x,.str y]/\(y.length=1/\x.length<=BT.lim)/\d=.aD ((Txt.split x y).map .str):=by
 match ds,e with
 |[.str x,.str y],e =>
  obtain⟨c,J⟩:=dG (show(if y.length=1/\x.length<=BT.lim then aa (aQ.aD ((Txt.split x y).map .str))else af)=aa d from e);exact⟨x,y,rfl,c,J.symm⟩
def LS{w:aP}{h:aO}{x:aA}(e:bw w h=aa (.str x)):w=.p (.str x):=by
 cases w with
 |p d=>exact bU aP.p (Vp e)|r n=>obtain⟨_,_,q⟩:=dH (show(bz h n).map aQ.aD=aa (.str x) from e);cases q|_=>exact cX e
def Ei{w:aP}{ws:List aP}{h:aO}{ds:List aQ}(e:aV (w::ws) h=aa ds):∃d r,ds=d::r/\bw w h=aa d/\aV ws h=aa r:=by
 cases g:bw w h with
 |none=>simp[aV,g]at e
 |some d =>
  cases J:aV ws h with
  |none=>simp[aV,g,J]at e|some r=>simp[aV,g,J]at e;exact⟨d,r,e.symm,rfl,rfl⟩
def ty_str{k:BT.Tx}(V:k≠.dget)(h:∀ds d,BT.txD k ds=aa d->∃x r,ds=.str x::r):TyX X "str" k:=by
 intro Z s Y H v b m x a f r I L J e;obtain⟨ds,d,e1,e2,_,_⟩:=Hv V e;obtain⟨y,r,rfl⟩:=h _ _ e2;obtain⟨g,c,U,O,_⟩:=Ei e1;cases U;have W:=LS O;subst W;cases J with
 |p r =>
  cases r with
  |str _ ok =>
   obtain⟨t,rfl⟩:=L;exact⟨typeIs_str s y t,λ_ e=>nomatch e⟩
inductive rTx(P:Vy)(w:VQ)(K:Ve)(k:BT.Tx)(vs:List V)(H:Hp)(Q:VK):Prop
 |mk(m:List aB)(h:aO)(ws:List aP)(z:aP)(h':aO)(R:RH K m H h)(rs:RWs P w K m H vs ws)(e:BT.kTx k ws h=aa (z,h'))(p:Post P w K m H z h' Q):rTx P w K k vs H Q
def oTx(k:BT.Tx)(x y:aP)(h:aO):Option (aP×aO):=BT.kTx k [x,y] h
inductive JK(X:Cx)(m:List aB)(H:Hp)(s:Vh)(a:aB)(o:Option aQ)(k:Key):Prop
 |mk(vs:List (Key×aC))(dd:s.heap.DictOf (dO X.prog X.w) a vs)(n:(a==X3)=ak)(h:(o=af/\valueAt vs k=af)\/∃x v u,o=aa x/\valueAt vs k=aa u/\RelV v u/\RD X.K m H v x):JK X m H s a o k
def PY{m:List aB}{H:Hp}{vs:List (Key×aC)}{k:aA}:∀{es:List (aA×V)}{kvs:List (aA×aQ)},RDk K es kvs->KV (es.map λq=>((Sum.inr q.1:Key),q.2)) vs->(BT.fS k kvs=af/\valueAt vs (Sum.inr k)=af)\/∃x v u,BT.fS k kvs=aa x/\valueAt vs (Sum.inr k)=aa u/\RelV v u/\RD K m H v x:=by
 intro es
 induction es generalizing vs with
 |nil =>
  intro kvs r q;cases r;cases q;exact .inl ⟨rfl,rfl⟩
 |cons p es Z =>
  intro kvs r q;cases r with
  |@cons x v dd _ kvs r t =>
   cases q with
   |@cons p z d b W U =>
    obtain⟨a,O⟩:=z;obtain⟨L,J⟩:=W;simp only at L J;subst L;rw[BT.fS]
    by_cases c:k=x
    ·subst c;rw[bM rfl];exact .inr ⟨dd,v,O,rfl,by simp[valueAt],J,r m H⟩
    ·rw[bN c];have Y:¬((Sum.inr x:Key)=Sum.inr k):=λz=>c (Sum.inr.inj z).symm;have:=Z t U;simp only[valueAt]at this⊢;rw[YU (by simpa using Y)];exact this
def kdG:BT.Kd->aA->Option aQ
 |.t kvs,x=>BT.fS x kvs|.l kvs,x=>bJ kvs (.inr x)
def LU{zt:List (aB×au)}{σ:L2.St}{H:Hp}{s:Vh}{m:List aB}{q:BT.Kd}{v:V}{u:aC}(I:Inv X zt σ H s)(r:RW X.prog X.w X.K m H v (.k q))(Y:RelV v u)(x:aA):
 ∃a,u=.ref a/\JK X m H s a (kdG q x) (.inr x):=by
 cases r with
 |@k a j O d L =>
  cases Y;obtain⟨e,J,c,dd⟩:=d;exact⟨a,rfl,J,dd s.heap I.kIn,e,PY L c⟩
 |@kl a ob i O f L =>
  cases Y;refine⟨a,rfl,?_⟩;cases xS I (.inr ⟨_,f.1⟩) L (.inr x)with
  |no J dd n W U=>exact⟨J,dd,n,.inl ⟨W,U⟩⟩|is J dd n y Z b W U h g=>exact⟨J,dd,n,.inr ⟨y,Z,b,W,U,h,g⟩⟩
def Ej{x:aP}{ws:List aP}{h:aO}{z:aP}{h':aO}(e:BT.kTx .dget (x::ws) h=aa (z,h')):∃q y,x=.k q/\h'=h/\((ws=[.p .aF]/\z=.p .aF/\∃kvs,q=.t kvs)\/(ws=[.p (.str y)]/\z=.p ((kdG q y).getD .aF))\/∃d,ws=[.p (.str y),.p d]/\z=.p ((kdG q y).getD d)):=by
 have no:∀(o:Option (List aQ)),(o.bind λJ=>(BT.txD .dget J).map λd=>(aP.p d,h))=aa (z,h')->False:=by intro o e;obtain⟨J,_,e2⟩:=Option.bind_eq_some_iff.mp e;obtain⟨d,L,_⟩:=dH e2;exact cX (P:=False) (show(af:Option aQ)=aa d from by rw[←L];unfold BT.txD;rfl)
 cases x with
 |k q =>
  cases q with
  |t kvs =>
   have e:BT.Dq kvs ws h=aa (z,h'):=e;unfold BT.Dq at e;split at e;cases e;exact⟨_,"",rfl,rfl,.inl ⟨rfl,rfl,_,rfl⟩⟩;cases e;exact⟨_,_,rfl,rfl,.inr (.inl ⟨rfl,rfl⟩)⟩;cases e;exact⟨_,_,rfl,rfl,.inr (.inr ⟨_,rfl,rfl⟩)⟩;exact cX e
  |l kvs =>
   have e:BT.xN kvs ws h=aa (z,h'):=e;unfold BT.xN at e;split at e;cases e;exact⟨_,_,rfl,rfl,.inr (.inl ⟨rfl,rfl⟩)⟩;cases e;exact⟨_,_,rfl,rfl,.inr (.inr ⟨_,rfl,rfl⟩)⟩;exact cX e
 |p d=>exact(no (aV (.p d::ws) h) e).elim|r n=>exact(no (aV (.r n::ws) h) e).elim|o n=>exact(no (aV (.o n::ws) h) e).elim|c f O=>exact(no (aV (.c f O::ws) h) e).elim|x c=>exact(no (aV (.x c::ws) h) e).elim
def ty_dict:TyX X "dict" .dget:=by intro Y s W H v d m x Z f r I L J e;obtain⟨z,g⟩:=r;obtain⟨q,y,rfl,_,_⟩:=Ej e;obtain⟨a,rfl,c,dd,n,_⟩:=LU I J L y;refine⟨dd.typeIs,λb V=>?_⟩;cases V;obtain⟨o,h,i,U,O,_⟩:=dd;exact⟨o,U,O.2.1⟩
end
def qA:∀(ns:List Int),(VM ns.length).map (λi=>ns.getD i 0)=ns:=by intro ns;refine List.ext_getElem (by simp) λi L J=>?_;simp only[ZX,List.getElem_range];rw[Xd,Vm J];rfl
def Hw(ns:List Int):WS (λi=>ns.getD i 0) ns.length=bD ns:=by unfold WS;rw[qA];rfl
section
end
section
variable{F:FT}{G:aA->Option aP}
end
end BS
end
section
namespace BX
open PySem PyProof.Rows
def NX.keep{S:aB}(N:NX w h it a ord i)(U:h.get? S=aa oS)(hc:oS.cls=.type "list")(g:a≠S)(k:∀b o,b≠S->h.get? b=aa o->h'.get? b=aa o):NX w h' it a ord i:=by
 obtain⟨o,l,p,t,first,Z,L,f,J,m⟩:=N.ex;refine⟨o,l,p,t,first,k _ _ g Z,L,f,k _ _ (λz=>?_) J,?_⟩
 ·subst z;rw[U]at J;cases J;exact bO (show(Yw "set_iterator")=.type "list" from hc) (by decide)
 ·cases m with
  |A O=>exact .A O
  |B j Y =>
   obtain⟨V,e,c,n,d⟩:=j;refine .B ⟨V,k _ _ (λz=>?_) e,c,n,d⟩ Y;subst z;rw[U]at e;cases e;rw[hc]at c;exact bO c (by decide)
  |C O L W=>exact .C O L W
section
variable{prog:Vy}{w:VQ}{A:V9}{E:aC->Vh->Prop}{s:Vh}{R:Z7->Vh->Prop}
def Ek(D:A.handled=af){L a S:aB}{ord:List aC}{j:au}{es:Array (Int×aC)}{ep:Nat}{t:SetTable}{h₁:av}(Z:L≠a)(f:a≠S)(d:L≠S)(hn:ord.length<=ao)(H:h₁.get? a=aa j)(E:j.data=.set es ep t)(z:ord.length=es.size)(res:aC)
(G:∀h' c,(∀b o,b≠S->b≠L->h₁.get? b=aa o->h'.get? b=aa o)->h'.get? S=aa {cls:=.type "list",dict:=af,data:=.seq ord.toArray c,slots:=#[]}->R (.ok (.ret res)) {s with heap:=h'}):
 ∀(k i:Nat)(h:av)(c:Nat),ord.length-i=k->i<=ord.length->NX w h L a ord i->(∀b o,b≠S->b≠L->h₁.get? b=aa o->h.get? b=aa o) →
  h.get? S=aa {cls:=.type "list",dict:=af,data:=.seq (ord.take i).toArray c,slots:=#[]} →
  aq (VC prog w) A (.builtin "list.extend.loop" ⟨[.ref S,.ref L,res],[]⟩) R {s with heap:=h}:=by
 intro k
 induction k with
 |zero =>
  intro i h c B C N J g;have Y:i=ord.length:=by lia
  refine codeAny_builtin Z9 ?_;rw[WR WK _];show az _ A.in1 (Zz (.ref L) >>= _) _ _ _;refine Vf (KN (s:={s with heap:=h}) (A:=A.in1) D N Y (λo I K Q e1 e2=>?_) λh' n=>?_)
  ·have M:=J a j f Z.symm H;replace e1:h.get? a=aa o:=e1;rw[M]at e1;cases e1;rw[E]at e2;cases e2;exact z
  ·subst Y;rw[List.take_length]at g;exact ay (G h' c (λb o v m e=>n b o m (J b o v m e)) (n S _ d.symm g))
 |succ k x =>
  intro i h c B C N J g;have V:i<ord.length:=by lia
  have y:ord[i]?=aa ord[i]:=Vm V;refine codeAny_builtin Z9 ?_;rw[WR WK _];show az _ A.in1 (Zz (.ref L) >>= _) _ _ _;refine Vf (GE (s:={s with heap:=h}) N Z y λh' P u=>?_);have W:∀b o,b≠L->h.get? b=aa o->h'.get? b=aa o:=u.extBut;have O:=W S _ d.symm g;have up:∀b o,b≠S->h'.get? b=aa o->(h'.update S (Xc (·.push ord[i]))).get? b=aa o:=λb o F e=>(WD _ _ (Wa F)).trans e;have U:(ord.take i).toArray.size=i:=by simp;lia
  show az _ A.in1 (updateSeq S (·.push ord[i]) >>= _) _ _ _;refine Vf ?_;have r:(ord.take i).toArray.push ord[i]=(ord.take (i+1)).toArray:=by rw[List.push_toArray,List.take_append_getElem]
  obtain⟨l,hg⟩:∃l,(h'.update S (Xc (·.push ord[i]))).get? S=aa {cls:=.type "list",dict:=af,data:=.seq (ord.take (i+1)).toArray l,slots:=#[]}:=⟨_,by rw[←r];exact VZ (Xc (·.push ord[i])) O rfl⟩;exact Zj O rfl (ay ⟨plainId_quiet WK _,x (i+1) _ l (by lia) V (P.keep O rfl f up) (λb o q p e=>up b o q (W b o p (J b o q p e))) hg⟩) (by rw[U];lia) (by show((ord.take i).toArray.push ord[i]).size<=ao+1;rw[Array.size_push,U];lia)
end
def Hx:typeLookup (.type "set") "__len__"=pure (aa (.builtin "set.__len__")):=by rw[typeLookup_type,builtinLookup_eq_fast];kernel_rfl
section
variable{E:aC->Vh->Prop}
def El(L:s.TypeIs (.ref r) "set")(h:Q ak s):az (VC prog w) A (Zi (.ref r)) Q E s:=by
 unfold Zi;refine Vf (wpAny_specialOf L Hx ?_);generalize hid:("set.__len__":String)=id0
 wp_delta
 rw[show splitId id0=aa ("set","__len__") from by subst hid;decide +kernel];subst hid;refine Vf (Yi (T:="set") (b:=ah) L (by rw[isSubtype_type];kernel_rfl) ?_);refine Zl (λJ=>bO J (by decide)) (λ_=>?_);refine Zl (λ_=>?_) (λJ=>bO (by decide +kernel) J);refine Vf (X8 L ?_);exact ay h
def xT{R:Z7->Vh->Prop}(y:A.handled=af){a S:aB}{o:au}{es:Array (Int×aC)}{ep:Nat}{t:SetTable}(i:s.heap.get? a=aa o)(j:o.ExactSet)(q:o.data=.set es ep t)(z:t.fits es.size=ah)(U:es.size<X9)(v:Tb (w.params.followText "set-order") t)(Y:a≠S)(res:aC)(V:Nat)(m:s.heap.get? S=aa {cls:=.type "list",data:=.seq #[] V})
(C:∀h' d (ord:List aC) c,(∀b o,b≠S->s.heap.get? b=aa o->h'.get? b=aa o)->ord.Perm (es.toList.map (·.2))->h'.get? S=aa {cls:=.type "list",dict:=af,data:=.seq ord.toArray c,slots:=#[]}->R (.ok (.ret res)) {s with heap:=h',drawn:=d}):
 az (VC prog w) A.in1 (XJ (.ref S) (.ref a) res)
  (λfin s'=>match fin with|.done f=>R (.ok f) s'|.again c'=>c'.quiet=ah/\aq (VC prog w) A c' R s') (λe s'=>R (.error e) s') s:=by
 have B:s.TypeIs (.ref a) "set":=⟨o,i,j.1⟩;have H:a<s.heap.objs.size:=Vq i;have Sl:S<s.heap.objs.size:=Vq m;unfold XJ;refine Vf (X8 B ?_);have F:Zy (.ref S) (.ref a)=ak:=by simp[Zy,Y.symm]
 have E:(Yw "set"==Yw "list")=ak:=by decide
 have D:(Yw "set"==Yw "tuple")=ak:=by decide
 simp only[F,E,D,YH,abO,if_false];refine Vf (C9 (s:=s) i j q z U v λh₁ d u ord N up W x n=>?_);have r:ord.length=es.size:=by rw[n.length_eq,Vx,VS]
 have G:=X4 U;have g:∀(h:av)(O:Nat),(∀b o,b≠S->h₁.get? b=aa o->h.get? b=aa o)->h.get? S=aa {cls:=.type "list",data:=.seq #[] O}->aq (VC prog w) A (.builtin "list.extend.loop" ⟨[.ref S,.ref u,res],[]⟩) R {s with heap:=h,drawn:=d}:=by
  intro h O p J;refine Ek (s:={s with drawn:=d}) (h₁:=h₁) (t:=t) y (Xy (VL H W)) Y (Xy (VL Sl W)) (by lia) (up a o i) q r res (λh' c k l=>C h' d ord c (λb o U e=>k b o U (VI (VL (Vq e) W)) (up b o e)) n l)
   ord.length 0 h O (Nat.sub_zero _) (Wg _) (N.keep (up S _ m) rfl Y p) (λb o U _ e=>p b o U e) (by simpa using J)
 have J:=up S _ m;refine Vf (V3 (El (s:={s with heap:=h₁,drawn:=d}) ⟨o,up a o i,j.1⟩ ?_));refine Zl (λ_=>?_) (λ_=>ay ⟨plainId_quiet WK _,g _ V (λb o _ e=>e) J⟩);refine Vf (aam ?_);refine Vf ?_;show az _ _ (updateSeq S (·.push .none) >>= λ_=>updateSeq S (·.pop)) _ _ _;refine Vf (Zj J rfl ?_);have L:=VZ (Xc (·.push WX)) J rfl;refine Zj (hz:=by seq_fits) L rfl ?_;have Z:=VZ (Xc (·.pop)) L rfl;refine ay ⟨plainId_quiet WK _,g _ _ (λb o U e=>?_) Z⟩;exact(WD _ _ (Wa U)).trans ((WD _ _ (Wa U)).trans e)
def vW(m:A.handled=af)(c:s.heap.get? a=aa o)(i:o.ExactSet)(p:o.data=.set es ep t)(n:t.fits es.size=ah)(r:es.size<X9)(j:Tb (w.params.followText "set-order") t)
(h:∀h' d ord,s.heap.objs.size<h'.objs.size->(∀b o,s.heap.get? b=aa o->h'.get? b=aa o)->ord.Perm (es.toList.map (·.2))->R ord {s with heap:=h',drawn:=d}):
 az (VC prog w) A (collect (.ref a)) R E s:=by
 have k:a<s.heap.objs.size:=Vq c;unfold collect;refine Vf (wpAny_runValue (codeAny_builtin PySem.F.entry_proto_collect ?_));rw[WR PySem.F.plain_proto_collect _];show az _ A.in1 (newList [] >>= λl=>again (.builtin "list.__iadd__" ⟨[l,.ref a],[]⟩)) _ _ s;refine Vf (V1 ?_);refine ay ⟨plainId_quiet aax _,codeAny_builtin PySem.F.entry_list_iadd ?_⟩;rw[WR aax _];have L:(s.heap.push {cls:=.type "list",data:=.seq ([]:List aC).toArray}).get? s.heap.objs.size=aa {cls:=.type "list",data:=.seq #[]}:=Vw _ rfl;show az _ A.in1 (XJ (.ref s.heap.objs.size) (.ref a) (.ref s.heap.objs.size)) _ _ _;have Y:=xT (prog:=prog) (A:=A) (s:={s with heap:=s.heap.push {cls:=.type "list",data:=.seq ([]:List aC).toArray} })
  (R:=λ(q:Z7) (W:Vh)=>∃ (h':av) (d:Drawn) (ord:List aC) (V:Nat),q=.ok (.ret (.ref s.heap.objs.size))/\W={ s with heap:=h',drawn:=d } ∧
   (∀ b o,s.heap.get? b=aa o->h'.get? b=aa o)/\ord.Perm (es.toList.map (·.2))/\h'.get? s.heap.objs.size=aa { cls:=.type "list",dict:=af,data:=.seq ord.toArray V,slots:=#[] })
  m (Vk _ c) i p n r j (VI k) (.ref s.heap.objs.size) 0 L
  (λh' d ord V U O J=>⟨h',d,ord,V,rfl,rfl,λb o e=>U b o (VI (Vq e)) (Vk _ e),O,J⟩)
 refine Wk Y (λfin W x=>?_) λe W x=>?_
 ·cases fin with
  |done f =>
   obtain⟨h',d,ord,V,e,rfl,U,O,J⟩:=x;cases e;show az _ A (load s.heap.objs.size >>= _) _ _ _;refine Vf (wpAny_load J ?_);refine ay ?_;show R ord.toArray.toList _;exact h h' d ord (Vq J) U O
  |again g =>
   refine⟨x.1,codeAny_mono x.2 λq Z y=>?_⟩;obtain⟨h',d,ord,V,rfl,rfl,U,O,J⟩:=y;show az _ A (load s.heap.objs.size >>= _) _ _ _;refine Vf (wpAny_load J ?_);refine ay ?_;show R ord.toArray.toList _;exact h h' d ord (Vq J) U O
 ·obtain⟨_,_,_,_,u,_⟩:=x;cases u
theorem zy:∀{vs:List aC},(∀v∈vs,∃k,Z6 k v=ah)->∃ks,Yy vs ks/\∀k,k∈ks↔∃v∈vs,Z6 k v=ah
 |[],_=>⟨[],.nil,λk=>by simp⟩
 |v::vs,h=>by
  obtain⟨k,O⟩:=h v Vt;obtain⟨ks,Y,V⟩:=zy λu W=>h u (Vn _ W);obtain⟨t,rfl⟩:=abG O;refine⟨k::ks,.cons k t Y,λj=>?_⟩;constructor
  ·intro U;rcases List.mem_cons.mp U with rfl|U
   exact⟨_,Vt,O⟩
   ·obtain⟨u,J,L⟩:=(V j).mp U;exact⟨u,Vn _ J,L⟩
  ·rintro ⟨u,J,L⟩
   rcases List.mem_cons.mp J with rfl|J
   rw[Value.isInt_inj _ _ _ L O];exact Vt;exact Vn _ ((V j).mpr ⟨u,J,L⟩)
theorem sA:∀{l ks:List Int},l.Nodup->(∀k∈l,k∈ks)->ks.length=l.length->l.Perm ks
 |[],ks,_,_,h=>by rw[List.length_eq_zero_iff.mp h]
 |x::l,ks,n,m,h=>by have J:=m x Vt;obtain⟨U,O⟩:=List.nodup_cons.mp n;have:=sA (l:=l) (ks:=ks.erase x) O (λk L=>(List.mem_erase_of_ne (a:=k) (b:=x) (λz=>U (by rw[←z];exact L))).mpr (m k (Vn _ L))) (by rw[List.length_erase_of_mem J,h];simp);exact(this.cons x).trans (List.perm_cons_erase J).symm
theorem xU:∀(ns J:List Int),J.Nodup->(ns.foldl (fun σ v=>if σ.any (·==v)then σ else σ++[v]) J).Nodup
 |[],J,h=>h
 |n::ns,J,h=>by
  show(ns.foldl _ (if J.any (·==n)then J else J++[n])).Nodup
  by_cases c:J.any (·==n)=ah
  rw[bM c];exact xU ns J h
  ·rw[bN c];refine xU ns _ (List.nodup_append.mpr ⟨h,by simp,λa O b L=>?_⟩);rw[List.mem_singleton.mp L];intro z;subst z;exact c (List.any_eq_true.mpr ⟨a,O,by simp⟩)
def Bo(ns:List Int):(bD ns).Nodup:=xU ns [] Ze
def Bp(p:us.Perm vs)(h:Yy vs ks):∃J,Yy us J/\J.Perm ks:=by
 induction p generalizing ks with
 |nil=>exact⟨ks,h,.refl _⟩
 |cons x p W =>
  cases h with
  |cons n t h =>
   obtain⟨J,a,b⟩:=W h;exact⟨n::J,.cons n t a,b.cons n⟩
 |swap x y l =>
  cases h with
  |cons n t h =>
   cases h with
   |cons U V h=>exact⟨U::n::_,.cons U V (.cons n t h),.swap _ _ _⟩
 |trans p q O L =>
  obtain⟨c,a,b⟩:=L h;obtain⟨k2,Z,Y⟩:=O a;exact⟨k2,Z,Y.trans b⟩
def xV(B:A.handled=af)(y:rE prog w (w.params.followText "set-order") s.heap a (λr=>(bD ns).any (·==r)) (bD ns).length)(H:(bD ns).length<64)
(G:∀h' d p out e,Yy out.toList (BT.sortI (bD ns))->(∀b o,s.heap.get? b=aa o->h'.get? b=aa o)->s.heap.objs.size<=p->h'.get? p=aa (seqObj "list" out e)->Q (.ref p) {s with heap:=h',drawn:=d}):
 az (VC prog w) A (call (.builtin "sorted") [.ref a]) Q E s:=by
 obtain⟨o,K,S,t,z,hex,D,V,F,f,C,hn,x⟩:=y;have I:=X4 f;refine BS.vV (vW (A:=A.in1) B z hex D C f x λh' d ord M up O=>⟨by rw[O.length_eq,Vx,VS];lia,?_⟩);obtain⟨Z,c,k2⟩:=zy (vs:=K.toList.map (·.2)) λv u=>by obtain⟨e,J,rfl⟩:=List.mem_map.mp u;obtain⟨⟨k,U,_⟩,_⟩:=V e J;exact⟨k,U⟩
 obtain⟨j,m,l⟩:=Bp O c;have i:Z.length=(bD ns).length:=by have:=abq c;simp at this;lia
 have g:(bD ns).Perm Z:=sA (Bo ns) (λk U=>(k2 k).mpr (by
  obtain ⟨e,J,q⟩:=(F k).mp (List.any_eq_true.mpr ⟨k,U,by simp⟩);exact ⟨e.2,List.mem_map.mpr ⟨e,J,rfl⟩,q⟩)) i
 refine PyProof.Rows.list_sort_tree (Vw _ rfl) m (by rw[O.length_eq,Vx,VS];lia) λout L R P N=>⟨_,rfl,?_⟩;obtain⟨e,J⟩:=PyProof.Rows.sortedHeap_at (h:=h'.push (seqObj "list" ord.toArray 0)) (a:=h'.objs.size) (vs:=ord) (n:=0) (out:=out) (Vw _ rfl);have W:L=BT.sortI (bD ns):=abn ((P.trans l).trans (g.symm.trans (BT.sortI_perm _).symm)) N (BT.qf _);subst W;refine G _ d _ out e R (λb ob q=>?_) (Xa M) J;have Y:=up b ob q;have lt:=Vq Y;rw[PyProof.Rows.sortedHeap_old (VI lt) (by rw[WB];exact XQ lt)];exact Vk _ Y
end
end BX
namespace BS
open PySem PySem.Spec PyProof.Rows L2
def Inv.drew(I:Inv X zt σ H s):Inv X zt σ H {s with drawn:=d}:=⟨I.ok,I.os,I.bare,I.base,I.loc,I.cell,I.free,I.freeC,I.pin,I.aL,I.len⟩
theorem xW:∀(ns J:List Int),(ns.foldl (fun σ v=>if σ.any (·==v)then σ else σ++[v]) J).length<=ns.length+J.length
 |[],J=>by simp
 |n::ns,J=>by
  show(ns.foldl _ (if J.any (·==n)then J else J++[n])).length<=_
  by_cases c:J.any (·==n)=ah
  ·rw[bM c];have:=xW ns J;simp only[Vv];lia
  ·rw[bN c];have:=xW ns (J++[n]);simp only[Vv,VN,VY]at this⊢;lia
section
def Em(O:Ok X F G sc N)(k:fT N=ah)(hg:dU sc "sorted"=ah)(Z:dU sc "set"=ah)(M:noStar ex=ah)(hA:PA X [ex] (tDs X F G sa)):
 PE X (.Call (.Name "sorted" np) [.Call (.Name "set" zp) [ex] [] pos] [] p) (tD X F G (.bi .sset ak sa)):=by
 intro w s t H Q I q;have q:=kB q;refine Call_ (jI (u:=.builtin "sorted") I (ef O hg) (O.blt _ (by decide)) (by decide +kernel) (Zb ?_ (c7 rfl) rfl));rw[c7 (show noStar (.Call (.Name "set" zp) [ex] [] pos)=ah from rfl)];show az _ _ (aaq ((ak,eval (.Call (.Name "set" zp) [ex] [] pos) X.env)::Xh p (VR [] X.env))) _ _ s;refine WL (Call_ (jI (u:=.type "set") I (ef O Z) (O.blt _ (by decide)) (by decide +kernel) (Wi (thn (hA pos w s t H _ I q) λus s1 ⟨vs,H1,I1,r1,q1⟩=>?_) (c7 M) rfl)));obtain⟨m,h,ws,z,h',R,W,e,x⟩:=q1;obtain⟨n,d,e1,e2,⟨_,rfl,rfl⟩|⟨_,q,_⟩⟩:=jv e
 rotate_left
 exact aU q;have y:=iS R W e1;have hd:∃L,n=[.aD L]:=by
  match n,e2 with
  |[.aD L],_=>exact⟨L,rfl⟩
 obtain⟨L,rfl⟩:=hd;rw[BT.vE]at e2;obtain⟨ns,g1,U⟩:=Option.bind_eq_some_iff.mp e2
 by_cases c:ns.length<64
 rotate_left
 rw[bN c]at U;exact bK U;rw[bM c]at U;cases U;obtain⟨v,rfl,r⟩:=y.one;obtain⟨a,vt,rfl,ha,ra⟩:=r.aD;rw[iT g1]at ra;have ev:=g9 ra;subst ev;obtain⟨u,rfl,eu⟩:=vals1 r1;cases eu;obtain⟨J,j,A,hz⟩:=I1.list ha.sq;have T:=intsAre_of j;have B:=j.length;rw[Vx]at B;have sz:J.toArray.size=ns.length:=by simp;lia
 refine BX.C4 (items:=J.toArray) (ns:=ns) (I1.ok.hd (O.calm k)) A.isList (by simpa using T) (by rw[sz];unfold X9;lia) λh2 i f S=>?_;rw[sz,Hw]at f;refine Yz ?_;have dl:=xW ns [];have g:(bD ns).length<64:=by have:(bD ns).length<=ns.length+0:=dl;lia
 refine BX.xV (s:={s1 with heap:=h2,toks:=i}) (ns:=ns) (I1.ok.hd (O.calm k)) f g λh3 d p Y e E k2 D C=>?_;have l:s1.heap.objs.size<=p:=by obtain⟨o,_,_,_,P,_⟩:=f;exact VJ (Xa (Vq P)) D
 have K:=ly E;have sl:ao=16777216:=aaW;have l2:(BT.sortI (bD ns)).length=(bD ns).length:=(BT.sortI_perm _).length_eq;exact⟨.ref _,_,Inv.drew (I1.laid (o:=.aD ((BT.sortI (bD ns)).map V.int)) (t':=i) (λb u q=>k2 b u (S b u q)) l ⟨by rw[Vx];lia,Y.toList,e,K,C⟩),rfl,jQ R (I1.aL.fresh l) (qx _) x⟩
end
end BS
end
section
namespace BS
open PySem PySem.Spec PyProof.Rows L2
section
end
noncomputable def qC(sc:V8)(x:aA):Bool:=match sc.names.lookup x with
 |some .local=>ah|some .cell=>ah|_=>ak
inductive CTs(sc:V8)(N:List aA):List (Nat×aA)->List Vj->Prop
 |nil:CTs sc N [] []
 |cons{i:Nat}{x:aA}{p:Pos}{tg:List (Nat×aA)}{es:List Vj}(h1:N[i]?=aa x)(h2:qC sc x=ah)(r:CTs sc N tg es):CTs sc N ((i,x)::tg) (.Name x p::es)
inductive CT(sc:V8)(N:List aA):List (Nat×aA)->Vj->Prop
 |one{i:Nat}{x:aA}{p:Pos}(h1:N[i]?=aa x)(h2:qC sc x=ah):CT sc N [(i,x)] (.Name x p)
 |aE{tg:List (Nat×aA)}{es:List Vj}{p:Pos}{k:Nat}(J:Nat.ble 2 tg.length=ah)(h:CTs sc N tg es):CT sc N tg (.Tuple es k p)
section
def RS.set{K:Ve}(S:RS P w K m H σ s)(r:RW P w K m H v z):RS P w K m H (σ.set i (aa v)) (s.set i (aa z)):=by
 refine⟨by simp[S.len],λj y e=>?_⟩
 by_cases c:i=j
 ·subst c;have J:i<s.length:=by
   rcases VD i s.length with q|q
   exact q;rw[Vs (by simpa using q)]at e;exact cX e
  rw[VH J]at e;cases e;exact⟨v,by rw[VH (by rw[S.len];exact J)],r⟩
 ·rw[Vr c]at e;obtain⟨u,O,L⟩:=S.get j y e;exact⟨u,by rw[Vr c];exact O,L⟩
def qD(O:Ok X F G sc N)(h:qC sc x=ah):L2.Loc X.env.scope x:=by
 rw[O.hsc];unfold qC at h;unfold L2.Loc;cases e:sc.names.lookup x with
 |none=>rw[e]at h;exact aU h
 |some k=>rw[e]at h;cases k<;>first|(exact .inl rfl)|(exact .inr rfl)|exact aU h
def pF(h:ju e=ah):∀x,aas e env x=pure x:=by intro x;cases e<;>first|rfl|exact aU h
def GOk(X:Cx)(tg:List (Nat×aA))(g:TG):Prop:=∀(m:List aB)(H:Hp)(L:L2.St)(s:bq) (x:V) (d:aQ) (O:List aQ) (Q:L2.St->Hp->Prop),RS X.prog X.w X.K m H L s->RD X.K m H x d->bx tg.length d=aa O →
 (∀J,RS X.prog X.w X.K m H J (bL tg O s)->Q J H)->g x L H Q
def Tv(K:Ve)(n:Nat)(t:TGs):TG:=λv L H Q=>∃a J,v=.ref a/\(SqT K H a J\/LL K H a J)/\J.length=n/\t J L H Q
def LV{X:Cx}{es:List Vj}{k:Nat}{t:TGs}{n:Nat}{pos:Pos}(hc:X.calm=ah)(h:PGs X es t)(hn:(Xm es X.env).length=n)(J:(Xm es X.env).findIdx? (·.1)=af):PG X (.Tuple es k pos) (Tv X.K n t):=by
 intro O s L H v u Q I r hw;obtain⟨a,Y,rfl,V|V,Z,hw⟩:=hw;exact J9 hc h hn J O s L H _ u Q I r ⟨a,Y,rfl,V,Z,hw⟩
 ·cases r;obtain⟨z,U,j,c,d,e⟩:=rdL I V;rw[assign_Tuple];refine Vf (Yn ?_);unfold unpack;rw[hn,J];refine Vf (V3 ?_);have sz:n=U.toArray.size:=by rw[Vl,←Z];exact d
  rw[sz];refine PySem.W.kun_itemsOf (I.ok.hd hc) ⟨_,e,rfl,_,rfl⟩ λg f=>?_;have i:Inv X O L H {s with heap:=g}:=I.aJ (t':=s.toks) λb o e=>f b o (VI (Vq e)) e;exact h O _ L H Y _ Q i (by simpa using c) hw
inductive GsO(X:Cx)(tg:List (Nat×aA))(es:List Vj):Prop
 |mk(J:TGs)(h:PGs X es J)(hn:(Xm es X.env).length=tg.length)(L:(Xm es X.env).findIdx? (·.1)=af)
  (ok:∀(m:List aB)(H:Hp)(σ:L2.St)(s:bq) (vs:List V) (ds:List aQ) (Q:L2.St->Hp->Prop),RS X.prog X.w X.K m H σ s->RDs X.K m H vs ds->ds.length=tg.length->(∀σ',RS X.prog X.w X.K m H σ' (bL tg ds s)->Q σ' H)->J vs σ H Q):GsO X tg es
def Tw{X:Cx}{sc:V8}{N:List aA}(O:Ok X F G sc N){tg:List (Nat×aA)}{es:List Vj}(h:CTs sc N tg es)(W:∀q∈tg,X.fn q.2=ah\/X.env.scope.names.lookup q.2=aa .local):GsO X tg es:=by
 induction h with
 |nil =>
  refine⟨N8,Ga,rfl,rfl,λm H V s J U Q S r L q=>?_⟩;cases r with
  |nil=>exact⟨rfl,q _ S⟩|cons _ _=>cases L
 |@cons i x p tg es e c r Y =>
  obtain⟨f,b,hn,Z,ok⟩:=Y λq a=>W q (Vn _ a);refine⟨_,Ci (yF (i:=i) O.nd (by rw[O.hN];exact e) (qD O c) (W (i,x) (by simp))) b,bU (·+1) hn,?_,λm H V s J U Q S r L q=>?_⟩
  ·show((ak,Z5 (.Name x p) X.env)::Xm es X.env).findIdx? (·.1)=af;rw[List.findIdx?_cons];show(if ak=ah then _ else _)=_;rw[bN (by decide),Z];rfl
  ·cases r with
   |nil=>cases L|@cons v d J U ra t=>exact⟨v,J,rfl,ok m H (V.set i (aa v)) (s.set i (aa (.p d))) J U Q (S.set (.p ra)) t (Nat.succ.inj L) q⟩
def sCT(O:Ok X F G sc N)(hc:X.calm=ah)(h:CT sc N tg te)(U:∀q∈tg,X.fn q.2=ah\/X.env.scope.names.lookup q.2=aa .local):∃g,PG X te g/\GOk X tg g:=by
 cases h with
 |@one i x p b V =>
  refine⟨_,yF (i:=i) O.nd (by rw[O.hN];exact b) (qD O V) (U (i,x) (by simp)),?_⟩;intro m H L s v d f Q S r e q;simp only[Vv,VY,abe,BT.mU]at e;cases e;exact q _ (S.set (.p r))
 |@aE tg l p k Y h =>
  obtain⟨j,Z,hn,W,ok⟩:=Tw O h U;refine⟨_,LV (n:=tg.length) hc Z hn W,?_⟩;intro m H L s v d f Q S r e q;have V:=abg Y;unfold bx at e;rw[bN (by lia)]at e;cases r with
  |@aE a J dd h r =>
   rw[BT.vI]at e;obtain⟨c,e⟩:=dG e;subst e;exact⟨a,J,rfl,.inl (h.elim (λq=>.inl q.1) λ⟨o,its,n,q,_⟩=>.inr ⟨o,its,n,q⟩),by rw[r.length];exact c,ok m H L s J _ Q S r c q⟩
  |@aD a J dd h r =>
   rw[BT.vH]at e;obtain⟨c,e⟩:=dG e;subst e;exact⟨a,J,rfl,.inr (h.elim (λq=>.inl q.1) .inr),by rw[r.length];exact c,ok m H L s J _ Q S r c q⟩
  |_=>exact cX e
end
end BS
end
section
namespace BC
open PySem
section
def Bq{target:Vj}(I:Nat->Vh->Prop)
(turn:∀ n s,I n s->az (VC prog w) A (Zz it) (λr L=>match r with
  |none=>R (.ok .next) L
  | some v=>az (VC prog w) A (Yv target it v) (λ_ s₀=>az (VC prog w) A (Z5 target env v) (λ_ W =>
   az (VC prog w) A (forIn ifs ah λc r=>if r=ah then do let ok ← isTrue c env (eval c env);pure (YF ok) else pure (YF r)) (λok J =>
    if ok=ah then az (VC prog w) A (eval elt env) (λx V =>
     az (VC prog w) A (call (.builtin "list.append") [acc,x]) (λ_ U=>∃ m,m < n/\I m U) (λ_ _=>False) V) (λ_ _=>False) J
    else ∃ m,m < n/\I m J) (λ_ _=>False) W) (λ_ _=>False) s₀) (λ_ _=>False) L) (λ_ _=>False) s)
(n:Nat)(h:I n s):aq (VC prog w) A (.compLoop (.ListComp elt [⟨target,iter,ifs,0⟩] scope pos) 0 it acc env) R s:=by
 refine codeAny_loop rfl I (λn s f=>?_) n h;show az _ A ((compTurn (.ListComp elt [⟨target,iter,ifs,0⟩] scope pos) 0 it acc env).onRaise (λx=>do Z3 x env;theTreesLotGoes x)) _ _ s;refine wpAny_noted ?_;rw[compTurn_list];refine Vf (Yn (Vf (Wk (turn n s f) (λr L Z=>?_) λ_ _ O=>O.elim)));cases r with
 |none=>exact ay Z
 |some v =>
  refine Vf (Wk Z (λ_ s₀ a=>?_) λ_ _ O=>O.elim);refine Vf (Wk a (λ_ W e=>Vf (Wk e (λok J Y=>?_) λ_ _ O=>O.elim)) λ_ _ O=>O.elim);cases ok with
  |false=>exact ay ⟨rfl,Y⟩
  |true =>
   exact Vf (Vf (Wk Y (λx V d=>Vf (Wk d (λ_ U b=>ay (ay ⟨rfl,b⟩)) λ_ _ O=>O.elim)) λ_ _ O=>O.elim))
end
noncomputable def jw(cells:List (aA×aB)):List (aA×XR)->List (aA×aB)->List (aA×aB)
 |[],acc=>acc
 |(n,k)::r,acc=>if k==.free then(match cells.lookup n with|some c=>jw cells r ((n,c)::acc)|none=>jw cells r acc)else jw cells r acc
def uq(cells:List (aA×aB))(names:List (aA×XR)):Prop:=∀x∈names,x.2=.free->∃c,cells.lookup x.1=aa c
theorem qE:∀(names:List (aA×XR)) (J:List (aA×aB)),uq env.cells names →
 (forIn names J λx (r:List (aA×aB))=>(if x.2==.free then do let c ←cellOf env x.1;pure (YF ((x.1,c)::r))else pure (YF r):Sem (ForInStep (List (aA×aB)))))=pure (jw env.cells names J)
 |[],J,_=>rfl
 |(n,k)::r,J,h=>by
  have L:=λJ=>qE (env:=env) r J λx O=>h x (Vn _ O);rw[List.forIn_cons]
  by_cases c:k=.free
  ·subst c;obtain⟨a,e⟩:=h (n,.free) Vt rfl;have e:env.cells.lookup n=aa a:=e;simp only[jw,e];show(cellOf env n >>= _) >>= _=_;unfold cellOf;rw[e];exact L _
  ·have U:(k==Wv)=ak:=by simpa using c
   simp only[jw,U];exact L _
def nX{J L:Type}{m m':Sem J}{f:J->Sem L}(h:m=m'):(m >>= f)=(m' >>= f):=by rw[h]
def qF{scope:V8}{env:Env}(h:uq env.cells scope.names):closureFor scope env=pure (jw env.cells scope.names []):=by have:=qE (env:=env) scope.names [] h;unfold closureFor;exact(nX this).trans rfl
theorem ur:∀{names:List (aA×XR)}{J:List (aA×aB)},(∀x c,J.lookup x=aa c->cells.lookup x=aa c)->∀x c,(jw cells names J).lookup x=aa c->cells.lookup x=aa c
 |[],J,h,x,c,e=>h x c e
 |(n,k)::r,J,h,x,c,e=>by
  rw[jw]at e;split at e
  ·split at e
   ·rename_i a O;refine ur (λy b q=>?_) x c e;rw[Xp]at q;split at q
    ·rename_i L;have:y=n:=by simpa using L
     subst this;cases q;exact O
    exact h y b q
   exact ur h x c e
  exact ur h x c e
theorem pG:∀{names:List (aA×XR)}{J:List (aA×aB)},(∃c,J.lookup x=aa c)->∃c,(jw cells names J).lookup x=aa c
 |[],J,h=>h
 |(n,k)::r,J,h=>by
  rw[jw];split
  ·split
   ·refine pG ?_;rw[Xp];split;exact⟨_,rfl⟩;exact h
   exact pG h
  exact pG h
theorem uu:∀{names:List (aA×XR)}{J:List (aA×aB)},(x,Wv)∈names->(∃c,cells.lookup x=aa c)->∃c,(jw cells names J).lookup x=aa c
 |[],J,h,_=>nomatch h
 |(n,k)::r,J,h,q=>by
  rw[jw];rcases List.mem_cons.mp h with e|e
  ·cases e;obtain⟨c,L⟩:=q;rw[bM (by rfl),L];refine pG ?_;exact⟨c,by simp⟩
  ·split
   ·split;exact uu e q;exact uu e q
   exact uu e q
end BC
end
section
namespace BS
open PySem PySem.Spec PyProof.Rows L2
variable{cond:bg}
def qG(F:FT)(G:aA->Option aP)(sc:V8)(N:List aA)(cond:bg)(J:List Vj):Prop :=
 (cond=.nil/\J=[])\/∃c O,cond=.cons c .nil/\J=[O]/\∀L,Ok L F G sc N->PT L O (tDT L F G c)
structure vX(sc:V8)(N tg:List aA)(fv:List (Nat×aA))(scope:V8):Prop where
 k1:scope.kind=.function
 k2:sc.kind=.function
 cell:∀y∈scope.names,y.2≠.cell
 loc:∀y∈scope.names,y.2=.local->scope.names.lookup y.1=aa .local
 free:∀y∈scope.names,y.2=.free->sc.names.lookup y.1=aa .cell
 fvs:∀q∈fv,N[q.1]?=aa q.2/\(q.2,Wv)∈scope.names/\sc.names.lookup q.2=aa .cell/\(d9 scope sc).names.lookup q.2=aa .cell
 nd:(tg++fv.map (·.2)).Nodup
theorem sC:∀{l:List aA},qp l=ah->l.Nodup
 |[],_=>Ze
 |x::r,h=>by simp only[qp,Vg,YD]at h;refine List.nodup_cons.mpr ⟨λz=>?_,sC h.2⟩;have:=h.1;simp[z]at this
def JL(h:jP sc N tg fv scope=ah):vX sc N tg fv scope:=by
 simp only[jP,Vg]at h;obtain⟨⟨⟨⟨⟨⟨f,Z⟩,V⟩,U⟩,O⟩,L⟩,Y⟩:=h;rw[WY]at V U O L;refine⟨bT f,bT Z,λy J e=>?_,λy J e=>?_,λy J e=>?_,λq W=>?_,sC Y⟩
 ·have:=V y J;rw[e]at this;simp at this
 ·have:=U y J;rw[e]at this;simpa using this
 ·have:=O y J;rw[e]at this;simpa using this
 ·have:=L q W;simp only[Vg]at this;obtain⟨⟨⟨a,b⟩,c⟩,d⟩:=this;exact⟨by simpa using a,by simpa using b,by simpa using c,by simpa using d⟩
theorem mq{sc:V8}{x:aA}{k:XR}(V:k=.cell\/k=.free):∀{names:List (aA×XR)},(∀y∈names,y.2≠.cell) →
 (names.map λ(n,k)=>if(k==Wv&&sc.kind==.function&&sc.names.lookup n==aa .cell)then(n,Zc)else(n,k)).lookup x=aa k->(x,Wv)∈names
 |[],_,h=>by simp at h
 |(n,q)::r,hc,h=>by
  have Y:=mq (sc:=sc) (x:=x) V (names:=r) λy Z=>hc y (Vn _ Z);replace h:Xu x ((if(q==Wv&&sc.kind==.function&&sc.names.lookup n==aa .cell)=ah then(n,Zc)else(n,q))::(r.map λ(n,k)=>if(k==Wv&&sc.kind==.function&&sc.names.lookup n==aa .cell)then(n,Zc)else(n,k)))=aa k:=h;have W:∀(J:XR),(J=q\/(J=.cell/\q=.free))->Xu x ((n,J)::(r.map λ(n,k)=>if(k==Wv&&sc.kind==.function&&sc.names.lookup n==aa .cell)then(n,Zc)else(n,k)))=aa k->(x,Wv)∈(n,q)::r:=by
   intro J a L;rw[Xp]at L;split at L
   ·rename_i O;have O:x=n:=by simpa using O
    subst O;have e:J=k:=Vp L;have U:q=.free:=by
     rcases a with rfl|⟨_,e2⟩
     ·rcases V with z|z
      exact bO (e.trans z) (hc (x,J) Vt);exact e.trans z
     exact e2
    rw[U];exact Vt
   exact Vn _ (Y L)
  by_cases c:(q==Wv&&sc.kind==.function&&sc.names.lookup n==aa .cell)=ah
  ·rw[bM c]at h;refine W .cell (.inr ⟨rfl,?_⟩) h;simp only[Vg]at c;exact bT c.1.1
  ·rw[bN c]at h;exact W q (.inl rfl) h
def blk(X:Cx)(J:List aA)(s2:Vh)(H1:Hp)(scope:V8)(C:aB)(fp:List aB):Cx :=
 {X with N:=J,s₀:=s2,H₀:=H1,env:=aaL scope (BC.jw X.env.cells scope.names []) C X.env,outer:=X.stack,stack:=X.stack,ex:=fp,fn:=λ_=>ak,pn:=[],xe:=λ_ _=>False}
section
variable{X:Cx}{F:FT}{G:aA->Option aP}{sc:V8}{N:List aA}{zt:List (aB×au)}{σ:L2.St}{H1:Hp}{s2:Vh}
def lU{scope:V8}{x:aA}{c:aB}(e:(BC.jw X.env.cells scope.names []).lookup x=aa c):X.env.cells.lookup x=aa c :=
 BC.ur (λ_ _ z=>by simp at z) x c e
def vY(J:X.env.scope=sc)(x:aA):(aaL scope (BC.jw X.env.cells scope.names []) C X.env).kindOf x=(d9 scope sc).names.lookup x:=by subst J;rfl
def zA(U:Inv X zt σ H1 s2)(J:X.env.scope=sc)(O:vX sc N tg fv scope)(L:(x,Wv)∈scope.names):∃c,(BC.jw X.env.cells scope.names []).lookup x=aa c:=by refine BC.uu L (U.ok.has x (.inl ?_));have:=O.free _ L rfl;rw[←J]at this;exact this
theorem LW(J:Inv X zt σ H1 s2)(O:X.env.scope=sc){scope:V8}{tg:List aA}{f:List (Nat×aA)}(V:vX sc N tg f scope){g:List aA}{C:aB}{fp:List aB}(Z:C=s2.heap.objs.size+1)
(U:∀b∈fp,rC X zt H1 b)(Y:∀b∈fp,b<s2.heap.objs.size):(blk X g s2 H1 scope C fp).Ok where
 mod:=J.ok.mod
 kind:=V.k1
 glob:=J.ok.glob
 blt:=J.ok.blt
 above:=by show s2.heap.objs.size<=C;rw[Z];exact Wh _
 inj:=λx y c a b=>J.ok.inj x y c (lU a) (lU b)
 has:=λx d=>by
  refine zA J O V ?_;have W:(d9 scope sc).names.lookup x=aa .cell\/(d9 scope sc).names.lookup x=aa .free:=by rw[←vY O (C:=C)];exact d
  rcases W with e|e
  exact mq (.inl rfl) V.cell e;exact mq (.inr rfl) V.cell e
 cab:=λx c z=>by cases z
 hd:=J.ok.hd
 frames:=J.ok.frames
 stk:=.inl rfl
 exf:=λb L=>⟨λz=>by have l:=Y b L;have z:b=C:=z;rw[z,Z]at l;exact bO l (Nat.not_lt.mpr (Wh _)),λx c e=>(U b L).2.2.2.2.1 x c (lU e)⟩
 bs:=J.bs
 bsz:=VJ J.ok.bsz J.sz
 noex:=λb o e L=>by
  have q:=(J.ok.bs b o e).1;rcases (U b L).2.2.2.1 with z|z
  exact J.ok.noex b o e z;exact bO (Vq q) (Nat.not_lt.mpr z)
 exfs:=λb L z=>by
  rcases List.mem_cons.mp (J.lX b z)with e|e
  exact(U b L).2.1 e;exact(U b L).2.2.1 e
 kE:=J.stack
 frf:=J.tw
end
noncomputable def lobj(us:List aC)(n:Nat):au:={cls:=.type "list",data:=.seq us.toArray n}
section
variable{X:Cx}{F:FT}{G:aA->Option aP}{sc:V8}{N:List aA}{zt:List (aB×au)}{σ:L2.St}{H1:Hp}{s2:Vh}
noncomputable def mz(n:Nat)(σ:L2.St)(J:List (Nat×aA)):L2.St:=VG n af++J.map λq=>(σ[q.1]?).getD af
theorem zB(L:Inv X zt σ H1 s2)(J:X.env.scope=sc)(A:X.N=N)(h:vX sc N tg fv scope)(d:C=s2.heap.objs.size+1)
(y:∀b∈fp,rC X zt H1 b)(Y:∀b∈fp,b<s2.heap.objs.size)(O:∀b o,s2.heap.get? b=aa o->h1.get? b=aa o)(W:h1.Ns C m)(B:h1.get? s2.heap.objs.size=aa (lobj [] 0)):
 Inv (blk X (tg++fv.map (·.2)) s2 H1 scope C fp) [(s2.heap.objs.size,lobj [] 0)] (mz tg.length σ fv) H1 {s2 with heap:=h1,toks:=tk} where
 ok:=LW L J h d y Y
 os:=rfl
 bare:=L.bare
 base:=Un.aJ O
 loc:=by
  refine⟨m,W,λi x v e1 e2 H=>?_⟩;have e1:(tg++fv.map (·.2))[i]?=aa x:=e1;unfold mz at e2
  by_cases c:i<tg.length
  ·rw[Vi (by simpa using c),XG,bM c]at e2;cases e2
  ·rw[VW (by simpa using c)]at e2;rw[VW (by simpa using c)]at e1;simp only[XU,VF]at e1 e2;cases g:fv[i-tg.length]? with
   |none=>rw[g]at e1;exact cX e1
   |some q =>
    rw[g]at e1 e2;simp only[X7,Yd]at e1 e2;subst e1;obtain⟨F,E,l,D⟩:=h.fvs q (Vz g);have f:σ[q.1]?=aa (aa v):=by
     cases j:σ[q.1]? with
     |none=>rw[j]at e2;exact cX e2|some o=>rw[j]at e2;simp only[abK]at e2;rw[e2]
    obtain⟨G,w,Z⟩:=L.loc;obtain⟨u,n,r⟩:=Z q.1 q.2 v (by rw[A];exact F) f (by rw[J];exact .inr (.inl l));refine⟨u,n,?_⟩;have s:X.env.kindOf q.2=aa .cell:=by show X.env.scope.names.lookup q.2=_;rw[J];exact l
    rcases r with⟨k,_⟩|⟨k,c,ec,o,U,a⟩
    rw[s]at k;cases k
    ·obtain⟨I,V⟩:=zA L J h E;have:=lU V;rw[ec]at this;cases this;refine .inr ⟨.inl ?_,c,V,o,O c o U,a⟩;show(aaL scope (BC.jw X.env.cells scope.names []) C X.env).kindOf q.2=_;rw[vY J];exact D
 cell:=λx c e=>by obtain⟨v,o,U,a⟩:=L.cell x c (lU e);exact⟨v,o,O c o U,a⟩
 free:=L.aL.fresh (by show s2.heap.objs.size<=C;rw[d];exact Wh _)
 freeC:=λx c e=>L.freeC x c (lU e)
 pin:=λp t=>by
  have e:p=(s2.heap.objs.size,lobj [] 0):=by have:p∈[]++[(s2.heap.objs.size,lobj [] 0)]:=t;simpa using this
  subst e;refine⟨B,L.aL.fresh (Vo _),?_,?_,λv z=>by cases (show Data.seq _ _=Data.cell v from z)⟩
  ·show s2.heap.objs.size≠C;rw[d];exact VI (Wy _)
  ·intro z;obtain⟨_,o,U,_⟩:=L.stack.mem z;exact bO (Vq U) (V5 _)
 aL:=L.aL.aJ O
 len:=by show(mz tg.length σ fv).length=(tg++fv.map (·.2)).length;simp[mz]
end
noncomputable def tgF:Nat->List aA->List (Nat×aA)
 |_,[]=>[]|k,x::r=>(k,x)::tgF (k+1) r
noncomputable abbrev tgI(tg:List aA):List (Nat×aA):=tgF 0 tg
theorem uv:∀(tg:List aA)(k:Nat),(tgF k tg).length=tg.length
 |[],_=>rfl|_::r,k=>bU (·+1) (uv r (k+1))
theorem zC{q:Nat×aA}:∀{tg:List aA}{k:Nat},q∈tgF k tg->q.2∈tg
 |x::r,k,h=>by
  rcases List.mem_cons.mp h with rfl|h
  exact Vt;exact Vn _ (zC h)
def zD(h:nmE te=aa x):∃p,te=.Name x p:=by
 cases te with
 |Name y p=>cases h;exact⟨p,rfl⟩|_=>exact bO (show(af:Option aA)=aa _ from h) (λz=>nomatch z)
def En(h:Lj te=a::l):∃k p,te=.Tuple (a::l) k p:=by
 cases te with
 |Tuple J k p=>cases h;exact⟨k,p,rfl⟩|_=>exact bO (show([]:List Vj)=_::_ from h) (λz=>nomatch z)
theorem Eo{sc:V8}{fs:List aA}:∀(tg:List aA){pre:List aA}{es:List Vj},tg.map aa=es.map nmE->(∀x∈tg,qC sc x=ah)->CTs sc (pre++(tg++fs)) (tgF pre.length tg) es
 |[],pre,es,e,_=>by
  cases es with
  |nil=>exact .nil|cons _ _=>cases e
 |x::r,pre,es,e,h=>by
  cases es with
  |nil=>cases e
  |cons a es =>
   obtain⟨p,rfl⟩:=zD (aaQ e).symm;have q:=Eo (fs:=fs) r (pre:=pre++[x]) (List.tail_eq_of_cons_eq e) λy J=>h y (Vn _ J);rw[Wd,VN]at q;exact .cons (by simp) (h x Vt) q
def zE(h:qo sc tg te=ah):CT sc (tg++fs) (tgI tg) te/\(tgI tg).length=tg.length/\∀q∈tgI tg,sc.names.lookup q.2=aa .local:=by
 have st:∀{x:aA},sc.names.lookup x=aa .local->qC sc x=ah:=λe=>by unfold qC;rw[e]
 unfold qo at h;rw[Vg,W9,Vg,WY]at h;obtain⟨h,O⟩:=h;have lo:∀{x},x∈tg->sc.names.lookup x=aa .local:=λ{x} J=>bT (O x J);rcases h with h|⟨h1,h2⟩
 ·have e:=bT h;cases tg with
  |nil=>exact bO (bU YG e) (by simp)
  |cons x r =>
   cases r with
   |cons _ _=>exact bO (bU YG e) (by simp)
   |nil =>
    obtain⟨p,rfl⟩:=zD (aaQ e).symm;have l:sc.names.lookup x=aa .local:=lo Vt;exact⟨.one rfl (st l),rfl,λq L=>by rw[List.mem_singleton.mp L];exact l⟩
 ·have e:=bT h2;cases g:Lj te with
  |nil=>rw[g]at e;cases tg with
   |nil=>exact aU h1|cons _ _=>cases e
  |cons a l =>
   rw[g]at e;obtain⟨k,p,rfl⟩:=En g;exact⟨.aE (by rw[uv];exact h1) (Eo (pre:=[]) tg e λx J=>st (lo J)),uv _ _,λq L=>lo (zC L)⟩
theorem zF:∀(tg:List aA)(k:Nat)(ds:List aQ)(J:bq),ds.length=tg.length->k+tg.length<=J.length->bL (tgF k tg) ds J=J.take k++(ds.map BT.fB++J.drop (k+tg.length))
 |[],k,ds,J,h,_=>by cases List.length_eq_zero_iff.mp h;exact(aa6 k J).symm
 |x::r,k,ds,J,h,hl=>by
  cases ds with
  |nil=>cases h
  |cons d ds =>
   rw[Vv]at hl;have kl:k<J.length:=by lia
   show bL (tgF (k+1) r) ds (J.set k (aa (.p d)))=_;rw[zF r (k+1) ds _ (Nat.succ.inj h) (by rw[VX];lia),List.drop_set_of_lt (by lia),List.take_succ,VH kl,List.take_set,List.set_eq_of_length_le (by rw[Xq];lia),Wd,show k+1+r.length=k+(x::r).length by rw[Vv];lia];rfl
def xX{n:Nat}{d:aQ}{ds:List aQ}(h:bx n d=aa ds):ds.length=n:=by
 unfold bx at h
 by_cases c:n=1
 rw[bM c]at h;cases h;exact c.symm
 ·rw[bN c]at h;cases d with
  |aE J=>rw[BT.vI]at h;obtain⟨c,h⟩:=dG h;rw[←h];exact c|aD J=>rw[BT.vH]at h;obtain⟨c,h⟩:=dG h;rw[←h];exact c|_=>exact cX h
def zG(h:(tgI tg).length=tg.length)(V:tg≠[])(O:bx tg.length d0=aa ds)(U:sl.length=tg.length+fs.length)(L:sl.drop tg.length=fs):
 bL (tgI tg) ds sl=ds.map BT.fB++fs/\(ds.map BT.fB++fs).length=tg.length+fs.length/\(ds.map BT.fB++fs).drop tg.length=fs:=by
 have hn:=xX O;have g:=zF tg 0 ds sl hn (by lia);rw[abe,L]at g;have J:(ds.map BT.fB).length=tg.length:=by rw[Vx];exact hn
 exact⟨g,by rw[VN,J],by rw[←J];exact List.drop_left⟩
theorem lH:∀{J:List (Nat×aA)}{fs:bq},bI s J=aa fs->fs.length=J.length/\∀(i:Nat)(q:Nat×aA),J[i]?=aa q->fs[i]?=s[q.1]?
 |[],fs,e=>by simp[bI]at e;subst e;exact⟨rfl,λi q z=>by simp at z⟩
 |q::r,fs,e=>by
  simp only[bI]at e;cases g:s[q.1]? with
  |none=>rw[g]at e;exact cX e
  |some w =>
   rw[g]at e;obtain⟨U,e1,e2⟩:=dH e;subst e2;obtain⟨O,L⟩:=lH e1;refine⟨by simp[O],λi p z=>?_⟩;cases i with
   |zero=>simp at z;subst z;simp[g]|succ i=>simpa using L i p (by simpa using z)
def sD{K:Ve}(S:RS P w K m H σ s)(U:bI s fv=aa fs):RS P w K m H (mz n σ fv) (VG n af++fs):=by
 obtain⟨J,V⟩:=lH U;refine⟨by simp[mz,J],λi y e=>?_⟩
 by_cases c:i<n
 ·rw[Vi (by simpa using c),XG,bM c]at e;cases e
 ·rw[VW (by simpa using c)]at e;simp only[XU]at e;have O:i-n<fv.length:=by
   rw[←J];rcases VD (i-n) fs.length with z|z
   exact z;rw[Vs z]at e;exact cX e
  have g:=Vm O;rw[V _ _ g]at e;obtain⟨v,L,r⟩:=S.get _ _ e;refine⟨v,?_,r⟩;unfold mz;rw[VW (by simpa using c)];simp only[XU,VF,g,X7,L,abK]
def Hy{rest:List aQ}(e:BT.eH f n (d::r) h=aa (rest,h2)):
 ∃xs o L J,bx n d=aa xs/\f xs h=aa (o,L)/\BT.eH f n r L=aa (J,h2)/\rest=(match o with|some x=>x::J|none=>J):=by
 rw[BT.eH]at e;cases g:bx n d with
 |none=>rw[g]at e;exact cX e
 |some xs =>
  rw[g]at e;obtain⟨o,L,e1,e2⟩:=dg e;unfold BT.Dh at e2;obtain⟨J,V,U,O⟩:=dg e2;unfold BT.yW at O;cases O;exact⟨xs,o,L,J,rfl,e1,U,rfl⟩
theorem Un.behind(u:Un fs ex H H' h h1)(a:∀b,b<h.objs.size->H2 b=H' b)(lt:∀b o,H b=aa o->b<h.objs.size)(k:∀b o,b<h.objs.size->h1.get? b=aa o->h2.get? b=aa o):Un fs ex H H2 h h2 where
 keep:=λb o e n c d=>k b o (Vq e) (u.keep b o e n c d)
 slot:=λb o e n c d=>by obtain⟨O,q⟩:=u.slot b o e n c d;exact⟨O,k b _ (Vq e) q⟩
 free:=λb o e n d=>by rw[a b (Vq e)];exact u.free b o e n d
 there:=λb o e d=>by obtain⟨J,q⟩:=u.there b o e d;exact⟨J,k b J (Vq e) q⟩
 tups:=λb L e=>by rw[a b (lt b _ e)];exact u.tups b L e
 frzs:=λb o w e=>by rw[a b (lt b _ e)];exact u.frzs b o w e
 tbls:=λb U e=>by rw[a b (lt b _ e)];exact u.tbls b U e
section
theorem Ep(O:Ok X F G sc N)(hu:fT N=ah)(J:vX sc N tg fv scope):
 Ok (blk X (tg++fv.map (·.2)) s2 H1 scope C fp) F G (d9 scope sc) (tg++fv.map (·.2)) where
 hsc:=by have:=O.hsc;subst this;rfl
 hN:=rfl
 nd:=J.nd
 calm:=λ_=>O.calm hu
 hu:=O.hu
 own:=Zw
 glob:=O.glob
 call:=O.call
 aH:=O.aH
 mkc:=O.mkc
 blt:=O.blt
 lam:=O.lam
 lamx:=λh=>bO (show ak=ah from h "") (by decide)
def Er{mu:Bool}{J:bE}{n:Nat}{fs:bq}{Y:bq->aO->Option (List aP×aO)}{W:bq->BT.EH}{ws:List aP}{h:aO}{z:aP×aO}{ds:List aQ}(e:BT.qk mu J n (aa fs) Y W ws h=aa z)(g:(aV ws h).bind (BT.gy J)=aa ds):
 vU J ws/\∃d,(∀xs h r,d xs h=aa r->BT.fD Y W fs xs h=aa r/\m7 J ws ds r.2)/\m7 J ws ds h/\bF (BT.eH d n ds h) (BT.g8 mu)=aa z:=by
 unfold BT.qk at e;rw[g]at e;simp only at e
 by_cases U:BT.iB ws=ah
 ·rw[bM U]at e;exact⟨.inl U,_,λxs h r q=>⟨q,jW U⟩,jW U,e⟩
 ·rw[bN U]at e;have two:(J=.seq\/J=.enu)/\∃q,ws=[.r q]:=by unfold BT.tS at e;split at e;exact⟨.inl rfl,_,rfl⟩;exact⟨.inr rfl,_,rfl⟩;exact cX e
  obtain⟨sq,q,rfl⟩:=two;have a:BT.lQ J q h=aa ds:=by
   unfold BT.lQ;simp only[aV,bw,X7]at g;cases b:bz h q with
   |none=>rw[b]at g;exact cX g|some xs=>rw[b]at g;exact g
  rcases sq with rfl|rfl
  ·rw[BT.Dm]at e;refine⟨.inr ⟨.inl rfl,q,rfl⟩,_,λxs h r q=>?_,λZ L=>by cases L;exact a,e⟩;unfold BT.chk at q;cases O:BT.fD Y W fs xs h with
   |none=>rw[O]at q;exact cX q
   |some V =>
    rw[O]at q;simp only at q;split at q
    ·rename_i c;cases q;exact⟨rfl,λZ L=>by cases L;unfold BT.lQ;rw[c];rfl⟩
    exact cX q
  ·rw[BT.Dl]at e;refine⟨.inr ⟨.inr rfl,q,rfl⟩,_,λxs h r q=>?_,λZ L=>by cases L;exact a,e⟩;unfold BT.K6 at q;cases O:BT.fD Y W fs xs h with
   |none=>rw[O]at q;exact cX q
   |some V =>
    rw[O]at q;simp only at q;split at q
    ·rename_i c;cases q;refine⟨rfl,λZ L=>?_⟩;cases L;rw[←c];show(bz V.2 q).bind (λxs=>BT.gy .enu [.aD xs])=(bz V.2 q).map (BT.lA 0);cases bz V.2 q<;>rfl
    exact cX q
inductive LI(X:Cx)(F:FT)(G:aA->Option aP)(scope:V8)(tg:List aA)(fv:List (Nat×aA))(cond:bg)(elt:bf)(s2:Vh)(H1:Hp)(C:aB)(fp:List aB)(tn:Nat->av->Prop)(m1:List aB)(ds outs:List aQ)(fs:bq)(h2:aO)(f':List aQ->aO->Option (Option aQ×aO))(Cc:aO->Prop)(n:Nat)(s:Vh):Prop
 |mk(i:Nat)(O:L2.St)(H':Hp)(m':List aB)(J:aO)(out rest:List aQ)(vs:List V)(us:List aC)(nn:Nat)(L:bq)(p0:i<=ds.length)(p1:n=ds.length-i)(p2:Inv (blk X (tg++fv.map (·.2)) s2 H1 scope C fp) [(s2.heap.objs.size,lobj us nn)] O H' s)(p3:tn i s.heap)(p4:(∀b∈fp,H' b=af))(p5:Ext m1 H1 m' H')(p6:RH X.K m' H' J)(p7:RS X.prog X.w X.K m' H' O L)(p8:L.length=tg.length+fs.length)(p9:L.drop tg.length=fs)(Y:dD vs us)(p11:RDs X.K m' H' vs out)(W:BT.eH f' tg.length (ds.drop i) J=aa (rest,h2))(U:out++rest=outs)(Z:Cc J):LI X F G scope tg fv cond elt s2 H1 C fp tn m1 ds outs fs h2 f' Cc n s
structure Apart(X:Cx)(zt:List (aB×au))(H:Hp)(C:aB):Prop where
 fr:H C=af
 lo:C≠X.env.locals
 ab:X.s₀.heap.objs.size<=C
 ce:∀x c,X.env.cells.lookup x=aa c->c≠C
 pi:∀p∈X.pn++zt,p.1≠C
def sF(O:Ok X F G sc N)(hu:fT N=ah)
(hk:jP sc N tg fv scope=ah)(ht:qo (d9 scope sc) tg te=ah)(hset:ju iter=ah)(hI:PI X te iter (iD X F G sr sa))(hC:qG F G (d9 scope sc) (tg++fv.map (·.2)) cond ifs)
(hE:∀X',Ok X' F G (d9 scope sc) (tg++fv.map (·.2))->PE X' elt' (tD X' F G elt)):∀(zt:List (aB×au)) (s:Vh) (σ:L2.St) (H:Hp) (Q:VK) (use:Option (aC->Sem Unit)) (Q':aC->Vh->Prop),Inv X zt σ H s->tD X F G (.comp mu sr sa tg fv cond elt) σ H Q →
 (∀(f:Vh)(H6:Hp)(C D:aB)(m:aA->Option aC),Inv X zt σ H6 f->f.heap.Ns C m->Apart X zt H6 C->Q (.ref D) H6->compPost (VC X.prog X.w) X.A X.xe use Q' (.ref D) C (.ok .next) f) →
 az (VC X.prog X.w) X.A (Z4 (.ListComp elt' [⟨te,iter,ifs,0⟩] scope pos) scope X.env (firstIterPos [⟨te,iter,ifs,0⟩] pos) (newList []) ak (eval iter X.env) use) Q' X.xe s:=by
 have cf:=JL hk;obtain⟨ct,tl,tloc⟩:=zE (fs:=fv.map (·.2)) ht;have t0:tg≠[]:=by
  rintro rfl
  simp[qo]at ht
 intro zt s σ H Q use Q' I q hfin;obtain⟨m,s',h,z,h',R,S,ee,zr⟩:=q;simp only[aN]at ee;obtain⟨ws,h1,e1,e2⟩:=dg ee;cases g1:(aV ws h1).bind (BT.gy sr)with
 |none=>unfold BT.qk at e2;rw[g1]at e2;exact cX e2
 |some Z =>
  cases g2:bI s' fv with
  |none=>unfold BT.qk at e2;rw[g1,g2]at e2;exact cX e2
  |some fs =>
   rw[g2]at e2;obtain⟨ca,f',hf',c1,e2⟩:=Er e2 g1;obtain⟨U,h2,e3,e4⟩:=dg e2;unfold BT.g8 at e4
   by_cases cl:U.length<=BT.lim
   case neg=>rw[bN cl]at e4;exact cX e4
   rw[bM cl] at e4;have ez:BT.new mu U h2=(z,h'):=Vp e4;have hfree:BC.uq X.env.cells scope.names:=λx hx e=>I.ok.has x.1 (.inl (by
    have:=cf.free x hx e;show X.env.scope.names.lookup x.1=_;rw[O.hsc];exact this))
   refine wpAny_comprehension_free (use:=use) rfl (pF hset) (BC.qF hfree) cf.k1 cf.loc
    (thn (hI zt s σ H (λJ H1=>∃m1,Ext m H m1 H1/\RH X.K m1 H1 h1/\vS X.K J m1 H1 Z (m7 sr ws Z)) I ⟨m,s',h,ws,h1,Z,R,S,e1,g1,ca,λH1 m1 J x1 R1 it=>⟨m1,x1,R1,it⟩⟩) λv s1 hv=>thn hv λitv s2 h2'=>?_)
   obtain⟨it,fp,tn,J,H1,rfl,I1,T,st,hf,m1,x1,R1,ito⟩:=h2';have hlt:∀b∈fp,b<s2.heap.objs.size:=λb L=>by obtain⟨o,ho,_⟩:=T.obj 0 _ st b L;exact Vq ho
   refine V1 (wpAny_newFunctionEnv cf.cell (by intro y hy;simp at hy) (λh3 hns hsb=>?_) cf.k1);dsimp only at hns hsb⊢;generalize hH2:s2.heap.push {cls:=.type "list",dict:=af,data:=.seq ([]:List aC).toArray}=H2 at hns hsb⊢;have M:H2.objs.size=s2.heap.objs.size+1:=by rw[←hH2,WB]
   have old:∀b o,s2.heap.get? b=aa o->h3.get? b=aa o:=λb o e=>hsb.extBut b o (by rw[M];exact VI (XQ (Vq e))) (Vk _ (hH2 ▸ Vk _ e));have hacc:h3.get? s2.heap.objs.size=aa (lobj [] 0):=hsb.extBut _ _ (by rw[M];exact VI (Wy _)) (Vk _ (hH2 ▸ Vw _ rfl));have I4:=zB (tk:=s2.toks+([]:List (aA×aC)).length) I1 O.hsc O.hN cf M hf hlt old hns hacc;have O':=Ep (s2:=s2) (H1:=H1) (C:=H2.objs.size) (fp:=fp) O hu cf;obtain⟨g,hg1,hg2⟩:=sCT O' (O.calm hu) ct λq hq=>.inr (by rw[O'.hsc];exact tloc q hq);have hfl:fs.length=fv.length:=(lH g2).1;have B:∀{H':Hp}{o:au},(∀b∈fp,H' b=af)->∀b∈fp,rC (blk X (tg++fv.map (·.2)) s2 H1 scope H2.objs.size fp) [(s2.heap.objs.size,o)] H' b:=λ{H' o} hn b L=>by
    refine⟨hn b L,?_,?_,.inl L,λx c e=>(hf b L).2.2.2.2.1 x c (lU e),λp hp=>?_⟩
    ·show b≠H2.objs.size;rw[M];exact VI (XQ (hlt b L))
    ·intro j;rcases List.mem_cons.mp (I1.lX b j)with e|e
     exact(hf b L).2.1 e;exact(hf b L).2.2.1 e
    ·have hp':p=(s2.heap.objs.size,o):=by have:p∈[]++[(s2.heap.objs.size,o)]:=hp;simpa using this
     rw[hp'];show s2.heap.objs.size≠b;exact Xy (hlt b L)
   have loop:∀s4:Vh,s4={s2 with heap:=h3,toks:=s2.toks+([]:List (aA×aC)).length} →
    aq (VC X.prog X.w) X.A (.compLoop (.ListComp elt' [⟨te,iter,ifs,0⟩] scope pos) 0 (.ref it) (.ref s2.heap.objs.size) (aaL scope (BC.jw X.env.cells scope.names []) H2.objs.size X.env))
     (compPost (VC X.prog X.w) X.A X.xe use Q' (.ref s2.heap.objs.size) H2.objs.size) s4:=by
    rintro s4 rfl
    refine BC.Bq (LI X F G scope tg fv cond elt s2 H1 H2.objs.size fp tn m1 Z U fs h2 f' (m7 sr ws Z)) ?_
     Z.length ⟨0,_,H1,m1,h1,[],U,[],[],0,_,Wg _,rfl,I4,T.keep 0 _ _ st (λb L o e=>old b o e),λb L=>(hf b L).1,.refl _ _,R1,sD (S.ext x1) g2,by simp,by simp,.nil,.nil,by rw[Ys];exact e3,rfl,c1⟩
    rintro n s5 ⟨i,σ5,H5,m5,hh,out,rest,vs,us,nn,sl,hi,rfl,I5,st5,fr5,x5,R5,S5,sl1,sl2,rv5,rd5,go5,ou5,cc5⟩
    by_cases c:i<Z.length
    ·rw[Xl c]at go5;obtain⟨xs,o,hA,E,eT,eF,eG,eR⟩:=Hy go5;obtain⟨eF,cA⟩:=hf' _ _ _ eF;refine thn (T.item (blk X (tg++fv.map (·.2)) s2 H1 scope H2.objs.size fp) rfl rfl rfl (O.calm hu) i _ s5 σ5 H5 _ I5 (B fr5) st5 (ito.go m5 H5 hh i x5 R5 cc5 c)) λr f hr=>?_;obtain⟨u,rfl,hr⟩:=hr;refine thn hr λ_ s7 zq=>?_;obtain⟨x,H7,I7,r7,y7,st7,fr7⟩:=zq;obtain⟨x7,k7,rd7⟩:=ito.yld m5 H5 hh i x H7 Z[i] x5 R5 cc5 (Vm c) y7;have R7:=R5.ext x7 k7;have I7':=I7.pinned (B fr7) (T.obj _ _ st7);obtain⟨sq1,sq2,sq3⟩:=zG tl t0 eT sl1 sl2;refine thn (hg1 _ s7 σ5 H7 x u (fun V H8=>H8=H7/\RS X.prog X.w X.K m5 H7 V (xs.map BT.fB++fs)) I7' r7 (hg2 m5 H7 σ5 sl x Z[i] xs _ (S5.ext x7) rd7 (by rw[tl];exact eT) fun V S8=>⟨rfl,by rw[←sq1];exact S8⟩)) λ_ s8 h8=>?_;obtain⟨V,H8,I8,rfl,S8⟩:=h8;have aJ:∀{s9:Vh}{σ9:L2.St}{t:Hp},Inv (blk X (tg++fv.map (·.2)) s2 H1 scope H2.objs.size fp) ([(s2.heap.objs.size,lobj us nn)]++lY fp s7.heap) σ9 t s9->tn (i+1) s9.heap/\∀b∈fp,t b=af:=λ{s9 σ9 t} I9=>by refine⟨T.keep _ _ _ st7 λb L o e=>(I9.pin (b,o) (VP _ (VP _ (gQ L e)))).1,λb L=>?_⟩;obtain⟨o,e,_⟩:=T.obj _ _ st7 b L;exact(I9.pin (b,o) (VP _ (VP _ (gQ L e)))).2.1
     have elem:∀{s9:Vh}{t:Hp}{m9:List aB}{h9:aO}{w:aP}{hB:aO}{d:aQ},Inv (blk X (tg++fv.map (·.2)) s2 H1 scope H2.objs.size fp) ([(s2.heap.objs.size,lobj us nn)]++lY fp s7.heap) V t s9->Ext m5 H8 m9 t->RH X.K m9 t h9 →
      aN F G elt (xs.map BT.fB++fs) h9=aa (w,hB)->BT.oQ w hB=aa (aa d,hA)->o=aa d →
      az (VC X.prog X.w) X.A (eval elt' (aaL scope (BC.jw X.env.cells scope.names []) H2.objs.size X.env)) (λx s₄ =>
       az (VC X.prog X.w) X.A (call (.builtin "list.append") [.ref s2.heap.objs.size,x]) (λ_ s₅=>∃ m,m < Z.length - i/\LI X F G scope tg fv cond elt s2 H1 H2.objs.size fp tn m1 Z U fs h2 f' (m7 sr ws Z) m s₅) (λ_ _=>False) s₄) (λ_ _=>False) s9:=by
      intro s9 t m9 h9 w hB d I9 x9 R9 eE Y eO;have ew:w=.p d/\hB=hA:=by
       unfold BT.oQ at Y;cases w with
       |p d'=>cases Y;exact⟨rfl,rfl⟩|_=>exact cX Y
      obtain⟨rfl,rfl⟩:=ew;refine thn (hE _ O' _ s9 V t (λv Ha=>∃P,Ext m9 t P Ha/\RH X.K P Ha hB/\RD X.K P Ha v d) I9 ⟨m9,_,h9,_,hB,R9,S8.ext x9,eE,λv Ha P xa Ra ra=>by cases ra with|p ra=>exact⟨P,xa,Ra,ra⟩⟩) λu10 s10 ⟨v10,H10,I10,r10,m10,x10,R10,rd10⟩=>?_
      obtain⟨pD,nD,k,nfD,_⟩:=I10.pin (s2.heap.objs.size,lobj us nn) (by simp);have lus:=rv5.length;have lvs:=rd5.length;have lou:out.length<=U.length:=by rw[←ou5];simp
      have lle:=gf;have cl':U.length<=BT.lim:=cl;refine abv ⟨nn,pD⟩ (λh11 W a=>?_) (by rw[Vl];lia);obtain⟨nn',W⟩:=W;have W:h11.get? s2.heap.objs.size=aa (lobj (us++[u10]) nn'):=by rw[W];simp[lobj]
      have a:V6 s2.heap.objs.size s10.heap h11:=a;obtain⟨st10,fr10⟩:=aJ I10;have I11:Inv (blk X (tg++fv.map (·.2)) s2 H1 scope H2.objs.size fp) [] V H10 {s10 with heap:=h11} :=
       Inv.turned (t':=s10.toks) (I10.lg (λp hp=>by cases hp)) (λb o L e=>(a.2 b L).trans e) nD k (.inr (Vo _)) (λx c e j=>by obtain⟨v,o,ho,_⟩:=I1.cell x c (lU e);have:=Vq ho;rw[j]at this;exact bO this (V5 _)) λp hp=>by cases hp
      have I12:Inv (blk X (tg++fv.map (·.2)) s2 H1 scope H2.objs.size fp) [(s2.heap.objs.size,lobj (us++[u10]) nn')] V H10 {s10 with heap:=h11}:=I11.lg λp hp=>by simp only[Zt]at hp;subst hp;exact⟨W,nD,k,nfD,λv j=>by cases (show Data.seq _ _=Data.cell v from j)⟩
      have xt:Ext m5 H5 m10 H10:=(x7.trans x9).trans x10;refine⟨Z.length-(i+1),by lia,i+1,V,H10,m10,hB,out++[d],E,vs++[v10],us++[u10],nn',_,c,rfl,I12,?_,fr10,x5.trans xt,R10,(S8.ext x9).ext x10,sq2,sq3,rv5.append (.cons r10 .nil),(rd5.ext xt).append (.cons rd10 .nil),eG,?_,cA⟩
      ·refine T.keep _ _ _ st10 λb L o' e=>(a.2 b ?_).trans e;exact VI (hlt b L)
      rw[←ou5,eR,eO,Wd];rfl
     unfold BT.fD at eF;obtain⟨cs,hc,eC,Y⟩:=dg eF;rcases hC with⟨rfl,rfl⟩|⟨cc,cc',rfl,rfl,hCC⟩
     ·simp only[aZ]at eC;cases eC;have Y:=(show bF _ BT.oQ=_ from Y);obtain⟨w,hB,eE,eL⟩:=dg Y;refine wpAny_tests_nil ?_;rw[bM rfl];have:∃d,o=aa d:=by
       unfold BT.oQ at eL;cases w with
       |p d'=>cases eL;exact⟨_,rfl⟩|_=>exact cX eL
      obtain⟨d,rfl⟩:=this;exact elem I8 (.refl _ _) R7 eE eL rfl
     ·simp only[aZ]at eC;obtain⟨wc,hc2,eC1,eC2⟩:=dg eC;simp only[BT.mV,BT.fu,BT.jN]at eC2;cases eC2;have L:∃b,wc=.p (.bl b):=by
       cases wc with
       |p d =>
        cases d<;>first|exact⟨_,rfl⟩|exact cX Y
       |_=>exact cX Y
      obtain⟨b,rfl⟩:=L;refine wpAny_tests_one (thn (hCC _ O' _ s8 V H8 (λb' Ha=>b'=b/\∃P,Ext m5 H8 P Ha/\RH X.K P Ha hc) I8 ⟨m5,_,hh,b,hc,R7,S8,eC1,λHa P xa Ra=>⟨rfl,P,xa,Ra⟩⟩) λb' s9 zq=>?_);obtain⟨t,I9,hbb,m9,x9,R9⟩:=zq;subst hbb;cases b' with
      |false =>
       have Y:=(show aa ((af:Option aQ),hc)=aa _ from Y);cases Y;rw[bN (by decide)];obtain⟨st9,fr9⟩:=aJ I9;have xt:Ext m5 H5 m9 t:=x7.trans x9;refine⟨Z.length-(i+1),by lia,i+1,V,t,m9,hA,out,E,vs,us,nn,_,c,rfl,I9.mH,st9,fr9,x5.trans xt,R9,S8.ext x9,sq2,sq3,rv5,rd5.ext xt,eG,?_,cA⟩;rw[←ou5,eR]
      |true =>
       have Y:=(show bF _ BT.oQ=_ from Y);rw[bM rfl];obtain⟨w,hB,eE,eL⟩:=dg Y;have:∃d,o=aa d:=by
        unfold BT.oQ at eL;cases w with
        |p d'=>cases eL;exact⟨_,rfl⟩|_=>exact cX eL
       obtain⟨d,rfl⟩:=this;exact elem I9 x9 R9 eE eL rfl
    ·have ei:i=Z.length:=by lia
     subst ei;rw[XZ,BT.eH]at go5;cases go5;rw[Wc]at ou5;subst ou5;refine thn (T.done (blk X (tg++fv.map (·.2)) s2 H1 scope H2.objs.size fp) rfl rfl rfl (O.calm hu) _ _ s5 σ5 H5 _ I5 (B fr5) st5 (ito.stop m5 H5 _ x5 R5 cc5)) λr f zq=>?_;obtain⟨hr,I6⟩:=zq;subst hr;obtain⟨mm,hmm,_⟩:=I6.loc;obtain⟨pD,nD,k,nfD,_⟩:=I6.pin (s2.heap.objs.size,lobj us nn) (by simp);have k:s2.heap.objs.size≠H2.objs.size:=k;have hos:f.os=s2.os:=I6.os;have lus:=rv5.length;have lvs:=rd5.length;have lle:=gf;have cl':out.length<=BT.lim:=cl;have aL:HOk X.prog X.w (upd H5 s2.heap.objs.size (.aD vs)) f.heap:=λb u e=>by
      by_cases eb:b=s2.heap.objs.size
      ·subst eb;rw[fq]at e;cases e;exact⟨by lia,us,nn,rv5,pD⟩
      ·rw[dI eb]at e;refine(I6.aL b u e).stay (λc v hc q=>q) (λc q=>?_) λc l q=>?_;rw[dI (λj=>by rw[j,nD]at q;exact cX q)];exact q;rw[dI (λj=>by rw[j,nD]at q;exact cX q)];exact q
     have u7:Un (frs X.stack) fp H1 (upd H5 s2.heap.objs.size (.aD vs)) s2.heap f.heap:=Un.behind (h1:=f.heap) I6.base (λb L=>dI (VI L)) (λb o e=>I1.aL.lt e) λb o L e=>e;have I7:=I1.call (g':=f.gens) (t':=f.toks) (d':=f.drawn) (ch:=fp) u7 aL I6.bare λb L=>⟨(hf b L).2.2.2.1,(hf b L).2.1,(hf b L).2.2.2.2.1,(hf b L).2.2.2.2.2⟩;have fr6:H5 H2.objs.size=af:=I6.free;have ltC:s2.heap.objs.size<H2.objs.size:=by rw[M];exact Wy _
     have ap:Apart X zt (upd H5 s2.heap.objs.size (.aD vs)) H2.objs.size:=by
      refine⟨by rw[dI (Wa k)];exact fr6,?_,?_,λx c e j=>?_,λp hp j=>?_⟩;exact Xy (abf I1.lt ltC);exact VJ I1.sz (Xa ltC)
      ·obtain⟨v,o,ho,_⟩:=I1.cell x c e;have l:=Vq ho;rw[j]at l;exact bO (abf l ltC) (V5 _)
      ·have l:=Vq (I1.pin p hp).1;rw[j]at l;exact bO (abf l ltC) (V5 _)
     refine hfin f _ _ _ mm ?_ hmm ap (tZ (mu:=mu) R5 nD rd5 (by rw[ez];exact λv' H' m' xx RR rr=>zr v' H' m' ((x1.trans x5).trans xx) RR rr));obtain⟨hp6,g6,d6,t6,os6⟩:=f;have hos:os6=s2.os:=hos;subst hos;exact I7
   exact codeAny_compStart_list (loop _ rfl) (T.self _ 0 _ _ _ (T.keep 0 _ _ st (λb L o e=>old b o e)) (loop _ rfl))
def Hz(O:Ok X F G sc N)(a:fT N=ah)
(f:jP sc N tg fv scope=ah)(c:qo (d9 scope sc) tg te=ah)(L:ju iter=ah)(h:PI X te iter (iD X F G sr sa))(j:qG F G (d9 scope sc) (tg++fv.map (·.2)) cond ifs)
(i:∀V,Ok V F G (d9 scope sc) (tg++fv.map (·.2))->PE V elt' (tD V F G elt)):PE X (.ListComp elt' [⟨te,iter,ifs,0⟩] scope pos) (tD X F G (.comp mu sr sa tg fv cond elt)):=by
 intro Z s Y H Q I q;rw[eval_ListComp];refine sF O a f c L h j i Z s Y H Q af _ I q λW n C D m l hn U d=>?_;refine⟨m,hn,λk J=>?_⟩;have J:V6 C W.heap k:=J;exact⟨.ref D,n,Inv.turned (t':=W.toks) l (λb o g e=>(J.2 b g).trans e) U.fr U.lo (.inr U.ab) U.ce U.pi,rfl,d⟩
def HA(O:Ok X F G sc N)(p:fT N=ah)
(u:jP sc N tg fv scope=ah)(r:qo (d9 scope sc) tg te=ah)(U:ju iter=ah)(x:PI X te iter (iD X F G sr sa))(E:qG F G (d9 scope sc) (tg++fv.map (·.2)) cond ifs)
(B:∀c,Ok c F G (d9 scope sc) (tg++fv.map (·.2))->PE c elt' (tD c F G elt))(n:N[i]?=aa y)(h:sc.names.lookup y=aa .local)
(W:Yt (.ListComp elt' [⟨te,iter,ifs,0⟩] scope pos) (aa (.Name y py)) spos.line X.env=pure ah):
 PS X (.Assign [.Name y py] (.ListComp elt' [⟨te,iter,ifs,0⟩] scope pos) spos) (Cj (tD X F G (.comp mu sr sa tg fv cond elt)) (yE i)):=by
 intro d s k H D I q;rw[exec_Assign_Name_used _ _ _ _ W];refine Vf (Yn (Vf ?_));show az _ X.A (do let _ ←Z4 (.ListComp elt' [⟨te,iter,ifs,0⟩] scope pos) scope X.env _ (newList []) ak (eval iter X.env) (aa (Z5 (.Name y py) X.env))) _ _ s;refine Vf (thn (sF O p u r U x E B d s k H _ (aa (Z5 (.Name y py) X.env)) (λ_ g=>SP X d D .next g) I q λR Q C j m P hn L Y=>?_) λ_ g Y=>ay (ay Y));show az _ X.A (Z5 (.Name y py) X.env (.ref j)) _ _ _;refine wpAny_assign_Name (rT P O.nd (by rw[O.hN];exact n) (.inl (by rw[O.hsc];exact h)) (v:=.ref j) rfl (λf M t=>?_) (.inr (by rw[O.hsc];exact h)));obtain⟨a,l,Z⟩:=t;have V:C≠a:=by
  rcases Z with rfl|Z
  exact L.lo;exact λz=>L.ce y a Z z.symm
 refine⟨m,hn.sameBut l V,λK J=>?_⟩;have J:V6 C f.heap K:=J;exact⟨_,Q,Inv.turned (t':=f.toks) M (λb o w e=>(J.2 b w).trans e) L.fr L.lo (.inr L.ab) L.ce L.pi,Y⟩
end
section
variable{E:aC->Vh->Prop}
end
section
end
end BS
end
section
namespace L2
open PySem PySem.Spec PyProof.Rows
section
variable{X:Cx}{tg:ZH}
end
end L2
namespace BS
open PySem PySem.Spec PyProof.Rows L2
section
variable{F:FT}{G:aA->Option aP}
end
end BS
end
section
namespace BS
open PySem PySem.Spec PyProof.Rows L2
section
variable{E:aC->Vh->Prop}
end
section
variable{prog:Vy}{w:VQ}{A:V9}{s:Vh}{R:Z7->Vh->Prop}{xs ys:Array aC}{z TI TO i1 i2 l1 l2 S:aB}
end
section
variable{prog:Vy}{w:VQ}{A:V9}{E:aC->Vh->Prop}{s:Vh}{R:Z7->Vh->Prop}{xs ys:Array aC}{z TI TO i1 i2 l1 l2 S:aB}
end
section
variable{E:aC->Vh->Prop}
end
section
end
inductive ZK
 |l(a:aB)|t(a:aB)|s(x:aA)(k:Tok)
noncomputable def ZK.ty:ZK->String
 |.l _=>"list_iterator"|.t _=>"tuple_iterator"|.s x _=>strIterType x
noncomputable def ZK.val:ZK->aC
 |.l a=>.ref a|.t a=>.ref a|.s x k=>.str x k
def ZK.at(q:ZK)(J:aB)(i:Nat)(h:av):Prop:=match q with
 |.l a=>h.IsListIter J a i|.t a=>h.IsTupleIter J a i|.s x k=>h.IsStrIter J (strIterType x) x k i
def ZK.item(q:ZK)(i:Nat)(h:av)(u:aC):Prop:=match q with
 |.l a=>∃J:List aC,h.IsList a J.toArray/\J[i]?=aa u|.t a=>∃J:List aC,h.IsTuple a J.toArray/\J[i]?=aa u|.s x _=>∃c t,x.cps[i]?=aa c/\u=.str ⟨#[c]⟩ t
def ZK.done(q:ZK)(i:Nat)(h:av):Prop:=match q with
 |.l a=>∃J:List aC,h.IsList a J.toArray/\J.length<=i|.t a=>∃J:List aC,h.IsTuple a J.toArray/\J.length<=i|.s x _=>x.cps.size<=i
section
variable{prog:Vy}{w:VQ}{A:V9}{E:aC->Vh->Prop}{s:Vh}
end
def ZK.ob(q:ZK):au:={cls:=.type q.ty,data:=.fields #[q.val,.int 0 0]}
def ZK.here(q:ZK)(h:av):Prop:=match q with
 |.l a=>∃J:List aC,h.IsList a J.toArray|.t a=>∃J:List aC,h.IsTuple a J.toArray|.s _ _=>True
section
variable{prog:Vy}{w:VQ}{A:V9}{E:aC->Vh->Prop}{s:Vh}
end
section
variable{prog:Vy}{w:VQ}{A:V9}{E:aC->Vh->Prop}{s:Vh}
end
def ZK.has(q:ZK)(K:Ve)(H:Hp)(i:Nat):Prop:=match q with
 |.l a=>∃J x,SqL K H a J/\J[i]?=aa x|.t a=>∃J x,SqT K H a J/\J[i]?=aa x|.s x _=>∃c,x.cps[i]?=aa c
def ZK.is(q:ZK)(K:Ve)(H:Hp)(i:Nat)(v:V):Prop:=match q with
 |.l a=>∀J,SqL K H a J->J[i]?=aa v|.t a=>∀J,SqT K H a J->J[i]?=aa v|.s x _=>∃c,x.cps[i]?=aa c/\v=.str ⟨#[c]⟩
def ZK.over(q:ZK)(K:Ve)(H:Hp)(i:Nat):Prop:=match q with
 |.l a=>∃J,SqL K H a J/\J.length<=i|.t a=>∃J,SqT K H a J/\J.length<=i|.s x _=>x.cps.size<=i
section
variable{X:Cx}{zt:List (aB×au)}{σ:L2.St}{H:Hp}{s:Vh}
end
section
variable{F:FT}{G:aA->Option aP}
end
section
variable{prog:Vy}{w:VQ}{A:V9}{E:aC->Vh->Prop}{s:Vh}
end
section
variable{F:FT}{G:aA->Option aP}
end
section
variable{X:Cx}{F:FT}{G:aA->Option aP}
end
section
variable{X:Cx}{F:FT}{G:aA->Option aP}
end
section
variable{m:List aB}
def RBs.length{vs:List V}{ns:List Nat}(r:RBs m vs ns):vs.length=ns.length:=by
 induction r with
 |nil=>rfl|cons _ _ J=>rw[Vv,Vv,J]
theorem RBs.get:∀{vs:List V}{ns:List Nat}{i n:Nat},RBs m vs ns->ns[i]?=aa n->∃a,vs[i]?=aa (.ref a)/\m[n]?=aa a
 |_,_,_,_,.nil,e=>by simp at e
 |_,_,0,_,.cons r _,e=>by simp at e;subst e;exact⟨_,rfl,r⟩
 |_,_,i+1,d,.cons _ t,e=>by obtain⟨u,L,J⟩:=RBs.get (i:=i) (n:=d) t (by simpa using e);exact⟨u,by simpa using L,J⟩
theorem RBs.add{n:Nat}{a:aB}(h:m[n]?=aa a):∀{vs:List V}{ns:List Nat},RBs m vs ns->RBs m (vs++[.ref a]) (ns++[n])
 |_,_,.nil=>.cons h .nil|_,_,.cons r t=>.cons r (RBs.add h t)
def RBs.atI{vs:List V}{ns:List Nat}{i:Int}{d:Nat}(r:RBs m vs ns)(e:BT.atP ns i=aa d):∃a,L2.atI vs i=aa (.ref a)/\m[d]?=aa a:=by unfold BT.atP at e;unfold L2.atI;obtain⟨j,U,O⟩:=Option.bind_eq_some_iff.mp e;obtain⟨v,L,J⟩:=r.get O;refine⟨v,?_,J⟩;rw[r.length];show((BT.place ns.length i).bind λj=>vs[j]?)=_;rw[U];exact L
end
section
variable{F:FT}{G:aA->Option aP}
def LY{X:Cx}{a:bf}(σ:L2.St)(H:Hp)(Q:VK)(q:tD X F G (.obl a) σ H Q):Ks (tDs X F G (.cons a .nil)) σ H Q:=by
 obtain⟨m,s,h,z,d,R,S,L,U⟩:=q;simp only[aN]at L;obtain⟨x,Z,e1,e2⟩:=dg L;cases x with
 |o n =>
  cases e2;refine⟨m,s,h,[.o n],Z,R,S,by simp only[aZ,e1,BT.fu,BT.mV,BT.jN],λc b Y V O W=>?_⟩;cases W with
  |cons r t =>
   cases t;cases r with
   |o hn =>
    refine⟨by show 1<=_;decide,λp J=>?_⟩;refine U _ _ (Y++[p]) (V.trans (jC J)) (O.Ll J ⟨_,fq,.cons ((jC (H:=b) (o:=.own 0) J).ix hn) .nil⟩) (.r ?_);rw[←O.len];simp
 |_=>exact cX e2
def LZ{X:Cx}:IxR X (rOp X.prog X.w X.K BT.K8):=by
 intro J L V s U H v u A B Q I c f h l;obtain⟨m,h,x,y,z,D,R,Z,O,e,W⟩:=h;cases Z with
 |@r a n hn =>
  cases O with
  |p O =>
   cases O with
   |int i =>
    rw[BT.GQ]at e;obtain⟨C,g,e⟩:=Option.bind_eq_some_iff.mp e;obtain⟨d,e1,e2⟩:=dH e;cases e2;obtain⟨Y,t,q⟩:=R.zb _ _ _ hn g;obtain⟨b,k,j⟩:=q.atI e1;exact yQ J L V s U H _ _ _ _ Q I c f ⟨a,Y,i,_,rfl,rfl,.inl (.inl t),k,W _ _ m (.refl _ _) R (.o j)⟩ l
   |_=>exact cX e
  |_=>exact cX e
 |_=>exact cX e
def L0{X:Cx}{sc:V8}{N:List aA}(O:Ok X F G sc N){a:bf}{e:Vj}{p pos:Pos}(j:dU sc "len"=ah)(i:noStar e=ah)(k:PA X [e] (tDs X F G (.cons a .nil))):PE X (.Call (.Name "len" p) [e] [] pos) (tD X F G (.obn a)):=by
 refine PE.weak (gA jJ (ef O j) (O.blt _ (by decide)) PySem.boot_len k (by decide) (by decide) (c7 i) rfl) fun o H Q q=>?_;obtain⟨m,s,h,z,l,R,S,L,V⟩:=q;simp only[aN]at L;obtain⟨x,w,e1,e2⟩:=dg L;cases x with
 |r n =>
  rw[BT.Lb]at e2;obtain⟨v,g,J⟩:=Option.bind_eq_some_iff.mp e2;obtain⟨c,J⟩:=dG J;cases J;refine⟨m,s,h,[.r n],l,R,S,by simp only[aZ,e1,BT.fu,BT.mV,BT.jN],λu y f W U Z=>?_⟩;cases Z with
  |cons r t =>
   cases t;cases r with
   |r hn =>
    obtain⟨Y,d,b⟩:=U.zb _ _ _ hn g;refine⟨_,Y,rfl,.inl (.inl (.inl d)),?_⟩;rw[b.length];exact V _ _ f W U (.p (.int _))
 |_=>exact cX e2
def L1{X:Cx}{o a:bf}{V e:Vj}{apos cpos:Pos}(M:dQ V=ah)(I:(apos.endLine==cpos.line)=ah)(d:noStar e=ah)(E:PE X V (tD X F G o))(N:PA X [e] (tDs X F G (.cons a .nil))):PE X (.Call (.Attribute V "append" apos) [e] [] cpos) (tD X F G (.oba o a)):=by
 refine PE.weak (CM Wx Yq Yp r6 E N (lG M) (by rw[jE (es:=[e]) (by simp[dw,d])];rfl) I (c7 d) rfl) fun σ H Q q=>?_;obtain⟨m,s,h,z,h',R,S,i,k⟩:=q;simp only[aN]at i;obtain⟨x,W,e1,e2⟩:=dg i;cases x with
 |r n =>
  rw[BT.La]at e2;have c:(BT.bat W n).isSome=ah:=Decidable.byContradiction λz=>by rw[bN z]at e2;exact cX e2
  rw[bM c]at e2;obtain⟨y,P,e3,L⟩:=dg e2;obtain⟨B,T⟩:=Option.isSome_iff_exists.mp c;refine⟨m,s,h,.r n,W,R,S,e1,λv H1 D Z j w=>?_⟩;cases w with
  |r hn =>
   obtain⟨O,A,_⟩:=j.zb _ _ _ hn T;refine⟨.inl ⟨rfl,O,.inl (.inl A)⟩,D,s,W,[y],P,j,S.ext Z,by simp only[aZ,e3,BT.fu,BT.mV,BT.jN],λvs H2 C Y R2 u=>?_⟩;cases u with
   |cons r t =>
    cases t;cases r with
    |o K =>
     rw[BT.K9]at L;obtain⟨ns,g,L⟩:=Option.bind_eq_some_iff.mp L;obtain⟨c2,L⟩:=dG L;cases L;have J:=Y.ix hn;obtain⟨l,U,b⟩:=R2.zb _ _ _ J g;have:=gf;have f:=b.length;exact⟨_,l,_,rfl,rfl,U,by lia,k _ _ C ((Z.trans Y).trans (iR (Vz J) U)) (R2.setC J ⟨_,U,rfl⟩ ⟨_,fq,b.add K⟩) (.p .aF)⟩
    |_=>exact cX L
 |_=>exact cX e2
def Br{K:Ve}{C f:aB}(h:VO K (.ref C) "__init__"=aa (aa (.ref f)))(h2:YK K (.ref f)=ah):abJ K (.ref C) (.type "type") "__init__"=aa (.val (.ref f)):=by unfold abJ;rw[show VO K (.type "type") "__init__"=aa (aa (.builtin "type.__init__")) from(by decide +kernel:VO [] (.type "type") "__init__"=aa (aa (.builtin "type.__init__")))];simp only[VV];rw[show W3 K (.builtin "type.__init__") "__get__"=aa (aa (.builtin "wrapper_descriptor.__get__")) from(by decide +kernel:W3 [] (.builtin "type.__init__") "__get__"=aa (aa (.builtin "wrapper_descriptor.__get__")))];simp only[VV];rw[show YI K (.builtin "type.__init__")=aa ak from(by decide +kernel:YI [] (.builtin "type.__init__")=aa ak)];simp only[VV];rw[h];simp only[VV];rw[bN (show ¬Builtin.heldUnderItsOwnName "__init__" (.ref f)=ah from λz=>nomatch z),bT h2];simp only[VV];rw[bM (by decide +kernel)]
def L3{X:Cx}{sc:V8}{N:List aA}(O:Ok X F G sc N){c:aA}{as:bg}{e:Vj}{es:List Vj}{M apos cpos:Pos}(hg:dU sc c=ah)(hn:dY c=ah)(hl:(apos.endLine==cpos.line)=ah)(V:(e::es).length<20)(U:dw (e::es)=ah)(ha:PA X (e::es) (tDs X F G as)):
 PE X (.Call (.Attribute (.Name c M) "__init__" apos) (e::es) [] cpos) (tD X F G (.sup c as)):=by
 intro i s Y H Q I q;obtain⟨m0,B,h,z,h',R,S,n,p⟩:=q;simp only[aN]at n;obtain⟨j,l,e1,e2⟩:=dg n;obtain⟨C,ga,fd,ps,k,g,d,hB,hR,ok⟩:=O.aH _ _ _ _ _ e2;obtain⟨C',_,_,_,_,f,b,_,_,_,_⟩:=O.mkc _ _ _ _ e2;cases g.cn.inj f.cn;have Z:yJ (spF X.prog X.w X.K (F (.m c "__init__"))) [] E0 (tDs X F G as) Y H Q:=by refine⟨m0,B,h,j,l,R,S,e1,λus o T y R1 E=>?_⟩;rw[Wc];exact⟨T,j,l,z,h',R1,E,e2,λA H5 P t R5 D=>p A H5 P (y.trans t) R5 D⟩
 have L:=g.rd;simp only[ZN,Vg,bW]at L;have a:W3 X.K (.ref C) "__getattribute__"=aa (aa (.builtin "type.__getattribute__")):=by unfold W3;rw[L.1.1.1.2];exact L.1.1.2
 have J:=U;simp only[dw,Vg]at J;refine YJ (thn (tE (v:=.ref C) (ef O hg) b rfl (fE hn).1 i s Y H (λv H'=>v=.ref C/\H'=H) I ⟨rfl,rfl⟩) λu s1 ⟨x,o,I1,rx,ex,eh⟩=>?_) (jF rfl U V hl);subst ex eh;obtain rfl:u=Wm C:=rx;refine PySem.W.method_cls I1.kIn a (PySem.W.cls_value I1.kIn g.rd (Br d.at_ d.fn) rfl ?_);have I2:=I1.tok (s1.toks+1);refine Xx (first:=[]) (h₀:=X.base) I.ok.mod.kin d.kp (thn (ha cpos i _ Y o _ I2 Z) λus s2 ⟨vs,H2,I3,r,q2⟩=>⟨I3.kIn,?_⟩) (c7 J.1) (dM J.2);exact pQ (us:=us) (vs:=vs) ok hR hB .nil pT I3 r q2
end
section
def Bs{X:Cx}{v:V}{ds:List aQ}(r:∀m H,RW X.prog X.w X.K m H v (.p (.aE ds))):∃a vs,v=.ref a/\KT X.K a vs:=by
 have z:=r [] (λ_=>af);cases z with
 |p z =>
  cases z with
  |@aE a vs _ h _ =>
   rcases h with⟨h,_⟩|h
   ·rcases h with h|⟨o,h⟩<;>exact cX h
   exact⟨a,vs,rfl,h⟩
def Bt{X:Cx}{sc:V8}{N:List aA}(O:Ok X F G sc N){x:aA}{as:bg}{es:List Vj}{np apos cpos:Pos}(h2:dU sc x=ah)(h3:dY x=ah)(hl:(apos.endLine==cpos.line)=ah)(Z:es.length<20)(hc:CEs sc N as es)(ha:PA X es (tDs X F G as)):
 PE X (.Call (.Attribute (.Name x np) "index" apos) es [] cpos) (tD X F G (.me .tindex (.aG x) as)):=by
 have J:=gn hc;intro A s y H Q I q;obtain⟨m,K,h,z,h',R,S,t,B⟩:=q;simp only[aN]at t;obtain⟨w,g,e1,e2⟩:=dg t;obtain⟨_,e2⟩:=zf e2;obtain⟨W,l,j,L⟩:=dg e2;obtain⟨w',e5,e6⟩:=dH e1;cases e6;obtain⟨u,v0,hm,M,Y⟩:=O.glob _ _ e5;have hT:∃U V,bA W=aa U/\w=.p (.aE V)/\U≠[]:=by
  cases w with
  |p d =>
   rw[BT.pW]at L;cases c:bA W with
   |none=>rw[c]at L;exact cX L
   |some U =>
    rw[c]at L;obtain⟨b,v,e8⟩:=dH L;cases d with
    |aE V=>refine⟨U,V,rfl,rfl,λz=>?_⟩;subst z;exact cX v|_=>cases U<;>exact cX v
  |_=>cases W<;>(first|exact cX L|simp[aW]at L)
 obtain⟨U,V,c,rfl,f⟩:=hT;obtain⟨a,vt,rfl,o,its,n,⟨k1,k2,k3,k4,k5⟩,k6⟩:=Bs Y;cases es with
 |nil =>
  cases as with
  |cons a r=>exact(mh hc).elim|nil=>simp only[aZ]at j;cases j;simp[bA]at c;exact bO c f
 |cons e es =>
  simp only[dw,Vg] at J;have i:decide ((e::es).length+([]:List YO).length+(if ([]:List YO).isEmpty then 0 else 1) < 30)=ah:=bR (by
   simp only[Vv,VY,ZW,if_true] at Z ⊢;lia)
  refine (CM PySem.F.plainAttrs_tuple PySem.F.slot_tuple_index PySem.F.type_tuple_index (Bh O.hu) (tE (ef O h2) hm M (fE h3).1) ha rfl (by
   rw[jE (es:=e::es) (by simp only[dw,Vg];exact J),i];rfl) hl (c7 J.1) (dM J.2)) A s y H Q I ?_
  refine⟨.inr (.inl ⟨rfl,o,k1,k2,k6⟩),m,K,h,W,l,R,S,j,λvs H2 k D R2 T=>?_⟩;exact⟨k,l,.p (.aE V),W,z,h',R2,Y k H2,T,L,λE H5 m5 C R5 P=>B E H5 m5 (D.trans C) R5 P⟩
def L4{X:Cx}{me:BT.Me}(L:me=.append\/me=.pop\/me=.extend){o:bf}:∀(m:List aB)(h h2:aO)(H:Hp)(v:V) (x:aP) ws r,RH X.K m H h->RW X.prog X.w X.K m H v x->BT.lO x h=ah->aW me x ws h2=aa r->(∃σ s,RS X.prog X.w X.K m H σ s/\∃O,aN F G o s O=aa (x,h))->tyV X.K "list" v H:=by intro m h h2 H v x ws r R J ok e _;obtain⟨n,rfl⟩:=Tu L e;exact ty_list R J ok
def Tz{X:Cx}{o:bf}:∀(m:List aB)(h h2:aO)(H:Hp)(v:V) (x:aP) ws r,RH X.K m H h->RW X.prog X.w X.K m H v x->BT.lO x h=ah->aW .sindex x ws h2=aa r->(∃σ s,RS X.prog X.w X.K m H σ s/\∃L,aN F G o s L=aa (x,h))->tyV X.K "str" v H:=by
 intro m h h2 H v x ws r R J _ e _;cases x with
 |p d =>
  rw[BT.pX]at e;cases g:bA ws with
  |none=>rw[g]at e;exact cX e
  |some U =>
   rw[g]at e;obtain⟨b,O,W⟩:=dH e;cases d with
   |str y=>cases J with|p r=>cases r;exact rfl
   |_=>cases U<;>exact cX O
 |_=>cases ws<;>(first|exact cX e|simp[aW]at e)
def TF{X:Cx}{me:BT.Me}(O:me=.count\/me=.lindex){o:bf}:∀(m:List aB)(h h2:aO)(H:Hp)(v:V) (x:aP) ws r,RH X.K m H h->RW X.prog X.w X.K m H v x->BT.lO x h=ah->aW me x ws h2=aa r->(∃σ s,RS X.prog X.w X.K m H σ s/\∃Y,aN F G o s Y=aa (x,h))->tyV X.K "list" v H:=by
 intro m h h2 H v x ws r R W _ e _;have J:∃L,x=.p (.aD L):=by
  cases x with
  |p d =>
   rw[vM]at e;cases g:bA ws with
   |none=>rw[g]at e;exact cX e
   |some c =>
    rw[g]at e;obtain⟨b,Z,f⟩:=dH e;cases d with
    |aD y=>exact⟨y,rfl⟩
    |_=>rcases O with rfl|rfl<;>cases c<;>exact cX Z
  |_=>rcases O with rfl|rfl<;>cases ws<;>(first|exact cX e|simp[aW]at e)
 obtain⟨L,rfl⟩:=J;cases W with
 |p r =>
  cases r with
  |@aD a U _ h _=>exact .inl ⟨rfl,U,LL.sq (h.elim (λq=>.inl q.1) .inr)⟩
def TH(σ:L2.St)(H:Hp)(Q:Bool->Hp->Prop)(q:tDT X F G e σ H Q):tB (tD X F G e) σ H Q:=by obtain⟨m,s,O,b,U,R,S,V,J⟩:=q;refine⟨m,s,O,_,U,R,S,V,λv Y L x W r=>?_⟩;exact⟨b,nV r,J Y L x W⟩
def XE(F:FT)(G:aA->Option aP)(X:Cx)(e':bf)(e:Vj):Prop:=PE X e (tD X F G e')/\(tOK e'=ah->PT X e (tDT X F G e')/\∀L J p,e=.BoolOp L J p->PW X e (tDT X F G e'))
def XO(F:FT)(G:aA->Option aP)(X:Cx)(J:bg)(o:Option Vj):Prop:=∃t,PO X o t ∧
 ∀O H (Q:Option Int->Hp->Prop),(∃m s h l U W,RH X.K m H h/\RS X.prog X.w X.K m H O s/\aZ F G J s h=aa (U,W)/\(bA U).bind BT.tN=aa l/\∀L V,Ext m H V L->RH X.K V L W->Q l L)->t O H Q
def fW(p:PE X e (tD X F G e'))(U:∀L vs q,e≠.BoolOp L vs q)(O:∀J,isTrue e X.env J=(do let v ←J;aaV e.pos;Y6 [v] (truthy v)):=by intro _;rfl):XE F G X e' e :=
 ⟨p,λ_=>⟨PT.weak (J2 p O) TH,λL vs q z=>bO z (U L vs q)⟩⟩
def L5:XO F G X .nil af:=⟨_,Gq,fun L H Q q=>by obtain⟨m,s,h,l,O,U,R,S,e1,e2,J⟩:=q;simp only[aZ]at e1;cases e1;simp[bA,BT.tN]at e2;subst e2;exact J H m (.refl _ _) R⟩
def L6(W:PE X e (tD X F G a)):XO F G X (.cons a .nil) (aa e):=by
 refine⟨_,Gs W,fun d H Q q=>?_⟩;obtain⟨m,s,h,l,f,Y,R,S,e1,e2,L⟩:=q;simp only[aZ]at e1;obtain⟨x,g,Z,J⟩:=dg e1;simp only[BT.mV,BT.fu,BT.jN]at J;cases J;refine⟨m,s,h,x,Y,R,S,Z,λv c V O b U=>?_⟩;cases U with
 |p r =>
  cases r<;>simp[bA,BT.tN]at e2;subst e2;exact⟨_,rfl,L c V O b⟩
 |_=>simp[bA]at e2
def mD(Z:PE X e (tD X F G a))(Y:noStar e=ah):PA X [e] (tDs X F G (.cons a .nil)) :=
 PA.weak (lq Z tF (c7 Y)) fun J H Q q=>by obtain⟨m,s,h,O,b,R,S,c,L⟩:=cons_of J H Q q;exact⟨m,s,h,O,b,R,S,c,λv f W U d V=>jV (L v f W U d V)⟩
def Et(U:PE X e (tD X F G a))(O:PE X f (tD X F G b))(L:noStar e=ah)(J:noStar f=ah):PA X [e,f] (tDs X F G (.cons a (.cons b .nil))) :=
 PA.weak (lq U (mD O J) (c7 L)) cons_of
def PZ(sc:V8)(J:Vj)(o:bf):Prop:=∃x p,o=.aG x/\J=.Name x p/\dU sc x=ah/\dY x=ah
def TJ(sc:V8):Tq->Prop
 |.e o J=>xO o=ak\/PZ sc J o|_=>True
def HB(h:CQ sc N t):TJ sc t:=by
 induction h with
 |aG J hn=>exact .inr ⟨_,_,rfl,rfl,J,hn⟩
 |_=>first|exact .inl rfl|exact Xv
def L7(h:CE' sc N o oe):xO o=ak\/PZ sc oe o:=HB h
def sMe(O:Ok X F G sc N)(h1:GV m o=ah)(h2:name=DB m)(Y:dQ oe=ah)(V:(apos.endLine==cpos.line)=ah)(U:es.length<20)(Z:CE' sc N o oe)(J:CEs sc N as es)(W:PE X oe (tD X F G o))(L:PA X es (tDs X F G as)):
 PE X (.Call (.Attribute oe name apos) es [] cpos) (tD X F G (.me m o as)):=by
 subst h2;cases m with
 |append=>exact qz (sc:=sc) (N:=N) Wx Yq Yp Be Y V U W J L (L4 (.inl rfl))|pop=>exact qz (sc:=sc) (N:=N) Wx PySem.F.slot_list_pop PySem.F.type_list_pop Lu Y V U W J L (L4 (.inr (.inl rfl)))|extend=>exact qz (sc:=sc) (N:=N) Wx PySem.F.slot_list_extend PySem.F.type_list_extend Bg Y V U W J L (L4 (.inr (.inr rfl)))|sindex=>exact qz (sc:=sc) (N:=N) PySem.F.plainAttrs_str PySem.F.slot_str_index PySem.F.type_str_index Bj Y V U W J L Tz
 |tindex =>
  rcases L7 Z with z|⟨x,p,rfl,rfl,hg,hn⟩
  exact Bool.noConfusion (z.symm.trans h1);exact Bt O hg hn V U J L
 |count=>exact qz (sc:=sc) (N:=N) Wx PySem.F.slot_list_count PySem.F.type_list_count (D9 O.hu) Y V U W J L (TF (.inl rfl))|_=>simp[GV]at h1
def P0(L:PE X (.BoolOp .And (x::r) p) (tD X F G (.and a b)))(w:tOK (.and a b)=ah->PW X (.BoolOp .And (x::r) p) (tDT X F G (.and a b))):XE F G X (.and a b) (.BoolOp .And (x::r) p) :=
 ⟨L,λJ=>⟨(w J).pt,λ_ _ _ e=>by cases e;exact w J⟩⟩
def sOr(L:PE X (.BoolOp .Or (x::r) p) (tD X F G (.or a b)))(w:tOK (.or a b)=ah->PW X (.BoolOp .Or (x::r) p) (tDT X F G (.or a b))):XE F G X (.or a b) (.BoolOp .Or (x::r) p) :=
 ⟨L,λJ=>⟨(w J).pt,λ_ _ _ e=>by cases e;exact w J⟩⟩
def pH(h:tOK (.and a b)=ah):tOK a=ah/\tOK b=ah:=by have h:(tOK a&&tOK b)=ah:=h;simpa only[Vg]using h
def uw(h:tOK (.or a b)=ah):tOK a=ah/\tOK b=ah:=by have h:(tOK a&&tOK b)=ah:=h;simpa only[Vg]using h
def MX(F:FT)(G:aA->Option aP)(sc:V8)(N:List aA):Tq->Prop
 |.e W e=>∀(X:Cx),Ok X F G sc N->XE F G X W e|.es Y es=>∀(X:Cx),Ok X F G sc N->PA X es (tDs X F G Y)|.o L o=>∀(X:Cx),Ok X F G sc N->XO F G X L o|.c cond J=>qG F G sc N cond J|.i U V iter=>∀(X:Cx),Ok X F G sc N->∀(O:Vj),qm U O=ah->PI X O iter (iD X F G U V)
def sQ(h:CQ sc N t):MX F G sc N t:=by
 refine @CQ.rec (λsc N t _=>MX F G sc N t)
  (λw n a X O=>fW (ze O w n a) (λ_ _ _ z=>nomatch z))
  (λh X O=>fW (G7 h) (λ_ _ _ z=>nomatch z))
  (λn a X O=>fW (G8 O n a) (λ_ _ _ z=>nomatch z))
  (λh _ _ J V X O=>fW (PE.weak (Of (opB h) (J _ O).1 (V _ O).1) (qy λs h=>by simp only[aN])) (λ_ _ _ z=>nomatch z))
  (λ_ J X O=>fW (PE.weak (Js Ct (J _ O).1) LF) (λ_ _ _ z=>nomatch z))
  (λ_ J X O=>⟨PE.weak (J7 (J _ O).1) Hh,λU=>⟨PT.weak (J4 ((J _ O).2 U).1) Hg,λ_ _ _ e=>nomatch e⟩⟩)
  (λ_ _ J V X O=>P0 (PE.weak (Ce (J _ O).1 (Cd (V _ O).1)) zk) λU=>PW.weak (Cb ((J _ O).2 (pH U).1).1 (F7 ((V _ O).2 (pH U).2).1)) zl)
  (λ_ _ J V X O=>P0 (PE.weak (Ce (J _ O).1 (V _ O).1) zk) λU=>PW.weak (Cb ((J _ O).2 (pH U).1).1 (((V _ O).2 (pH U).2).2 _ _ _ rfl)) zl)
  (λ_ _ J V X O=>sOr (PE.weak (Jr (J _ O).1 (Cd (V _ O).1)) DX) λU=>PW.weak (Jo ((J _ O).2 (uw U).1).1 (J3 ((V _ O).2 (uw U).2).1)) DY)
  (λ_ _ J V X O=>sOr (PE.weak (Jr (J _ O).1 (V _ O).1) DX) λU=>PW.weak (Jo ((J _ O).2 (uw U).1).1 (((V _ O).2 (uw U).2).2 _ _ _ rfl)) DY)
  (λh _ _ l J V X O=>⟨PE.weak (Gg (opC O h) (J _ O).1 (V _ O).1 l) (qy λs h=>by simp only[aN]),λ_=>⟨PT.weak (Gi (opC O h) (J _ O).1 (V _ O).1 l) (vP (qy λs h=>by simp only[aN])),λ_ _ _ e=>nomatch e⟩⟩)
  (λh y _ _ _ l J V g X O=>⟨PE.weak (Cw (opC O h) (opC O y) (J _ O).1 (V _ O).1 (g _ O).1 l) vQ,λ_=>⟨PT.weak (Cy (opC O h) (opC O y) (J _ O).1 (V _ O).1 (g _ O).1 l) (vP vQ),λ_ _ _ e=>nomatch e⟩⟩)
  (λh _ _ _ g J V X O=>⟨PE.weak (Cf ((g _ O).2 h).1 (J _ O).1 (V _ O).1) LD,λU=>nomatch U⟩)
  (λ_ J X O=>⟨PE.weak (Ku (J _ O)) LJ,λU=>nomatch U⟩)
  (λ_ J X O=>⟨PE.weak (CD (J _ O)) LK,λU=>nomatch U⟩)
  (λ_ _ L J j X O=>fW (PE.weak (Ju Ls (J _ O).1 (j _ O).1 (vO L)) (qy λs h=>by simp only[aN])) (λ_ _ _ z=>nomatch z))
  (λ_ _ _ J C A X O=>fW (by
   obtain ⟨tl,u,r⟩:=C _ O;obtain ⟨R,p,o⟩:=A _ O;exact PE.weak (CK osl (J _ O).1 u p) (LG r o)) (λ_ _ _ z=>nomatch z))
  (λW hn Z J X O=>fW (DZ O W hn Z (J _ O)) (λ_ _ _ z=>nomatch z))
  (λb W c L _ J X O=>fW (Em O b W c L (mD (J _ O).1 L)) (λ_ _ _ z=>nomatch z))
  (λb d W L _ J X O=>fW (LH O b d W (by simp[dw,L]) (mD (J _ O).1 L)) (λ_ _ _ z=>nomatch z))
  (λd W c L _ J X O=>fW (D0 O d W c L (J _ O).1) (λ_ _ _ z=>nomatch z))
  (λw n a f m I Z i J X O=>fW (sMe O w n a f m I Z (i _ O).1 (J _ O)) (λ_ _ _ z=>nomatch z))
  (λb v U E L _ _ _ j g D X O=>⟨Hz O b v U L (j _ O _ E) g λM x=>(D _ x).1,λU=>nomatch U⟩)
  (λd K _ J X O=>fW (Hj (sc:=sc) (N:=N) d K (J _ O).1) (λ_ _ _ z=>nomatch z))
  (λa f m _ Z i J X O=>fW (D4 O a f m (i _ O).1 Z (J _ O)) (λ_ _ _ z=>nomatch z))
  (λv _ J X O=>fW (Hl v (J _ O).1) (λ_ _ _ z=>nomatch z))
  (λb d W k Y _ _ J V X O=>fW (Ho O b d W (by simp[dw,k,Y]) (Et (J _ O).1 (V _ O).1 k Y)) (λ_ _ _ z=>nomatch z))
  (λW hn Z J X O=>fW (D5 O W hn Z (J _ O)) (λ_ _ _ z=>nomatch z))
  (λL _ J X O=>⟨PE.weak (CD (mD (J _ O).1 L)) LY,λU=>nomatch U⟩)
  (λa f L _ _ i J X O=>fW (L1 a f L (i _ O).1 (mD (J _ O).1 L)) (λ_ _ _ z=>nomatch z))
  (λ_ _ L J j X O=>fW (PE.weak (Ju LZ (J _ O).1 (j _ O).1 (vO L)) (qy λs h=>by simp only[aN])) (λ_ _ _ z=>nomatch z))
  (λW L _ J X O=>fW (L0 O W L (mD (J _ O).1 L)) (λ_ _ _ z=>nomatch z))
  (λW hn f m Z J X O=>fW (L3 O W hn f m (gn Z) (J _ O)) (λ_ _ _ z=>nomatch z))
  (λX O=>PA.weak tF fun P H Q q=>jV q)
  (λL _ _ J B X O=>PA.weak (lq (J _ O).1 (B _ O) (c7 L)) cons_of)
  (λX O=>L5)
  (λ_ J X O=>L6 (J _ O).1)
  (.inl ⟨rfl,rfl⟩)
  (λU _ J=>.inr ⟨_,_,rfl,rfl,λM x=>((J _ x).2 U).1⟩)
  (λW L _ J X O _ _=>Ef O W L (mD (J _ O).1 L))
  (λW L Y _ _ J V X O _ _=>Eg O W L Y (Et (J _ O).1 (V _ O).1 L Y))
  (λW L _ J X O _ _=>Hu O W L (J _ O).1)
  (λ_ J X O _ _=>Hs (J _ O).1)
  sc N t h
def sE(h:CE' sc N e' e)(O:Ok X F G sc N):PE X e (tD X F G e'):=(sQ h X O).1
def sT(h:CE' sc N e' e)(O:Ok X F G sc N)(L:tOK e'=ah):PT X e (tDT X F G e')/\∀J vs p,e=.BoolOp J vs p->PW X e (tDT X F G e'):=(sQ h X O).2 L
def sCC{cond:bg}(h:CC sc N cond ifs):qG F G sc N cond ifs:=sQ h
def sCI(h:CI sc N sr sa iter)(O:Ok X F G sc N)(hz:qm sr tg=ah):PI X tg iter (iD X F G sr sa):=sQ h X O tg hz
end
end BS
end
section
namespace BS
open PySem PySem.Spec PyProof.Rows L2
open Classical in
section
end
section
variable{F:FT}{G:aA->Option aP}
section
variable{X:Cx}{cl:List (aA×aB)}{H3 H5:Hp}{s3 s5:Vh}{m2 m5:List aB}
end
end
end BS
end
section
namespace BS
open PySem PySem.Spec PyProof.Rows L2
variable{K:Ve}{st:VE}{xe':aC->Vh->Prop}
noncomputable def kP:Vj->Bool
 |.ListComp _ _ _ _=>ak|.SetComp _ _ _ _=>ak|.DictComp _ _ _ _ _=>ak|_=>ah
noncomputable def swB(sc scope:V8)(x:aA)(J pos:Pos):Bool :=
 (if sc.kind.isAnnotationScope then ScopeKind.function else sc.kind)==.function&&sc.names.lookup x==aa .local&&J.line==pos.line&&!(scope.names.any λ(n,k)=>n==x&&(k==.local||k==.cell))
mutual
inductive CS(sc:V8)(N:List aA):BT.S->VE->Prop
 |setc{i:Nat}{x:aA}{mu:Bool}{V:bE}{Y:bg}{tg:List aA}{U:List (Nat×aA)}{cond:bg}{O:bf}{te iter J:Vj}{L:List Vj}{scope:V8}{pos W p:Pos}(hu:fT N=ah)(h1:N[i]?=aa x)(h3:(sc.names.lookup x==aa .cell||swB sc scope x W pos)=ah)
  (hk:jP sc N tg U scope=ah) (ht:qo (d9 scope sc) tg te=ah) (hz:qm V te=ah) (Z:ju iter=ah) (hi:CI sc N V Y iter) (hc:CC (d9 scope sc) (tg++U.map (·.2)) cond L) (he:CE' (d9 scope sc) (tg++U.map (·.2)) O J) :
  CS sc N (.set i (.comp mu V Y tg U cond O)) (.Assign [.Name x W] (.ListComp J [⟨te,iter,L,0⟩] scope pos) p)
 |set{i:Nat}{x:aA}{e:bf}{v:Vj}{J p:Pos}(h1:N[i]?=aa x)(h2:qC sc x=ah)(L:kP v=ah)(O:CE' sc N e v):CS sc N (.set i e) (.Assign [.Name x J] v p)
 |unp{tg:List (Nat×aA)}{e:bf}{es:List Vj}{k:Nat}{L:Vj}{args:List Vj}{kw:List YO}{J O p:Pos}(V:fT N=ah)(W:CT sc N tg (.Tuple es k J))(U:CE' sc N e (.Call L args kw O)):CS sc N (.unp tg e) (.Assign [.Tuple es k J] (.Call L args kw O) p)
 |put{i:Nat}{x:aA}{k e:bf}{J v:Vj}{L sp p:Pos}(h1:N[i]?=aa x)(h2:vL sc x=ah)(Y:dY x=ah)(W:kP v=ah)(V:mW J=ah)(U:CE' sc N k J)(O:CE' sc N e v):CS sc N (.put i k e) (.Assign [.Subscript (.Name x L) J sp] v p)
 |aug{i:Nat}{x:aA}{o:bG}{J:Zs}{e:bf}{v:Vj}{L p:Pos}(h1:N[i]?=aa x)(h2:qC sc x=ah)(O:D6 o J=ah)(U:CE' sc N e v):CS sc N (.aug i o e) (.AugAssign (.Name x L) J v p)
 |setf{o e:bf}{f:aA}{J v:Vj}{L p:Pos}(h1:attrName f=ah)(h2:kP v=ah)(O:CE' sc N o J)(U:CE' sc N e v):CS sc N (.setf o f e) (.Assign [.Attribute J f L] v p)
 |augf{o e:bf}{f:aA}{b:bG}{L:Zs}{J v:Vj}{O p:Pos}(h1:attrName f=ah)(W:D6 b L=ah)(U:CE' sc N o J)(V:CE' sc N e v):CS sc N (.augf o f b e) (.AugAssign (.Attribute J f O) L v p)
 |ex{e:bf}{v:Vj}{p:Pos}(h:kP v=ah)(J:CE' sc N e v):CS sc N (.ex e) (.Expr v p)
 |ret{e:bf}{v:Vj}{p:Pos}(J:CE' sc N e v):CS sc N (.ret e) (.Return (aa v) p)
 |v{c:bf}{a b:BT.S}{t:Vj}{xs ys:List VE}{p:Pos}(h:tOK c=ah)(hc:CE' sc N c t)(L:CSs sc N a xs)(J:CSs sc N b ys):CS sc N (.v c a b) (.If t xs ys p)
 |j{c:bf}{b:BT.S}{t:Vj}{xs:List VE}{p:Pos}(h:tOK c=ah)(hc:CE' sc N c t)(J:CSs sc N b xs):CS sc N (.j c b) (.While t xs [] p)
 |for{tg:List (Nat×aA)}{J:bE}{L:bg}{b:BT.S}{te iter:Vj}{xs:List VE}{p:Pos}(W:fT N=ah)(V:CT sc N tg te)(hi:CI sc N J L iter)(hz:qm J te=ah)(U:ju iter=ah)(O:CSs sc N b xs):CS sc N (.for tg J L b) (.For te iter xs [] p)
 |bad{st:VE}:CS sc N .bad st
 |rai{st:VE}{c:aA}{e:bf}:CS sc N (.rai c e) st
 |rai2{st:VE}{c:aA}{a e:bf}:CS sc N (.rai2 c a e) st
 |tryr{e:bf}{v:Vj}{p q:Pos}{J:aaf}{L:List aaf}(O:CE' sc N e v):CS sc N (.ret e) (.Try [.Return (aa v) p] (J::L) [] [] q)
inductive CSs(sc:V8)(N:List aA):BT.S->List VE->Prop
 |nil:CSs sc N .nil []
 |one{s:BT.S}{st:VE}(h:CS sc N s st):CSs sc N s [st]
 |cons{a b:BT.S}{st J:VE}{r:List VE}(h:CS sc N a st)(L:CSs sc N b (J::r)):CSs sc N (.seq a b) (st::J::r)
end
def m8(X:Cx)(m:List aB)(H:Hp)(W:BT.Fl)(D:Ends):Prop:=match W with
 |.nx V U=>∀L J O,Ext m H O J->RH X.K O J U->RS X.prog X.w X.K O J L V->D.nx L J|.rt z U=>∀v J O,Ext m H O J->RH X.K O J U->RW X.prog X.w X.K O J v z->D.rt v J|.bk V U=>∀L J O,Ext m H O J->RH X.K O J U->RS X.prog X.w X.K O J L V->D.bk L J|.ct V U=>∀L J O,Ext m H O J->RH X.K O J U->RS X.prog X.w X.K O J L V->D.ct L J
def m8.ext{D:Ends}(x:Ext m H m' H')(p:m8 X m H fl D):m8 X m' H' fl D:=by cases fl<;>exact λa b c y=>p a b c (x.trans y)
inductive tDS(X:Cx)(F:FT)(G:aA->Option aP)(S:BT.S)(D:Ends)(σ:L2.St)(H:Hp):Prop
 |mk(m:List aB)(s:bq)(h:aO)(J:BT.Fl)(R:RH X.K m H h)(r:RS X.prog X.w X.K m H σ s)(e:aT F G S s h=aa J)(p:m8 X m H J D):tDS X F G S D σ H
def PS.weak(h:PS X st t)(q:∀D σ H,t' D σ H->t D σ H):PS X st t':=λJ s σ H D I hw=>h J s σ H D I (q _ _ _ hw)
def PSs.weak{st:List VE}(h:PSs X st t)(q:∀D σ H,t' D σ H->t D σ H):PSs X st t':=λJ s σ H D I hw=>h J s σ H D I (q _ _ _ hw)
section
def Eu(D:Ends)(σ:L2.St)(H:Hp)(q:tDS X F G (.seq a b) D σ H):N3 (tDS X F G a) (tDS X F G b) D σ H:=by
 obtain⟨m,s,h,Z,R,S,e,J⟩:=q;simp only[aT]at e;cases g:aT F G a s h with
 |none=>rw[g]at e;exact cX e
 |some L =>
  rw[g]at e;refine⟨m,s,h,L,R,S,g,?_⟩;cases L with
  |nx V Y=>exact fun O f W U d c=>⟨W,V,Y,Z,d,c,e,J.ext U⟩
  |_=>cases e;exact J
def ng{X:Cx}{U:BT.S}{a:bf}{k:bq->aP->aO->Option BT.Fl}(c:∀s h,aT F G U s h=bF (aN F G a s h) (k s)){D:Ends}{σ:L2.St}{H:Hp}(q:tDS X F G U D σ H){W:V->Hp->Prop}
(h1:∀m s h x J v H1,RH X.K m H1 h->RS X.prog X.w X.K m H1 σ s->RW X.prog X.w X.K m H1 v x->k s x h=aa J->m8 X m H1 J D->W v H1):tD X F G a σ H W:=by
 obtain⟨m,s,h,J,R,S,O,Y⟩:=q;rw[c]at O;obtain⟨x,g,e1,e2⟩:=dg O;exact⟨m,s,h,x,g,R,S,e1,λv H1 b L d Z=>h1 b s g x J v H1 d (S.ext L) Z e2 (Y.ext L)⟩
def zH(h:BT.tst x k=aa fl):∃b g,x=aa (.p (.bl b),g)/\k b g=aa fl:=by
 unfold BT.tst at h;obtain⟨w,g,e1,e2⟩:=dg h;unfold BT.Pd at e2;cases w with
 |p d =>
  cases d<;>simp only at e2<;>try contradiction
  exact⟨_,g,e1,e2⟩
 |_=>exact cX e2
def jX(h:kP e=ah):Yt e t l env=pure ak:=by cases e<;>first|rfl|exact aU h
def HC(h:kP e=ah):swapsWithSole [t] e l env=pure ak:=jX h
def xY(h:mW i=ah):∀ v,Z5 (.Subscript o i pos) env v=(do
 let ov ←Y6 [v] (eval o env)
 let iv ←Y6 [v,ov] (eval i env)
 aaV pos
 Y6 [v,ov,iv] (setItem ov iv v)
 release [v,ov,iv] []):=by
 intro v;cases i<;>first|rfl|exact aU h
def L8(D:Ends)(σ:L2.St)(H:Hp)(q:tDS X F G (.j c b) D σ H):Cq (tDT X F G c) (tDS X F G b) D σ H:=by
 obtain⟨A,s,h,o,R,S,e,L⟩:=q;simp only[aT]at e;refine⟨λn σ H=>∃m s h,RH X.K m H h/\RS X.prog X.w X.K m H σ s/\BT.fz (aN F G c) (aT F G b) n s h=aa o/\m8 X m H o D,⟨BT.turns,A,s,h,R,S,e,L⟩,?_⟩
 rintro n σ1 H1 ⟨m,s,h,R,S,e,L⟩
 cases n with
 |zero=>exact cX e
 |succ n =>
  rw[BT.fz]at e;obtain⟨t,g,e1,e2⟩:=zH e;refine⟨m,s,h,t,g,R,S,e1,λB u U R2=>?_⟩;cases t with
  |false =>
   rw[BT.nS]at e2;cases e2;rw[bN (by decide)];exact L σ1 B u U R2 (S.ext U)
  |true =>
   rw[BT.nR]at e2;rw[bM rfl];refine⟨fun Y p=>∃Z k l,RH X.K Z p l/\RS X.prog X.w X.K Z p Y k/\BT.fz (aN F G c) (aT F G b) n k l=aa o/\m8 X Z p o D,fun Y p ⟨Z,k,l,a1,a2,a3,a4⟩=>⟨n,Wy n,Z,k,l,a1,a2,a3,a4⟩,?_⟩;cases r:aT F G b s g with
   |none=>rw[r]at e2;exact cX e2
   |some x =>
    rw[r]at e2;refine⟨u,s,g,x,R2,S.ext U,r,?_⟩;cases x with
    |nx i a=>exact fun J f V O W d=>⟨V,i,a,W,d,e2,(L.ext U).ext O⟩
    |ct i a=>exact fun J f V O W d=>⟨V,i,a,W,d,e2,(L.ext U).ext O⟩
    |bk i a=>cases e2;exact fun J f V O W d=>L J f V (U.trans O) W d
    |rt z a=>cases e2;exact λv f V O W y=>L v f V (U.trans O) W y
def Ma(D:Ends)(σ:L2.St)(H:Hp)(q:tDS X F G (.aug i o e) D σ H):Ob i (tD X F G e) (LM o) D σ H:=by
 obtain⟨m,s,h,r,R,S,Y,Z⟩:=q;simp only[aT]at Y;obtain⟨y,g,e1,e2⟩:=dg Y;unfold BT.Po at e2;have n:∃d V z,s[i]?=aa (aa (.p d))/\y=.p V/\BT.pV o d V=aa z/\r=.nx (s.set i (aa (.p z))) g:=by
  cases J:s[i]? with
  |none=>rw[J]at e2;cases y<;>exact cX e2
  |some f =>
   cases f with
   |none=>rw[J]at e2;cases y<;>exact cX e2
   |some c =>
    rw[J]at e2;cases c<;>cases y<;>simp only at e2<;>try contradiction
    obtain⟨z,L,t⟩:=dH e2;exact⟨_,_,z,rfl,rfl,L,t.symm⟩
 obtain⟨d,V,z,J,rfl,L,rfl⟩:=n;obtain⟨a,b,k,rfl,rfl,rfl⟩:=zu L;obtain⟨v,l,O⟩:=S.get i _ J;have ev:v=.int a:=by cases O with|p O=>cases O;rfl
 subst ev;refine⟨_,l,m,s,h,_,g,R,S,e1,λu x j W w U=>?_⟩;cases U with
 |p U =>
  cases U;exact⟨a,b,k,rfl,rfl,L,Z _ x j W w ((S.ext W).set (.p (.int k)))⟩
def Bu(e:BT.tU s f v x h=aa fl):∃n c fs,x=.o n/\bC h n=aa (c,fs)/\BT.attrOk v=ah/\fs.length<1000/\fl=.nx s (h.set n (.o c (BT.fy f v fs))):=by
 cases x with
 |o n =>
  rw[BT.Dt]at e;cases g:bC h n with
  |none=>rw[g]at e;exact cX e
  |some q =>
   obtain⟨c,fs⟩:=q;rw[g]at e;simp only at e;obtain⟨J,e⟩:=dG e;cases e;simp only[Vg,bP]at J;exact⟨n,c,fs,rfl,g,J.1,J.2,rfl⟩
 |_=>exact cX e
def vZ{D:Ends}(R:RH X.K m H h)(S:RS X.prog X.w X.K m H σ s)(hn:m[n]?=aa a)(h1:H a=aa (.ins C dx vs))(h2:lR X.K c C)(L:RFs X.K m H vs fs)(ra:RA X.K m H v y)
(J:m8 X m H (.nx s (h.set n (.o c (BT.fy f y fs)))) D):D.nx σ (upd H a (.ins C dx (L2.fy f v vs))):=by
 have x:Ext m H m (upd H a (.ins C dx (L2.fy f v vs))):=qt (Vz hn) ⟨_,h1,rfl⟩;exact J σ _ m x (R.setC hn ⟨_,h1,rfl⟩ ⟨C,dx,_,fq,h2,(RFs.put ra L).ext x⟩) (S.ext x)
def HD{X:Cx}{o e:bf}{f:aA}(b:attrName f=ah)(D:Ends)(σ:L2.St)(H:Hp)(q:tDS X F G (.setf o f e) D σ H):On X.K (tD X F G o) (tD X F G e) f D σ H:=by
 refine ng (k:=λs=>BT.Du (aN F G o s) s f) (λs h=>by simp only[aT]) q λm s h y p v w R S r e1 V=>?_;rw[BT.Dv]at e1;obtain⟨x,g,e2,i⟩:=dg e1;obtain⟨n,c,fs,rfl,d,ok,Z,rfl⟩:=Bu i;refine⟨m,s,h,.o n,g,R,S,e2,λu t l J R2 Y=>?_⟩;cases Y with
 |@o a _ hn =>
  obtain⟨C,j,W,U,L,O⟩:=R2.sj _ _ _ _ hn d;exact⟨a,C,j,W,rfl,U,L.cls,L.no f b,by rw[O.length];exact Z,vZ R2 (S.ext J) hn U L O ((r.ext J).ra ok) (V.ext J)⟩
def Ew(e:BT.za ee s f op x h=aa fl):∃n c fs d y g fs' z,x=.o n/\bC h n=aa (c,fs)/\BT.dR f fs=aa (.p d)/\ee h=aa (.p y,g)/\bC g n=aa (c,fs')/\BT.pV op d y=aa z/\fs'.length<1000/\fl=.nx s (g.set n (.o c (BT.fy f (.p z) fs'))):=by
 cases x with
 |o n =>
  rw[BT.GR]at e;cases U:bC h n with
  |none=>rw[U]at e;exact cX e
  |some q =>
   obtain⟨c,fs⟩:=q;rw[U]at e;simp only at e;cases O:BT.dR f fs with
   |none=>rw[O]at e;exact cX e
   |some W =>
    rw[O]at e;cases W with
    |p d =>
     simp only at e;obtain⟨y,g,e1,e2⟩:=dg e;cases y with
     |p y =>
      rw[BT.Dw]at e2;cases L:bC g n with
      |none=>rw[L]at e2;exact cX e2
      |some q =>
       obtain⟨Y,fs'⟩:=q;rw[L]at e2;simp only at e2;cases J:BT.pV op d y with
       |none=>rw[J]at e2;exact cX e2
       |some z =>
        rw[J]at e2;simp only at e2;obtain⟨V,e2⟩:=dG e2;cases e2;obtain⟨rfl,V⟩:=V;exact⟨n,Y,fs,d,y,g,fs',z,rfl,U,O,e1,L,J,V,rfl⟩
     |_=>exact cX e2
    |_=>exact cX e
 |_=>exact cX e
def HE{X:Cx}{o e:bf}{f:aA}{b:bG}(I:attrName f=ah)(D:Ends)(σ:L2.St)(H:Hp)(q:tDS X F G (.augf o f b e) D σ H):yI X.K (tD X F G o) (tD X F G e) (LM b) f D σ H:=by
 refine ng (k:=λs=>BT.za (aN F G e s) s f b) (λs h=>by simp only[aT]) q λm s h y fl v H1 R S r e1 w=>?_;obtain⟨n,c,fs,d,y,g,Q,z,rfl,P,N,e2,M,t,E,rfl⟩:=Ew e1;obtain⟨i,j,k,rfl,rfl,rfl⟩:=zu t;cases r with
 |@o a _ hn =>
  obtain⟨C,dx,x,B,U,A⟩:=R.sj _ _ _ _ hn P;obtain⟨u,l,ra⟩:=A.get N;have T:u=.int i:=by cases ra with|p ra=>cases ra;rfl
  subst T;refine⟨a,C,dx,x,_,rfl,B,U.cls,U.no f I,l,m,s,h,_,g,R,S,e2,λu2 H2 m2 J R2 O=>?_⟩;cases O with
  |p O =>
   cases O;obtain⟨C',V,L,Z,Y,W⟩:=R2.sj _ _ _ _ (J.ix hn) M;cases Y.cn.inj U.cn;exact⟨i,j,k,rfl,rfl,t,V,L,Z,by rw[W.length];exact E,vZ R2 (S.ext J) (J.ix hn) Z Y W (.p (.int k)) (w.ext J)⟩
def Mb{X:Cx}{i:Nat}{k e:bf}(D:Ends)(σ:L2.St)(H:Hp)(q:tDS X F G (.put i k e) D σ H):Cj (tD X F G e) (Oa (tD X F G (.v i)) (tD X F G k) Jv) D σ H:=by
 refine ng (k:=λs=>BT.Lh (aN F G k s) s i) (λs h=>by simp only[aT]) q λm s h y K v N R S r e1 A=>?_;unfold BT.Lh at e1;cases y with
 |p d =>
  cases g:s[i]? with
  |none=>rw[g]at e1;exact cX e1
  |some o =>
   cases o with
   |none=>rw[g]at e1;exact cX e1
   |some B =>
    cases B with
    |r n =>
     rw[g]at e1;simp only at e1;obtain⟨q,w,e2,J⟩:=dg e1;refine⟨m,s,h,.r n,h,R,S,by simp only[aN,g],λo M E O R2 C=>⟨E,s,h,q,w,R2,S.ext O,e2,λI z Y L x U=>?_⟩⟩;unfold BT.JB at J;cases q with
     |p dk =>
      cases c:bz w n with
      |none=>rw[c]at J;cases dk<;>exact cX J
      |some f =>
       rw[c]at J;cases dk with
       |int j =>
        simp only at J;cases b:BT.place f.length j with
        |none=>rw[b]at J;exact cX J
        |some W =>
         rw[b]at J;cases J;have V:=C.ext L;cases V with
         |@r a _ hn =>
          cases U with
          |p U =>
           cases U;obtain⟨t,Z,u⟩:=x.cell n a f hn c;refine⟨a,t,j,W,rfl,rfl,Z,by rw[u.length];exact b,?_⟩;have l:Ext Y z Y (upd z a (.aD (t.set W v))):=iR (Vz hn) Z;cases r with
           |p r=>exact A σ _ Y ((O.trans L).trans l) (x.set hn Z (RDs.set ((r.ext O).ext L) W u)) (((S.ext O).ext L).ext l)
       |_=>exact cX J
     |_=>exact cX J
    |_=>rw[g]at e1;exact cX e1
 |_=>exact cX e1
end
noncomputable def cxT(X:Cx)(zt:List (aB×au))(xe':aC->Vh->Prop):Cx:={X with pn:=X.pn++zt,xe:=xe'}
def Ex{X:Cx}{zt:List (aB×au)}{σ:L2.St}{H:Hp}{s:Vh}(I:Inv X zt σ H s):Inv (cxT X zt xe') [] σ H s :=
 ⟨⟨I.ok.mod,I.ok.kind,I.ok.glob,I.ok.blt,I.ok.above,I.ok.inj,I.ok.has,I.ok.cab,I.ok.hd,I.ok.frames,I.ok.stk,I.ok.exf,I.ok.bs,I.ok.bsz,I.ok.noex,I.ok.exfs,I.ok.kE,I.ok.frf⟩,
  I.os,I.bare,I.base,I.loc,I.cell,I.free,I.freeC,λp J=>I.pin p (by simpa [cxT] using J),I.aL,I.len⟩
def Ey{X:Cx}{zt J:List (aB×au)}{σ:L2.St}{H:Hp}{s:Vh}(ok:X.Ok)(I:Inv (cxT X zt xe') J σ H s):Inv X zt σ H s :=
 ⟨ok,I.os,I.bare,I.base,I.loc,I.cell,I.free,I.freeC,λp L=>I.pin p (Xe _ L),I.aL,I.len⟩
def Mc{X:Cx}{F:FT}{G:aA->Option aP}{sc:V8}{N:List aA}{zt:List (aB×au)}(O:Ok X F G sc N)(own:aab (VC X.prog X.w) X.A X.env xe'):Ok (cxT X zt xe') F G sc N :=
 ⟨O.hsc,O.hN,O.nd,O.calm,O.hu,own,O.glob,O.call,O.aH,O.mkc,O.blt,O.lam,λU x J=>let L:=O.lamx U x J;⟨L.mem,L.ex,L.ql,L.bm⟩⟩
def HF{X:Cx}{F:FT}{G:aA->Option aP}{sc:V8}{N:List aA}(O:Ok X F G sc N){e:bf}{v:Vj}{p q:Pos}{b:aaf}{a:List aaf}(i:∀Y:Cx,Ok Y F G sc N->PE Y v (tD Y F G e)):
 PS X (.Try [.Return (aa v) p] (b::a) [] [] q) (tDS X F G (.ret e)):=by
 intro zt s Z H D I q;obtain⟨m,f,h,c,R,S,e1,W⟩:=q;refine wpAny_Try_except ?_;have n:=Mc (zt:=zt) O (Yj (K:=λe U=>az (VC X.prog X.w) X.A (setFlight e af) (λ_ L=>az (VC X.prog X.w) X.A (handleBy e X.env (b::a)) (SP X zt D) X.xe L) X.xe U) (E₁:=X.xe));have l:PS _ (.Return (aa v) p) (tDS (cxT X zt _) F G (.ret e)):=PS.weak (Cg (i _ n)) λD Z H q =>
  ng (k:=λs=>BT.AX) (λs h=>by simp only[aT]) q λm s h y c v o R S r e1 W=>by simp only[BT.AX]at e1;cases e1;exact W v o m (.refl _ _) R r
 refine thn (oZ l [] s Z H {nx:=λ_ _=>False,rt:=D.rt} (Ex I) ⟨m,f,h,c,R,S,e1,?_⟩) λj x q=>?_
 ·simp only[aT]at e1;obtain⟨y,B,e2,d⟩:=dg e1;simp only[BT.AX]at d;cases d;exact W
 ·cases j with
  |ret u =>
   obtain⟨v,V,t,J,g,z⟩:=q;exact⟨v,V,t,Ey I.ok J,g,z⟩
  |_=>obtain⟨_,_,_,z⟩:=q;exact z.elim
section
def HG{J:bE}{b:bq->aO->Option BT.Fl}{tg:List (Nat×aA)}{s:bq}{ws:List aP}{ds:List aQ}{h:aO}{U:BT.Fl}(e:(if BT.iB ws=ah then BT.fc b tg ds s h else BT.Dy b tg J s ws ds h)=aa U)(g:(aV ws h).bind (BT.gy J)=aa ds):
 vU J ws/\∃Z,(∀s h r,Z s h=aa r->b s h=aa r/\(∀s' h',r=.nx s' h'->m7 J ws ds h')/\∀s' h',r=.ct s' h'->m7 J ws ds h')/\m7 J ws ds h/\BT.fc Z tg ds s h=aa U:=by
 by_cases L:BT.iB ws=ah
 ·rw[bM L]at e;exact⟨.inl L,_,λs h r q=>⟨q,λ_ _ _=>jW L,λ_ _ _=>jW L⟩,jW L,e⟩
 ·rw[bN L]at e;have two:∃q,(J=.seq\/J=.enu)/\ws=[.r q]/\BT.fc (BT.GS J q ds b) tg ds s h=aa U:=by unfold BT.Dy at e;split at e;exact⟨_,.inl rfl,rfl,e⟩;exact⟨_,.inr rfl,rfl,e⟩;exact cX e
  obtain⟨q,sq,rfl,d⟩:=two;have a:BT.lQ J q h=aa ds:=by
   unfold BT.lQ;simp only[aV,bw,X7]at g;cases Y:bz h q with
   |none=>rw[Y]at g;exact cX g|some i=>rw[Y]at g;exact g
  refine⟨.inr ⟨sq,q,rfl⟩,_,λs h r z=>?_,λV O=>by cases O;exact a,d⟩;unfold BT.GS at z;cases W:b s h with
  |none=>rw[W]at z;exact cX z
  |some f =>
   rw[W]at z;cases f with
   |nx s' h' =>
    simp only at z;split at z
    ·rename_i c;cases z;exact⟨rfl,λ_ _ y V O=>by cases y;cases O;exact c,(λ_ _ y=>nomatch y)⟩
    exact cX z
   |ct s' h' =>
    simp only at z;split at z
    ·rename_i c;cases z;exact⟨rfl,(λ_ _ y=>nomatch y),λ_ _ y V O=>by cases y;cases O;exact c⟩
    exact cX z
   |_=>cases z;exact⟨rfl,(λ_ _ y=>nomatch y),(λ_ _ y=>nomatch y)⟩
def Mf(hg:GOk X tg g)(D:Ends)(σ:L2.St)(H:Hp)(q:tDS X F G (.for tg sr sa b) D σ H):Kf (iD X F G sr sa) g (tDS X F G b) D σ H:=by
 obtain⟨m,s,h,A,R,S,e,N⟩:=q;simp only[aT]at e;obtain⟨k,o,e1,e2⟩:=dg e;unfold BT.kFor at e2;cases j:(aV k o).bind (BT.gy sr)with
 |none=>rw[j]at e2;exact cX e2
 |some L =>
  rw[j] at e2;simp only at e2;obtain ⟨P,C,hb,c1,e2⟩:=HG e2 j;refine ⟨m,s,h,k,o,L,R,S,e1,j,P,λH1 u J t R1 l=>?_⟩;refine ⟨λi n σ H=>i<=L.length/\n=L.length - i/\∃ m s h,Ext u H1 m H/\RH X.K m H h/\RS X.prog X.w X.K m H σ s/\m7 sr k L h/\BT.fc C tg (L.drop i) s h=aa A/\m8 X m H A D,
   ⟨L.length,Wg _,rfl,u,s,o,.refl _ _,R1,S.ext t,c1,by rw[Ys];exact e2,N.ext t⟩,?_⟩
  rintro i n σ2 H2 ⟨hi,rfl,m2,s2,h2,x2,R2,S2,c2,e3,post2⟩
  by_cases c:i<L.length
  ·refine .inr ⟨l.go m2 H2 h2 i x2 R2 c2 c,_,fun M H' z=>⟨L.length-(i+1),by lia,c,rfl,z⟩,λx E y=>?_⟩;obtain⟨U,k3,T⟩:=l.yld m2 H2 h2 i x E L[i] x2 R2 c2 (Vm c) y;rw[Xl c,BT.fc]at e3;cases r:bx tg.length L[i]with
   |none=>rw[r]at e3;exact cX e3
   |some dd =>
    rw[r]at e3;simp only at e3;have R3:=R2.ext U k3;refine hg m2 E σ2 s2 x L[i] dd _ (S2.ext U) T r fun I S4=>?_;cases p:C (bL tg dd s2) h2 with
    |none=>rw[p]at e3;exact cX e3
    |some B =>
     rw[p]at e3;obtain⟨g4,cn,cc⟩:=hb _ _ _ p;refine⟨m2,_,h2,B,R3,S4,g4,?_⟩;cases B with
     |nx f Z=>exact fun V d W O Y a=>⟨W,f,Z,(x2.trans U).trans O,Y,a,cn _ _ rfl,e3,(post2.ext U).ext O⟩
     |ct f Z=>exact fun V d W O Y a=>⟨W,f,Z,(x2.trans U).trans O,Y,a,cc _ _ rfl,e3,(post2.ext U).ext O⟩
     |bk f Z=>cases e3;exact fun V d W O Y a=>post2 V d W (U.trans O) Y a
     |rt z Z=>cases e3;exact λv d W O Y Q=>post2 v d W (U.trans O) Y Q
  ·have ei:i=L.length:=by lia
   subst ei;refine .inl ⟨l.stop m2 H2 h2 x2 R2 c2,?_⟩;rw[XZ,BT.fc]at e3;cases e3;exact post2 σ2 H2 m2 (.refl _ _) R2 S2
def P4{X:Cx}{sc:V8}{N:List aA}(O:Ok X F G sc N){x:aA}{L pos p:Pos}{J:Vj}{U:List aah}{scope:V8}(h:swB sc scope x L pos=ah):Yt (.ListComp J U scope pos) (aa (.Name x L)) p.line X.env=pure ah:=by have e:Yt (.ListComp J U scope pos) (aa (.Name x L)) p.line X.env=pure (swB X.env.scope scope x L pos):=rfl;rw[e,O.hsc,h]
def HJ(c:(sc.names.lookup x==aa .cell)=ah):qC sc x=ah:=by unfold qC;rw[bT c]
def Ez(h:swB sc scope x np pos=ah):sc.names.lookup x=aa .local:=by unfold swB at h;simp only[Vg]at h;exact bT h.1.1.2
def P5{X:Cx}{sc:V8}{N:List aA}(O:Ok X F G sc N){x:aA}{L pos p:Pos}{J:Vj}{U:List aah}{scope:V8}(c:(sc.names.lookup x==aa .cell)=ah):Yt (.ListComp J U scope pos) (aa (.Name x L)) p.line X.env=pure ak:=by
 have e:Yt (.ListComp J U scope pos) (aa (.Name x L)) p.line X.env=pure (swB X.env.scope scope x L pos):=rfl;have z:swB sc scope x L pos=ak:=by
  cases h:swB sc scope x L pos with
  |false=>rfl
  |true =>
   have:=Ez h;rw[bT c]at this;cases this
 rw[e,O.hsc,z]
def EA:PSs X [] (tDS X F G .nil):=PSs.weak F8 λD J H q=>by obtain⟨m,s,h,O,R,S,e,L⟩:=q;simp only[aT]at e;cases e;exact L J H m (.refl _ _) R S
def sS(O:Ok X F G sc N)(z:∀x,X.fn x=ah)(hh:CS sc N s st):PS X st (tDS X F G s) :=
 CS.rec (motive_1:=λs st _=>PS X st (tDS X F G s)) (motive_2:=λs sts _=>PSs X sts (tDS X F G s))
  (@λi x mu sr sa u fv cond A te iter elt' ifs b T np p f V Z M j C E P hc J=>by
   have K:∀(D:Ends)(U:L2.St)(H:Hp),tDS X F G (.set i (.comp mu sr sa u fv cond A)) D U H->Cj (tD X F G (.comp mu sr sa u fv cond A)) (yE i) D U H:=λD U H q =>
    ng (k:=λs=>BT.Dr s i) (λs h=>rfl) q λm s h y a v W R S r e1 L=>by simp only[BT.Dr]at e1;cases e1;exact L _ W m (.refl _ _) R (S.set r)
   by_cases c:(sc.names.lookup x==aa .cell)=ah
   exact PS.weak (Co (i:=i) O.nd (by rw[O.hN];exact V) (qD O (HJ c)) (sE (CQ.comp f M j C E P hc J) O) (P5 O c) (.inl (z x))) K
   ·have Q:swB sc b x np T=ah:=by rw[W9]at Z;exact Z.resolve_left c
    exact PS.weak (HA O f M j E (sCI P O C) (sCC hc) (λX' O'=>sE J O') V (Ez Q) (P4 O Q)) K)
  (@λi x e v np p V o Z J=>PS.weak (Co (i:=i) O.nd (by rw[O.hN];exact V) (qD O o) (sE J O) (jX Z) (.inl (z x))) λD U H q =>
   ng (k:=λs=>BT.Dr s i) (λs h=>by simp only[aT]) q λm s h y a v W R S r e1 L=>by simp only[BT.Dr] at e1;cases e1;exact L _ W m (.refl _ _) R (S.set r))
  (@λu e es k fe args kw tp cp p f j J=>by
   obtain⟨g,n,l⟩:=sCT O (O.calm f) j λq _=>.inl (z q.2);exact PS.weak (Ck (sE J O) n rfl rfl) λD U H q=>ng (k:=λs=>BT.Lg s u) (λs h=>by simp only[aT]) q λm s h y a v W R S r e1 L=>by
    cases r with
    |p r =>
     simp only[BT.Lg]at e1;rename_i d;cases g1:BT.unpack u.length d with
     |none=>rw[g1]at e1;exact cX e1
     |some ds =>
      rw[g1]at e1;cases e1;refine l m W U s _ d ds _ S r ?_ fun σ' S'=>L _ W m (.refl _ _) R S';cases j with
      |aE hl _ =>
       unfold bx;rw[bN (by have:=abg hl;lia)];exact g1
    | _=>exact cX e1)
  (λV o Z Q h5 M J=>PS.weak (Ck (sE J O) (Ka (ze O V o Z) (sE M O) set_list (xY h5)) (HC Q) rfl) Mb)
  (λV o Z J=>PS.weak (Kc O.nd (by rw[O.hN];exact V) (qD O o) (sE J O) (zo Z) (.inl (z _))) Ma)
  (λV o ho J=>PS.weak (Kr (sE ho O) (sE J O) (jX o)) (HD V))
  (λV Z ho J=>PS.weak (AH (sE ho O) (sE J O) (zo Z)) (HE V))
  (λh J=>PS.weak (F9 (sE J O) (jX h)) λD U H q =>
   ng (k:=λs=>BT.kEx s) (λs h=>by simp only[aT]) q λm s h y a v W R S r e1 L=>by simp only[BT.kEx] at e1;cases e1;exact L U W m (.refl _ _) R S)
  (λJ=>PS.weak (Cg (sE J O)) λD U H q =>
   ng (k:=λs=>BT.AX) (λs h=>by simp only[aT]) q λm s h y a v W R S r e1 L=>by simp only[BT.AX] at e1;cases e1;exact L v W m (.refl _ _) R r)
  (λh hc ha hb ia w=>PS.weak (N5 (sT hc O h).1 ia w) λD U H q=>by
   obtain⟨m,s,h,a,R,S,e,L⟩:=q;simp only[aT]at e;obtain⟨t,g,e1,e2⟩:=zH e;refine⟨m,s,h,t,g,R,S,e1,λW m1 B R1=>?_⟩;simp only[BT.kIf]at e2;cases t with
   |true=>exact⟨m1,s,g,a,R1,S.ext B,e2,L.ext B⟩
   | false=>exact ⟨m1,s,g,a,R1,S.ext B,e2,L.ext B⟩)
  (λh hc hb w=>PS.weak (Cr O.own (sT hc O h).1 w) L8)
  (λf j P C E hb w=>by obtain⟨g,n,l⟩:=sCT O (O.calm f) j (λq _=>.inl (z q.2));exact PS.weak (Cs O.own (O.calm f) (sCI P O C) n w (pF E)) (Mf l))
  (λzt s U H D I q=>by obtain⟨m,s,h,a,R,S,e,L⟩:=q;simp only[aT]at e;exact cX e)
  (λzt s U H D I q=>by obtain⟨m,s,h,a,R,S,e,L⟩:=q;simp only[aT]at e;exact cX e)
  (λzt s U H D I q=>by obtain⟨m,s,h,a,R,S,e,L⟩:=q;simp only[aT]at e;exact cX e)
  (λJ=>HF O λY O2=>sE J O2)
  EA
  (λ_ ih=>oZ ih)
  (λ_ _ ih ir=>PSs.weak (vc ih ir) Eu)
  hh
def sSs(O:Ok X F G sc N)(J:∀x,X.fn x=ah){sts:List VE}(U:CSs sc N s sts):PSs X sts (tDS X F G s):=by refine CSs.rec (motive_1:=λ_ _ _=>True) (motive_2:=λs sts _=>PSs X sts (tDS X F G s)) ?_ ?_ ?_ ?_ ?_ ?_ ?_ ?_ ?_ ?_ ?_ ?_ ?_ ?_ ?_ ?_ EA (λh _=>oZ (sS O J h)) (λh _ _ L=>PSs.weak (vc (sS O J h) L) Eu) U<;>(intros;trivial)
end
section
variable{K:Ve}
mutual
theorem RD.shrink(x:∀a∈m,a∈m'):∀{v:V}{d:aQ},RD K m' H v d->RD K m H v d
 |_,_,.aF=>.aF|_,_,.bl b=>.bl b|_,_,.int i=>.int i|_,_,.str y h=>.str y h|_,_,.aE h r=>.aE (h.elim (λq=>.inl ⟨q.1,λz=>q.2 (x _ z)⟩) .inr) (RDs.shrink x r)|_,_,.aD h r=>.aD (h.elim (λq=>.inl ⟨q.1,λz=>q.2 (x _ z)⟩) .inr) (RDs.shrink x r)
theorem RDs.shrink(x:∀a∈m,a∈m'):∀{vs:List V}{ds:List aQ},RDs K m' H vs ds->RDs K m H vs ds
 |_,_,.nil=>.nil|_,_,.cons r t=>.cons (RD.shrink x r) (RDs.shrink x t)
end
end
theorem RFs.shrink{K:Ve}:∀{J vs:List (aA×V)}{fs:List (aA×aP)},RFs K m H J fs->RFs K (m++ex) H' vs fs->RFs K m H' vs fs
 |_,_,_,.nil,.nil=>.nil
 |_,_,_,.cons r0 t0,.cons r t=>by
  refine .cons ?_ (RFs.shrink t0 t);have back:∀{n:Nat}{a b:aB},m[n]?=aa b->(m++ex)[n]?=aa a->m[n]?=aa a:=λ{n a b} h1 h2=>by rw[Vi (getD_some h1)]at h2;exact h2
  cases r with
  |p r=>exact .p (r.shrink λa O=>Xe _ O)
  |r h=>cases r0 with|r L=>exact .r (back L h)
  |o h=>cases r0 with|o L=>exact .o (back L h)
def RKs.shrink{K:Ve}(sub:∀a∈m,a∈m')(r:RKs K m' H vs kvs):RKs K m H vs kvs:=by
 induction r with
 |nil=>exact .nil|cons L r t J=>exact .cons (L.shrink sub) (r.shrink sub) J
def RBs.shrink{m ex:List aB}{J:List V}{ns:List Nat}(U:RBs m J ns):∀{vs:List V},RBs (m++ex) vs ns->RBs m vs ns:=by
 induction U with
 |nil=>intro vs r;cases r;exact .nil
 |cons h t W =>
  intro vs r;cases r with
  |cons L O =>
   rw[Vi (getD_some h)]at L;exact .cons L (W O)
def iO(e:BT.fin h y g=aa (z,h'))(R:RH K m H h)(x:Ext m H m' H')(O:RH K m' H' g)(r:RW P w K m' H' v y):
 ∃m2,Ext m H m2 H'/\RH K m2 H' h'/\RW P w K m2 H' v z:=by
 unfold BT.fin at e;split at e;cases e;exact⟨m',x,O,r⟩
 ·split at e
  ·rename_i N G;obtain⟨ex,rfl,M⟩:=x.pre;have sub:∀a∈m,a∈m++ex:=λa t=>Xe _ t;have Y:Ext m H m H':=⟨⟨[],by simp,by simp⟩,x.keep,x.live,x.frz⟩;have R2:RH K m H' h:=by
    refine⟨R.nd,R.len,λi a V e1 e2=>?_,O.tb⟩;have q:i<m.length:=getD_some e1;have k:i<h.length:=by rw[←R.len];exact q
    have D:g[i]?=aa V:=by rw[←G,Wu k]at e2;exact e2
    have z:=O.cl i a V (by rw[Vi q];exact e1) D;cases V with
    |o c fs =>
     obtain⟨Q,E,d,_,_,f⟩:=R.cl i a _ e1 e2;obtain⟨C,F,U,L,J,s⟩:=z;exact⟨C,F,U,L,J,f.shrink s⟩
    |z=>exact z
    |b I =>
     obtain⟨d,_,f⟩:=R.cl i a _ e1 e2;obtain⟨U,L,J⟩:=z;exact⟨U,L,f.shrink J⟩
    |_=>obtain⟨U,L,J⟩:=z;exact⟨U,L,J.shrink sub⟩
   cases r with
   |p r=>cases e;exact⟨m,Y,R2,.p (r.shrink sub)⟩
   |@o a n hn =>
    simp only at e;split at e
    ·rename_i Z;cases e;refine⟨m,Y,R2,.o ?_⟩;rw[Vi (by rw[R.len];exact Z)]at hn;exact hn
    cases e;exact⟨m++ex,x,O,.o hn⟩
   |@r a n hn =>
    simp only at e;split at e
    ·rename_i Z;cases e;refine⟨m,Y,R2,.r ?_⟩;rw[Vi (by rw[R.len];exact Z)]at hn;exact hn
    ·rename_i Z;obtain⟨V,B,A⟩:=dH e;cases A;obtain⟨U,L,J⟩:=O.cell n a V hn B;refine⟨m,Y,R2,.p (.aD (.inl ⟨.inl L,λz=>?_⟩) (J.shrink sub))⟩;obtain⟨j,l⟩:=Xf z;have W:=getD_some l;have u:(m++ex)[j]?=aa a:=by rw[Vi W];exact l
     have:=su O.nd u hn;rw[R.len]at W;lia
   |_=>exact cX e
  cases e;exact⟨m',x,O,r⟩
def kQ(r:RWs P w K m H vs ws):RS P w K m H (L2.start N vs) (BT.d8 N.length ws):=by
 have L:=r.length;refine⟨by simp[L2.start,BT.d8,L],λi y e=>?_⟩;simp only[BT.d8]at e
 by_cases c:i<ws.length
 ·rw[Vi (by simpa using c),VF]at e;obtain⟨z,e1,e2⟩:=dH e;cases e2;have:∀{vs:List V}{ws:List aP}{i:Nat},RWs P w K m H vs ws->ws[i]?=aa y->∃v,vs[i]?=aa v/\RW P w K m H v y:=by
   intro vs ws i r
   induction r generalizing i with
   |nil=>intro e;simp at e
   |cons r t J =>
    intro e;cases i with
    |zero=>simp at e;subst e;exact⟨_,rfl,r⟩|succ i=>simpa using J (by simpa using e)
  obtain⟨v,U,O⟩:=this r e1;refine⟨v,?_,O⟩;unfold L2.start;rw[Vi (by simp;lia),VF,U];rfl
 ·rw[VW (by simpa using c),XG]at e;split at e<;>cases e
def kC(K:Ve)(q:aA)(fd:Wp)(fn:aX):Prop:=∀y,fn.ns.contains (BT.jt y)=ah->q=y/\y∈BT.jc ∧
 (∃c P,WG K y=aa (c,P)/\fd.code=.ref c/\Zv K c P=ah/\∀z∈BT.jc,∀L,WG K z=aa (L,P)->z=y) ∧
 ∃J ob,V4 K VB "__builtins__"=aa (aa (.ref J))/\J≠XI/\K.lookup J=aa ob/\ob.cls=.type "module"/\ob.dict=aa XI/\ob.data=.plain
inductive P6(K:Ve)(mg:aA->Option aC)(x:aA)(fn:aX):Prop
 |mk(f:aB)(fd:Wp)(st:VE)(h1:mg x=aa (.ref f))(h2:Fun K x x st f fd)(U:eN fn.ns fn.ps (c5 st))(J:Binds K fd fn.ps [])(O:CSs (c5 st) fn.ns fn.body (dF st))(L:kC K x fd fn):P6 K mg x fn
structure Def(K:Ve)(mg:aA->Option aC)(x:aA)(fn:aX):Prop where
 ex:P6 K mg x fn
inductive JM(K:Ve)(mg:aA->Option aC)(c m:aA)(fn:aX):Prop
 |mk(C f:aB)(fd:Wp)(x qual:aA)(st:VE)(h1:lR K c C)(h2:mg c=aa (.ref C))(Y:ve K C m f)(V:(m="__init__"->Mk K C f))(O:Fun K x qual st f fd)(W:eN fn.ns fn.ps (c5 st))(L:Binds K fd fn.ps [])(U:CSs (c5 st) fn.ns fn.body (dF st))(J:kC K qual fd fn):JM K mg c m fn
structure EB(K:Ve)(mg:aA->Option aC)(c m:aA)(fn:aX):Prop where
 ex:JM K mg c m fn
structure Txt(P:Vy)(w:VQ)(K:Ve)(mg:aA->Option aC)(T:bB->Option aX)(G:aA->Option aP):Prop where
 defs:∀x fn,T (.f x)=aa fn->Def K mg x fn
 meths:∀c m fn,T (.m c m)=aa fn->EB K mg c m fn
 lams:∀L fn,T (.l L)=aa fn->False
 glob:∀x z,G x=aa z->∃u v,mg x=aa u/\RelV v u/\∀m H,RW P w K m H v z
 blt:∀x∈PM,mg x=af
def zI(e:aS T G k x ws h=aa r):∃fn,T x=aa fn:=by
 cases k with
 |zero=>exact cX e
 |succ k =>
  rw[aS]at e;cases q:T x with
  |none=>rw[q]at e;exact cX e|some fn=>exact⟨fn,rfl⟩
def zJ(F:Fun K x qual st f fd)(S:eN N ps (c5 st))(len:∀vs H Q E,sp vs H Q E->vs.length=ps.length)
(J:∀ (cdv:aC) (A:V9) (outer:List Env) (s:Vh) (H:Hp) (vs:List V) (Q:VK) (E:XK),fd.code=cdv->fG k (A.deeper (Xr qual (c5 st) s.heap.objs.size f cdv))->Mod K mg base->sp vs H Q E →
  ∃ t,PSs (dX CX0 P w K mg base N qual (c5 st) f cdv A outer s H E).nox (dF st) t/\t { nx:=λ_ H'=>Q .aF H',rt:=Q } (L2.start N vs) H):gO P w K mg base CX0 (k+1) f fd ps sp:=by
 obtain⟨l,j,kV,Y,b,g,cdv,ct,osl,rfl,c,W⟩:=F.ex;refine⟨len,λA outer s H L a vs Q E U Z e r d=>?_⟩;have i:gO P w K mg base CX0 (k+1) f (Wz x qual (f7 st) (dF st) (c5 st) .none kV Y b g cdv ct) ps sp:=CH c W S len λA outer s H vs Q E U O=>by obtain⟨t,h,q⟩:=J cdv A outer s H vs Q E rfl U Z.mod O;exact⟨t,h.nox,q⟩
 exact i.run A outer s H L a vs Q E U Z e r d
def zK(X:Txt P w K mg T G)
(p:∀(x:bB)(fn:aX),T x=aa fn->∀(f:aB)(fd:Wp)(nm qual:aA)(st:VE),Fun K nm qual st f fd->eN fn.ns fn.ps (c5 st)->CSs (c5 st) fn.ns fn.body (dF st)->kC K qual fd fn->gO P w K mg base CX0 (2*k) f fd fn.ps (spF P w K (aS T G k x)))
(z:∀L,(∃fn,T (.l L)=aa fn)->DU P w K mg base (2*k) L (aS T G k (.l L)))
(e1:Y.prog=P)(e2:Y.w=w)(F:Y.K=K)(E:Y.mg=mg)(D:Y.base=base)(q:Y.env.scope=sc)(B:Y.N=N)(nd:Y.N.Nodup)(H:Y.calm=ah)(a:fG (2*k+1) Y.A)(own:aab (VC Y.prog Y.w) Y.A Y.env Y.xe)
(y:(∀x,Y.fn x=ah)->∀x,N.contains (BT.jt x)=ah->LX Y x):Ok Y (aS T G k) G sc N:=by
 subst e1 e2 F E D;refine⟨q,B,nd,λ_=>H,?_,own,X.glob,λg n h r e=>?_,λc g n h r e=>?_,λc n h r e=>?_,X.blt,λL n h r e=>⟨2*k,a.mono (Wh _),z L (zI e)⟩,y⟩
 ·have:=a.un;lia
 ·obtain⟨J,O⟩:=zI e;obtain⟨W,U,V,I,Z,j,i,d,b⟩:=(X.defs g J O).ex;exact⟨W,U,J.ps,2*k,I,Z.kp,i,a.mono (Wh _),p _ J O W U g g V Z j d b⟩
 ·obtain⟨J,O⟩:=zI e;obtain⟨C,W,U,m,o,V,s,v,u,t,Z,j,i,d,b⟩:=(X.meths c g J O).ex;exact⟨C,W,U,J.ps,2*k,s,u,i,a.mono (Wh _),p _ J O W U m o V Z j d b⟩
 ·obtain⟨J,O⟩:=zI e;obtain⟨C,W,U,m,o,V,s,v,u,t,Z,j,i,d,b⟩:=(X.meths c _ J O).ex;exact⟨C,W,U,J.ps,2*k,s,v,t rfl,i,a,p _ J O W U m o V Z j d b⟩
def lI(X:Txt P w K mg T G):
 ∀(k:Nat),(∀(x:bB)(fn:aX),T x=aa fn->∀(f:aB)(fd:Wp)(nm qual:aA)(st:VE),Fun K nm qual st f fd->eN fn.ns fn.ps (c5 st)->CSs (c5 st) fn.ns fn.body (dF st)->kC K qual fd fn->gO P w K mg base CX0 (2*k) f fd fn.ps (spF P w K (aS T G k x))) ∧
  ∀L,(∃fn,T (.l L)=aa fn)->DU P w K mg base (2*k) L (aS T G k (.l L)):=by
 intro k
 induction k with
 |zero =>
  refine⟨λx fn V f fd nm qual st h2 B h5 h6=>?_,λL S=>?_⟩
  ·have no:∀U H Q E,¬spF P w K (aS T G 0 x) U H Q E:=λU H Q E h=>by obtain⟨m,Y,h,z,C,_,_,e,_⟩:=h;exact cX e
   exact⟨λU H Q E h=>bO h (no U H Q E),λA J s H args us U Q E _ _ _ _ h=>bO h (no U H Q E)⟩
  ·intro A J s H f us U cvs m Y cs h z C Q E N e0 rv R rw nc la rc e W;exact cX e
 |succ k t =>
  obtain⟨ih,il⟩:=t;refine⟨λx fn V f fd nm qual st h2 B h5 h6=>?_,λL S=>?_⟩
  ·show gO P w K mg base CX0 (2*k+1+1) f fd fn.ps (spF P w K (aS T G (k+1) x));refine zJ h2 B (λU H Q E h=>?_) λF A J s H U Q E u N Z h=>?_
   ·obtain⟨m,Y,h,z,C,R,r,e,W⟩:=h;rw[aS,V]at e;simp only at e;split at e;rename_i c;rw[r.length];exact c;exact cX e
   ·obtain⟨m,Y,h,z,C,R,r,e,W⟩:=h;rw[aS,V]at e;simp only at e;split at e
    ·have O:Ok (dX CX0 P w K mg base fn.ns qual (c5 st) f F A J s H E).nox (aS T G k) G (c5 st) fn.ns:=by refine zK X ih il rfl rfl rfl rfl rfl rfl rfl B.nd rfl N Zw λ_ y hy=>?_;obtain⟨t1,t2,⟨c,Pt,t3,t4,t5,t6⟩,bm,ob,t7,t8,t9,o,n,j⟩:=h6 y hy;exact⟨t2,⟨c,Pt,t3,u.symm.trans t4,X5 Z.kin t5,t6⟩,by show qual++".<locals>."=_;rw[t1],bm,ob,Ww Z.kin Z.glob t7,t8,Z.kin _ _ t9,o,n,j⟩
     refine⟨_,sSs O (λ_=>rfl) h5,?_⟩;cases D:aT (aS T G k) G fn.body (BT.d8 fn.ns.length Y) h with
     |none=>rw[D]at e;exact cX e
     |some fl =>
      rw[D]at e;refine⟨m,_,h,fl,R,kQ r,D,?_⟩;cases fl with
      |rt y g =>
       intro v M m' i I r';obtain⟨q,d,b,a⟩:=iO e R i I r';exact W v M q d b a
      |nx s' g =>
       intro σ' M m' i I _;obtain⟨q,d,b,a⟩:=iO (v:=.aF) e R i I (.p .aF);exact W .aF M q d b a
      |_=>exact cX e
    exact cX e
  ·obtain⟨fn,V⟩:=S;exact(X.lams L fn V).elim
end BS
end
section
end
section
namespace BS
open PySem PySem.Spec PyProof.Rows L2
variable{B:av}
inductive CX1(P:Vy)(w:VQ)(outer:List Env)(H:Hp)(s:Vh)(E:XK)(e:aC)(s':Vh):Prop
 |mk(x C:aB)(H':Hp)(B G:av)(O:aC)(Z:e=.ref x)(os:s'.os=s.os)(J:ZS s'.gens)(un:Un (frs outer) [] H H' s.heap s'.heap)(Y:HOk P w H' s'.heap)(V:Heap.FlyingW B outer x (.ref C) O s'.heap)
  (L:∀b o,s.heap.get? b=aa o->b∉frs outer->∃o',B.get? b=aa o'/\(H b=af->o'=o)) (U:HOk P w H' G) (W:∀b o,H' b≠af->G.get? b=aa o->B.get? b=aa o) (q:E (.ref C) af H'):CX1 P w outer H s E e s'
def ux{P:Vy}{w:VQ}{H:Hp}{G h:av}(x:HOk P w H G)(k:∀b o,H b≠af->G.get? b=aa o->B.get? b=aa o)(st:B.StaysIn h):HOk P w H h:=λb u e =>
 (x b u e).stay (λc v hc q=>st c v (k c v (by rcases hc with rfl|hc<;>simp[*]) q)) (λ_ q=>q) λ_ _ q=>q
section
variable{K:Ve}{E:XK}
def xZ{zt:List (aB×au)}{σ:L2.St}{H1:Hp}{W:Vh}{h':av}(I:Inv (dX CX P w K mg base N qual scope f cd A outer s H E) zt σ H1 W)
(L:∀b o,s.heap.get? b=aa o->b∉frs outer->∃o',B.get? b=aa o'/\(H b=af->o'=o))(st:B.StaysIn h')(up:W.heap.UpToSlots h'):Un (frs outer) [] H H1 s.heap h':=by
 have Y:∀b o,s.heap.get? b=aa o->H b=af->b∈frs outer->∃V,h'.get? b=aa {o with slots:=V}:=λb o e n J=>by obtain⟨V,q⟩:=I.base.slot b o e n J (by simp[dX]);obtain⟨_,a,O,c⟩:=I.ok.kE.mem J;have O:s.heap.get? b=aa a:=O;rw[e]at O;cases O;obtain⟨U,Z⟩:=up b _ q c;exact⟨U,Z⟩
 refine⟨λb o e n J _=>?_,λb o e n J _=>Y b o e n J,λb o e n _=>I.base.free b o e n (by simp[dX]),λb o e _=>?_,I.base.tups,I.base.frzs,I.base.tbls⟩
 ·obtain⟨o',q,r⟩:=L b o e J;rw[r n]at q;exact st b o q
 ·by_cases J:b∈frs outer
  ·obtain⟨V,q⟩:=Y b o e (I.ok.frf b J) J;exact⟨_,q⟩
  ·obtain⟨o',q,_⟩:=L b o e J;exact⟨o',st b o' q⟩
def jd(I:Inv (dX CX P w K mg base N qual scope f cd A outer s H E) zt σ H1 s1)(e:s.heap.get? b=aa o)(J:b∉frs outer):
 b∉frs (dX CX P w K mg base N qual scope f cd A outer s H E).stack:=λz=>by
 rcases List.mem_cons.mp (I.lX b z)with q|q
 ·have:s.heap.objs.size<=b:=by rw[q];exact I.ok.above
  exact bO (Vq e) (Nat.not_lt.mpr this)
 exact J q
end
section
variable{K:Ve}{E:XK}
def HK(I:Inv (dX (CX1 P w) P w K mg base N qual scope f cd A outer s H E) zt σ H1 s1)
(a:XS s1.heap h2 x (.ref C) args)(g:E (.ref C) af H1):(dX (CX1 P w) P w K mg base N qual scope f cd A outer s H E).xe (.ref x) {s1 with heap:=h2}:=by
 show az (VC P w) (A.deeper (Xr qual scope s.heap.objs.size f cd)) (abB (Xr qual scope s.heap.objs.size f cd) (.ref x)) _ _ _;have Z:∀J∈(Xr qual scope s.heap.objs.size f cd::outer),∀b,J.frame=aa b->b∈frs (Xr qual scope s.heap.objs.size f cd::outer):=λJ d b V=>List.mem_filterMap.mpr ⟨J,d,V⟩;refine wpAny_leaves_madeW (s:={s1 with heap:=h2}) (base:=Ws s1.heap (frs (Xr qual scope s.heap.objs.size f cd::outer))) (h:=s1.heap) I.ok.frames rfl (λb o q=>Ye _ q) (PySem.W.funFrames_hide I.stack Z) a λk t Y j i c=>?_;have O:∀b o,s.heap.get? b=aa o->b∉frs outer->∃U,(Ws s1.heap (frs (Xr qual scope s.heap.objs.size f cd::outer))).get? b=aa U/\(H b=af->U=o):=λb o e V=>by obtain⟨U,q⟩:=I.base.there b o e (by simp[dX]);refine⟨U,Xj _ q (jd I e V),λn=>?_⟩;have:=I.base.keep b o e n V (by simp[dX]);rw[q]at this;exact Vp this
 have L:∀b o,H1 b≠af->s1.heap.get? b=aa o->(Ws s1.heap (frs (Xr qual scope s.heap.objs.size f cd::outer))).get? b=aa o:=λb o n e=>Xj _ e λz=>n (I.tw b z);exact⟨x,C,H1,_,s1.heap,.ref t,rfl,I.os,I.bare,xZ I O Y.1 ((Heap.UpToSlots.of_keeps a.keeps).trans c),ux I.aL L Y.1,Y,O,I.aL,L,g⟩
def P7(u:∀C H',E1 (.ref C) af H'->E (.ref C) af H'):iA (CX1 P w) (dX (CX1 P w) P w K mg base N qual scope f cd A outer s H E) E1:=by
 intro g d M D e j I h;obtain⟨x,C,H',B,G,y,rfl,e1,e2,un,t,v,Y,a,O,W⟩:=h;show az (VC P w) (A.deeper (Xr qual scope s.heap.objs.size f cd)) (abB (Xr qual scope s.heap.objs.size f cd) (.ref x)) _ _ _;have J:Inv (dX (CX1 P w) P w K mg base N qual scope f cd A outer s H E) g d H' j:=I.yD (ch:=[]) e1 un t e2 (λb z=>bO z (by simp));refine wpAny_leaves_onW (Q:=λ_ V=>CX1 P w outer H s E (.ref x) V) I.ok.frames rfl v λF U i=>?_;have L:∀b o,s.heap.get? b=aa o->b∉frs outer->∃Z,B.get? b=aa Z/\(H b=af->Z=o):=λb o e c=>by obtain⟨r,q⟩:=I.base.there b o e (by simp[dX]);obtain⟨p,m,l⟩:=Y b r q (jd I e c);refine⟨p,m,λn=>?_⟩;have k:=I.base.keep b o e n c (by simp[dX]);rw[q]at k;rw[l (I.base.free b o e n (by simp[dX]))];exact Vp k
 exact⟨x,C,H',B,G,y,rfl,J.os,J.bare,xZ J L U.1 i,ux a O U.1,U,L,a,O,u C H' W⟩
end
def lJ{i:Int}(h:i.natAbs<2^64):i.natAbs.log2<1920:=by
 by_cases z:i.natAbs=0
 rw[z];decide
 ·have:=(Nat.log2_lt z).mpr h;lia
structure nh(K:Ve)(C:aB):Prop where
 ok:aaw K C [.type "ValueError",.type "Exception",.type "BaseException",.type "object"] "ValueError.__new__"=ah
inductive P8(K:Ve)(C:aB)(h:av):Prop
 |mk(bm:List aC)(N:aB)(nm J:aA)(bs:List aC)(hdct:Bool)(sn:List aA)(sub:List aC)(ab:Bool)(col:Option Bool)(dd:Option aB)(k0 k1 k2 k3 k5:Option aC)(mN:aA->Option aC)(U:h.get? C=aa (Y7 nm J C N bs bm hdct sn sub ab col dd k0 k1 k2 k3 k5 "ValueError.__new__"))
  (V:h.Ns N mN) (L:mN "__init__"=af) (T:OwnTail h [.type "ValueError",.type "Exception",.type "BaseException",.type "object"] bm) (O:K.lookup C=aa (Y7 nm J C N bs bm hdct sn sub ab col dd k0 k1 k2 k3 k5 "ValueError.__new__")):P8 K C h
def nh.obj{K:Ve}(X:K.In h)(q:nh K C):P8 K C h:=by
 have q:=q.ok;unfold aaw at q;split at q
 ·rename_i dd r Y e;split at q
  ·rename_i u s c b k2 a n Z f d;simp only[Vg,bW,YD]at q;obtain⟨⟨⟨⟨⟨rfl,rfl⟩,J⟩,m⟩,V⟩,L⟩:=q;obtain⟨nm,bs,k,j,i,o,g,sub,t,U,p⟩:=r;dsimp only at f J V L;subst f J;have O:Y=#[c,b,k2,a,aa (.builtin "ValueError.__new__"),Z]:=by obtain⟨l⟩:=Y;simp only at d;rw[d]
   subst O;exact⟨s,j,nm,i,bs,o,g,sub,t,U,dd,c,b,k2,a,Z,_,X _ _ e,.of_isNs (PySem.W.isNs_of_in X V),PySem.W.nsMap_none_of_in X V L,PySem.W.tail_of_in X m,e⟩
  exact aU q
 exact aU q
inductive v7:V->Prop
 |int{i:Int}(h:i.natAbs<2^64):v7 (.int i)
 |str{x:aA}(h:(reprText x).length<=50000):v7 (.str x)
 |aF:v7 .aF
 |bl{b:Bool}:v7 (.bl b)
def EC{P:Vy}{w:VQ}{v:V}{u:aC}(h:v7 v)(r:RelV v u):∃x:aA,x.length<=50000/\∀{A:V9}{E:aC->Vh->Prop}{s:Vh}{Q:aC->Vh->Prop},Q (.str x s.toks) {s with toks:=s.toks+1}->az (VC P w) A (pyReprObj u) Q E s:=by
 have L:(50000:Nat)<=ao:=by decide
 cases h with
 |@int i W =>
  obtain⟨J,rfl⟩:=r;have Y:(Vu (toString i)).length<=1921:=by rw[aaY];exact int_text_length_le (by decide) (lJ W)
  have O:(Vu (toString i)).length<=50000:=VJ Y (by decide);exact⟨_,O,λq=>Zk (T:="int") rfl PySem.F.slot_int_repr PySem.F.entry_int_repr (PySem.F.args_int_repr_1 _) (gives_int_repr i J (lJ W)) q rfl (VJ O L)⟩
 |@str x U =>
  obtain⟨J,rfl⟩:=r;exact⟨_,U,λq=>wpAny_pyReprObj_str q (VJ U L)⟩
 |aF =>
  obtain rfl:=r;exact⟨_,by decide,λq=>Zk (T:="NoneType") rfl PySem.F.slot_NoneType_repr PySem.F.entry_NoneType_repr (PySem.F.args_NoneType_repr_1 _) gives_none_repr q rfl (by decide)⟩
 |@bl b =>
  obtain rfl:=r;exact⟨_,by cases b<;>decide,λq=>Zk (T:="bool") rfl PySem.F.slot_bool_repr PySem.F.entry_bool_repr (PySem.F.args_bool_repr_1 _) (gives_bool_repr b) q rfl (by cases b<;>decide)⟩
def ED(M:Gl X x)(hn:dY x=ah)(G:X.mg x=aa (.ref C))(E:nh X.K C)(hc:X.calm=ah)(hl:c.length<=1000)(R:PE X e t)
(I:Inv X zt σ H s)
(h:t σ H λv H1=>v7 v/\∀V h2 a args,Inv X zt σ H1 V->XS V.heap h2 a (.ref C) args->X.xe (.ref a) {V with heap:=h2}):
 az (VC X.prog X.w) X.A (exec (.Raise (aa (.Call (.Name x np) [.JoinedStr [.Constant (.str c) j p1,.FormattedValue e 114 af p2] p3] [] cpos)) af pos) X.env) Q X.xe s:=by
 obtain⟨bm,N,nm,i,bs,hdct,sn,sub,ab,col,dd,k0,k1,k2,k3,k5,mN,hC,S,d,T,_⟩:=E.obj I.mod.kin;have f:(x==("__debug__":aA))=ak:=by unfold dY at hn;simp only[Vg]at hn;simpa using hn.1.1
 refine wpAny_Raise_call_subT (C:=C) (nm:=nm) (q:=i) (N:=N) (bs:=bs) (bm:=bm) (hdct:=hdct) (sn:=sn) (sub:=sub) (ab:=ab) (col:=col) (dd:=dd) (k0:=k0) (k1:=k1) (k2:=k2) (k3:=k3) (k5:=k5)
  ZT (mN:=mN) (T.hasType PySem.F.excBase_ValueError.hasBase) (I.ok.hd hc) rfl d (ja I M G ⟨rfl,?_⟩ f)
 refine X0 (WL (wpAny_JoinedStr (pos:=p3) ?_));show az _ _ (eval (.Constant (.str c) j p1) X.env) _ _ s;have lz:(1000:Nat)+50000<=ao:=by decide
 have z:(Xn++c).length<=1000:=by rw[Yo];show 0+c.length<=1000;lia
 refine Ym ⟨_,_,rfl,VJ z (by lia),?_⟩;show az _ _ (eval (.FormattedValue e 114 af p2) X.env) _ _ _;refine abb (thn (R zt _ σ H _ (I.tok _) h) λu V n=>?_);obtain⟨v,H1,l,p,D,m⟩:=n;obtain⟨g,r,o⟩:=EC (P:=X.prog) (w:=X.w) D p;refine o ?_;have k:((Xn++c)++g).length<=ao:=by rw[Yo];lia
 have fin:∀ (Z:Tok) (b:Vh),Inv X zt σ H1 b->∃ y t,(Xi (g) Z)=.str y t/\(Xn++c++y).length<=ao/\Joins (VC X.prog X.w) X.A X.xe [] (Xn++c++y) (λU O=>U.length<=ao/\az (VC X.prog X.w) X.A (aaq (Xh cpos (VR [] X.env))) (λY L=>(⟨Xi U O.toks::Y,[]⟩:Args).kw=[]/\(⟨Xi U O.toks::Y,[]⟩:Args).pos.length<=ao/\L.heap.get? C=aa (Y7 nm i C N bs bm hdct sn sub ab col dd k0 k1 k2 k3 k5 "ValueError.__new__")/\L.heap.Ns N mN/\OwnTail L.heap [.type "ValueError",.type "Exception",.type "BaseException",.type "object"] bm ∧
  ∀ W e,XS L.heap W e (.ref C) (⟨Xi U O.toks::Y,[]⟩:Args).pos->X.xe (.ref e) { L with heap:=W }) X.xe { O with toks:=O.toks+1 }) b:=λZ b J=>by
  refine⟨_,Z,rfl,k,k,Yz ?_⟩;exact⟨rfl,by show 1<=ao;decide,J.bk _ _ hC,S.keeps J.bk,T.keeps J.bk,λW a B=>m _ W a _ (J.tok _) B⟩
 refine wpAny_formatField_str (fin _ _ (l.tok _)) (fin _ _ ((l.tok _).tok _)) (VJ r (by lia))
def Bv{X:Cx}{x:aA}{C:aB}{c V:aA}{e e2:Vj}{t n:TE}{j E:Nat}{np B p2 z r p cpos pos:Pos}(hg:Gl X x)(hn:dY x=ah)(hm:X.mg x=aa (.ref C))(hq:nh X.K C)(hc:X.calm=ah)(hl:c.length<=1000)(hl2:V.length<=1000)(he:PE X e t)(g:PE X e2 n)
{zt:List (aB×au)}{s:Vh}{σ:L2.St}{H:Hp}{Q:Flow->Vh->Prop}(I:Inv X zt σ H s)
(h:t σ H λl H0=>(∃i:Int,l=.int i/\i.natAbs<2^64)/\n σ H0 λv H1=>v7 v/\∀W h2 a args,Inv X zt σ H1 W->XS W.heap h2 a (.ref C) args->X.xe (.ref a) {W with heap:=h2}):
 az (VC X.prog X.w) X.A (exec (.Raise (aa (.Call (.Name x np) [.JoinedStr [.Constant (.str c) j B,.FormattedValue e (-1) af p2,.Constant (.str V) E r,.FormattedValue e2 114 af p] z] [] cpos)) af pos) X.env) Q X.xe s:=by
 obtain⟨bm,N,nm,o,bs,hdct,sn,sub,ab,col,dd,k0,k1,k2,k3,k5,mN,hC,hN,f,T,_⟩:=hq.obj I.mod.kin;have k:(x==("__debug__":aA))=ak:=by unfold dY at hn;simp only[Vg]at hn;simpa using hn.1.1
 refine wpAny_Raise_call_subT (C:=C) (nm:=nm) (q:=o) (N:=N) (bs:=bs) (bm:=bm) (hdct:=hdct) (sn:=sn) (sub:=sub) (ab:=ab) (col:=col) (dd:=dd) (k0:=k0) (k1:=k1) (k2:=k2) (k3:=k3) (k5:=k5)
  ZT (mN:=mN) (T.hasType PySem.F.excBase_ValueError.hasBase) (I.ok.hd hc) rfl f (ja I hg hm ⟨rfl,?_⟩ k)
 refine X0 (WL (wpAny_JoinedStr (pos:=z) ?_));show az _ _ (eval (.Constant (.str c) j B) X.env) _ _ s;have lz:(1000:Nat)+1921+1000+50000<=ao:=by decide
 have l0:(Xn++c).length<=1000:=by rw[Yo];show 0+c.length<=1000;lia
 refine Ym ⟨_,_,rfl,VJ l0 (by lia),?_⟩;show az _ _ (eval (.FormattedValue e (-1) af p2) X.env) _ _ _;refine wpAny_FormattedValue_plain (thn (he zt _ σ H _ (I.tok _) h) λu0 s0 ⟨l,H0,I0,r0,⟨i,hv0,hi⟩,post0⟩=>?_);subst hv0;obtain⟨tk,rfl⟩:=r0;have lf:(Vu (toString i)).length<=1921:=by rw[aaY];exact int_text_length_le (by decide) (lJ hi)
 refine wpAny_formatField_int (lJ hi) ?_;have l1:((Xn++c)++Vu (toString i)).length<=1000+1921:=by rw[Yo];lia
 refine⟨_,_,rfl,VJ l1 (by lia),?_⟩;show az _ _ (eval (.Constant (.str V) E r) X.env) _ _ _;have l2:((Xn++c)++Vu (toString i)++V).length<=1000+1921+1000:=by rw[Yo];lia
 refine Ym ⟨_,_,rfl,VJ l2 (by lia),?_⟩;show az _ _ (eval (.FormattedValue e2 114 af p) X.env) _ _ _;refine abb (thn (g zt _ σ H0 _ (((I0.tok _).tok _).tok _) post0) λu W R=>?_);obtain⟨v,H1,G,r1,hv,M⟩:=R;obtain⟨m,li,S⟩:=EC (P:=X.prog) (w:=X.w) hv r1;refine S ?_;have D:((Xn++c)++Vu (toString i)++V++m).length<=ao:=by rw[Yo];lia
 have fin:∀ (b:Tok) (d:Vh),Inv X zt σ H1 d->∃ y t,(Xi (m) b)=.str y t/\(Xn++c++Vu (toString i)++V++y).length<=ao/\Joins (VC X.prog X.w) X.A X.xe [] (Xn++c++Vu (toString i)++V++y) (λU O=>U.length<=ao/\az (VC X.prog X.w) X.A (aaq (Xh cpos (VR [] X.env))) (λZ L=>(⟨Xi U O.toks::Z,[]⟩:Args).kw=[]/\(⟨Xi U O.toks::Z,[]⟩:Args).pos.length<=ao/\L.heap.get? C=aa (Y7 nm o C N bs bm hdct sn sub ab col dd k0 k1 k2 k3 k5 "ValueError.__new__")/\L.heap.Ns N mN/\OwnTail L.heap [.type "ValueError",.type "Exception",.type "BaseException",.type "object"] bm ∧
  ∀ Y e,XS L.heap Y e (.ref C) (⟨Xi U O.toks::Z,[]⟩:Args).pos->X.xe (.ref e) { L with heap:=Y }) X.xe { O with toks:=O.toks+1 }) d:=λb d J=>by
  refine⟨_,b,rfl,D,D,Yz ?_⟩;exact⟨rfl,by show 1<=ao;decide,J.bk _ _ hC,hN.keeps J.bk,T.keeps J.bk,λY a hx=>M _ Y a _ (J.tok _) hx⟩
 refine wpAny_formatField_str (fin _ _ (G.tok _)) (fin _ _ ((G.tok _).tok _)) (VJ li (by lia))
section
variable{K:Ve}{E:XK}
def zL{h h':av}{c:aB}{v:Option aC}(x:h.IsCell c v)(u:h.UpToSlots h'):h'.IsCell c v:=by
 obtain⟨o,L,J⟩:=x;obtain⟨U,q⟩:=u c o L λO z=>by rw[J]at z;cases z
 exact⟨_,q,J⟩
def zM{zt:List (aB×au)}{σ:L2.St}{H1 H2:Hp}{Y s2:Vh}{G h':av}(I:Inv (dX CX P w K mg base N qual scope f cd A outer s H E) zt σ H1 Y)(J:Inv (dX CX P w K mg base N qual scope f cd A outer s H E) zt σ H2 s2)
(O:∀b o,Y.heap.get? b=aa o->b∉frs (dX CX P w K mg base N qual scope f cd A outer s H E).stack->∃o',B.get? b=aa o'/\(H1 b=af->o'=o))(F:HOk P w H2 G)(W:∀b o,H2 b≠af->G.get? b=aa o->B.get? b=aa o)
(st:B.StaysIn h')(up:s2.heap.UpToSlots h'):Inv (dX CX P w K mg base N qual scope f cd A outer s H E) zt σ H2 {s2 with heap:=h'}:=by
 have L:∀b o,s.heap.get? b=aa o->b∉frs outer->∃o',B.get? b=aa o'/\(H b=af->o'=o):=λb o e a=>by obtain⟨l,q⟩:=I.base.there b o e (by simp[dX]);obtain⟨j,h,g⟩:=O b l q (jd I e a);refine⟨j,h,λn=>?_⟩;have k:=I.base.keep b o e n a (by simp[dX]);rw[q]at k;rw[g (I.base.free b o e n (by simp[dX]))];exact Vp k
 refine⟨J.ok,J.os,J.bare,xZ J L st up,?_,λx c e=>?_,J.free,J.freeC,λp Z=>?_,ux F W st,J.len⟩
 ·obtain⟨m,hn,D⟩:=J.loc;refine⟨m,up.ns hn,λi x v R Q M=>?_⟩;obtain⟨u,r,q⟩:=D i x v R Q M;refine⟨u,r,?_⟩;rcases q with q|⟨k,c,e,z⟩
  exact .inl q;exact .inr ⟨k,c,e,zL z up⟩
 ·obtain⟨v,z⟩:=J.cell x c e;exact⟨v,zL z up⟩
 ·obtain⟨e,n,y,t,d⟩:=J.pin p Z;obtain⟨e1,C,V,U,S⟩:=I.pin p Z;have ns:p.1∉frs (dX CX P w K mg base N qual scope f cd A outer s H E).stack:=λz=>by
   rcases List.mem_cons.mp (I.lX p.1 z)with q|q
   exact V q;exact U q
  obtain⟨o',q,r⟩:=O p.1 p.2 e1 ns;rw[r C]at q;exact⟨st _ _ q,n,y,t,d⟩
end
section
variable{E:aC->Vh->Prop}
variable{D:aB}{hdct hdct2:Bool}{ab ab2:Bool}{dd:Option aB}{k2:Option aC}
def qH{os:OsState}
(Z:h.get? C=aa (Y7 nm q C N bs bm hdct sn sub ab col dd k0 k1 k2 k3 k5 newId))(V:h.get? D=aa (Y7 nm2 q2 D N2 bs2 bm2 hdct2 sn2 sub2 ab2 col2 dd2 j0 j1 j2 j3 j5 newId2))(Y:h.get? e=aa oe)(L:oe.cls=.ref C)(J:bm2.contains (.type "BaseException")=ah)
(O:(Wm C::bm).contains (.ref D)=ah)(W:Q ah ⟨h,g,d,t,os⟩):az M A (excMatches (.ref e) (.ref D)) Q E ⟨h,g,d,t,os⟩:=by
 have U:(Wm D::bm2).contains (.type "BaseException")=ah:=by rw[Zu,J,Bool.or_true]
 have f:=tc_notTuple;unfold excMatches
 repeat (first|(with_reducible refine wpAny_loadPart_at Y ?_;rw[L])|with_reducible refine wpAny_loadPart_at V ?_|(with_reducible refine wpAny_isSubtype_exc V ?_;rw[U])|(with_reducible refine wpAny_isSubtype_exc Z ?_;rw[O])|wp_step)
 exact W
end
noncomputable def nY(K:Ve)(C D:aB):Bool:=match K.lookup C with
 |some ⟨_,_,.cls cd,_⟩=>cd.mro.contains (.ref D)|_=>ak
section
variable{K:Ve}{E:XK}
end
end BS
end
section
namespace BT
open PySem
noncomputable abbrev XF:=FK->List W->HH->Option (aA×HH)
def rsM(R:XF)(m:aA)(O:HH->Option (List W×HH))(x:W)(h:HH):Option (aA×HH):=match x with
 | .o n=>(match oat h n with
  | some (c,fs)=>(match dR m fs with
   |none=>bnd (O h) λJ L=>R (.m c m) (.o n::J) L
   | some _=>af)
  | none=>af)
 |_=>af
def TL(R:XF)(m:aA)(V:HH->Option (List W×HH))(L:Nat)(J:Option (List Cp))(x:W)(h:HH):Option (aA×HH):=match x with
 | .o n=>(match oat h n with
  | some (c,fs)=>(match dR m fs with
   | none=>bnd (V h) λO U=>(match J with
    |some Y=>R (.m c m) (.o n::(O++[.c (.l L) Y])) U
    | none=>af)
   | some _=>af)
  | none=>af)
 |_=>af
noncomputable def rsI(x:Option (W×HH))(a b:HH->Option (aA×HH)):Option (aA×HH):=match x with
 |some (.p (.bl ah),h)=>a h|some (.p (.bl ak),h)=>b h|_=>af
noncomputable def rsC(x:Option (List W×HH))(k:List W->HH->Option (aA×HH))(d:Option (aA×HH)):Option (aA×HH):=match x with
 |some (ws,g)=>k ws g|none=>d
noncomputable def rsA(x:Option (W×HH))(k:HH->Option (aA×HH))(d:Option (aA×HH)):Option (aA×HH):=match x with
 |some (_,g)=>k g|none=>d
def nk:D->Bool
 |.int i=>big i|.str x=>decide ((reprText x).length<=50000)|.aF=>ah|.bl _=>ah|_=>ak
@[simp]theorem Rz(i:Int):nk (.int i)=big i:=rfl
@[simp]theorem RB:nk .aF=ah:=rfl
@[simp]theorem RC(b:Bool):nk (.bl b)=ah:=rfl
@[simp]theorem RE(x:aA):nk (.str x)=decide ((reprText x).length<=50000):=rfl
def rsV(R:XF)(o:Option (Option W))(ws:List W)(h:HH):Option (aA×HH):=match o with
 |some (aa (.c k cs))=>if noC ws then R k (ws++cs.map Cp.w) h else af
 |_=>af
@[simp]theorem UX(R:XF)(k:FK)(J:List Cp)(ws:List W)(h:HH):rsV R (aa (aa (.c k J))) ws h=if noC ws then R k (ws++J.map Cp.w) h else af:=rfl
noncomputable def nZ:S->Bool
 |.rai _ _=>ah|.rai2 _ _ _=>ah
 |.seq a b=>nZ a||nZ b
 |.v _ a b=>nZ a||nZ b
 |_=>ak
noncomputable def orX(x:Option (aA×HH))(y:Option (aA×HH)):Option (aA×HH):=match x with
 |some r=>aa r|none=>y
theorem P9(y:Option (aA×HH)):orX af y=y:=rfl
noncomputable def Qa(x:Option Fl)(k:Sl->HH->Option (aA×HH))(d:Option (aA×HH)):Option (aA×HH):=match x with
 |some (.nx s h)=>k s h|some (.ct s h)=>k s h|some _=>af|none=>d
def EE(b:Sl->HH->Option Fl)(rb:Sl->HH->Option (aA×HH))(tg:List (Nat×aA)):List aQ->Sl->HH->Option (aA×HH)
 |[],_,_=>af
 |d::r,s,h=>match target tg.length d with
  |some J=>Qa (b (sets tg J s) h) (EE b rb tg r) (rb (sets tg J s) h)|none=>af
def v8(b:Sl->HH->Option Fl)(rb:Sl->HH->Option (aA×HH))(tg:List (Nat×aA))(J:Sr)(s:Sl)(ws:List W)(h:HH):Option (aA×HH):=match (rds ws h).bind (gy J)with
 |some L=>if iB ws then EE b rb tg L s h else af
 |none=>af
def qI(f:List aQ->HH->Option (Option aQ×HH))(g:List aQ->HH->Option (aA×HH))(n:Nat):List aQ->HH->Option (aA×HH)
 |[],_=>af
 |d::r,h=>match target n d with
  | some J=>(match f J h with
   |some (_,h')=>qI f g n r h'
   | none=>g J h)
  |none=>af
def n8(L:Sr)(n:Nat)(fs:Option Sl)(V:Sl->HH->Option (List W×HH))(U:Sl->EH)(O:Sl->HH->Option (aA×HH))(ws:List W)(h:HH):Option (aA×HH) :=
 match (rds ws h).bind (gy L),fs with
 |some ds,aa fs=>if iB ws=ah/\ds.length<=lim then qI (fD V U fs) (λJ h=>O (J.map fB++fs) h) n ds h else af
 |_,_=>af
def rsQ(m:Me)(x:Option (W×HH))(k:HH->Option (aA×HH)):Option (aA×HH):=match m,x with
 |.append,aa (.r n,h)=>if lO (.r n) h then k h else af
 |_,_=>af
section
variable(F:FK->List W->HH->Option (W×HH))(R:XF)(D:aA->Bool)(G:aA->Option W)
mutual
noncomputable def rsE:E->Sl->HH->Option (aA×HH)
 |.aH o m as,s,h=>bnd (ev F G o s h) (rsM R m (evs F G as s))|.methL o m as L fv,s,h=>bnd (ev F G o s h) (TL R m (evs F G as s) L (caps s fv))|.bi _ _ as,s,h=>jx as s h|.call f as,s,h=>rsC (evs F G as s h) (R (.f f)) (if D f then jx as s h else af)|.y a _,s,h=>rsE a s h|.bin _ a _,s,h=>rsE a s h|.z _ a _,s,h=>rsE a s h|.ite c a b,s,h=>rsI (ev F G c s h) (rsE a s) (rsE b s)|.aD _ as,s,h=>jx as s h|.callv i as,s,h=>rsC (evs F G as s h) (rsV R s[i]?) af|.me m o as,s,h=>rsQ m (ev F G o s h) (jx as s)|.comp _ sr sa tg fv _ elt,s,h=>rsC (evs F G sa s h) (n8 sr tg.length (frees s fv) (evs F G .nil) (ev F G elt) (rsE elt)) af|_,_,_=>af
noncomputable def jx:Es->Sl->HH->Option (aA×HH)
 |.cons a r,s,h=>rsA (ev F G a s h) (jx r s) (rsE a s h)|.nil,_,_=>af
end
def rsS:S->Sl->HH->Option (aA×HH)
 | .rai c e,s,h=>(match ev F G e s h with
  |some (.p d,h')=>if nk d then aa (c,h')else af
  | _=>af)
 | .rai2 c a e,s,h=>(match ev F G a s h with
  | some (.p (.int i),h1)=>if big i then (match ev F G e s h1 with
   |some (.p d,h')=>if nk d then aa (c,h')else af
   | _=>af) else af
  | _=>af)
 | .seq a b,s,h=>(match evS F G a s h with
  |some (.nx s' h')=>rsS b s' h'|some _=>af
  | none=>rsS a s h)
 |.v c a b,s,h=>rsI (ev F G c s h) (rsS a s) (rsS b s)|.ex e,s,h=>rsE F R D G e s h|.ret e,s,h=>rsE F R D G e s h|.set _ e,s,h=>rsE F R D G e s h|.j c _,s,h=>rsE F R D G c s h|.for tg sr sa b,s,h=>orX (jx F R D G sa s h) (if nZ b then rsC (evs F G sa s h) (v8 (evS F G b) (rsS b) tg sr s) af else af)|_,_,_=>af
end
section
variable{F:FK->List W->HH->Option (W×HH)}{R:XF}{D:aA->Bool}{G:aA->Option W}{s:Sl}{h:HH}
theorem xe1:rsE F R D G (.aH o m as) s h=bnd (ev F G o s h) (rsM R m (evs F G as s)):=rfl
theorem xe3:rsE F R D G (.bi b mu as) s h=jx F R D G as s h:=rfl
theorem xe4:rsE F R D G (.call f as) s h=rsC (evs F G as s h) (R (.f f)) (if D f then jx F R D G as s h else af):=rfl
theorem xe8:rsE F R D G (.ite c a b) s h=rsI (ev F G c s h) (rsE F R D G a s) (rsE F R D G b s):=rfl
theorem xa1:jx F R D G (.cons a r) s h=rsA (ev F G a s h) (jx F R D G r s) (rsE F R D G a s h):=rfl
theorem xa2:jx F R D G .nil s h=af:=rfl
theorem xs1:rsS F R D G (.rai c e) s h=(match ev F G e s h with
 |some (.p d,h')=>if nk d then aa (c,h')else af
 | _=>af):=rfl
theorem xs2:rsS F R D G (.seq a b) s h=(match evS F G a s h with
 |some (.nx s' h')=>rsS F R D G b s' h'|some _=>af
 | none=>rsS F R D G a s h):=rfl
theorem xs3:rsS F R D G (.v c a b) s h=rsI (ev F G c s h) (rsS F R D G a s) (rsS F R D G b s):=rfl
theorem xs5:rsS F R D G (.ret e) s h=rsE F R D G e s h:=rfl
theorem xs6:rsS F R D G (.set i e) s h=rsE F R D G e s h:=rfl
theorem xs9{tg:List (Nat×aA)}{L:Sr}{J:Es}{b:S}:rsS F R D G (.for tg L J b) s h=orX (jx F R D G J s h) (if nZ b then rsC (evs F G J s h) (v8 (evS F G b) (rsS F R D G b) tg L s) af else af):=rfl
theorem xeQ{m:Me}{o:E}{as:Es}:rsE F R D G (.me m o as) s h=rsQ m (ev F G o s h) (jx F R D G as s):=rfl
theorem xeC{mu:Bool}{L:Sr}{O:Es}{tg:List aA}{U:List (Nat×aA)}{cond:Es}{J:E}:rsE F R D G (.comp mu L O tg U cond J) s h=rsC (evs F G O s h) (n8 L tg.length (frees s U) (evs F G .nil) (ev F G J) (rsE F R D G J)) af:=rfl
theorem xsR{c:aA}{a e:E}:rsS F R D G (.rai2 c a e) s h=(match ev F G a s h with
 | some (.p (.int i),h1)=>if big i then (match ev F G e s h1 with
  |some (.p d,h')=>if nk d then aa (c,h')else af
  | _=>af) else af
 | _=>af):=rfl
end
noncomputable def dk(T:FK->Option Fn)(f:aA):Bool:=(T (.f f)).isSome
def gP(T TX:FK->Option Fn)(G:aA->Option W):Nat->FK->List W->HH->Option (aA×HH)
 |0,_,_,_=>af
 |k+1,f,ws,h=>match TX f with
  |some fn=>if ws.length=fn.ps.length then rsS (runN T G k) (gP T TX G k) (dk T) G fn.body (d8 fn.ns.length ws) h else af
  |none=>af
def HL(L:TX f=aa fn)(J:ws.length=fn.ps.length):
 gP T TX G (k+1) f ws h=rsS (runN T G k) (gP T TX G k) (dk T) G fn.body (d8 fn.ns.length ws) h:=by
 rw[gP,L];exact bM J
end BT
end
section
namespace BS
open PySem PySem.Spec PyProof.Rows L2
variable{K:Ve}{xe':aC->Vh->Prop}
def XW(K:Ve)(E:XK)(m:List aB)(H:Hp)(c:aA)(h':aO):Prop:=∀J L,Ext m H L J->RH K L J h'->∀C,CN K c C->E (.ref C) af J
def XW.ext{E:XK}{m J:List aB}{H H1:Hp}{c:aA}{h':aO}(w:XW K E m H c h')(x:Ext m H J H1):XW K E J H1 c h':=λU L y R C O=>w U L (x.trans y) R C O
inductive spX(P:Vy)(w:VQ)(K:Ve)(g:List aP->aO->Option (aA×aO))(vs:List V)(H:Hp)(Q:VK)(E:XK):Prop
 |mk(m:List aB)(ws:List aP)(h:aO)(c:aA)(h':aO)(R:RH K m H h)(r:RWs P w K m H vs ws)(e:g ws h=aa (c,h'))(p:XW K E m H c h'):spX P w K g vs H Q E
inductive Qc(P:Vy)(w:VQ)(K:Ve)(mg:aA->Option aC)(base:av)(A:V9)(f:aA)(sp:Sp):Prop
 |mk(J:aB)(fd:Wp)(ps:List aA)(k:Nat)(h1:mg f=aa (.ref J))(h2:We K (.ref J)=ah)(U:Binds K fd ps [])(L:fG k A)(O:gO P w K mg base (CX1 P w) k J fd ps sp):Qc P w K mg base A f sp
def Mg(P:Vy)(w:VQ)(K:Ve)(mg:aA->Option aC)(base:av)(k L:Nat)(g:List aP->aO->Option (aA×aO)):Prop :=
 ∀(A:V9)(J:List Env)(s:Vh)(H:Hp) (f:aB) (Y:List aC) (W O:List V) (m:List aB) (U:List aP) (a:List BT.Cp) (h:aO) (c:aA) (Z:aO) (Q:VK) (E:XK),
  fG k A->tG P w K mg base A J s H->dD W Y->RH K m H h->RWs P w K m H W U->BT.noC U=ah->qq m H f L O->RCs K m H O a->g (U++a.map BT.Cp.w) h=aa (c,Z)->XW K E m H c Z →
  aq (VC P w) A (.call (.ref f) ⟨Y,[]⟩) (CR (CX1 P w) J P w H s Q E) s
structure OkX(X:Cx)(R:BT.XF)(D:aA->Bool)(E:XK):Prop where
 aH:∀(c m:aA) ws h r,R (.m c m) ws h=aa r->OkM X.prog X.w X.K X.mg X.base X.A (CX1 X.prog X.w) c m (spX X.prog X.w X.K (R (.m c m)))
 call:∀(f:aA) ws h r,R (.f f) ws h=aa r->Qc X.prog X.w X.K X.mg X.base X.A f (spX X.prog X.w X.K (R (.f f)))
 aG:∀f,D f=ah->∃fa,X.mg f=aa (.ref fa)/\We X.K (.ref fa)=ah
 pass:iA (CX1 X.prog X.w) X E
 lam:∀(L:Nat) ws h r,R (.l L) ws h=aa r->∃k,fG k X.A/\Mg X.prog X.w X.K X.mg X.base k L (R (.l L))
def PXE(X:Cx)(e:Vj)(t:L2.St->Hp->Prop):Prop:=∀(L:List (aB×au)) (s:Vh) (J:L2.St) (H:Hp) (Q:aC->Vh->Prop),Inv X L J H s->t J H->az (VC X.prog X.w) X.A (eval e X.env) Q X.xe s
def PXS(X:Cx)(st:VE)(t:L2.St->Hp->Prop):Prop:=∀(L:List (aB×au)) (s:Vh) (J:L2.St) (H:Hp) (Q:Flow->Vh->Prop),Inv X L J H s->t J H->az (VC X.prog X.w) X.A (exec st X.env) Q X.xe s
def PXA(X:Cx)(es:List Vj)(t:L2.St->Hp->Prop):Prop:=∀(J:Pos)(O:List (aB×au)) (s:Vh) (L:L2.St) (H:Hp) (Q:List aC->Vh->Prop),Inv X O L H s->t L H->az (VC X.prog X.w) X.A (aaq (Xh J (VR es X.env))) Q X.xe s
def TM(X:Cx)(st:List VE)(t:L2.St->Hp->Prop):Prop:=∀(L:List (aB×au)) (s:Vh) (J:L2.St) (H:Hp) (Q:Flow->Vh->Prop),Inv X L J H s->t J H->az (VC X.prog X.w) X.A (execs st X.env) Q X.xe s
inductive xD(X:Cx)(E:XK)(g:bq->aO->Option (aA×aO))(σ:L2.St)(H:Hp):Prop
 |mk(m:List aB)(s:bq)(h:aO)(c:aA)(h':aO)(R:RH X.K m H h)(S:RS X.prog X.w X.K m H σ s)(e:g s h=aa (c,h'))(p:XW X.K E m H c h'):xD X E g σ H
def cpX(M:Model)(A:V9)(E:aC->Vh->Prop)(Q:aC->Vh->Prop)(J:aC)(C:aB)(L:Option aB)(r:Z7)(z:Vh):Prop :=
 match r with
 |.ok _=>∃m,z.heap.Ns C m/\∀g,V6 C z.heap g->Q J {z with heap:=g}|.error x=>∃m,z.heap.Ns C m/\∀g,V6 C z.heap g->∀ce:Env,ce.locals=C->ce.frame=L->az M A (PySem.passOn "comprehension.variables-let-go" x ce:Sem aC) (λ_ _=>False) E {z with heap:=g}
section
variable{M:Model}{A:V9}{E:aC->Vh->Prop}{s:Vh}{env:Env}
def EF{e:Vj}{scope:V8}{pos:Pos}{Z d:Sem aC}{g:aah}{q:List aah}{cl:List (aA×aB)}{Q:aC->Vh->Prop}
(h1:clausesOf e=g::q)(h2:∀x,aas g.iter env x=pure x)(p:closureFor scope env=pure cl)(c:scope.kind=.function)(o:∀x∈scope.names,x.2=.local->scope.names.lookup x.1=aa .local)
(h:az M A d (λx Y=>az M A (pyIter x) (λa s2=>az M A Z (λJ s3=>az M A (newFunctionEnv scope env.globals cl [] env.qual af .none (aa env)) (λce W =>
  ce.frame=env.frame/\aq M A (.compStart e 0 a J { ce with scope:=relabel scope env }) (cpX M A E Q J ce.locals env.frame) W) E s3) E s2) E Y) E s):az M A (Z4 e scope env pos Z ak d af) Q E s:=by
 unfold Z4;rw[p,h1];refine Vf (thn h λx Y k=>Vf (Yn (Vf (wpAny_of_eq (h2 x) (Vf (V3 (thn k λa s2 k2=>wpAny_standIf (Vf (thn k2 λJ s3 j=>Vf (ay (Vf (thn j λce W U=>?_))))))))))));obtain⟨i,U⟩:=U;dsimp only;have b:∀x∈(scope.names.filter λx=>(x.2==.local||x.2==.cell)&&x.1 != (".0":aA)).reverse,x.2=.local->Env.kindOf {ce with scope:=relabel scope env} x.1=aa .local :=
  λx l n=>lookup_relabel_local (o x (List.mem_filter.mp (List.mem_reverse.mp l)).1 n)
 refine V3 (Vf (abw (V3 (wpAny_run (codeAny_mono U λr z L=>?_)))));cases r with
 |ok f =>
  obtain⟨m,hn,L⟩:=L;exact Vf (V3 (wpAny_comp_letGo (cenv:={ce with scope:=relabel scope env}) c _ z m b hn λV _ _ O=>ay (L V O)))
 |error x =>
  obtain⟨m,hn,L⟩:=L;exact Vf (V3 (wpAny_comp_letGo (cenv:={ce with scope:=relabel scope env}) c _ z m b hn λV _ _ O=>Wk (L V O _ rfl i) (λ_ _ f=>f.elim) λ_ _ y=>y))
end
section
variable{prog:Vy}{w:VQ}{A:V9}{s:Vh}
def ya{J target iter:Vj}{scope:V8}{pos:Pos}{O L:aC}{env:Env}{R:Z7->Vh->Prop}(I:Nat->Vh->Prop)
(turn:∀ n s,I n s->az (VC prog w) A (Zz O) (λr U=>match r with
  |none=>R (.ok .next) U
  | some v=>az (VC prog w) A (Yv target O v) (λ_ s0=>az (VC prog w) A (Z5 target env v) (λ_ s2 =>
   az (VC prog w) A (eval J env) (λx V=>az (VC prog w) A (call (.builtin "list.append") [L,x]) (λ_ s5=>∃ m,m < n/\I m s5) (λ_ _=>False) V) (notedBy (VC prog w) A env λx s'=>R (.error x) s') s2) (λ_ _=>False) s0) (λ_ _=>False) U) (λ_ _=>False) s)
(n:Nat)(h:I n s):aq (VC prog w) A (.compLoop (.ListComp J [⟨target,iter,[],0⟩] scope pos) 0 O L env) R s:=by
 refine codeAny_loop rfl I (λn s b=>?_) n h;show az _ A ((compTurn (.ListComp J [⟨target,iter,[],0⟩] scope pos) 0 O L env).onRaise (λx=>do Z3 x env;theTreesLotGoes x)) _ _ s;refine wpAny_noted ?_;rw[compTurn_list];refine Vf (Yn (Vf (Wk (turn n s b) (λr U W=>?_) λ_ _ z=>z.elim)));cases r with
 |none=>exact ay W
 |some v =>
  refine Vf (Wk W (λ_ s0 a=>?_) λ_ _ z=>z.elim);refine Vf (Wk a (λ_ s2 k2=>Vf (wpAny_tests_nil ?_)) λ_ _ z=>z.elim);exact Vf (Vf (thn k2 λx V Z=>Vf (Wk Z (λ_ s5 Y=>ay (ay ⟨rfl,Y⟩)) λ_ _ z=>z.elim)))
end
def Bw{B h1 h2:av}{l:List Env}{e L C:aB}{cls g:aC}(x:aaI B l e cls g L h1)(hc:∃o,B.get? C=aa o)(J:V6 C h1 h2):aaI (Ws B [C]) l e cls g L h2:=by
 obtain⟨D,hc⟩:=hc;have O:∀{b:aB},B.get? b=af->b≠C:=λ{b} q z=>by rw[z,hc]at q;exact cX q.symm
 have hn:∀{b:aB},B.get? b=af->(Ws B [C]).get? b=af:=λ{b} q=>by
  cases z:(Ws B [C]).get? b with
  |none=>rfl
  |some o=>have:=Ye _ z;rw[q]at this;exact cX this
 obtain⟨V,k2,t,n,i,T,p,j,e1,e2,f,d,U,c,a,Z,Y⟩:=x;refine⟨λb o q=>?_,hn k2,?_,n,i,T,p,j,(J.2 e (O k2)).trans e1,e2,f,d,hn U,c,(J.2 T (O U)).trans a,Z,Y⟩
 ·have s:b≠C:=λz=>by rw[z,aaN [C] (by simp)]at q;exact cX q
  exact(J.2 b s).trans (V b o (Ye _ q))
 ·clear e1 e2 f d U c a Z Y V k2
  induction l with
  |nil=>trivial
  |cons A r u =>
   obtain⟨m,⟨h,o,y,W,w,v⟩,k⟩:=t;exact⟨m,⟨h,o,y,hn W,(J.2 h (O W)).trans w,v⟩,u k⟩
def v9{M:Model}{A:V9}{E:aC->Vh->Prop}{s:Vh}{B:av}{l:List Env}{e L:aB}{cls j:aC}{Q:Unit->Vh->Prop}(x:aaI B l e cls j L s.heap)
(q:∀g,aaI B l e cls j L g->s.heap.UpToSlots g->Q () {s with heap:=g}):az M A (setFlight (.ref e) (aa L)) Q E s:=by
 obtain⟨n,k2,m,k,W,T,r,Z,e1,e2,i,h,d,c,Y,V,p⟩:=x;have sz:3<Z.size:=(Array.getElem?_eq_some_iff.mp p).1;have U:∀b,b≠T->(s.heap.update T (Wl (·.setIfInBounds 3 ((aa L).elim WX λf=>Zn f)))).get? b=s.heap.get? b:=λb O=>WD _ _ (Wa O);have a:∀b o,s.heap.get? b=aa o->(∀W,o.data≠.fields W)->b≠T:=λb o O J z=>by rw[z,Y]at O;cases O;exact J Z V
 unfold setFlight;refine Vf (ZL e1 i h ?_);rw[bM (show(Wm T != WX)=ah by simp)];refine W5 Y V sz (q _ ⟨λb o z=>(U b λw=>by rw[w,d]at z;exact cX z).trans (n b o z),k2,m.of_keeps λb o O J=>⟨o,(U b (a b o O J)).trans O,rfl⟩,?_⟩ λb o O J=>⟨o.slots,(U b (a b o O J)).trans O⟩);exact⟨k,W,T,_,_,(U e (Wa c)).trans e1,e2,i,h,d,c,VZ _ Y (Obj.isFreed_of_fields (Obj.data_mapFields V _)),Obj.data_mapFields V _,by simp[sz]⟩
def EG(X:Cx)(E:XK):Prop:=∀(W:List (aB×au)) (V:L2.St) (O:Hp) (J:Vh) (e:aC) (U:Vh) (C:aB) (m:aA->Option aC) (ce:Env) (Q:aC->Vh->Prop) (L:aC),Inv X W V O J->CX1 X.prog X.w X.stack O J E e U →
 J.heap.Ns C m->O C=af->X.s₀.heap.get? C=af->C∉frs X.stack->ce.frame=X.env.frame->notedBy (VC X.prog X.w) X.A ce (λx z=>cpX (VC X.prog X.w) X.A X.xe Q L C X.env.frame (.error x) z) e U
section
variable{P:Vy}{w:VQ}{K:Ve}{mg:aA->Option aC}{base:av}{N:List aA}{qual:aA}{scope:V8}{f:aB}{cd:aC}{A:V9}{outer:List Env}{s:Vh}{H:Hp}{E:XK}
def HM{E1:XK}(hE:∀C H',E1 (.ref C) af H'->E (.ref C) af H'):EG (dX (CX1 P w) P w K mg base N qual scope f cd A outer s H E) E1:=by
 intro zt σ H1 s1 e s' a mC ce Q acc I h hns hH h0 X hf;obtain⟨x,C,H',B,G,a0,rfl,e1,e2,un,ho,fl,p,hg,cv2,hE1⟩:=h;have J:Inv (dX (CX1 P w) P w K mg base N qual scope f cd A outer s H E) zt σ H' s':=I.yD (ch:=[]) e1 un ho e2 (λb z=>bO z (by simp));have h0:s.heap.get? a=af:=h0;obtain⟨oN,es,ep,j,hdN,rN⟩:=hns;obtain⟨R,qB,rB⟩:=p a oN j X;have eB:R=oN:=rB hH;subst eB;have hn:Z3 (.ref x) ce=Z3 (.ref x) (Xr qual scope s.heap.objs.size f cd):=by unfold Z3 PySem.frameOf;rw[hf];rfl
 unfold notedBy;rw[hn];refine wpAny_looks_onW I.ok.frames rfl fl λh4 W y=>?_;refine⟨mC,⟨R,es,ep,W.1 _ _ qB,hdN,rN⟩,λg sb ce' _ hf'=>?_⟩;have V:=Bw W ⟨_,qB⟩ sb;obtain⟨_,_,_,oe,vs,T,oT,ts,he,hc,hd,h1,_⟩:=id V;unfold PySem.passOn;refine Vf (ZL he hd h1 ?_);rw[bN (show ¬((Wm T==WX)=ah) by simp)];refine Vf ?_;rw[hf'];refine v9 V λh6 U v=>wpAny_throw ?_;show az (VC P w) (A.deeper (Xr qual scope s.heap.objs.size f cd)) (abB (Xr qual scope s.heap.objs.size f cd) (.ref x)) _ _ _;unfold abB;refine Vf (wpAny_noteFrame_againW rfl U.2.2.2 ?_);refine wpAny_landsW U λh7 l u=>?_;have stay:(Ws B [a]).StaysIn h7:=l.1;have i:∀b o,s.heap.get? b=aa o->b≠a:=λb o q z=>by rw[z,h0]at q;exact cX q
 have Y:∀b o,s.heap.get? b=aa o->b∉frs outer->∃d,(Ws B [a]).get? b=aa d/\(H b=af->d=o):=λb o q L=>by obtain⟨o1,O⟩:=I.base.there b o q (by simp[dX]);obtain⟨S,M,r2⟩:=p b o1 O (jd I q L);refine⟨S,Xj _ M (by simpa using i b o q),λn=>?_⟩;have k:=I.base.keep b o q n L (by simp[dX]);rw[O]at k;rw[r2 (I.base.free b o q n (by simp[dX]))];exact Vp k
 have hH':H' a=af:=un.free a R j hH (by simp);have m:∀ b o,H' b≠af->G.get? b=aa o->(Ws B [a]).get? b=aa o:=λb o n q=>Xj _ (cv2 b o n q) (by
  simp only[Zt]
  rintro rfl
  exact n hH')
 have up:∀b∈frs outer,∀o,s.heap.get? b=aa o->H b=af->∃F,h7.get? b=aa {o with slots:=F}:=λb L o q n=>by obtain⟨F,O⟩:=J.base.slot b o q n L (by simp[dX]);obtain⟨_,S,Z,c⟩:=I.ok.kE.mem L;have Z:s.heap.get? b=aa S:=Z;rw[q]at Z;cases Z;obtain⟨sl2,M⟩:=y b _ O c;have q3:=(sb.2 b (i b o q)).trans M;obtain⟨sl3,q4⟩:=v b _ q3 c;obtain⟨D,q5⟩:=u b _ q4 c;exact⟨D,q5⟩
 have t:Un (frs outer) [] H H' s.heap h7:=by
  refine⟨λb o q n L _=>?_,λb o q n L _=>up b L o q n,λb o q n _=>J.base.free b o q n (by simp[dX]),λb o q _=>?_,J.base.tups,J.base.frzs,J.base.tbls⟩
  ·obtain⟨d,O,r⟩:=Y b o q L;rw[r n]at O;exact stay b o O
  ·by_cases L:b∈frs outer
   ·obtain⟨F,O⟩:=up b L o q (I.ok.frf b L);exact⟨_,O⟩
   ·obtain⟨d,O,_⟩:=Y b o q L;exact⟨d,stay b d O⟩
 obtain⟨k1,k2,⟨_,_,k3⟩,k4⟩:=l;exact⟨x,C,H',_,G,a0,rfl,J.os,J.bare,t,ux hg m stay,⟨k1,k2,k3,k4⟩,Y,hg,m,hE C H' hE1⟩
end
noncomputable def cxE(X:Cx)(xe':aC->Vh->Prop):Cx:={X with xe:=xe'}
def Qd{X:Cx}{zt:List (aB×au)}{σ:L2.St}{H:Hp}{s:Vh}(I:Inv X zt σ H s):Inv (cxE X xe') zt σ H s :=
 ⟨⟨I.ok.mod,I.ok.kind,I.ok.glob,I.ok.blt,I.ok.above,I.ok.inj,I.ok.has,I.ok.cab,I.ok.hd,I.ok.frames,I.ok.stk,I.ok.exf,I.ok.bs,I.ok.bsz,I.ok.noex,I.ok.exfs,I.ok.kE,I.ok.frf⟩,
  I.os,I.bare,I.base,I.loc,I.cell,I.free,I.freeC,I.pin,I.aL,I.len⟩
def Mh{X:Cx}{zt:List (aB×au)}{σ:L2.St}{H:Hp}{s:Vh}(I:Inv (cxE X xe') zt σ H s):Inv X zt σ H s :=
 ⟨⟨I.ok.mod,I.ok.kind,I.ok.glob,I.ok.blt,I.ok.above,I.ok.inj,I.ok.has,I.ok.cab,I.ok.hd,I.ok.frames,I.ok.stk,I.ok.exf,I.ok.bs,I.ok.bsz,I.ok.noex,I.ok.exfs,I.ok.kE,I.ok.frf⟩,
  I.os,I.bare,I.base,I.loc,I.cell,I.free,I.freeC,I.pin,I.aL,I.len⟩
section
variable{X:Cx}{F:FT}{R:BT.XF}{D:aA->Bool}{G:aA->Option aP}{E:XK}{sc:V8}{N:List aA}
def TN(O:Ok X F G sc N)(J:¬ ∀x,X.fn x=ah)(own:aab (VC X.prog X.w) X.A X.env xe'):Ok (cxE X xe') F G sc N :=
 ⟨O.hsc,O.hN,O.nd,O.calm,O.hu,own,O.glob,O.call,O.aH,O.mkc,O.blt,O.lam,λL=>bO L J⟩
inductive LIX(X:Cx)(scope:V8)(tg:List aA)(fv:List (Nat×aA))(s2:Vh)(H1:Hp)(C:aB)(fp:List aB)(tn:Nat->av->Prop)(m1:List aB)(ds:List aQ)(fs:bq)(f:List aQ->aO->Option (Option aQ×aO))(g:List aQ->aO->Option (aA×aO))(r:aA×aO)(n:Nat)(s:Vh):Prop
 |mk(i:Nat)(L:L2.St)(H':Hp)(m':List aB)(O:aO)(us:List aC)(V:Nat)(J:bq)(p0:i<=ds.length)(Z:n=ds.length-i)(pl:us.length<=i)(p2:Inv (blk X (tg++fv.map (·.2)) s2 H1 scope C fp) [(s2.heap.objs.size,lobj us V)] L H' s)(p3:tn i s.heap)(p4:∀b∈fp,H' b=af)(p5:Ext m1 H1 m' H')(W:RH X.K m' H' O)(Y:RS X.prog X.w X.K m' H' L J)(p8:J.length=tg.length+fs.length)(p9:J.drop tg.length=fs)(U:BT.qI f g tg.length (ds.drop i) O=aa r):LIX X scope tg fv s2 H1 C fp tn m1 ds fs f g r n s
def EI(O:Ok X F G sc N)(O1:OkX X R D E)(HX:EG X E)(hu:fT N=ah){mu:Bool}{sr:bE}{sa:bg}{tg:List aA}{W:List (Nat×aA)}{cond:bg}{Y:bf}{te iter f:Vj}{scope:V8}{pos:Pos}
(hk:jP sc N tg W scope=ah)(ht:qo (d9 scope sc) tg te=ah)(hset:ju iter=ah)(hI:PI X te iter (iD X F G sr sa))
(hE:∀X',Ok X' F G (d9 scope sc) (tg++W.map (·.2))->PE X' f (tD X' F G Y))(hX:∀X',Ok X' F G (d9 scope sc) (tg++W.map (·.2))->OkX X' R D E->PXE X' f (xD X' E (BT.rsE F R D G Y))):
 PXE X (.ListComp f [⟨te,iter,[],0⟩] scope pos) (xD X E (BT.rsE F R D G (.comp mu sr sa tg W cond Y))):=by
 have cf:=JL hk;obtain⟨ct,tl,tloc⟩:=zE (fs:=W.map (·.2)) ht;have t0:tg≠[]:=by
  rintro rfl
  simp[qo]at ht
 intro zt s σ H Q' I q;rw[eval_ListComp];obtain⟨m,s',h,c0,h',RR,S,Z,zr⟩:=q;simp only[BT.xeC]at Z;cases e1:aZ F G sa s' h with
 |none=>rw[e1]at Z;exact cX Z
 |some wh =>
  obtain⟨ws,h1⟩:=wh;rw[e1]at Z;have Z:BT.n8 sr tg.length (bI s' W) (aZ F G .nil) (aN F G Y) (BT.rsE F R D G Y) ws h1=aa (c0,h'):=Z;unfold BT.n8 at Z;cases g1:(aV ws h1).bind (BT.gy sr)with
  |none=>rw[g1]at Z;exact cX Z
  |some j =>
   cases g2:bI s' W with
   |none=>rw[g1,g2]at Z;exact cX Z
   |some fs =>
    rw[g1,g2]at Z;simp only at Z
    by_cases ca:BT.iB ws=ah/\j.length<=BT.lim
    case neg=>rw[bN ca]at Z;exact cX Z
    rw[bM ca] at Z;obtain ⟨ca,dsl⟩:=ca;have hfree:BC.uq X.env.cells scope.names:=λx hx e=>I.ok.has x.1 (.inl (by
     have:=cf.free x hx e;show X.env.scope.names.lookup x.1=_;rw[O.hsc];exact this))
    refine EF rfl (pF hset) (BC.qF hfree) cf.k1 cf.loc
     (thn (hI zt s σ H (λJ H1=>∃m1,Ext m H m1 H1/\RH X.K m1 H1 h1/\vS X.K J m1 H1 j (m7 sr ws j)) I ⟨m,s',h,ws,h1,j,RR,S,e1,g1,.inl ca,λH1 m1 J x1 R1 it=>⟨m1,x1,R1,it⟩⟩) λv s1 hv=>thn hv λitv s2 h2'=>?_)
    obtain⟨it,fp,tn,J,H1,rfl,I1,T,st,M,m1,x1,R1,ito⟩:=h2';have B:∀b∈fp,b<s2.heap.objs.size:=λb L=>by obtain⟨o,ho,_⟩:=T.obj 0 _ st b L;exact Vq ho
    refine V1 (wpAny_newFunctionEnv cf.cell (by intro y hy;simp at hy) (λh3 hns t=>?_) cf.k1);dsimp only at hns t⊢;generalize hH2:s2.heap.push {cls:=.type "list",dict:=af,data:=.seq ([]:List aC).toArray}=H2 at hns t⊢;have k:H2.objs.size=s2.heap.objs.size+1:=by rw[←hH2,WB]
    have old:∀b o,s2.heap.get? b=aa o->h3.get? b=aa o:=λb o e=>t.extBut b o (by rw[k];exact VI (XQ (Vq e))) (Vk _ (hH2 ▸ Vk _ e));have hacc:h3.get? s2.heap.objs.size=aa (lobj [] 0):=t.extBut _ _ (by rw[k];exact VI (Wy _)) (Vk _ (hH2 ▸ Vw _ rfl));have I4:=zB (tk:=s2.toks+([]:List (aA×aC)).length) I1 O.hsc O.hN cf k M B old hns hacc;have O':=Ep (s2:=s2) (H1:=H1) (C:=H2.objs.size) (fp:=fp) O hu cf;obtain⟨g,hg1,hg2⟩:=sCT O' (O.calm hu) ct λq hq=>.inr (by rw[O'.hsc];exact tloc q hq);have hfl:fs.length=W.length:=(lH g2).1;have ltC:s2.heap.objs.size<H2.objs.size:=by rw[k];exact Wy _
    have O2:=TN (xe':=notedBy (VC X.prog X.w) X.A (blk X (tg++W.map (·.2)) s2 H1 scope H2.objs.size fp).env λx z=>cpX (VC X.prog X.w) X.A X.xe Q' (.ref s2.heap.objs.size) H2.objs.size X.env.frame (.error x) z) O' (λz=>aU (z "")) Yj;have O3:OkX (cxE (blk X (tg++W.map (·.2)) s2 H1 scope H2.objs.size fp) (notedBy (VC X.prog X.w) X.A (blk X (tg++W.map (·.2)) s2 H1 scope H2.objs.size fp).env λx z=>cpX (VC X.prog X.w) X.A X.xe Q' (.ref s2.heap.objs.size) H2.objs.size X.env.frame (.error x) z)) R D E:=by
     refine⟨O1.aH,O1.call,O1.aG,λpins' U H8 s8 e s9 l hcx=>?_,O1.lam⟩;have l:=Mh l;obtain⟨mm,hmm,_⟩:=l.loc;have J8:Inv X zt σ H8 s8:=I1.yD (ch:=fp) l.os l.base l.aL l.bare λb L=>⟨(M b L).2.2.2.1,(M b L).2.1,(M b L).2.2.2.2.1,(M b L).2.2.2.2.2⟩;refine HX zt σ H8 s8 e s9 _ mm _ Q' _ J8 hcx hmm l.free ?_ ?_ rfl
     ·cases z:X.s₀.heap.get? H2.objs.size with
      |none=>rfl|some o=>exact bO (VL (Vq z) I1.sz) (Nat.not_lt.mpr (Xa ltC))
     ·intro z;obtain⟨_,o,ho,_⟩:=I1.stack.mem z;exact bO (Vq ho) (Nat.not_lt.mpr (Xa ltC))
    have Q:∀{H':Hp}{o:au},(∀b∈fp,H' b=af)->∀b∈fp,rC (blk X (tg++W.map (·.2)) s2 H1 scope H2.objs.size fp) [(s2.heap.objs.size,o)] H' b:=λ{H' o} hn b L=>by
     refine⟨hn b L,?_,?_,.inl L,λx c e=>(M b L).2.2.2.2.1 x c (lU e),λp hp=>?_⟩
     ·show b≠H2.objs.size;rw[k];exact VI (XQ (B b L))
     ·intro zz;rcases List.mem_cons.mp (I1.lX b zz)with e|e
      exact(M b L).2.1 e;exact(M b L).2.2.1 e
     ·have hp':p=(s2.heap.objs.size,o):=by have:p∈[]++[(s2.heap.objs.size,o)]:=hp;simpa using this
      rw[hp'];show s2.heap.objs.size≠b;exact Xy (B b L)
    have loop:∀s4:Vh,s4={s2 with heap:=h3,toks:=s2.toks+([]:List (aA×aC)).length} →
     aq (VC X.prog X.w) X.A (.compLoop (.ListComp f [⟨te,iter,[],0⟩] scope pos) 0 (.ref it) (.ref s2.heap.objs.size) (aaL scope (BC.jw X.env.cells scope.names []) H2.objs.size X.env))
      (cpX (VC X.prog X.w) X.A X.xe Q' (.ref s2.heap.objs.size) H2.objs.size X.env.frame) s4:=by
     rintro s4 rfl
     refine ya (LIX X scope tg W s2 H1 H2.objs.size fp tn m1 j fs (BT.fD (aZ F G .nil) (aN F G Y) fs) (λxs h=>BT.rsE F R D G Y (xs.map BT.fB++fs) h) (c0,h')) ?_
      j.length ⟨0,_,H1,m1,h1,[],0,_,Wg _,rfl,Vo _,I4,T.keep 0 _ _ st (λb L o e=>old b o e),λb L=>(M b L).1,.refl _ _,R1,sD (S.ext x1) g2,by simp,by simp,by rw[Ys];exact Z⟩
     rintro n s5 ⟨i,σ5,H5,m5,hh,us,nn,sl,hi,rfl,ul,I5,st5,fr5,x5,R5,S5,sl1,sl2,go5⟩
     by_cases c:i<j.length
     ·rw[Xl c,BT.qI]at go5;cases eT:bx tg.length j[i]with
      |none=>rw[eT]at go5;exact cX go5
      |some xs =>
       rw[eT]at go5;simp only at go5;refine thn (T.item (blk X (tg++W.map (·.2)) s2 H1 scope H2.objs.size fp) rfl rfl rfl (O.calm hu) i _ s5 σ5 H5 _ I5 (Q fr5) st5 (ito.go m5 H5 hh i x5 R5 (jW ca) c)) λr s6 hr=>?_;obtain⟨u,rfl,hr⟩:=hr;refine thn hr λ_ s7 zq=>?_;obtain⟨x,H7,I7,r7,y7,st7,fr7⟩:=zq;obtain⟨x7,k7,rd7⟩:=ito.yld m5 H5 hh i x H7 j[i] x5 R5 (jW ca) (Vm c) y7;have R7:=R5.ext x7 k7;have I7':=I7.pinned (Q fr7) (T.obj _ _ st7);obtain⟨sq1,sq2,sq3⟩:=zG tl t0 eT sl1 sl2;refine thn (hg1 _ s7 σ5 H7 x u (fun U H8=>H8=H7/\RS X.prog X.w X.K m5 H7 U (xs.map BT.fB++fs)) I7' r7 (hg2 m5 H7 σ5 sl x j[i] xs _ (S5.ext x7) rd7 (by rw[tl];exact eT) fun U S8=>⟨rfl,by rw[←sq1];exact S8⟩)) λ_ s8 h8=>?_;obtain⟨U,H8,l,rfl,S8⟩:=h8;have aJ:∀{s9:Vh}{σ9:L2.St}{H9:Hp},Inv (blk X (tg++W.map (·.2)) s2 H1 scope H2.objs.size fp) ([(s2.heap.objs.size,lobj us nn)]++lY fp s7.heap) σ9 H9 s9->tn (i+1) s9.heap/\∀b∈fp,H9 b=af:=λ{s9 σ9 H9} I9=>by refine⟨T.keep _ _ _ st7 λb L o e=>(I9.pin (b,o) (VP _ (VP _ (gQ L e)))).1,λb L=>?_⟩;obtain⟨o,e,_⟩:=T.obj _ _ st7 b L;exact(I9.pin (b,o) (VP _ (VP _ (gQ L e)))).2.1
       cases gI:BT.fD (aZ F G .nil) (aN F G Y) fs xs hh with
       |none =>
        rw[gI]at go5;simp only at go5;exact thn (hX _ O2 O3 _ s8 U H8 _ (Qd l) ⟨m5,_,hh,c0,h',R7,S8,go5,zr.ext (x1.trans (x5.trans x7))⟩) λ_ _ z=>z
       |some oh =>
        obtain⟨o,hA⟩:=oh;rw[gI]at go5;simp only at go5;unfold BT.fD at gI;obtain⟨cs,hc,eC,eK⟩:=dg gI;simp only[aZ]at eC;cases eC;have eK:=(show bF _ BT.oQ=_ from eK);obtain⟨w,hB,eE,eL⟩:=dg eK;have ew:∃d,w=.p d/\hB=hA:=by
         unfold BT.oQ at eL;cases w with
         |p d'=>cases eL;exact⟨_,rfl,rfl⟩|_=>exact cX eL
        obtain⟨d,rfl,rfl⟩:=ew;refine Wk (hE _ O' _ s8 U H8 (λv Ha=>∃ma,Ext m5 H8 ma Ha/\RH X.K ma Ha hB/\RD X.K ma Ha v d) l ⟨m5,_,hh,_,hB,R7,S8,eE,λv Ha ma xa Ra ra=>by cases ra with|p ra=>exact⟨ma,xa,Ra,ra⟩⟩) (λu10 s10 ⟨v10,H10,I10,r10,m10,x10,R10,rd10⟩=>?_) λ_ _ z=>z.elim
        obtain⟨pD,nD,neD,nfD,_⟩:=I10.pin (s2.heap.objs.size,lobj us nn) (by simp);have lle:=gf;refine abv ⟨nn,pD⟩ (λP V a=>?_) (by rw[Vl];have dsl:=dsl;lia);obtain⟨nn',V⟩:=V;have V:P.get? s2.heap.objs.size=aa (lobj (us++[u10]) nn'):=by rw[V];simp[lobj]
        have a:V6 s2.heap.objs.size s10.heap P:=a;obtain⟨st10,fr10⟩:=aJ I10;have I11:Inv (blk X (tg++W.map (·.2)) s2 H1 scope H2.objs.size fp) [] U H10 {s10 with heap:=P} :=
         Inv.turned (t':=s10.toks) (I10.lg (λp hp=>by cases hp)) (λb o L e=>(a.2 b L).trans e) nD neD (.inr (Vo _)) (λx c e zz=>by obtain⟨v,o,ho,_⟩:=I1.cell x c (lU e);have:=Vq ho;rw[zz]at this;exact bO this (V5 _)) λp hp=>by cases hp
        have I12:Inv (blk X (tg++W.map (·.2)) s2 H1 scope H2.objs.size fp) [(s2.heap.objs.size,lobj (us++[u10]) nn')] U H10 {s10 with heap:=P}:=I11.lg λp hp=>by simp only[Zt]at hp;subst hp;exact⟨V,nD,neD,nfD,λv zz=>by cases (show Data.seq _ _=Data.cell v from zz)⟩
        have xt:Ext m5 H5 m10 H10:=x7.trans x10;refine⟨j.length-(i+1),by lia,i+1,U,H10,m10,hB,us++[u10],nn',_,c,rfl,by rw[VN];exact aac ul,I12,?_,fr10,x5.trans xt,R10,S8.ext x10,sq2,sq3,go5⟩;refine T.keep _ _ _ st10 λb L o' e=>(a.2 b ?_).trans e;exact VI (B b L)
     ·have ei:i=j.length:=by lia
      subst ei;rw[XZ,BT.qI]at go5;exact cX go5
    exact⟨rfl,codeAny_compStart_list (loop _ rfl) (T.self _ 0 _ _ _ (T.keep 0 _ _ st (λb L o e=>old b o e)) (loop _ rfl))⟩
end
section
variable{D:aA->Bool}{E:XK}
def HN(e:BT.rsM R m ea x h=aa r):
 ∃n c fs ws g,x=.o n/\bC h n=aa (c,fs)/\(BT.dR m fs).isNone=ah/\ea h=aa (ws,g)/\R (.m c m) (.o n::ws) g=aa r:=by
 unfold BT.rsM at e;cases x with
 |o n =>
  simp only at e;cases L:bC h n with
  |none=>rw[L]at e;exact cX e
  |some q =>
   obtain⟨c,fs⟩:=q;rw[L]at e;simp only at e;cases J:BT.dR m fs with
   |some _=>rw[J]at e;exact cX e
   |none =>
    rw[J]at e;simp only at e;obtain⟨ws,g,e1,e2⟩:=dg e;exact⟨n,c,fs,ws,g,rfl,L,by rw[J];rfl,e1,e2⟩
 |_=>exact cX e
def EJ(O:Ok X F G sc N)(T:OkX X R D E)(hb:dQ oe=ah)(hl:(apos.endLine==cpos.line)=ah)(L:es.length<20)(ho:PE X oe (tD X F G o))(hc:CEs sc N as es)(ha:PA X es (tDs X F G as)):
 PXE X (.Call (.Attribute oe m apos) es [] cpos) (xD X E (BT.rsE F R D G (.aH o m as))):=by
 have U:=gn hc;intro f s Y H Q I q;obtain⟨m0,s',h,c0,M,RR,S,b,i⟩:=q;simp only[BT.xe1]at b;obtain⟨x,h1,e1,e2⟩:=dg b;obtain⟨n,c,fs,ws,g,rfl,e3,e4,e5,e6⟩:=HN e2;obtain⟨C,ga,fd,ps,k,B,hM,hB,hR,ok⟩:=T.aH _ _ _ _ _ e6;have W:yK C m (spX X.prog X.w X.K (R (.m c m))) [] E (tD X F G o) (tDs X F G as) Y H (λ_ _=>False):=by
  refine⟨m0,s',h,.o n,h1,RR,S,e1,λv H1 A Z d l=>?_⟩;cases l with
  |@o a _ hn =>
   obtain⟨C',P,vs,y,t,p⟩:=d.sj _ _ _ _ hn e3;cases t.cn.inj B.cn;refine⟨a,P,vs,rfl,y,p.none e4,A,s',h1,ws,g,d,S.ext Z,e5,λus H2 m2 x2 R2 r2=>?_⟩;show spX X.prog X.w X.K (R (.m c m)) (V.ref a::(us++[])) H2 _ E;rw[Wc];exact⟨m2,.o n::ws,g,c0,M,R2,.cons (.o (x2.ix hn)) r2,e6,i.ext (Z.trans x2)⟩
 have fin:∀u j,EP X f Y (λ_ _=>False) u j->Q u j:=λu j ⟨_,_,_,_,z⟩=>z.elim;cases es with
 |nil =>
  cases as with
  |cons a r=>exact(mh hc).elim
  |nil =>
   refine thn (vg ho B.cls hM ok hR hB .nil T.pass (jF hb U L hl) f s Y H (λ_ _=>False) I ?_) fin;obtain⟨m,s,h,z,M,R,S,b,i⟩:=W;refine⟨m,s,h,z,M,R,S,b,λv H1 A Z d l=>?_⟩;obtain⟨a,P,fs,y,t,p,q4⟩:=i v H1 A Z d l;exact⟨a,P,fs,y,t,p,jV q4⟩
 |cons e es =>
  have J:=U;simp only[dw,Vg]at J;exact thn (yM ho B.cls hM ok hR hB .nil T.pass ha (c7 J.1) (dM J.2) (jF hb U L hl) f s Y H (λ_ _=>False) I W) fin
end
noncomputable def Qe:BT.Me->Bool
 |.append=>ak|_=>ah
theorem we{f:List aQ->aO->Option (Option aQ×aO)}{g:List aQ->aO->Option (aA×aO)}(J:∀xs h,g xs h=af)(n:Nat):∀(ds:List aQ)(h:aO),BT.qI f g n ds h=af
 |[],h=>rfl
 |d::r,h=>by
  rw[BT.qI];cases bx n d with
  |none=>rfl
  |some xs =>
   simp only;cases f xs h with
   |none=>exact J xs h|some o=>exact we J n r o.2
def noX:bf->Bool
 |.v _=>ah|.j _=>ah|.aD _ .nil=>ah|.aE _=>ah|.lsr _ _ _=>ah|.i _ _=>ah|.n _ _ _=>ah|.obi _ _=>ah|.me m _ _=>Qe m|.comp _ _ _ _ _ _ J=>noX J|_=>ak
def Mi:bg->Bool
 |.nil=>ah|.cons a r=>noX a&&Mi r
section
variable{D:aA->Bool}{E:XK}
theorem uy(h:noX a=ah)(s:bq)(g:aO):BT.rsE F R D G a s g=af:=by
 cases a with
 |me m o L =>
  rw[BT.xeQ];cases m with
  |append=>exact aU h|_=>rfl
 |comp mu b O Z c cond J =>
  have U:∀s h,BT.rsE F R D G J s h=af:=λs V=>uy (a:=J) h s V;rw[BT.xeC];cases aZ F G O s g with
  |none=>rfl
  |some Y =>
   show BT.n8 _ _ _ _ _ _ _ _=af;unfold BT.n8;split
   ·split;exact we (λW h=>U _ h) _ _ _;rfl
   rfl
 |aD _ L=>cases L with
  |nil=>rfl|cons _ _=>exact aU h
 |_=>first|exact aU h|rfl
theorem zN:∀{as:bg},Mi as=ah->∀(s:bq)(g:aO),BT.jx F R D G as s g=af
 |.nil,_,s,g=>rfl
 |.cons a r,h,s,g=>by obtain⟨L,J⟩:=Bool.and_eq_true_iff.mp h;rw[BT.xa1];unfold BT.rsA;split;exact zN J _ _;exact uy L _ _
def HP{X:Cx}{tg:List (Nat×aA)}{V:bE}{d:bg}{b:BT.S}{g:TG}(hg:GOk X tg g){D1:Ends}{σ:L2.St}{H:Hp}{m:List aB}{s:bq}{h:aO}{c:aA}{h':aO}(R0:RH X.K m H h)(S:RS X.prog X.w X.K m H σ s)
(e:BT.rsC (aZ F G d s h) (BT.v8 (aT F G b) (BT.rsS F R D G b) tg V s) af=aa (c,h'))(Q:XW X.K E m H c h'):
 Kf (iD X F G V d) g (λD' σ H=>tDS X F G b D' σ H\/xD X E (BT.rsS F R D G b) σ H) D1 σ H:=by
 cases e1:aZ F G d s h with
 |none=>rw[e1]at e;exact cX e
 |some T =>
  obtain⟨a,W⟩:=T;rw[e1]at e;have e2:BT.v8 (aT F G b) (BT.rsS F R D G b) tg V s a W=aa (c,h'):=e;unfold BT.v8 at e2;cases p:(aV a W).bind (BT.gy V)with
  |none=>rw[p]at e2;exact cX e2
  |some L =>
   rw[p]at e2;simp only at e2;split at e2
   ·rename_i q;refine ⟨m,s,h,a,W,L,R0,S,e1,p,.inl q,λH1 v J u R1 A=>?_⟩;refine ⟨λi n σ H=>i<=L.length/\n=L.length - i/\∃ m s h,Ext v H1 m H/\RH X.K m H h/\RS X.prog X.w X.K m H σ s/\BT.EE (aT F G b) (BT.rsS F R D G b) tg (L.drop i) s h=aa (c,h')/\XW X.K E m H c h',
     ⟨L.length,Wg _,rfl,v,s,W,.refl _ _,R1,S.ext u,by rw[Ys];exact e2,Q.ext u⟩,?_⟩
    rintro i n σ2 H2 ⟨hi,rfl,m2,s2,h2,x2,R2,S2,e3,post2⟩
    by_cases Y:i<L.length
    ·refine .inr ⟨A.go m2 H2 h2 i x2 R2 (jW q) Y,_,fun P H' z=>⟨L.length-(i+1),by lia,Y,rfl,z⟩,λx M y=>?_⟩;obtain⟨O,k3,r3⟩:=A.yld m2 H2 h2 i x M L[i] x2 R2 (jW q) (Vm Y) y;rw[Xl Y,BT.EE]at e3;cases o:bx tg.length L[i]with
     |none=>rw[o]at e3;exact cX e3
     |some dd =>
      rw[o]at e3;simp only at e3;have I:=R2.ext O k3;refine hg m2 M σ2 s2 x L[i] dd _ (S2.ext O) r3 o fun N C=>?_;cases l:aT F G b (bL tg dd s2) h2 with
      |none =>
       rw[l]at e3;exact .inr ⟨m2,_,h2,c,h',I,C,e3,post2.ext O⟩
      |some B =>
       rw[l]at e3;refine .inl ⟨m2,_,h2,B,I,C,l,?_⟩;cases B with
       |nx f k=>exact fun Z H5 j U t r=>⟨j,f,k,(x2.trans O).trans U,t,r,e3,(post2.ext O).ext U⟩
       |ct f k=>exact fun Z H5 j U t r=>⟨j,f,k,(x2.trans O).trans U,t,r,e3,(post2.ext O).ext U⟩
       |_=>exact cX e3
    ·have ei:i=L.length:=by lia
     subst ei;rw[XZ,BT.EE]at e3;exact cX e3
   exact cX e2
def EK(O:Ok X F G sc N)(W:OkX X R D E)(j:dU sc f=ah)(hn:dY f=ah)(hc:CEs sc N as es)(T:PA X es (tDs X F G as))(M:PXA X es (xD X E (BT.jx F R D G as))):
 PXE X (.Call (.Name f p) es [] cpos) (xD X E (BT.rsE F R D G (.call f as))):=by
 have L:=gn hc;intro Z s Y H Q I q;obtain⟨d,c,h,n,m,RR,S,J,b⟩:=q;simp only[BT.xe4]at J;cases es with
 |nil =>
  cases as with
  |cons a r=>exact(mh hc).elim
  |nil =>
   simp only[aZ,BT.rsC]at J;obtain⟨v,fd,B,k,U,V,l,i,ok⟩:=W.call _ _ _ _ J;exact thn (vf ok i (ef O j) U V l .nil W.pass (fE hn).1 Z s Y H (λ_ _=>False) I ⟨d,[],h,n,m,RR,.nil,J,b⟩) λu s2 ⟨_,_,_,_,z⟩=>z.elim
 |cons e es =>
  simp only[dw,Vg]at L;cases g:aZ F G as c h with
  |some q =>
   obtain⟨o,t⟩:=q;rw[g]at J;simp only[BT.rsC]at J;obtain⟨v,fd,B,k,U,V,l,i,ok⟩:=W.call _ _ _ _ J;refine thn (yL ok i (ef O j) U V l .nil W.pass T (fE hn).1 (c7 L.1) (dM L.2) Z s Y H (λ_ _=>False) I ?_) λu s2 ⟨_,_,_,_,z⟩=>z.elim;refine⟨d,c,h,o,t,RR,S,g,λy H2 C x R2 A=>?_⟩;show spX X.prog X.w X.K (R (.f f)) (y++[]) H2 _ E;rw[Wc];exact⟨C,o,t,n,m,R2,A,J,b.ext x⟩
  |none =>
   rw[g]at J;simp only[BT.rsC]at J;split at J
   ·rename_i P;obtain⟨v,U,V⟩:=W.aG _ P;refine WA (ja I (ef O j) U ?_ (fE hn).1);exact Xx (h₀:=X.base) I.ok.mod.kin V (M cpos Z s Y H _ I ⟨d,c,h,n,m,RR,S,J,b⟩) (c7 L.1) (dM L.2)
   exact cX J
end
section
variable{F:FT}{R:BT.XF}{D:aA->Bool}{G:aA->Option aP}{E:XK}{X:Cx}
def HQ{mu:Bool}{as:bg}{es:List Vj}{p:Pos}(V:PXA X es (xD X E (BT.jx F R D G as))):PXE X (.List es p) (xD X E (BT.rsE F R D G (.aD mu as))):=λL s J H Q I q=>by refine wpAny_List_spliced (V p L s J H _ I ?_);obtain⟨m,U,h,Z,W,RR,S,Y,O⟩:=q;exact⟨m,U,h,Z,W,RR,S,Y,O⟩
def yb{o:bf}{as:bg}{b e:Vj}{apos cpos:Pos}{es:List Vj}(T:dQ b=ah)(P:(apos.endLine==cpos.line)=ah)(U:(e::es).length<20)(O:dw (e::es)=ah)(N:PE X b (tD X F G o))(M:PXA X (e::es) (xD X E (BT.jx F R D G as))):
 PXE X (.Call (.Attribute b "append" apos) (e::es) [] cpos) (xD X E (BT.rsE F R D G (.me .append o as))):=by
 have J:=O;simp only[dw,Vg] at J;have c:decide ((e::es).length+([]:List YO).length+(if ([]:List YO).isEmpty then 0 else 1) < 30)=ah:=bR (by
  simp only[Vv,VY,ZW,if_true] at U ⊢;lia)
 intro d s Z H Q I q;obtain⟨m,W,h,j,i,RR,S,L,p⟩:=q;rw[BT.xeQ]at L;cases e1:aN F G o W h with
 |none=>rw[e1]at L;exact cX L
 |some u =>
  obtain⟨x,Y⟩:=u;rw[e1]at L;cases x with
  |r n =>
   have L:(if BT.lO (.r n) Y=ah then BT.jx F R D G as W Y else af)=aa (j,i):=L;obtain⟨ok,L⟩:=Eh L;refine wpAny_Call_method_late (lG T) (by rw[jE O,c];rfl) P rfl (thn (N d s Z H (λx V=>tyV X.K "list" x V/\xD X E (BT.jx F R D G as) Z V) I ⟨m,W,h,.r n,Y,RR,S,e1,λv V C f k a=>⟨ty_list k a ok,C,W,Y,j,i,k,S.ext f,L,p.ext f⟩⟩) λv A t=>?_);obtain⟨x,V,l,a,ty,B⟩:=t;obtain⟨y,w⟩:=xF l a ty;refine⟨"list","list.append",Wx,Yq,Yp,y,w,?_⟩;have g:=M cpos d A Z V (λ_ _=>False) l B;rw[c7 J.1]at g⊢;refine YQ (by show(ak||(Xh cpos (VR es X.env)).any (·.1))=ak;rw[dM J.2];rfl) (X0 ?_);exact thn g λus s2 z=>z.elim
  |_=>exact cX L
end
mutual
inductive CXE(sc:V8)(N:List aA):bf->Vj->Prop
 |aH(V:dQ oe=ah)(U:(apos.endLine==cpos.line)=ah)(J:es.length<20)(O:CE' sc N o oe)(L:CEs sc N as es):CXE sc N (.aH o m as) (.Call (.Attribute oe m apos) es [] cpos)
 |call(O:dU sc f=ah)(hn:dY f=ah)(J:CEs sc N as es)(L:uz sc N as es):CXE sc N (.call f as) (.Call (.Name f np) es [] p)
 |y(J:CXE sc N a x):CXE sc N (.y a i) (.Subscript x sl p)
 |bin(J:CXE sc N a x):CXE sc N (.bin o a b) (.BinOp x op y p)
 |ite{c a b:bf}{t x y:Vj}{p:Pos}(h:tOK c=ah)(hc:CE' sc N c t)(L:CXE sc N a x)(J:CXE sc N b y):CXE sc N (.ite c a b) (.IfExp t x y p)
 |aD{mu:Bool}{as:bg}{es:List Vj}{p:Pos}(J:uz sc N as es):CXE sc N (.aD mu as) (.List es p)
 |app{e:Vj}{es:List Vj}(V:dQ oe=ah)(U:(apos.endLine==cpos.line)=ah)(J:(e::es).length<20)(L:CE' sc N o oe)(O:uz sc N as (e::es)):CXE sc N (.me .append o as) (.Call (.Attribute oe "append" apos) (e::es) [] cpos)
 |no(h:noX a=ah):CXE sc N a x
inductive uz(sc:V8)(N:List aA):bg->List Vj->Prop
 |nil:uz sc N .nil []
 |cons{a:bf}{as:bg}{e:Vj}{es:List Vj}(L:noStar e=ah)(hc:CE' sc N a e)(O:CXE sc N a e)(J:uz sc N as es):uz sc N (.cons a as) (e::es)
end
mutual
inductive CXS(sc:V8)(N:List aA)(ra:List aA):BT.S->VE->Prop
 |rai(U:fT N=ah)(O:ra.contains c=ah)(J:dU sc c=ah)(hn:dY c=ah)(L:t.length<=1000)(V:CE' sc N e v):
  CXS sc N ra (.rai c e) (.Raise (aa (.Call (.Name c np) [.JoinedStr [.Constant (.str t) j p1,.FormattedValue v 114 af p2] p3] [] cpos)) af pos)
 |rai2{a e:bf}{L v:Vj}{c t J:aA}{j Z:Nat}{U V p2 p3 Y W cpos pos:Pos}(hu:fT N=ah)(hx:ra.contains c=ah)(hg:dU sc c=ah)(hn:dY c=ah)(hl:t.length<=1000)(O:J.length<=1000)(ha:CE' sc N a L)(he:CE' sc N e v):
  CXS sc N ra (.rai2 c a e) (.Raise (aa (.Call (.Name c U) [.JoinedStr [.Constant (.str t) j V,.FormattedValue L (-1) af p2,.Constant (.str J) Z Y,.FormattedValue v 114 af W] p3] [] cpos)) af pos)
 |bad{st:VE}:CXS sc N ra .bad st
 |ex(h:kP v=ah)(J:CXE sc N e v):CXS sc N ra (.ex e) (.Expr v p)
 |ret(J:CXE sc N e v):CXS sc N ra (.ret e) (.Return (aa v) p)
 |set{st:VE}(h:noX e=ah):CXS sc N ra (.set i e) st
 |setx(h:kP v=ah)(J:CXE sc N e v):CXS sc N ra (.set i e) (.Assign [.Name x np] v p)
 |forb{tg:List (Nat×aA)}{J:bE}{L:bg}{b:BT.S}{te iter:Vj}{xs:List VE}{p:Pos}(W:fT N=ah)(hn:Mi L=ah)(Y:CT sc N tg te)(hi:CI sc N J L iter)(hz:qm J te=ah)(U:ju iter=ah)(O:CSs sc N b xs)(V:jY sc N ra b xs):CXS sc N ra (.for tg J L b) (.For te iter xs [] p)
 |setcx{i:Nat}{mu U:Bool}{V:bE}{W:bg}{tg:List aA}{O:List (Nat×aA)}{L:bf}{te iter J:Vj}{scope:V8}{x:aA}{pos np Y Z p:Pos}(hu:fT N=ah)(hr:ra≠[])(hg:dU sc "tuple"=ah)(hk:jP sc N tg O scope=ah)(ht:qo (d9 scope sc) tg te=ah)(hz:qm V te=ah)(hs:ju iter=ah)(hi:CI sc N V W iter)(he:CE' (d9 scope sc) (tg++O.map (·.2)) L J)(hx:CXE (d9 scope sc) (tg++O.map (·.2)) L J):
  CXS sc N ra (.set i (.bi .tuple U (.cons (.comp mu V W tg O .nil L) .nil))) (.Assign [.Name x np] (.Call (.Name "tuple" Y) [.ListComp J [⟨te,iter,[],0⟩] scope pos] [] Z) p)
 |v{c:bf}{a b:BT.S}{t:Vj}{xs ys:List VE}{p:Pos}(h:tOK c=ah)(hc:CE' sc N c t)(L:jY sc N ra a xs)(J:jY sc N ra b ys):CXS sc N ra (.v c a b) (.If t xs ys p)
inductive jY(sc:V8)(N:List aA)(ra:List aA):BT.S->List VE->Prop
 |nil{sts:List VE}:jY sc N ra .nil sts
 |bads{sts:List VE}:jY sc N ra .bad sts
 |one{st:VE}(h:CXS sc N ra s st):jY sc N ra s (st::r)
 |cons{a b:BT.S}{st:VE}{r:List VE}(hn:CS sc N a st)(h:CXS sc N ra a st)(J:jY sc N ra b r):jY sc N ra (.seq a b) (st::r)
end
theorem sG{sc:V8}{N:List aA}:∀{as:bg}{es:List Vj},uz sc N as es->dw es=ah
 |_,_,.nil=>rfl
 |_,_,.cons hs _ _ hr=>by simp only[dw,Vg];exact⟨hs,sG hr⟩
structure MadeX(ra:List aA)(X:Cx)(E:XK):Prop where
 made:∀zt σ H s1 h2 a args C,Inv X zt σ H s1->XS s1.heap h2 a (.ref C) args->E (.ref C) af H->X.xe (.ref a) {s1 with heap:=h2}
 cls:∀c,ra.contains c=ah->∃C,CN X.K c C/\X.mg c=aa (.ref C)/\nh X.K C
 held:EG X E
section
variable{F:FT}{R:BT.XF}{D:aA->Bool}{G:aA->Option aP}{E:XK}{X:Cx}{sc:V8}{N:List aA}{ra:List aA}
def sEs(h:CEs sc N as es)(O:Ok X F G sc N):PA X es (tDs X F G as):=sQ h X O
mutual
theorem sXE(O:Ok X F G sc N)(W:OkX X R D E):∀{e:bf}{v:Vj},CXE sc N e v->PXE X v (xD X E (BT.rsE F R D G e))
 |_,_,.aH h3 h6 h7 ho ha=>EJ O W h3 h6 h7 (sE ho O) ha (sEs ha O)|_,_,.call hg hn ha hx=>EK O W hg hn ha (sEs ha O) (HR O W hx)
 | _,_,.y ha=>λU s L H Q I q=>abl (sXE O W ha U s L H _ I (by
  obtain ⟨m,V,h,g,f,RR,S,J,Z⟩:=q;exact ⟨m,V,h,g,f,RR,S,J,Z⟩))
 | _,_,.bin ha=>λU s L H Q I q=>wpAny_BinOp (sXE O W ha U s L H _ I (by
  obtain ⟨m,V,h,g,f,RR,S,J,Z⟩:=q;exact ⟨m,V,h,g,f,RR,S,J,Z⟩))
 |_,_,@CXE.ite _ _ c a b t x y p h hc ha hb=>λU s L H Q I q=>by
  obtain⟨m,V,u,g,f,RR,S,J,Z⟩:=q;simp only[BT.xe8]at J;unfold BT.rsI at J;split at J
  ·rename_i j e1;refine wpAny_IfExp (thn ((sT hc O h).1 U s L H (λd Y=>d=ah/\xD X E (BT.rsE F R D G a) L Y) I ⟨m,V,u,ah,j,RR,S,e1,λY r i w=>⟨rfl,r,V,j,g,f,w,S.ext i,J,Z.ext i⟩⟩) λd l k=>?_);obtain⟨Y,z,o,n⟩:=k;subst o;exact sXE O W ha U l L Y Q z n
  ·rename_i j e1;refine wpAny_IfExp (thn ((sT hc O h).1 U s L H (λd Y=>d=ak/\xD X E (BT.rsE F R D G b) L Y) I ⟨m,V,u,ak,j,RR,S,e1,λY r i w=>⟨rfl,r,V,j,g,f,w,S.ext i,J,Z.ext i⟩⟩) λd l k=>?_);obtain⟨Y,z,o,n⟩:=k;subst o;exact sXE O W hb U l L Y Q z n
  exact cX J
 |_,_,.aD hx=>HQ (HR O W hx)|_,_,.app h3 h6 h7 ho hx=>yb h3 h6 h7 (sG hx) (sE ho O) (HR O W hx)
 |_,_,.no h=>λU s L H Q I q=>by obtain⟨m,V,u,g,f,RR,S,J,Z⟩:=q;rw[uy h]at J;exact cX J
theorem HR(O:Ok X F G sc N)(h:OkX X R D E):∀{as:bg}{es:List Vj},uz sc N as es->PXA X es (xD X E (BT.jx F R D G as))
 |_,_,.nil=>λL V s U H Q I q=>by obtain⟨m,W,b,d,c,RR,S,J,Z⟩:=q;simp only[BT.xa1,BT.xa2]at J;exact cX J
 |_,_,@uz.cons _ _ a as e es hs hc ha hr=>λL V s U H Q I q=>by
  obtain⟨m,W,b,d,c,RR,S,J,Z⟩:=q;simp only[BT.xa1,BT.xa2]at J;rw[c7 hs];show az _ _ (aaq ((ak,eval e X.env)::Xh L (VR es X.env))) _ _ s;unfold BT.rsA at J;split at J
  ·rename_i z g e1;refine WL (thn (sE hc O V s U H (λv Y=>xD X E (BT.jx F R D G as) U Y) I ⟨m,W,b,z,g,RR,S,e1,λv Y l f n r=>⟨l,W,g,d,c,n,S.ext f,J,Z.ext f⟩⟩) λu j i=>?_);obtain⟨v,Y,o,p,k⟩:=i;exact HR O h hr L V j U Y _ o k
  exact WL (sXE O h ha V s U H _ I ⟨m,W,b,d,c,RR,S,J,Z⟩)
end
def Mj(O:Ok X F G sc N)(r:fT N=ah)(M:MadeX ra X E){c t:aA}{e:bf}{v:Vj}{j:Nat}{n l p2 k cpos pos:Pos}(L:ra.contains c=ah)(y:dU sc c=ah)(hn:dY c=ah)(w:t.length<=1000)(z:CE' sc N e v):
 PXS X (.Raise (aa (.Call (.Name c n) [.JoinedStr [.Constant (.str t) j l,.FormattedValue v 114 af p2] k] [] cpos)) af pos) (xD X E (BT.rsS F R D G (.rai c e))):=by
 intro zt s σ H Q I q;obtain⟨C,A,u,Z⟩:=M.cls c L;obtain⟨m,g,h,c0,h',RR,S,J,Y⟩:=q;simp only[BT.xs1]at J;split at J
 ·rename_i d B e1;split at J
  ·rename_i V;cases J;refine ED (ef O y) hn u Z (O.calm r) w (sE z O) I ⟨m,g,h,_,_,RR,S,e1,λv T o f K U=>?_⟩;cases U with
   |p U =>
    refine⟨?_,λs1 B a W P L=>M.made _ _ _ _ _ _ _ _ P L (Y T o f K C A)⟩;cases U with
    |int i=>exact .int (by simpa [BT.big]using V)|str x L=>exact .str (by simpa using V)|aF=>exact .aF|bl b=>exact .bl|_=>exact aU V
  exact cX J
 exact cX J
def Qf{m:List aB}{H:Hp}{v:V}{d:aQ}(r:RD K m H v d)(J:BT.nk d=ah):v7 v:=by
 cases r with
 |int i=>exact .int (by simpa [BT.big]using J)|str x L=>exact .str (by simpa using J)|aF=>exact .aF|bl b=>exact .bl|_=>exact aU J
def HS(O:Ok X F G sc N)(B:fT N=ah)(M:MadeX ra X E){c t b:aA}{a e:bf}{Z v:Vj}{j A:Nat}{x w p2 u r o cpos pos:Pos}(V:ra.contains c=ah)(hg:dU sc c=ah)(hn:dY c=ah)(P:t.length<=1000)(W:b.length<=1000)(ha:CE' sc N a Z)(he:CE' sc N e v):
 PXS X (.Raise (aa (.Call (.Name c x) [.JoinedStr [.Constant (.str t) j w,.FormattedValue Z (-1) af p2,.Constant (.str b) A r,.FormattedValue v 114 af o] u] [] cpos)) af pos) (xD X E (BT.rsS F R D G (.rai2 c a e))):=by
 intro zt s σ H Q I q;obtain⟨C,hC,K,l⟩:=M.cls c V;obtain⟨m,f,h,c0,h',RR,S,J,k⟩:=q;simp only[BT.xsR]at J;split at J
 ·rename_i i h1 e0;split at J
  ·rename_i T;split at J
   ·rename_i d h2 e1;split at J
    ·rename_i hb;cases J;refine Bv (ef O hg) hn K l (O.calm B) P W (sE ha O) (sE he O) I ⟨m,f,h,_,_,RR,S,e0,λv0 H0 z Y R0 U=>?_⟩;cases U with
     |p U =>
      cases U with
      |int _ =>
       refine⟨⟨i,rfl,by simpa [BT.big]using T⟩,z,f,h1,_,_,R0,S.ext Y,e1,λv H1 y n R1 L=>?_⟩;cases L with
       |p L=>exact⟨Qf L hb,λs1 h2 a g I1 V=>M.made _ _ _ _ _ _ _ _ I1 V (k H1 y (Y.trans n) R1 C hC)⟩
    exact cX J
   exact cX J
  exact cX J
 exact cX J
mutual
theorem sXS(O:Ok X F G sc N)(f:OkX X R D E)(M:ra≠[]->MadeX ra X E)(k:∀x,X.fn x=ah):∀{s:BT.S}{st:VE},CXS sc N ra s st->PXS X st (xD X E (BT.rsS F R D G s))
 |_,_,.rai2 hu hx hg hn hl hl2 ha he=>HS O hu (M (by rintro rfl;exact aU hx)) hx hg hn hl hl2 ha he|_,_,.rai hu hx hg hn hl he=>Mj O hu (M (by rintro rfl;exact aU hx)) hx hg hn hl he
 |_,_,.bad=>λU s L H Q I q=>by obtain⟨m,V,h,Z,Y,RR,S,J,W⟩:=q;exact cX J
 |_,_,.ex h he=>λU s L H Q I q=>by refine wpAny_Expr_any (sXE O f he U s L H _ I ?_) I.quiet (jX h);obtain⟨m,V,h,Z,Y,RR,S,J,W⟩:=q;exact⟨m,V,h,Z,Y,RR,S,J,W⟩
 |_,_,.ret he=>λU s L H Q I q=>by refine aao (sXE O f he U s L H _ I ?_);obtain⟨m,V,h,Z,Y,RR,S,J,W⟩:=q;exact⟨m,V,h,Z,Y,RR,S,J,W⟩
 |_,_,.set h=>λU s L H Q I q=>by obtain⟨m,V,n,Z,Y,RR,S,J,W⟩:=q;simp only[BT.xs6]at J;rw[uy h]at J;exact cX J
 |_,_,.setx h he=>λU s L H Q I q=>by obtain⟨m,V,n,Z,Y,RR,S,J,W⟩:=q;simp only[BT.xs6]at J;exact aap (sXE O f he U s L H _ I ⟨m,V,n,Z,Y,RR,S,J,W⟩) (jX h)
 |_,_,@CXS.forb _ _ _ tg sr sa b te iter xs p hu hn ht hi hz hs hb hx=>λU s L H Q I q=>by
  obtain⟨g,C,B⟩:=sCT O (O.calm hu) ht (λq _=>.inl (k q.2));have K:PSs X xs (λD' L H=>tDS X F G b D' L H\/xD X E (BT.rsS F R D G b) L H):=λU s L H D' I q=>q.elim (λq=>sSs O k hb U s L H D' I q) λq=>By O f M k hx U s L H _ I q;obtain⟨m,V,h,Z,Y,RR,S,J,W⟩:=q;simp only[BT.xs9]at J;rw[zN hn,BT.P9]at J;split at J
  ·refine thn (Cs O.own (O.calm hu) (sCI hi O hz) C K (pF hs) U s L H {nx:=λ_ _=>False,rt:=λ_ _=>False} I (HP B RR S J W)) λfl s2 q=>?_;cases fl with
   |ret u=>obtain⟨_,_,_,_,_,z⟩:=q;exact z.elim|_=>obtain⟨_,_,_,z⟩:=q;exact z.elim
  exact cX J
 |_,_,@CXS.setcx _ _ _ i mu mu2 sr sa tg fv elt te iter elt' scope x pos np tp cp p hu hr hg hk ht hz hs hi he hx=>λU s L H Q I q=>by
  obtain⟨m,V,h,Z,Y,RR,S,J,W⟩:=q;simp only[BT.xs6,BT.xe3,BT.xa1,BT.xa2]at J;have PX:PXE X (.ListComp elt' [⟨te,iter,[],0⟩] scope pos) (xD X E (BT.rsE F R D G (.comp mu sr sa tg fv .nil elt))):=EI O f (M hr).held hu hk ht hs (sCI hi O hz) (λX' T=>sE he T) λX' T O2=>sXE T O2 hx;have J:BT.rsE F R D G (.comp mu sr sa tg fv .nil elt) V h=aa (Z,Y):=by unfold BT.rsA at J;split at J;exact cX J;exact J
  refine aap ?_ (jX rfl);refine WA (jI I (ef O hg) (O.blt _ (by decide)) (show Yb "tuple"=aa (.type "tuple") by decide +kernel) ?_ (by decide) (by decide));refine Wi ?_ (c7 rfl) rfl;show az _ _ (aaq ((ak,eval (.ListComp elt' [⟨te,iter,[],0⟩] scope pos) X.env)::Xh cp (VR [] X.env))) _ _ s;exact WL (PX U s L H _ I ⟨m,V,h,Z,Y,RR,S,J,W⟩)
 |_,_,@CXS.v _ _ _ c a b t xs ys p h hc ha hb=>λU s L H Q I q=>by
  obtain⟨m,V,n,Z,Y,RR,S,J,W⟩:=q;simp only[BT.xs3]at J;unfold BT.rsI at J;split at J
  ·rename_i l e1;refine wpAny_If (thn ((sT hc O h).1 U s L H (λd e=>d=ah/\xD X E (BT.rsS F R D G a) L e) I ⟨m,V,n,ah,l,RR,S,e1,λe A j P=>⟨rfl,A,V,l,Z,Y,P,S.ext j,J,W.ext j⟩⟩) λd r o=>?_);obtain⟨e,I1,y,w⟩:=o;subst y;exact By O f M k ha U r L e Q I1 w
  ·rename_i l e1;refine wpAny_If (thn ((sT hc O h).1 U s L H (λd e=>d=ak/\xD X E (BT.rsS F R D G b) L e) I ⟨m,V,n,ak,l,RR,S,e1,λe A j P=>⟨rfl,A,V,l,Z,Y,P,S.ext j,J,W.ext j⟩⟩) λd r o=>?_);obtain⟨e,I1,y,w⟩:=o;subst y;exact By O f M k hb U r L e Q I1 w
  exact cX J
theorem By(O:Ok X F G sc N)(i:OkX X R D E)(M:ra≠[]->MadeX ra X E)(Z:∀x,X.fn x=ah):∀{s:BT.S}{sts:List VE},jY sc N ra s sts->TM X sts (xD X E (BT.rsS F R D G s))
 |_,_,.nil=>λU s V H Q I q=>by obtain⟨m,W,h,d,c,RR,S,J,Y⟩:=q;exact cX J
 |_,_,.bads=>λU s V H Q I q=>by obtain⟨m,W,h,d,c,RR,S,J,Y⟩:=q;exact cX J
 |_,_,.one h=>λU s V H Q I q=>XA (sXS O i M Z h U s V H _ I q)
 |_,_,@jY.cons _ _ _ a b st r hn h hr=>λU s V H Q I q=>by
  obtain⟨m,W,e,d,c,RR,S,J,Y⟩:=q;simp only[BT.xs2]at J;cases g:aT F G a W e with
  |none =>
   rw[g]at J;exact XA (sXS O i M Z h U s V H _ I ⟨m,W,e,d,c,RR,S,J,Y⟩)
  |some v =>
   rw[g]at J;cases v with
   |nx j k =>
    simp only at J;refine XA (thn (sS O Z hn U s V H {nx:=fun L B=>xD X E (BT.rsS F R D G b) L B,rt:=λ_ _=>False} I ⟨m,W,e,.nx j k,RR,S,g,fun L l t n y w=>⟨t,j,k,d,c,y,w,J,Y.ext n⟩⟩) λf o q=>?_);cases f with
    |next =>
     obtain⟨L,l,A,p⟩:=q;exact By O i M Z hr U o L l Q A p
    |ret u=>obtain⟨_,_,_,_,_,z⟩:=q;exact z.elim|_=>obtain⟨_,_,_,z⟩:=q;exact z.elim
   |_=>exact cX J
end
end
def TQ(P:Vy)(w:VQ)(K:Ve)(mg:aA->Option aC)(base:av)(N:List aA)(q:aA)(sc:V8)(cl:List (aA×aB))(f c':aB)(A:V9)(outer:List Env)(s:Vh)(H:Hp)(E:XK):Cx :=
 {PR P w K mg base N q sc cl f c' A outer s H with xe:=λe L=>az (VC P w) (A.deeper (YL q sc s.heap.objs.size f (.ref c') cl)) (abB (YL q sc s.heap.objs.size f (.ref c') cl) e) (λ_ J=>CX1 P w outer H s E e J) (λO J=>CX1 P w outer H s E O J) L}
section
variable{P:Vy}{w:VQ}{K:Ve}{mg:aA->Option aC}{base:av}{N:List aA}{q:aA}{sc:V8}{cl:List (aA×aB)}{f c':aB}{A:V9}{outer:List Env}{s:Vh}{H:Hp}{E:XK}
end
inductive EL(rn:List aA)(K:Ve)(c m:aA)(fn:aX):Prop
 |mk(C f:aB)(fd:Wp)(x qual:aA)(st:VE)(h1:lR K c C)(h2:ve K C m f)(V:Fun K x qual st f fd)(O:eN fn.ns fn.ps (c5 st))(L:Binds K fd fn.ps [])(U:jY (c5 st) fn.ns rn fn.body (dF st))(J:kC K qual fd fn):EL rn K c m fn
structure wg(rn:List aA)(K:Ve)(c m:aA)(fn:aX):Prop where
 ex:EL rn K c m fn
inductive JN(rn:List aA)(K:Ve)(mg:aA->Option aC)(x:aA)(fn:aX):Prop
 |mk(f:aB)(fd:Wp)(st:VE)(h1:mg x=aa (.ref f))(h2:Fun K x x st f fd)(U:eN fn.ns fn.ps (c5 st))(J:Binds K fd fn.ps [])(O:jY (c5 st) fn.ns rn fn.body (dF st))(L:kC K x fd fn):JN rn K mg x fn
structure HU(rn:List aA)(K:Ve)(mg:aA->Option aC)(x:aA)(fn:aX):Prop where
 ex:JN rn K mg x fn
structure BA(rn:List aA)(K:Ve)(mg:aA->Option aC)(TX:bB->Option aX):Prop where
 defs:∀x fn,TX (.f x)=aa fn->HU rn K mg x fn
 meths:∀c m fn,TX (.m c m)=aa fn->wg rn K c m fn
 cls:∀c,rn.contains c=ah->∃C,CN K c C/\mg c=aa (.ref C)/\nh K C
 lams:∀L fn,TX (.l L)=aa fn->False
def yc(e:BT.gP T TX G k x ws h=aa r):∃fn,TX x=aa fn:=by
 cases k with
 |zero=>exact cX e
 |succ k =>
  rw[BT.gP]at e;cases q:TX x with
  |none=>rw[q]at e;exact cX e|some fn=>exact⟨fn,rfl⟩
def Qg(X:Txt P w K mg T G){ps:List aA}{st:VE}{E:XK}
(nd:N.Nodup)(L:∀x,N.contains (BT.jt x)=ak)(O:fG (2*k+1) (A.deeper (Xr qual (c5 st) s.heap.objs.size f cdv))):Ok (dX CX P w K mg base N qual (c5 st) f cdv A outer s H E) (aS T G k) G (c5 st) N :=
 zK X (lI X k).1 (lI X k).2 rfl rfl rfl rfl rfl rfl rfl nd rfl O aa0 λ_ x J=>by rw[L x]at J;exact aU J
def EM{rn:List aA}{P:Vy}{w:VQ}{mg:aA->Option aC}{base:av}{T TX:bB->Option aX}{G:aA->Option aP}{k:Nat}{E:XK}{Z:Cx}(X:Txt P w K mg T G)(Y:BA rn K mg TX)
(p:∀(x:bB)(fn:aX),TX x=aa fn->∀(f:aB)(fd:Wp)(nm qual:aA)(st:VE),Fun K nm qual st f fd->eN fn.ns fn.ps (c5 st)->jY (c5 st) fn.ns rn fn.body (dF st)->kC K qual fd fn->gO P w K mg base (CX1 P w) (2*k) f fd fn.ps (spX P w K (BT.gP T TX G k x)))
(t:∀L,(∃fn,TX (.l L)=aa fn)->Mg P w K mg base (2*k) L (BT.gP T TX G k (.l L)))
(e1:Z.prog=P)(e2:Z.w=w)(D:Z.K=K)(B:Z.mg=mg)(z:Z.base=base)(b:fG (2*k+1) Z.A)(ps:iA (CX1 P w) Z E):OkX Z (BT.gP T TX G k) (BT.dk T) E:=by
 subst e1 e2 D B z;refine⟨λc g o h r e=>?_,λg o h r e=>?_,λf u=>?_,ps,λL o h r e=>⟨2*k,b.mono (Wh _),t L (yc e)⟩⟩
 ·obtain⟨J,O⟩:=yc e;obtain⟨C,a,U,q,s,V,d,F,W,n,m,j,i⟩:=(Y.meths c g J O).ex;exact⟨C,a,U,J.ps,2*k,d,F,m,b.mono (Wh _),p _ J O a U q s V W n j i⟩
 ·obtain⟨J,O⟩:=yc e;obtain⟨a,U,V,d,W,n,m,j,i⟩:=(Y.defs g J O).ex;exact⟨a,U,J.ps,2*k,d,W.kp,m,b.mono (Wh _),p _ J O a U g g V W n j i⟩
 ·obtain⟨fn,v⟩:=Option.isSome_iff_exists.mp u;obtain⟨y,fd,st,H,W,_⟩:=(X.defs f fn v).ex;exact⟨y,H,W.kp⟩
def HV{st:VE}(F:Fun K x qual st f fd)(S:eN N ps (c5 st))(len:∀vs H Q E,sp vs H Q E->vs.length=ps.length)
(J:∀ (cdv:aC) (A:V9) (outer:List Env) (s:Vh) (H:Hp) (vs:List V) (Q:VK) (E:XK),fd.code=cdv->fG k (A.deeper (Xr qual (c5 st) s.heap.objs.size f cdv))->Mod K mg base->sp vs H Q E →
  ∃ t,PSs (dX CX P w K mg base N qual (c5 st) f cdv A outer s H E) (dF st) t/\t { nx:=λ_ H'=>Q .aF H',rt:=Q } (L2.start N vs) H):gO P w K mg base CX (k+1) f fd ps sp:=by
 obtain⟨j,i,kV,Y,b,g,cdv,ct,osl,rfl,c,W⟩:=F.ex;refine⟨len,λA outer s H L a vs Q E U Z e r d=>?_⟩;have h:gO P w K mg base CX (k+1) f (Wz x qual (f7 st) (dF st) (c5 st) .none kV Y b g cdv ct) ps sp:=CH c W S len λA outer s H vs Q E U O=>J cdv A outer s H vs Q E rfl U Z.mod O;exact h.run A outer s H L a vs Q E U Z e r d
def wj{rn:List aA}{P:Vy}{w:VQ}{mg:aA->Option aC}{base:av}{T TX:bB->Option aX}{G:aA->Option aP}(X:Txt P w K mg T G)(Y:BA rn K mg TX):
 ∀(k:Nat),(∀(x:bB)(fn:aX),TX x=aa fn->∀(f:aB)(fd:Wp)(nm qual:aA)(st:VE),Fun K nm qual st f fd->eN fn.ns fn.ps (c5 st)->jY (c5 st) fn.ns rn fn.body (dF st)->kC K qual fd fn->gO P w K mg base (CX1 P w) (2*k) f fd fn.ps (spX P w K (BT.gP T TX G k x)))/\∀L,(∃fn,TX (.l L)=aa fn)->Mg P w K mg base (2*k) L (BT.gP T TX G k (.l L)):=by
 intro k
 induction k with
 |zero =>
  refine⟨?_,λL S A J s H f us U cvs m W cs h z i Q E u e0 rv R rw nc la rc e j=>nomatch e⟩;intro x fn d f fd nm qual st F B h5 h6;have no:∀U H Q E,¬spX P w K (BT.gP T TX G 0 x) U H Q E:=λU H Q E h=>by obtain⟨m,W,h,z,i,_,_,e,_⟩:=h;exact cX e
  exact⟨λU H Q E h=>bO h (no U H Q E),λA J s H Z us U Q E _ _ _ _ h=>bO h (no U H Q E)⟩
 |succ k t =>
  obtain⟨ih,il⟩:=t;refine⟨?_,λL S=>?_⟩
  rotate_left
  ·obtain⟨fn,d⟩:=S;exact(Y.lams L fn d).elim
  intro x fn d f fd nm qual st F B h5 h6;show gO P w K mg base (CX1 P w) (2*k+1+1) f fd fn.ps (spX P w K (BT.gP T TX G (k+1) x));have inv:∀{W:List aP}{h:aO}{r:aA×aO},BT.gP T TX G (k+1) x W h=aa r->W.length=fn.ps.length/\BT.rsS (aS T G k) (BT.gP T TX G k) (BT.dk T) G fn.body (BT.d8 fn.ns.length W) h=aa r:=λ{W h r} e=>by rw[BT.gP,d]at e;simp only at e;split at e;rename_i c;exact⟨c,e⟩;exact cX e
  refine HV F B (λU H Q E h=>?_) λV A J s H U Q E v u g h=>?_
  ·obtain⟨m,W,h,c,i,R,r,e,j⟩:=h;rw[r.length];exact(inv e).1
  ·obtain⟨m,W,h,c,i,R,r,e,j⟩:=h;have O:Ok (dX (CX1 P w) P w K mg base fn.ns qual (c5 st) f V A J s H E) (aS T G k) G (c5 st) fn.ns:=by refine zK X (lI X k).1 (lI X k).2 rfl rfl rfl rfl rfl rfl rfl B.nd rfl u aa0 λ_ y hy=>?_;obtain⟨t1,t2,⟨c,Pt,t3,t4,t5,t6⟩,bm,ob,t7,t8,t9,p,o,n⟩:=h6 y hy;exact⟨t2,⟨c,Pt,t3,v.symm.trans t4,X5 g.kin t5,t6⟩,by show qual++".<locals>."=_;rw[t1],bm,ob,Ww g.kin g.glob t7,t8,g.kin _ _ t9,p,o,n⟩
   have O1:OkX (dX (CX1 P w) P w K mg base fn.ns qual (c5 st) f V A J s H E) (BT.gP T TX G k) (BT.dk T) E:=EM (base:=base) X Y ih il rfl rfl rfl rfl rfl u (P7 λ_ _ z=>z);have M:MadeX rn (dX (CX1 P w) P w K mg base fn.ns qual (c5 st) f V A J s H E) E:=⟨λN b H s1 F a Z C I hx hE=>HK I hx hE,Y.cls,HM λ_ _ z=>z⟩;exact ⟨λD b H'=>xD (dX (CX1 P w) P w K mg base fn.ns qual (c5 st) f V A J s H E) E (BT.rsS (aS T G k) (BT.gP T TX G k) (BT.dk T) G fn.body) b H',
    λN s b H D I q=>By O O1 (λ_=>M) (λ_=>rfl) h5 N s b H _ I q,m,_,h,c,i,R,kQ r,(inv e).2,j⟩
def rK(F:FT)(G:aA->Option aP)(fn:aX)(ws:List aP)(h:aO):Option (aP×aO):=if ws.length=fn.ps.length then BT.i8 (aT F G fn.body (BT.d8 fn.ns.length ws) h) (BT.fin h)else af
section
variable{K:Ve}
end
end BS
end
section
end
section
namespace BS
open PySem PySem.Spec PyProof.Rows L2
variable{st:VE}
section
variable{K:Ve}
end
section
variable{K:Ve}{E:XK}
end
section
variable{K:Ve}
end
section
variable{P:Vy}{w:VQ}{K:Ve}{mg:aA->Option aC}{base:av}{T TX:bB->Option aX}{G:aA->Option aP}
end
noncomputable def jG(c m:aA)(g:List aP->aO->Option (aP×aO))(F:FT):FT:=λx=>match x with
 |.f y=>F (.f y)
 |.m O J=>if O=c/\J=m then g else F (.m O J)
 |.l L=>F (.l L)
def n9{c m:aA}{g:List aP->aO->Option (aP×aO)}{F:FT}:jG c m g F (.m c m)=g:=bM ⟨rfl,rfl⟩
def nq{c m c' m':aA}{g:List aP->aO->Option (aP×aO)}{F:FT}(h:¬(c'=c/\m'=m)):jG c m g F (.m c' m')=F (.m c' m'):=bN h
def EN{X:Cx}{F:FT}{G:aA->Option aP}{sc:V8}{N:List aA}(O:Ok X F G sc N){c m:aA}{g:List aP->aO->Option (aP×aO)}(W:¬("__init__":aA)=m)
(h:OkM X.prog X.w X.K X.mg X.base X.A CX0 c m (spF X.prog X.w X.K g)):Ok X (jG c m g F) G sc N :=
 ⟨O.hsc,O.hN,O.nd,O.calm,O.hu,O.own,O.glob,O.call,λJ V L U r e=>by
  by_cases q:J=c/\V=m
  ·obtain⟨rfl,rfl⟩:=q;rw[n9];exact h
  ·rw[nq q]at e⊢;exact O.aH J V L U r e,λJ L U r e=>by
  rw[nq (λq=>W q.2)] at e ⊢;exact O.mkc J L U r e,O.blt,O.lam,O.lamx⟩
section
variable{P:Vy}{w:VQ}{K:Ve}{mg:aA->Option aC}{base:av}{T:bB->Option aX}{G:aA->Option aP}
def Ml(X:Txt P w K mg T G)(k:Nat){fn:aX}{f:aB}{fd:Wp}{qual:aA}{cdv:aC}{A:V9}{outer:List Env}{s:Vh}{H:Hp}{E:XK}(m:eN fn.ns fn.ps (c5 st))(l:kC K qual fd fn)(V:fd.code=cdv)(J:Mod K mg base)
(j:fG (2*k+1) (A.deeper (Xr qual (c5 st) s.heap.objs.size f cdv))):Ok (dX CX0 P w K mg base fn.ns qual (c5 st) f cdv A outer s H E).nox (aS T G k) G (c5 st) fn.ns:=by
 refine zK X (lI X k).1 (lI X k).2 rfl rfl rfl rfl rfl rfl rfl m.nd rfl j Zw λ_ y i=>?_;obtain⟨h,g,⟨c,o,e,d,b,a⟩,n,ob,Z,Y,W,U,O,L⟩:=l y i;exact⟨g,⟨c,o,e,V.symm.trans d,X5 J.kin b,a⟩,by show qual++".<locals>."=_;rw[h],n,ob,Ww J.kin J.glob Z,Y,J.kin _ _ W,U,O,L⟩
end
section
variable{CX:CXT}{P:Vy}{w:VQ}{K:Ve}{mg:aA->Option aC}{base:av}{N:List aA}{qual:aA}{scope:V8}{f:aB}{cd:aC}{A:V9}{outer:List Env}{s0:Vh}{H0:Hp}{E E1:XK}
def BB{zt:List (aB×au)}{σ:L2.St}{H1:Hp}{F s':Vh}{e:aC}{k:aA}{C D:aB}{j:Nat}{p1 p2 p3 hp:Pos}{Wn:Hp->Prop}{Q:Flow->Vh->Prop}
(I:Inv (dX CX P w K mg base N qual scope f cd A outer s0 H0 E) zt σ H1 F)(h:CX1 P w (dX CX P w K mg base N qual scope f cd A outer s0 H0 E).stack H1 F E1 e s')(u:∀i d H',E1 (.ref i) d H'->i=C/\Wn H')
(r:Gl (dX CX P w K mg base N qual scope f cd A outer s0 H0 E) k)(m:dY k=ah)(p:mg k=aa (.ref D))(X:nh K C)(xD:nh K D)(L:nY K C D=ah)
(hQ:∀H' Z,Wn H'->Inv (dX CX P w K mg base N qual scope f cd A outer s0 H0 E) zt σ H' Z->Q (.ret .none) Z):
 az (VC P w) (dX CX P w K mg base N qual scope f cd A outer s0 H0 E).A (Z3 e (dX CX P w K mg base N qual scope f cd A outer s0 H0 E).env) (λ_ s2=>az (VC P w) (dX CX P w K mg base N qual scope f cd A outer s0 H0 E).A (setFlight e af) (λ_ s3 =>
  az (VC P w) (dX CX P w K mg base N qual scope f cd A outer s0 H0 E).A (handleBy e (dX CX P w K mg base N qual scope f cd A outer s0 H0 E).env [.ExceptHandler (aa (.Name k p1)) af [.Return (aa (.Constant .none j p2)) p3] hp]) Q
   (dX CX P w K mg base N qual scope f cd A outer s0 H0 E).xe s3) (dX CX P w K mg base N qual scope f cd A outer s0 H0 E).xe s2) (dX CX P w K mg base N qual scope f cd A outer s0 H0 E).xe s':=by
 obtain⟨x,i,H',B,G,a0,rfl,e1,e2,un,ho,fl,g,M,c,hE⟩:=h;obtain⟨rfl,wn⟩:=u _ _ _ hE;have J:Inv (dX CX P w K mg base N qual scope f cd A outer s0 H0 E) zt σ H' s':=I.yD (ch:=[]) e1 un ho e2 (λb z=>bO z (by simp));refine wpAny_looks_onW I.ok.frames rfl fl λh4 O Y=>?_;refine wpAny_landsW O λh5 U W=>?_;have V:Inv (dX CX P w K mg base N qual scope f cd A outer s0 H0 E) zt σ H' {s' with heap:=h5}:=zM I J g M c U.1 (Y.trans W);obtain⟨ob,o,a⟩:=U.there;refine wpAny_handleBy_cons (codeAny_handlers_test ?_) (by intro q;cases q);refine Yk V.ok.kind r (aaK (by rw[V.ok.glob];exact V.mod.glob.keeps V.bk) p ?_) (fE m).1;obtain⟨bm,N1,nm,qn,bs,R,sn,sub,ab,col,dd,k0,k1,k2,k3,k5,mN,hC,hN,hni,T,n⟩:=X.obj I.mod.kin;obtain⟨bm2,N2,nm2,qn2,bs2,s,sn2,y,ab2,S,dd2,j0,j1,j2,j3,j5,mN2,hD,hN2,H,T2,_⟩:=xD.obj I.mod.kin;have n:K.lookup i=_:=n;have t:(Wm i::bm).contains (.ref D)=ah:=by unfold nY at L;rw[n]at L;exact L
 refine qH (V.bk _ _ hC) (V.bk _ _ hD) o a (T2.hasType rfl) t ?_;refine codeAny_handlers_suite ?_;refine lands_againW U λh6 v l=>?_;have J6:Inv (dX CX P w K mg base N qual scope f cd A outer s0 H0 E) zt σ H' {s' with heap:=h6}:=zM I J g M c v.1 ((Y.trans W).trans l);exact XA (aao (Constant_none (hQ _ _ wn J6)))
end
def oJ(F:FT)(R:BT.XF)(D:aA->Bool)(G:aA->Option aP)(fn:aX)(cn:aA)(ws:List aP)(h:aO):Option (aP×aO) :=
 if ws.length=fn.ps.length then (match aT F G fn.body (BT.d8 fn.ns.length ws) h with
  |some (.rt y g)=>BT.fin h y g|some _=>af
  |none=>match BT.rsS F R D G fn.body (BT.d8 fn.ns.length ws) h with
   |some (c,h')=>if c=cn then BT.fin h (.p .aF) h' else af
   | none=>af) else af
section
variable{P:Vy}{w:VQ}{K:Ve}{mg:aA->Option aC}{base:av}{T TX:bB->Option aX}{G:aA->Option aP}
def EO{rn:List aA}(X:Txt P w K mg T G)(Y:BA rn K mg TX){k:Nat}{fn:aX}{b cn:aA}{f:aB}{fd:Wp}{nm qual:aA}{body:List VE}{C D:aB}{j:Nat}{p1 p2 p3 hp pos:Pos}(cnC:CN K cn C)(xC:nh K C)(Z:nY K C D=ah)
(h2:Fun K nm qual st f fd)(h3:eN fn.ns fn.ps (c5 st))(hB:dF st=[.Try body [.ExceptHandler (aa (.Name b p1)) af [.Return (aa (.Constant .none j p2)) p3] hp] [] [] pos])
(h5:CSs (c5 st) fn.ns fn.body body)(h6:jY (c5 st) fn.ns [] fn.body body)(hnt:∀x,fn.ns.contains (BT.jt x)=ak)
(hgD:dU (c5 st) b=ah)(okD:dY b=ah)(hmD:mg b=aa (.ref D))(F:nh K D):
 gO P w K mg base CX0 (2*k+1+1) f fd fn.ps (spF P w K (oJ (aS T G k) (BT.gP T TX G k) (BT.dk T) G fn cn)):=by
 obtain⟨oc,od,kV,doc,pm,an,cdv,ct,osl,rfl,lk,hcd⟩:=h2.ex;refine CH lk hcd h3 (λa H Q E h=>?_) λA outer s H a Q E hr h=>?_
 ·obtain⟨m,N,h,z,h',R,r,e,n⟩:=h;rw[r.length];unfold oJ at e;split at e;rename_i c;exact c;exact cX e
 ·obtain⟨m,N,h,z,h',R,r,e,n⟩:=h;unfold oJ at e;split at e
  ·have O:=Qg (CX:=CX0) (base:=base) (outer:=outer) (H:=H) (E:=E) (ps:=fn.ps) X h3.nd hnt hr;rw[hB];refine⟨λDd σ L=>σ=L2.start fn.ns a/\L=H/\(∀v U,Dd.rt v U↔Q v U),oZ ?_,rfl,rfl,λ_ _=>Iff.rfl⟩;intro zt s1 σ l Dd I ⟨q1,q2,q3⟩;subst q1 q2;refine wpAny_Try_except ?_;cases gg:aT (aS T G k) G fn.body (BT.d8 fn.ns.length N) h with
   |some fl =>
    rw[gg]at e;cases fl with
    |rt y g =>
     have g0:BT.fin h y g=aa (z,h'):=e;refine thn (sSs (Mc (zt:=zt) O Yj) (λ_=>rfl) h5 [] s1 (L2.start fn.ns a) l {nx:=λ_ _=>False,rt:=Q} (Ex I) ⟨m,_,h,_,R,kQ r,gg,?_⟩) λfw s2 q=>?_
     ·intro v L m' M R' r';obtain⟨V,B,t,o⟩:=iO g0 R M R' r';exact n v L V B t o
     ·cases fw with
      |ret u =>
       obtain⟨v,W,L,J,rv,z⟩:=q;exact⟨v,W,L,Ey I.ok J,rv,(q3 _ _).mpr z⟩
      |_=>obtain⟨_,_,_,z⟩:=q;exact z.elim
    |_=>exact cX e
   |none =>
    rw[gg]at e;simp only at e;cases g1:BT.rsS (aS T G k) (BT.gP T TX G k) (BT.dk T) G fn.body (BT.d8 fn.ns.length N) h with
    |none=>rw[g1]at e;exact cX e
    |some cq =>
     obtain⟨c,i⟩:=cq;rw[g1]at e;simp only at e;split at e
     ·rename_i hc;subst hc;have g0:BT.fin h (.p .aF) i=aa (z,h'):=e;refine By (R:=BT.gP T TX G k) (E:=λcv _ U=>cv=.ref C/\∃V,Ext m l V U/\RH K V U i) (ra:=[]) (Mc (zt:=zt) O Yj) (EM (base:=base) X Y (wj X Y k).1 (wj X Y k).2 rfl rfl rfl rfl rfl hr ?_) (λz=>bO rfl z) (λ_=>rfl) h6 [] s1 (L2.start fn.ns a) l _ (Ex I) ⟨m,_,h,c,i,R,kQ r,g1,λL m' M R' C' hC'=>⟨by rw[hC'.inj cnC],m',M,R'⟩⟩;intro S W U s2 ee s3 I' hcx;refine BB (Wn:=λU=>∃V,Ext m l V U/\RH K V U i) (Ey I.ok I') hcx (λC' d L z=>⟨by have:=z.1;cases this;rfl,z.2⟩) (ef O hgD) okD hmD xC F Z λL s'' wn J=>?_;obtain⟨V,x2,R2⟩:=wn;obtain⟨m4,B,t,o⟩:=iO (v:=.aF) g0 R x2 R2 (.p .aF);exact⟨.aF,_,L,J,rfl,(q3 _ _).mpr (n .aF L m4 B t o)⟩
     exact cX e
  exact cX e
def sH(X:Txt P w K mg T G)(k:Nat){fn:aX}{f:aB}{fd:Wp}{nm qual:aA}(h2:Fun K nm qual st f fd)(n:eN fn.ns fn.ps (c5 st))(M:CSs (c5 st) fn.ns fn.body (dF st))(I:kC K qual fd fn)
{c m:aA}{g:List aP->aO->Option (aP×aO)}
(D:¬("__init__":aA)=m){C a:aB}{b:Wp}{pg:List aA}(g1:lR K c C)(g2:ve K C m a)(g3:Binds K b pg [])(S:gO P w K mg base CX0 (2*k) a b pg (spF P w K g)):
 gO P w K mg base CX0 (2*k+1+1) f fd fn.ps (spF P w K (rK (jG c m g (aS T G k)) G fn)):=by
 refine zJ h2 n (λt H Q E h=>?_) λcdv A outer s H t Q E Y l F h=>?_
 ·obtain⟨m,j,h,z,N,R,r,e,J⟩:=h;unfold rK at e;split at e;rename_i c;rw[r.length];exact c;cases e
 ·obtain⟨x,j,h,z,N,R,r,e,J⟩:=h;unfold rK at e;split at e
  ·have O':=EN (c:=c) (Ml X k (f:=f) (outer:=outer) (H:=H) (E:=E) n I Y F l) D ⟨C,a,b,pg,2*k,g1,g2,g3,l.mono (Wh _),S⟩;refine⟨_,sSs O' (λ_=>rfl) M,?_⟩;cases Z:aT (jG c m g (aS T G k)) G fn.body (BT.d8 fn.ns.length j) h with
   |none=>rw[Z]at e;cases e
   |some o =>
    rw[Z]at e;refine⟨x,_,h,o,R,kQ r,Z,?_⟩;cases o with
    |rt y g =>
     intro v i B V d u;obtain⟨W,U,O,L⟩:=iO e R V d u;exact J v i W U O L
    |nx s' g =>
     intro q i B V d _;obtain⟨W,U,O,L⟩:=iO (v:=.aF) e R V d (.p .aF);exact J .aF i W U O L
    |_=>cases e
  cases e
end
end BS
end
section
namespace BT
open PySem
variable{aI:List Int}{g2:HH}{gv most:Nat}{li lj ri rs:List Nat}
def fX:Fn:=⟨["part"],["part"], (.seq (.v (.z .eq (.y (.aG "INNER_COUNTS") (.y (.v 0) (.j (.int 0)))) (.j (.int 0))) (.ret (.aE .nil)) .nil) (.ret (.n (.v 0) (cW (.j (.int 1))) .nil)))⟩
def nu:Fn:=⟨[],[], (.ret (.aE (cR (.j (.int 0)) (.bin .mul (.aE (cW (.j (.int 0)))) (.bi .len ak (cW (.aG "LETTERS")))) (.bin .mul (.aE (cW (.j (.int 0)))) (.aG "CELL_COUNT")) (.aE .nil) (.j (.int 0)) (.aE .nil))))⟩
def jf:Fn:=⟨["term"],["term","parts","waiting","part"], (.seq (.set 1 (.aD ah .nil)) (.seq (.set 2 (.aD ah (cW (.v 0)))) (.seq (.j (.z .gt (.bi .len ak (cW (.v 2))) (.j (.int 0))) (.seq (.set 3 (.me .pop (.v 2) .nil)) (.seq (.ex (.me .append (.v 1) (cW (.v 3)))) (.ex (.me .extend (.v 2) (cW (.call "inner_sums" (cW (.v 3))))))))) (.ret (.v 1)))))⟩
def lK:Fn:=⟨["word","one","other"],["word","one","other"], (.seq (.v (.z .eq (.v 0) (.j (.str "less"))) (.ret (.ite (.z .lt (.v 1) (.v 2)) (.j (.int 1)) (.j (.int 0)))) .nil) (.seq (.v (.z .eq (.v 0) (.j (.str "add"))) (.ret (.bin .mod (.bin .add (.v 1) (.v 2)) (.aG "WORTH_COUNT"))) .nil) (.seq (.v (.z .eq (.v 0) (.j (.str "sub"))) (.ret (.bin .mod (.bin .sub (.v 1) (.v 2)) (.aG "WORTH_COUNT"))) .nil) (.ret (.bin .mod (.bin .mul (.v 1) (.v 2)) (.aG "WORTH_COUNT"))))))⟩
def iU:Fn:=⟨["thing"],["thing"], (.ret (.z .mem (.v 0) (.aG "LETTERS")))⟩
def jg:Fn:=⟨["state","thing"],["state","thing"], (.seq (.v (.call "is_name" (cW (.v 1))) (.ret (.y (.y (.v 0) (.aG "NAMES")) (.me .tindex (.aG "LETTERS") (cW (.v 1))))) .nil) (.seq (.ex (.call "check_thing" (cW (.v 1)))) (.ret (.y (.y (.v 0) (.aG "CELLS")) (.v 1)))))⟩
def fL:Fn:=⟨["part","worths","state"],["part","worths","state","word","last"], (.seq (.set 3 (.y (.v 0) (.j (.int 0)))) (.seq (.v (.z .eq (.v 3) (.j (.str "num"))) (.ret (.y (.v 0) (.j (.int 1)))) .nil) (.seq (.v (.z .eq (.v 3) (.j (.str "name"))) (.ret (.call "worth_in" (cV (.v 2) (.y (.v 0) (.j (.int 1)))))) .nil) (.seq (.set 4 (.me .pop (.v 1) .nil)) (.seq (.v (.z .eq (.v 3) (.j (.str "cell"))) (.ret (.y (.y (.v 2) (.aG "CELLS")) (.bin .mod (.v 4) (.aG "CELL_COUNT")))) .nil) (.ret (.call "of_two" (cU (.v 3) (.me .pop (.v 1) .nil) (.v 4)))))))))⟩
def jh:Fn:=⟨["term","state"],["term","state","worths","part"], (.seq (.set 2 (.aD ah .nil)) (.seq (.for [(3,"part")] .rev (cW (.call "laid_out" (cW (.v 0)))) (.ex (.me .append (.v 2) (cW (.call "worth_of" (cU (.v 3) (.v 2) (.v 1))))))) (.ret (.y (.v 2) (.j (.int 0))))))⟩
def jZ:Fn:=⟨["term","state"],["term","state"], (.ret (.bin .mod (.call "reckoned" (cV (.v 0) (.v 1))) (.aG "CELL_COUNT")))⟩
def iV:Fn:=⟨["program","state"],["program","state","word"], (.seq (.v (.z .ge (.y (.v 1) (.aG "ROW")) (.bi .len ak (cW (.v 0)))) (.ret (.j (.bl ah))) .nil) (.seq (.set 2 (.y (.y (.v 0) (.y (.v 1) (.aG "ROW"))) (.j (.int 0)))) (.seq (.v (.z .eq (.v 2) (.j (.str "back"))) (.ret (.z .eq (.bi .len ak (cW (.y (.v 1) (.aG "CALLS")))) (.j (.int 0)))) .nil) (.seq (.v (.z .eq (.v 2) (.j (.str "call"))) (.ret (.z .ge (.bi .len ak (cW (.y (.v 1) (.aG "CALLS")))) (.aG "MOST_CALLS"))) .nil) (.ret (.z .eq (.v 2) (.j (.str "stop"))))))))⟩
def gc:Fn:=⟨["row","state"],["row","state","word"], (.seq (.set 2 (.y (.v 0) (.j (.int 0)))) (.seq (.v (.or (.z .eq (.v 2) (.j (.str "jump"))) (.z .eq (.v 2) (.j (.str "call")))) (.ret (.y (.v 0) (.j (.int 1)))) .nil) (.seq (.v (.z .eq (.v 2) (.j (.str "back"))) (.ret (.y (.y (.v 1) (.aG "CALLS")) (.neg (.j (.int 1))))) .nil) (.seq (.v (.and (.z .eq (.v 2) (.j (.str "unless"))) (.z .eq (.call "reckoned" (cV (.y (.v 0) (.j (.int 1))) (.v 1))) (.j (.int 0)))) (.ret (.y (.v 0) (.j (.int 2)))) .nil) (.ret (.bin .add (.y (.v 1) (.aG "ROW")) (.j (.int 1))))))))⟩
def gU:Fn:=⟨["worths","number","worth"],["worths","number","worth"], (.ret (.bin .add (.bin .add (.n (.v 0) .nil (cW (.v 1))) (.aE (cW (.v 2)))) (.n (.v 0) (cW (.bin .add (.v 1) (.j (.int 1)))) .nil)))⟩
def iE:Fn:=⟨["state","name","worth"],["state","name","worth"], (.ret (.call "with_worth" (cU (.y (.v 0) (.aG "NAMES")) (.me .tindex (.aG "LETTERS") (cW (.v 1))) (.v 2))))⟩
def iW:Fn:=⟨["asked","number"],["asked","number"], (.ret (.ite (.z .lt (.v 1) (.bi .len ak (cW (.v 0)))) (.y (.v 0) (.v 1)) (.j (.int 0))))⟩
def j4:Fn:=⟨["program","asked","state"],["program","asked","state","row","word","behind"], (.seq (.set 3 (.y (.v 0) (.y (.v 2) (.aG "ROW")))) (.seq (.set 4 (.y (.v 3) (.j (.int 0)))) (.seq (.set 5 (.bi .list ah (cW (.v 2)))) (.seq (.put 5 (.aG "ROW") (.call "place_behind" (cV (.v 3) (.v 2)))) (.seq (.v (.z .eq (.v 4) (.j (.str "set"))) (.put 5 (.aG "NAMES") (.call "with_name" (cU (.v 2) (.y (.v 3) (.j (.int 1))) (.call "reckoned" (cV (.y (.v 3) (.j (.int 2))) (.v 2)))))) (.v (.z .eq (.v 4) (.j (.str "put"))) (.put 5 (.aG "CELLS") (.call "with_worth" (cU (.y (.v 2) (.aG "CELLS")) (.call "cell_by" (cV (.y (.v 3) (.j (.int 1))) (.v 2))) (.call "reckoned" (cV (.y (.v 3) (.j (.int 2))) (.v 2)))))) (.v (.z .eq (.v 4) (.j (.str "ask"))) (.seq (.put 5 (.aG "NAMES") (.call "with_name" (cU (.v 2) (.y (.v 3) (.j (.int 1))) (.call "brought" (cV (.v 1) (.y (.v 2) (.aG "ASKED"))))))) (.put 5 (.aG "ASKED") (.bin .add (.y (.v 2) (.aG "ASKED")) (.j (.int 1))))) (.v (.z .eq (.v 4) (.j (.str "say"))) (.put 5 (.aG "SAID") (.bin .add (.y (.v 2) (.aG "SAID")) (.aE (cW (.call "reckoned" (cV (.y (.v 3) (.j (.int 1))) (.v 2))))))) (.v (.z .eq (.v 4) (.j (.str "call"))) (.put 5 (.aG "CALLS") (.bin .add (.y (.v 2) (.aG "CALLS")) (.aE (cW (.bin .add (.y (.v 2) (.aG "ROW")) (.j (.int 1))))))) (.v (.z .eq (.v 4) (.j (.str "back"))) (.put 5 (.aG "CALLS") (.n (.y (.v 2) (.aG "CALLS")) .nil (cW (.neg (.j (.int 1)))))) .nil)))))) (.ret (.bi .tuple ak (cW (.v 5)))))))))⟩
def zO:Vu s=Vu t↔s=t:=by
 constructor
 ·intro h;rw[aa5,aa5]at h;have U:(s.toList.map aaJ)=(t.toList.map aaJ):=by have:=bU (λx:aA=>x.cps.toList) h;simpa using this
  have inj:∀(a b:List Char),a.map aaJ=b.map aaJ->a=b:=by
   intro a
   induction a with
   |nil=>intro b h;cases b with
    |nil=>rfl|cons _ _=>simp at h
   |cons x V L=>intro b h;cases b with
    |nil=>simp at h
    |cons y J =>
     simp only[VA,XX]at h;have:x=y:=Char.toNat_inj.mp h.1;rw[this,L J h.2]
  have O:=inj _ _ U;exact String.toList_inj.mp O
 intro h;rw[h]
@[simp]theorem RG(s t:String):(Vu s==Vu t)=(s==t):=by
 by_cases h:s=t
 subst h;simp
 ·have J:¬Vu s=Vu t:=λe=>h (zO.mp e);rw[beq_eq_false_iff_ne.mpr J,beq_eq_false_iff_ne.mpr h]
@[simp]theorem TR(s t:String):(Vu s=Vu t)=(s=t):=propext zO
@[simp]theorem U8(h:List α)(a:α)(r:List α):(h++a::r)[h.length]?=aa a:=by simp
@[simp]theorem Qh(h:List α)(a b:α)(r:List α):(h++a::b::r)[h.length+1]?=aa b:=by rw[VW (by lia)];simp
@[simp]theorem U9(h:List α)(a x:α)(r:List α):(h++a::r).set h.length x=h++x::r:=by simp
@[simp]theorem Va(h:List α)(a b x:α)(r:List α):(h++a::b::r).set (h.length+1) x=h++a::x::r:=by rw[List.set_append_right _ _ (by lia)];simp
def c6(h:HH)(w:W):fin h w h=aa (w,h):=by simp[fin]
def nv(h g:HH)(d:D):fin h (.p d) (h++g)=aa (.p d,h):=by
 unfold fin;cases g with
 |_=>simp
@[simp]theorem TU(h:HH)(a:Cl)(r:HH):lat (h++a::r) h.length=pU a:=by simp[lat]
@[simp]theorem Vb(h:HH)(a b:Cl)(r:HH):lat (h++a::b::r) (h.length+1)=pU b:=by unfold lat;rw[Qh];rfl
@[simp]theorem Vc(h:HH)(a:Cl)(r:HH):oat (h++a::r) h.length=rF a:=by simp[oat]
@[simp]theorem Vd(h:HH)(a b:Cl)(r:HH):oat (h++a::b::r) (h.length+1)=rF b:=by unfold oat;rw[Qh];rfl
def HW(e:lat h n=aa ys)(c:Cl):lat (h.set n c) n=pU c:=by
 unfold lat at e⊢;cases g:h[n]? with
 |none=>rw[g]at e;exact fU e|some q=>rw[List.getElem?_set_self',g];rfl
def Qi(h:HH)(xs:List D)(g:HH):fin h (.r h.length) (h++.l xs::g)=aa (.p (.aD xs),h):=by unfold fin;simp
def zP(h h':HH)(w:W)(e:h'.length=h.length):fin h w h'=aa (w,h'):=by simp[fin,e]
structure Prg(T:FK->Option Fn)(G:aA->Option W):Prop where
 inner_sums:T "inner_sums"=aa fX
 begun:T "begun"=aa nu
 laid_out:T "laid_out"=aa jf
 of_two:T "of_two"=aa lK
 worth_of:T "worth_of"=aa fL
 is_name:T "is_name"=aa iU
 worth_in:T "worth_in"=aa jg
 reckoned:T "reckoned"=aa jh
 cell_by:T "cell_by"=aa jZ
 is_over:T "is_over"=aa iV
 place_behind:T "place_behind"=aa gc
 with_worth:T "with_worth"=aa gU
 with_name:T "with_name"=aa iE
 brought:T "brought"=aa iW
 stepped:T "stepped"=aa j4
 LETTERS:G "LETTERS"=aa (.p (.aE [.str "a",.str "b",.str "c",.str "d",.str "e",.str "f"]))
 CELL_COUNT:G "CELL_COUNT"=aa (.p (.int 4))
 WORTH_COUNT:G "WORTH_COUNT"=aa (.p (.int 10007))
 INNER:G "INNER_COUNTS"=aa (.k (.t [("num",.int 0),("name",.int 0),("cell",.int 1),("add",.int 2),("sub",.int 2),("mul",.int 2),("less",.int 2)]))
 ROW:G "ROW"=aa (.p (.int 0))
 NAMES:G "NAMES"=aa (.p (.int 1))
 CELLS:G "CELLS"=aa (.p (.int 2))
 CALLS:G "CALLS"=aa (.p (.int 3))
 ASKED:G "ASKED"=aa (.p (.int 4))
 SAID:G "SAID"=aa (.p (.int 5))
 MOST_CALLS:G "MOST_CALLS"=aa (.p (.int 6))
inductive Op
 |add|sub|mul|less
noncomputable def Op.w:Op->String
 |.add=>"add" |.sub=>"sub" |.mul=>"mul" |.less=>"less"
inductive Nm
 |a|b|c|d|e|f
noncomputable def Nm.w:Nm->String
 |.a=>"a" |.b=>"b" |.c=>"c" |.d=>"d" |.e=>"e" |.f=>"f"
noncomputable def Nm.ix:Nm->Nat
 |.a=>0|.b=>1|.c=>2|.d=>3|.e=>4|.f=>5
def Nm.JO(x:Nm):x.ix<6:=by cases x<;>decide
inductive Sm
 |num(n:Int)
 |nam(i:Nm)
 |cell(s:Sm)
 |two(o:Op)(s t:Sm)
def Sm.enc:Sm->D
 |.num n=>.aE [.str "num",.int n]|.nam i=>.aE [.str "name",.str i.w]|.cell s=>.aE [.str "cell",s.enc]|.two o s t=>.aE [.str o.w,s.enc,t.enc]
noncomputable def Sm.size:Sm->Nat
 |.num _=>1|.nam _=>1|.cell s=>s.size+1|.two _ s t=>s.size+t.size+1
noncomputable def Sm.lay:Sm->List Sm
 |.num n=>[.num n]|.nam i=>[.nam i]|.cell s=>.cell s::s.lay|.two o s t=>.two o s t::(t.lay++s.lay)
noncomputable def Sm.subs:Sm->List Sm
 |.num _=>[]|.nam _=>[]|.cell s=>[s]|.two _ s t=>[s,t]
def Wth(n:Int):Prop:=0<=n/\n<=10006
noncomputable def Sm.ok:Sm->Prop
 |.num n=>Wth n|.nam _=>True|.cell s=>s.ok|.two _ s t=>s.ok/\t.ok
def Sm.size_pos(s:Sm):1<=s.size:=by cases s<;>simp[Sm.size]
structure St where
 row:Nat
 names:List Int
 cells:List Int
 calls:List Nat
 aI:Nat
 said:List Int
noncomputable def cZ(xs:List Int):List D:=xs.map D.int
noncomputable def cY(xs:List Nat):List D:=xs.map λ(n:Nat)=>D.int (n:Int)
def St.enc(s:St):D:=.aE [.int s.row,.aE (cZ s.names),.aE (cZ s.cells),.aE (cY s.calls),.int s.aI,.aE (cZ s.said)]
structure St.ok(s:St):Prop where
 nlen:s.names.length=6
 clen:s.cells.length=4
 nw:∀x∈s.names,Wth x
 cw:∀x∈s.cells,Wth x
noncomputable def two(o:Op)(x y:Int):Int:=match o with
 |.add=>(x+y)%10007|.sub=>(x-y)%10007|.mul=>(x*y)%10007
 |.less=>if x<y then 1 else 0
def Sm.val(st:St):Sm->Int
 |.num n=>n|.nam i=>st.names.getD i.ix 0|.cell s=>st.cells.getD (s.val st%4).toNat 0|.two o s t=>BT.two o (s.val st) (t.val st)
def yd{xs:List Int}(h:∀x∈xs,Wth x)(i:Nat):Wth (xs.getD i 0):=by
 rw[Xd];cases e:xs[i]? with
 |none=>exact⟨by decide,by decide⟩|some x=>exact h x (Vz e)
def Qj(o:Op):Wth (BT.two o x y):=by cases o<;>simp only[BT.two,Wth];lia;lia;lia;split<;>decide
theorem Sm.wk{st:St}(J:st.ok):∀{s:Sm},s.ok->Wth (s.val st)
 |.num _,h=>h|.nam i,_=>yd J.nw _|.cell _,_=>yd J.cw _|.two _ _ _,_=>Qj _
section
def BD(P:Prg T G)(k:Nat)(s:Sm)(h:HH):runN T G (k+1) "inner_sums" [.p s.enc] h=aa (.p (.aE (s.subs.map Sm.enc)),h):=by
 rw[run_eq P.inner_sums rfl];cases s with
 |two o s t =>
  have g:=P.INNER;have q:fS (Vu o.w) [("num",.int 0),("name",.int 0),("cell",.int 1),("add",.int 2),("sub",.int 2),("mul",.int 2),("less",.int 2)]=aa (.int 2):=by cases o<;>simp[Op.w]
  generalize ([("num",.int 0),("name",.int 0),("cell",.int 1),("add",.int 2),("sub",.int 2),("mul",.int 2),("less",.int 2)]:List (aA×D))=I at *;simp[fX,g,q,Sm.enc,Sm.subs,c6]
 |_=>simp[fX,P.INNER,Sm.enc,Sm.subs,c6]
def ye(P:Prg T G)(k:Nat)(o:Op)(J:Wth x)(h:HH):
 runN T G (k+1) "of_two" [.p (.str o.w),.p (.int x),.p (.int y)] h=aa (.p (.int (two o x y)),h):=by
 rw[run_eq P.of_two rfl];have b:big x=ah:=by unfold big;exact bR (by have O:=J.1;have L:=J.2;lia)
 cases o<;>simp[lK,P.WORTH_COUNT,c6,Op.w,two,b]
 by_cases c:x<y<;>simp[c,c6]
noncomputable def rL:List D:=[.str "a",.str "b",.str "c",.str "d",.str "e",.str "f"]
def HY(x:Nm):gR .mem (.str x.w) (.aE rL)=aa ah:=by cases x<;>simp[rL,Nm.w]
def ER(x:Nm):meD .tindex (.aE rL) [.str x.w]=aa (.int (x.ix:Int)):=by rw[Df];cases x<;>simp[rL,Nm.w,Nm.ix,kI]
def wm{i:Nat}(h:i<xs.length):dZ (.aE (cZ xs)) (.int (i:Int))=aa (.int (xs.getD i 0)):=by show atP _ _=_;unfold atP place cZ;rw[bM (Int.natCast_nonneg _),bM (by rw[Vx];lia)];show(xs.map D.int)[((i:Int)).toNat]?=_;rw[WV,VF,Xd,Vm h];rfl
theorem sI(st:St):dZ st.enc (.int 1)=aa (.aE (cZ st.names)):=rfl
theorem BE(st:St):dZ st.enc (.int 2)=aa (.aE (cZ st.cells)):=rfl
def kR(P:Prg T G)(k:Nat)(x:Nm)(h:HH):runN T G (k+1) "is_name" [.p (.str x.w)] h=aa (.p (.bl ah),h):=by rw[run_eq P.is_name rfl];have g:G "LETTERS"=aa (.p (.aE rL)):=P.LETTERS;have m:=HY x;generalize rL=L at *;simp[-iQ,iU,g,m,c6]
def uA(P:Prg T G)(k:Nat)(st:St)(W:st.ok)(x:Nm)(h:HH):runN T G (k+2) "worth_in" [.p st.enc,.p (.str x.w)] h=aa (.p (.int (st.names.getD x.ix 0)),h):=by rw[run_eq P.worth_in rfl];have r:=kR P k x;have J:=x.JO;have V:=wm (xs:=st.names) (i:=x.ix) (by rw[W.nlen];exact J);have U:=ER x;have O:=sI st;have g:G "LETTERS"=aa (.p (.aE rL)):=P.LETTERS;generalize rL=L at *;generalize st.enc=se at *;generalize cZ st.names=sn at *;simp[-jL,jg,r,P.NAMES,g,V,U,O,c6]
def kT(P:Prg T G)(k:Nat)(st:St)(J:st.ok)(n:Nat)(h:HH):
 (∀i,runN T G (k+3) "worth_of" [.p (Sm.num i).enc,.r n,.p st.enc] h=aa (.p (.int i),h)) ∧
 (∀i,runN T G (k+3) "worth_of" [.p (Sm.nam i).enc,.r n,.p st.enc] h=aa (.p (.int (st.names.getD i.ix 0)),h)):=by
 refine⟨λi=>?_,λi=>?_⟩<;>rw[run_eq P.worth_of rfl];simp[fL,Sm.enc,c6]
 ·have r:=uA P k st J i;simp[fL,Sm.enc,c6,r]
def qJ(P:Prg T G)(k:Nat)(st:St)(O:st.ok)(n:Nat)(h:HH)(s:Sm)(ws:List D)(v:Int)(e:lat h n=aa (ws++[.int v]))(U:0<=v):
 runN T G (k+1) "worth_of" [.p (Sm.cell s).enc,.r n,.p st.enc] h=aa (.p (.int (st.cells.getD (v%4).toNat 0)),h.set n (.l ws)):=by
 rw[run_eq P.worth_of rfl];have c:(((v%4).toNat:Nat):Int)=v%4:=by lia
 have J:=wm (xs:=st.cells) (i:=(v%4).toNat) (by rw[O.clen];lia);rw[c]at J;have L:=BE st;generalize st.enc=se at *;generalize cZ st.cells=sn at *;generalize st.cells.getD (v%4).toNat 0=z at *;simp[fL,Sm.enc,P.CELLS,P.CELL_COUNT,e,J,L,zP]
def Op.other(o:Op):¬o.w="num"/\¬o.w="name"/\¬o.w="cell":=by cases o<;>decide
def rM(P:Prg T G)(k:Nat)(st:St)(n:Nat)(h:HH)(o:Op)(s t:Sm)(ws:List D)(x y:Int)(U:Wth x)(e:lat h n=aa (ws++[.int x,.int y])):
 runN T G (k+2) "worth_of" [.p (Sm.two o s t).enc,.r n,.p st.enc] h=aa (.p (.int (two o x y)),h.set n (.l ws)):=by
 rw[run_eq P.worth_of rfl];have W:lat (h.set n (.l (ws++[.int x]))) n=aa (ws++[.int x]):=HW e _;have e1:(ws++[D.int x,D.int y]).getLast?=aa (.int y):=by simp
 have e2:(ws++[D.int x,D.int y]).dropLast=ws++[.int x]:=by simp
 have r:=λV=>ye P k o (x:=x) (y:=y) U V;obtain⟨O,L,J⟩:=o.other;have en:(Sm.two o s t).enc=.aE [.str o.w,s.enc,t.enc]:=rfl;rw[en];generalize o.w=ow at *;generalize s.enc=se at *;generalize t.enc=te at *;simp[fL,e,e1,e2,W,O,L,J,r,zP,aa7]
def loC:E:=.z .gt (.bi .len ak (cW (.v 2))) (.j (.int 0))
def loB:S:=.seq (.set 3 (.me .pop (.v 2) .nil)) (.seq (.ex (.me .append (.v 1) (cW (.v 3)))) (.ex (.me .extend (.v 2) (cW (.call "inner_sums" (cW (.v 3)))))))
def sizes(l:List Sm):Nat:=(l.map Sm.size).sum
def yf(s:Sm)(l:List Sm):sizes (s.subs.reverse++l)+1=sizes (s::l):=by cases s<;>simp[sizes,Sm.subs,Sm.size]<;>lia
def ES(s:Sm)(l:List Sm):(s::l).flatMap Sm.lay=s::(s.subs.reverse++l).flatMap Sm.lay:=by cases s<;>simp[Sm.lay,Sm.subs,List.flatMap_cons]
def HZ(s:Sm):s.subs.length<=2:=by cases s<;>simp[Sm.subs]
def sJ(l:List Sm):l.length<=sizes l:=by
 induction l with
 |nil=>simp[sizes]
 |cons s l J =>
  have L:=s.size_pos;simp only[sizes,VA,aaO,Vv]at J⊢;lia
def Ia(P:Prg T G)(k:Nat)(h:HH)(L:W):∀(m:Nat)(J:List Sm)(ps:List D)(x:Option W),sizes J<=m->ps.length+sizes J<=50000 →
 ∃O,fz (ev (runN T G (k+1)) G loC) (evS (runN T G (k+1)) G loB) (m+1) [aa L,aa (.r h.length),aa (.r (h.length+1)),x] (h++[.l ps,.l (J.reverse.map Sm.enc)]) =
  aa (.nx [aa L,aa (.r h.length),aa (.r (h.length+1)),O] (h++[.l (ps++(J.flatMap Sm.lay).map Sm.enc),.l []])):=by
 intro m
 induction m with
 |zero =>
  intro J ps x Z _;have:J=[]:=by have:=sJ J;exact Z0 (by lia)
  subst this;exact⟨x,by simp[fz,loC,rd]⟩
 |succ m Y =>
  intro J ps x Z c;cases J with
  |nil=>exact⟨x,by simp[fz,loC,rd]⟩
  |cons s l =>
   have e:=yf s l;obtain⟨O,q⟩:=Y (s.subs.reverse++l) (ps++[s.enc]) (aa (.p s.enc)) (by lia) (by simp only[VN,Y0];lia);refine⟨O,?_⟩;have r:=BD P k s;have V:l.length+s.subs.length<=100000:=by
    have g:=HZ s;have f:=sJ l;have d:sizes (s::l)=s.size+sizes l:=by simp[sizes]
    lia
   have b:(0:Int)<(l.length:Int)+1:=by lia
   have U:ps.length<100000:=by lia
   have hc:ev (runN T G (k+1)) G loC [aa L,aa (.r h.length),aa (.r (h.length+1)),x] (h++[.l ps,.l ((s::l).reverse.map Sm.enc)])=aa (.p (.bl ah),h++[.l ps,.l ((s::l).reverse.map Sm.enc)]):=by simp[loC,rd,b]
   have a:evS (runN T G (k+1)) G loB [aa L,aa (.r h.length),aa (.r (h.length+1)),x] (h++[.l ps,.l ((s::l).reverse.map Sm.enc)]) =
    aa (.nx [aa L,aa (.r h.length),aa (.r (h.length+1)),aa (.p s.enc)] (h++[.l (ps++[s.enc]),.l ((s.subs.reverse++l).reverse.map Sm.enc)])):=by
    simp[loB,r,V,U]
   rw[fz,hc,jr,nR,a,gC,q,ES,VA,Wd,WM]
theorem qK:jf=⟨["term"],["term","parts","waiting","part"],.seq (.set 1 (.aD ah .nil))
 (.seq (.set 2 (.aD ah (.cons (.v 0) .nil))) (.seq (.j loC loB) (.ret (.v 1))))⟩:=rfl
def uB(P:Prg T G)(k:Nat)(s:Sm)(L:s.size<=40000)(h:HH):runN T G (k+2) "laid_out" [.p s.enc] h=aa (.p (.aD (s.lay.map Sm.enc)),h):=by rw[run_eq P.laid_out rfl];obtain⟨J,q⟩:=Ia P k h (.p s.enc) 99999 [s] [] af (by simp only[sizes,VA,Wb,aaO,List.sum_nil];lia) (by simp only[sizes,VA,Wb,aaO,List.sum_nil,VY];lia);simp only[List.flatMap_cons,List.flatMap_nil,Wc,XD,YR,VA,Wb]at q;rw[qK];simp[turns,q,Qi]
def rkB:S:=.ex (.me .append (.v 2) (cW (.call "worth_of" (cU (.v 3) (.v 2) (.v 1)))))
def Ib(P:Prg T G)(k:Nat)(h:HH)(J:W)(st:St)(V:st.ok):∀(s:Sm),s.ok->∀(ws:List D)(rest:List D)(x:Option W),ws.length+s.size<=50000 →
 ∃c,fc (evS (runN T G (k+3)) G rkB) [(3,"part")] ((s.lay.map Sm.enc).reverse++rest) [aa J,aa (.p st.enc),aa (.r h.length),x] (h++[.l ws]) =
  fc (evS (runN T G (k+3)) G rkB) [(3,"part")] rest [aa J,aa (.p st.enc),aa (.r h.length),c] (h++[.l (ws++[.int (s.val st)])]):=by
 intro s
 induction s with
 |num n =>
  intro _ ws rest x L;refine⟨aa (.p (Sm.num n).enc),?_⟩;have r:=(kT P k st V h.length (h++[.l ws])).1 n;have l:ws.length<100000:=by simp only[Sm.size]at L;lia
  have O:evS (runN T G (k+3)) G rkB [aa J,aa (.p st.enc),aa (.r h.length),aa (.p (Sm.num n).enc)] (h++[.l ws]) =
   aa (.nx [aa J,aa (.p st.enc),aa (.r h.length),aa (.p (Sm.num n).enc)] (h++[.l (ws++[.int n])])):=by
   simp[rkB,r,l]
  simp only[Sm.lay,VA,Wb,YR,WM,Sm.val];simp[O]
 |nam i =>
  intro _ ws rest x L;refine⟨aa (.p (Sm.nam i).enc),?_⟩;have r:=(kT P k st V h.length (h++[.l ws])).2 i;have l:ws.length<100000:=by simp only[Sm.size]at L;lia
  have O:evS (runN T G (k+3)) G rkB [aa J,aa (.p st.enc),aa (.r h.length),aa (.p (Sm.nam i).enc)] (h++[.l ws]) =
   aa (.nx [aa J,aa (.p st.enc),aa (.r h.length),aa (.p (Sm.nam i).enc)] (h++[.l (ws++[.int (st.names.getD i.ix 0)])])):=by
   simp[rkB,r,l]
  simp only[Sm.lay,VA,Wb,YR,WM,Sm.val];simp[O]
 |cell s d =>
  intro U ws rest x L;obtain⟨b,e1⟩:=d U ws ((Sm.cell s).enc::rest) x (by simp only[Sm.size]at L;lia);refine⟨aa (.p (Sm.cell s).enc),?_⟩;have r:=qJ P (k+2) st V h.length (h++[.l (ws++[.int (s.val st)])]) s ws (s.val st) (by simp) (Sm.wk (s:=s) V U).1;have l:ws.length<100000:=by simp only[Sm.size]at L;lia
  have O:evS (runN T G (k+3)) G rkB [aa J,aa (.p st.enc),aa (.r h.length),aa (.p (Sm.cell s).enc)] (h++[.l (ws++[.int (s.val st)])]) =
   aa (.nx [aa J,aa (.p st.enc),aa (.r h.length),aa (.p (Sm.cell s).enc)] (h++[.l (ws++[.int ((Sm.cell s).val st)])])):=by
   simp[rkB,r,l,Sm.val]
  simp only[Sm.lay,VA,ZF,Wd,WM];rw[e1];simp[O]
 |two o s t Z Y =>
  intro U ws rest x L;have a:=L;simp only[Sm.size]at a;obtain⟨b,e1⟩:=Z U.1 ws ((t.lay.map Sm.enc).reverse++((Sm.two o s t).enc::rest)) x (by lia);obtain⟨e,e2⟩:=Y U.2 (ws++[.int (s.val st)]) ((Sm.two o s t).enc::rest) b (by simp only[VN,Y0];have:=s.size_pos;lia);refine⟨aa (.p (Sm.two o s t).enc),?_⟩;have r:=rM P (k+1) st h.length (h++[.l (ws++[.int (s.val st),.int (t.val st)])]) o s t ws (s.val st) (t.val st) (Sm.wk V U.1) (by simp);have l:ws.length<100000:=by lia
  have O:evS (runN T G (k+3)) G rkB [aa J,aa (.p st.enc),aa (.r h.length),aa (.p (Sm.two o s t).enc)] (h++[.l (ws++[.int (s.val st),.int (t.val st)])]) =
   aa (.nx [aa J,aa (.p st.enc),aa (.r h.length),aa (.p (Sm.two o s t).enc)] (h++[.l (ws++[.int ((Sm.two o s t).val st)])])):=by
   simp[rkB,r,l,Sm.val]
  simp only[Sm.lay,VA,Yg,ZF,List.reverse_append,Wd,WM];rw[e1,e2];simp only[Wd,WM];simp[O]
theorem qL:jh=⟨["term","state"],["term","state","worths","part"],.seq (.set 2 (.aD ah .nil))
 (.seq (.for [(3,"part")] .rev (.cons (.call "laid_out" (.cons (.v 0) .nil)) .nil) rkB) (.ret (.y (.v 2) (.j (.int 0)))))⟩:=rfl
def gD(P:Prg T G)(k:Nat)(s:Sm)(J:s.size<=40000)(O:s.ok)(st:St)(L:st.ok)(h:HH):
 runN T G (k+4) "reckoned" [.p s.enc,.p st.enc] h=aa (.p (.int (s.val st)),h):=by
 rw[run_eq P.reckoned rfl];obtain⟨U,q⟩:=Ib P k h (.p s.enc) st L s O [] [] af (by simp only[VY];lia);rw[qL];simp only[Wc,XD]at q;have r:=uB P (k+1) s J;simp[r,iB,q,nv,rd]
end
section
variable{T:FK->Option Fn}{F:FK->List W->HH->Option (W×HH)}{G:aA->Option W}{i:Nat}{e e' c:E}{a b:S}{s s':Sl}{h g:HH}{w:W}{d d' z:D}
def kU(h1:evS F G a s h=aa (.nx s' g)):evS F G (.seq a b) s h=evS F G b s' g:=by simp[h1]
def fC(h1:aN F G e s h=aa (w,g)):evS F G (.seq (.set i e) b) s h=evS F G b (s.set i (aa w)) g:=by simp[h1]
def kW(h2:aN F G e s h=aa (w,g)):evS F G (.ret e) s h=aa (.rt w g):=by simp[h2]
end
section
def j6(xs:List α)(i:Nat):atP xs (i:Int)=xs[i]?:=by
 unfold atP place
 by_cases h:i<xs.length
 ·have J:((i:Int)<(xs.length:Int)):=by lia
  simp[J,h]
 ·have J:¬((i:Int)<(xs.length:Int)):=by lia
  simp[J];lia
def iX(P:Prg T G)(k:Nat)(xs:List D)(i:Nat)(hi:i<xs.length)(b:xs.length<=1000)(d:D)(h:HH):
 runN T G (k+1) "with_worth" [.p (.aE xs),.p (.int i),.p d] h=aa (.p (.aE (xs.set i d)),h):=by
 rw[run_eq P.with_worth rfl];have a:¬((i:Int)<0):=by lia
 have Z:(i:Int)<=(xs.length:Int):=by lia
 have Y:¬((i:Int)+1<0):=by lia
 have W:(i:Int)+1<=(xs.length:Int):=by lia
 have V:((i:Int)+1).toNat=i+1:=by lia
 have g:xs.length-(i+1)+(i+1)<=100000:=by lia
 have U:i+1+(xs.length-(i+1))<=100000:=by lia
 have O:min i xs.length=i:=by lia
 have L:i+1<=100000:=by lia
 have e:xs.take i++d::xs.drop (i+1)=xs.set i d:=by rw[List.set_eq_take_append_cons_drop,bM hi]
 have f:(xs.take i).length=i:=by simp;lia
 have c:(xs.drop (i+1)).length=xs.length-(i+1):=by simp
 have J:((xs.drop (i+1)).take (xs.length-(i+1)))=xs.drop (i+1):=by apply aa1;simp
 simp[gU,a,Z,Y,W,V,U,O,L,J,e,c6]
@[simp]theorem UY(st:St):dZ st.enc (.int 0)=aa (.int st.row):=rfl
@[simp]theorem UZ(st:St):dZ st.enc (.int 1)=aa (.aE (cZ st.names)):=rfl
@[simp]theorem U0(st:St):dZ st.enc (.int 2)=aa (.aE (cZ st.cells)):=rfl
@[simp]theorem U1(st:St):dZ st.enc (.int 3)=aa (.aE (cY st.calls)):=rfl
@[simp]theorem U3(st:St):dZ st.enc (.int 4)=aa (.int st.aI):=rfl
@[simp]theorem U4(st:St):dZ st.enc (.int 5)=aa (.aE (cZ st.said)):=rfl
inductive Rw
 |set(x:Nm)(s:Sm)|put(s t:Sm)|ask(x:Nm)|say(s:Sm)|jump(p:Nat)|unless(s:Sm)(p:Nat)|call(p:Nat)|back|stop
def Rw.enc:Rw->D
 |.set x s=>.aE [.str "set",.str x.w,s.enc]|.put s t=>.aE [.str "put",s.enc,t.enc]|.ask x=>.aE [.str "ask",.str x.w]|.say s=>.aE [.str "say",s.enc]|.jump p=>.aE [.str "jump",.int p]|.unless s p=>.aE [.str "unless",s.enc,.int p]|.call p=>.aE [.str "call",.int p]|.back=>.aE [.str "back"]|.stop=>.aE [.str "stop"]
def uC(s:Sm):Prop:=s.ok/\s.size<=15
noncomputable def Rw.ok(n:Nat):Rw->Prop
 |.set _ s=>uC s|.put s t=>uC s/\uC t|.ask _=>True|.say s=>uC s|.jump p=>p<=n|.unless s p=>uC s/\p<=n|.call p=>p<=n|.back=>True|.stop=>True
noncomputable abbrev Pg:=List Rw
def eW(p:Pg):D:=.aE (p.map Rw.enc)
def Pg.ok(p:Pg):Prop:=∀r∈p,r.ok p.length
def Rw.next(aI:List Int)(st:St):Rw->St
 |.set x s=>{st with row:=st.row+1,names:=st.names.set x.ix (s.val st)}|.put s t=>{st with row:=st.row+1,cells:=st.cells.set (s.val st%4).toNat (t.val st)}|.ask x=>{st with row:=st.row+1,names:=st.names.set x.ix (aI.getD st.aI 0),aI:=st.aI+1}|.say s=>{st with row:=st.row+1,said:=st.said++[s.val st]}|.jump p=>{st with row:=p}|.unless s p=>{st with row:=if s.val st=0 then p else st.row+1}|.call p=>{st with row:=p,calls:=st.calls++[st.row+1]}|.back=>{st with row:=st.calls.getLast?.getD 0,calls:=st.calls.dropLast}|.stop=>st
noncomputable def Rw.over(st:St):Rw->Bool
 |.back=>st.calls.length==0|.call _=>decide (6<=st.calls.length)|.stop=>ah|_=>ak
def over(p:Pg)(st:St):Bool:=match p[st.row]? with
 |some r=>r.over st|none=>ah
def step(p:Pg)(aI:List Int)(st:St):St:=match p[st.row]? with
 |some r=>r.next aI st
 |none=>st
noncomputable def St.zero:St:=⟨0,[0,0,0,0,0,0],[0,0,0,0],[],0,[]⟩
def Ic:St.zero.ok:=⟨rfl,rfl,by simp[St.zero,Wth],by simp[St.zero,Wth]⟩
def sts(p:Pg)(aI:List Int):Nat->St->List St
 |0,st=>[st]
 |n+1,st=>if over p st then [st]else st::sts p aI n (step p aI st)
def sL(P:Prg T G)(k:Nat)(h:HH):runN T G (k+1) "begun" [] h=aa (.p St.zero.enc,h):=by rw[run_eq P.begun rfl];simp[nu,P.LETTERS,P.CELL_COUNT,c6,St.zero,St.enc,cZ,cY,rep,VG,List.flatten]
def wo(P:Prg T G)(k:Nat)(aI:List Int)(n:Nat)(h:HH):runN T G (k+1) "brought" [.p (.aD (cZ aI)),.p (.int n)] h=aa (.p (.int (aI.getD n 0)),h):=by
 rw[run_eq P.brought rfl]
 by_cases c:n<aI.length
 ·have J:(n:Int)<(aI.length:Int):=by lia
  simp[iW,cZ,c,J,c6]
 ·have J:¬(n:Int)<(aI.length:Int):=by lia
  have e:aI[n]?=af:=Vs (by lia);simp[iW,cZ,J,c6,e]
def jy(P:Prg T G)(k:Nat)(st:St)(U:st.ok)(x:Nm)(d:Int)(h:HH):
 runN T G (k+2) "with_name" [.p st.enc,.p (.str x.w),.p (.int d)] h=aa (.p (.aE (cZ (st.names.set x.ix d))),h):=by
 rw[run_eq P.with_name rfl];have r:=λi=>iX P k (cZ st.names) i;have l:(cZ st.names).length=6:=by simp[cZ,U.nlen]
 have e:(cZ st.names).set x.ix (.int d)=cZ (st.names.set x.ix d):=by simp[cZ,YZ]
 have q:=r x.ix (by rw[l];exact x.JO) (by lia) (.int d);rw[e]at q;have g:G "LETTERS"=aa (.p (.aE rL)):=P.LETTERS;have O:=ER x;have J:=sI st;generalize rL=L at *;generalize st.enc=se at *;generalize V:(x.ix:Int)=z at *;simp[iE,P.NAMES,g,O,J,c6,q]
def wu(P:Prg T G)(k:Nat)(s:Sm)(J:uC s)(st:St)(L:st.ok)(h:HH):runN T G (k+5) "cell_by" [.p s.enc,.p st.enc] h=aa (.p (.int (s.val st%4)),h):=by rw[run_eq P.cell_by rfl];have q:=gD P k s (by have:=J.2;lia) J.1 st L;simp[jZ,q,P.CELL_COUNT,c6]
noncomputable def Rw.word:Rw->String
 |.set _ _=>"set" |.put _ _=>"put" |.ask _=>"ask" |.say _=>"say" |.jump _=>"jump" |.unless _ _=>"unless" |.call _=>"call" |.back=>"back" |.stop=>"stop"
def Rw.uD(r:Rw):dZ r.enc (.int 0)=aa (.str r.word):=by cases r<;>rfl
def plT:S:=(.seq (.v (.or (.z .eq (.v 2) (.j (.str "jump"))) (.z .eq (.v 2) (.j (.str "call")))) (.ret (.y (.v 0) (.j (.int 1)))) .nil) (.seq (.v (.z .eq (.v 2) (.j (.str "back"))) (.ret (.y (.y (.v 1) (.aG "CALLS")) (.neg (.j (.int 1))))) .nil) (.seq (.v (.and (.z .eq (.v 2) (.j (.str "unless"))) (.z .eq (.call "reckoned" (cV (.y (.v 0) (.j (.int 1))) (.v 1))) (.j (.int 0)))) (.ret (.y (.v 0) (.j (.int 2)))) .nil) (.ret (.bin .add (.y (.v 1) (.aG "ROW")) (.j (.int 1)))))))
theorem wA:gc=⟨["row","state"],["row","state","word"],
 (.seq (.set 2 (.y (.v 0) (.j (.int 0)))) plT)⟩:=rfl
def Ie(P:Prg T G)(F:FK->List W->HH->Option (W×HH))(J:W)(st:St)(h:HH)(v:String)(V:¬v="jump")(U:¬v="call")(O:¬v="back")(L:¬v="unless"):evS F G plT [aa J,aa (.p st.enc),aa (.p (.str v))] h=aa (.rt (.p (.int ((st.row:Int)+1))) h):=by have Y:dZ st.enc (.int 0)=aa (.int (st.row:Int)):=rfl;generalize st.enc=se at *;simp[plT,V,U,O,L,P.ROW,Y]
def JP(F:FK->List W->HH->Option (W×HH))(d:D)(J:W)(h:HH)(v:String)(q:Int)(L:v="jump"\/v="call")(i1:dZ d (.int 1)=aa (.int q)):evS F G plT [aa (.p d),aa J,aa (.p (.str v))] h=aa (.rt (.p (.int q)) h):=by rcases L with rfl|rfl<;>simp[plT,i1]
def BH(P:Prg T G)(k:Nat)(n:Nat)(r:Rw)(O:r.ok n)(st:St)(b:st.ok)(aI:List Int)(U:r.over st=ak)(h:HH):
 runN T G (k+5) "place_behind" [.p r.enc,.p st.enc] h=aa (.p (.int (r.next aI st).row),h):=by
 have V:=r.uD;have J:runN T G (k+5) "place_behind" [.p r.enc,.p st.enc] h=i8 (evS (runN T G (k+4)) G plT [aa (.p r.enc),aa (.p st.enc),aa (.p (.str r.word))] h) (fin h):=by rw[run_eq P.place_behind rfl,wA];generalize r.enc=re at *;simp[V]
 have L:∀q:Int,i8 (aa (.rt (.p (.int q)) h)) (fin h)=aa (.p (.int q),h):=λq=>by simp[c6]
 rw[J];cases r with
 |«unless» s p =>
  have q:=gD P k s (by have:=O.1.2;lia) O.1.1 st b;have Z:dZ (Rw.unless s p).enc (.int 1)=aa s.enc:=rfl;have Y:dZ (Rw.unless s p).enc (.int 2)=aa (.int (p:Int)):=rfl;have a:dZ st.enc (.int 0)=aa (.int (st.row:Int)):=rfl;generalize (Rw.unless s p).enc=re at *;generalize st.enc=se at *;generalize s.enc=sn at *
  by_cases c:s.val st=0<;>simp[plT,Rw.word,Rw.next,q,c,a,Z,Y,c6,P.ROW]
 |back =>
  have c:st.calls≠[]:=by intro e;simp[Rw.over,e]at U
  have:∃l x,st.calls=l++[x]:=⟨st.calls.dropLast,st.calls.getLast c,(List.dropLast_concat_getLast c).symm⟩;obtain⟨l,x,e⟩:=this;have W:dZ st.enc (.int 3)=aa (.aE (cY st.calls)):=rfl;have ix:dZ (.aE (cY st.calls)) (.int (-1))=aa (.int (x:Int)):=by
   have e2:-((l.length:Int)+1)<=-1:=by lia
   have d:(-1+((l.length:Int)+1)).toNat=l.length:=by lia
   simp[cY,e,e2,d]
  have nx:((Rw.back).next aI st).row=x:=by simp[Rw.next,e]
  rw[nx];generalize st.enc=se at *;generalize cY st.calls=nl at *;simp[-jL,plT,Rw.word,P.CALLS,W,ix,c6]
 |stop=>simp[Rw.over]at U|jump p=>rw[Rw.word,JP _ _ _ _ _ (p:Int) (.inl rfl) rfl,L];rfl|call p=>rw[Rw.word,JP _ _ _ _ _ (p:Int) (.inr rfl) rfl,L];rfl|_=>rw[Rw.word,Ie P _ _ _ _ _ (by decide) (by decide) (by decide) (by decide),L];rfl
def ovT:S:=(.seq (.v (.z .eq (.v 2) (.j (.str "back"))) (.ret (.z .eq (.bi .len ak (cW (.y (.v 1) (.aG "CALLS")))) (.j (.int 0)))) .nil) (.seq (.v (.z .eq (.v 2) (.j (.str "call"))) (.ret (.z .ge (.bi .len ak (cW (.y (.v 1) (.aG "CALLS")))) (.aG "MOST_CALLS"))) .nil) (.ret (.z .eq (.v 2) (.j (.str "stop"))))))
theorem rO:iV=⟨["program","state"],["program","state","word"],
 (.seq (.v (.z .ge (.y (.v 1) (.aG "ROW")) (.bi .len ak (.cons (.v 0) .nil))) (.ret (.j (.bl ah))) .nil)
 (.seq (.set 2 (.y (.y (.v 0) (.y (.v 1) (.aG "ROW"))) (.j (.int 0))))
 ovT))⟩:=rfl
def Ig(F:FK->List W->HH->Option (W×HH))(L J:W)(h:HH)(v:String)(U:¬v="back")(O:¬v="call"):evS F G ovT [aa L,aa J,aa (.p (.str v))] h=aa (.rt (.p (.bl (decide (v="stop")))) h):=by
 by_cases c:v="stop"
 ·subst c;simp[ovT]
 ·skip
  simp[ovT,U,O,c]
def wB(P:Prg T G)(k:Nat)(p:Pg)(st:St)(h:HH):runN T G (k+1) "is_over" [.p (eW p),.p st.enc] h=aa (.p (.bl (over p st)),h):=by
 have V:biD .len [eW p]=aa (.int p.length):=by simp[eW]
 by_cases c:st.row<p.length
 ·have O:¬(p.length:Int)<=(st.row:Int):=by lia
  have b:(st.row:Int)<(p.length:Int):=by lia
  have e:p[st.row]?=aa p[st.row]:=Vm c;have row:dZ (eW p) (.int st.row)=aa (p[st.row]).enc:=by simp[eW,b,e]
  have Z:over p st=(p[st.row]).over st:=by rw[over,e]
  rw[Z];generalize p[st.row]=r at row⊢;have U:=r.uD;have J:runN T G (k+1) "is_over" [.p (eW p),.p st.enc] h=i8 (evS (runN T G k) G ovT [aa (.p (eW p)),aa (.p st.enc),aa (.p (.str r.word))] h) (fin h):=by rw[run_eq P.is_over rfl,rO];generalize r.enc=re at row U;simp[V,row,U,P.ROW,O]
  rw[J];have W:biD .len [.aE (cY st.calls)]=aa (.int (st.calls.length:Int)):=by simp[cY]
  have Y:dZ st.enc (.int 3)=aa (.aE (cY st.calls)):=rfl;cases r with
  |back =>
   have L:(((st.calls.length:Nat):Int)==0)=(st.calls.length==0):=by
    cases st.calls with
    |nil=>rfl|cons a l=>rw[beq_eq_false_iff_ne.mpr (by simp only[Vv];lia)];rfl
   simp[-r8,ovT,Rw.word,P.CALLS,Y,W,L,c6,Rw.over]
  |call q =>
   have L:decide ((6:Int)<=(st.calls.length:Int))=decide (6<=st.calls.length):=decide_eq_decide.mpr (by lia);simp[-r8,ovT,Rw.word,P.CALLS,P.MOST_CALLS,Y,W,L,c6,Rw.over]
  |_ =>
   rw[Rw.word,Ig _ _ _ _ _ (by decide) (by decide)];simp[c6,Rw.over]
 ·have O:(p.length:Int)<=(st.row:Int):=by lia
  have e:p[st.row]?=af:=Vs (by lia);rw[run_eq P.is_over rfl];simp[iV,V,P.ROW,O,c6,over,e]
def ints_set(xs:List Int)(i:Nat)(v:Int):(cZ xs).set i (.int v)=cZ (xs.set i v):=by simp[cZ,YZ]
def iY(xs:List Int):(cZ xs).length=xs.length:=by simp[cZ]
def ints_snoc(xs:List Int)(v:Int):cZ xs++[.int v]=cZ (xs++[v]):=by simp[cZ]
def BI(xs:List Nat)(v:Nat):cY xs++[.int (v:Int)]=cY (xs++[v]):=by simp[cY]
def ET(xs:List Nat):cut (cY xs) af (aa (-1))=cY xs.dropLast:=by
 have e:(-1+(xs.length:Int)).toNat=xs.length-1:=by lia
 simp[cut,clip,cY,e,List.dropLast_eq_take]
structure St.small(st:St):Prop where
 sl:st.said.length<=5000
 cl:st.calls.length<=5000
def encL(st:St):List D:=[.int st.row,.aE (cZ st.names),.aE (cZ st.cells),.aE (cY st.calls),.int st.aI,.aE (cZ st.said)]
theorem EU(st:St):biD .list [st.enc]=aa (.aD (encL st)):=rfl
def Mm:S:=(.put 5 (.aG "CALLS") (.n (.y (.v 2) (.aG "CALLS")) .nil (cW (.neg (.j (.int 1))))))
def Mn:S:=(.v (.z .eq (.v 4) (.j (.str "back"))) Mm .nil)
def Mp:S:=(.put 5 (.aG "CALLS") (.bin .add (.y (.v 2) (.aG "CALLS")) (.aE (cW (.bin .add (.y (.v 2) (.aG "ROW")) (.j (.int 1)))))))
def Ih:S:=(.v (.z .eq (.v 4) (.j (.str "call"))) Mp Mn)
def Mq:S:=(.put 5 (.aG "SAID") (.bin .add (.y (.v 2) (.aG "SAID")) (.aE (cW (.call "reckoned" (cV (.y (.v 3) (.j (.int 1))) (.v 2)))))))
def EV:S:=(.v (.z .eq (.v 4) (.j (.str "say"))) Mq Ih)
def Mr:S:=(.seq (.put 5 (.aG "NAMES") (.call "with_name" (cU (.v 2) (.y (.v 3) (.j (.int 1))) (.call "brought" (cV (.v 1) (.y (.v 2) (.aG "ASKED"))))))) (.put 5 (.aG "ASKED") (.bin .add (.y (.v 2) (.aG "ASKED")) (.j (.int 1)))))
def BJ:S:=(.v (.z .eq (.v 4) (.j (.str "ask"))) Mr EV)
def Ms:S:=(.put 5 (.aG "CELLS") (.call "with_worth" (cU (.y (.v 2) (.aG "CELLS")) (.call "cell_by" (cV (.y (.v 3) (.j (.int 1))) (.v 2))) (.call "reckoned" (cV (.y (.v 3) (.j (.int 2))) (.v 2))))))
def yg:S:=(.v (.z .eq (.v 4) (.j (.str "put"))) Ms BJ)
def Mt:S:=(.put 5 (.aG "NAMES") (.call "with_name" (cU (.v 2) (.y (.v 3) (.j (.int 1))) (.call "reckoned" (cV (.y (.v 3) (.j (.int 2))) (.v 2))))))
def mE:S:=(.v (.z .eq (.v 4) (.j (.str "set"))) Mt yg)
def Mu:S:=(.seq mE (.ret (.bi .tuple ak (cW (.v 5)))))
theorem rP:j4=⟨["program","asked","state"],["program","asked","state","row","word","behind"],
 (.seq (.set 3 (.y (.v 0) (.y (.v 2) (.aG "ROW"))))
 (.seq (.set 4 (.y (.v 3) (.j (.int 0))))
 (.seq (.set 5 (.bi .list ah (.cons (.v 2) .nil)))
 (.seq (.put 5 (.aG "ROW") (.call "place_behind" (.cons (.v 3) (.cons (.v 2) .nil))))
 Mu))))⟩:=rfl
theorem Mv(F:FK->List W->HH->Option (W×HH))(A B:S)(s:Sl)(h:HH):evS F G (.seq A B) s h=oH (evS F G A s h) (evS F G B):=rfl
def pick(F:FK->List W->HH->Option (W×HH))(U O L J:W)(v w:String)(rest:Sl)(h:HH)(A B:S):evS F G (.v (.z .eq (.v 4) (.j (.str w))) A B) (aa U::aa O::aa L::aa J::aa (.p (.str v))::rest) h=if v=w then evS F G A (aa U::aa O::aa L::aa J::aa (.p (.str v))::rest) h else evS F G B (aa U::aa O::aa L::aa J::aa (.p (.str v))::rest) h:=by
 have e:eqv (.str v) (.str w)=decide (v=w):=by
  by_cases c:v=w
  rw[bR c,c];simp
  ·rw[bQ c];have:¬Vu v=Vu w:=λz=>c (by simpa using z);simp[this,c]
 by_cases c:v=w
 ·rw[bR c]at e;rw[bM c];simp[-eqv,e]
 ·rw[bQ c]at e;rw[bN c];simp[-eqv,e]
def to0(F:FK->List W->HH->Option (W×HH))(U O L J:W)(rest:Sl)(h:HH):evS F G mE (aa U::aa O::aa L::aa J::aa (.p (.str "set"))::rest) h=evS F G Mt (aa U::aa O::aa L::aa J::aa (.p (.str "set"))::rest) h:=by rw[mE,pick,bM rfl]
def to1(F:FK->List W->HH->Option (W×HH))(U O L J:W)(rest:Sl)(h:HH):evS F G mE (aa U::aa O::aa L::aa J::aa (.p (.str "put"))::rest) h=evS F G Ms (aa U::aa O::aa L::aa J::aa (.p (.str "put"))::rest) h:=by rw[mE,pick,bN (by decide),yg,pick,bM rfl]
def to2(F:FK->List W->HH->Option (W×HH))(U O L J:W)(rest:Sl)(h:HH):evS F G mE (aa U::aa O::aa L::aa J::aa (.p (.str "ask"))::rest) h=evS F G Mr (aa U::aa O::aa L::aa J::aa (.p (.str "ask"))::rest) h:=by rw[mE,pick,bN (by decide),yg,pick,bN (by decide),BJ,pick,bM rfl]
def to3(F:FK->List W->HH->Option (W×HH))(U O L J:W)(rest:Sl)(h:HH):evS F G mE (aa U::aa O::aa L::aa J::aa (.p (.str "say"))::rest) h=evS F G Mq (aa U::aa O::aa L::aa J::aa (.p (.str "say"))::rest) h:=by rw[mE,pick,bN (by decide),yg,pick,bN (by decide),BJ,pick,bN (by decide),EV,pick,bM rfl]
def to4(F:FK->List W->HH->Option (W×HH))(U O L J:W)(rest:Sl)(h:HH):evS F G mE (aa U::aa O::aa L::aa J::aa (.p (.str "call"))::rest) h=evS F G Mp (aa U::aa O::aa L::aa J::aa (.p (.str "call"))::rest) h:=by rw[mE,pick,bN (by decide),yg,pick,bN (by decide),BJ,pick,bN (by decide),EV,pick,bN (by decide),Ih,pick,bM rfl]
def to5(F:FK->List W->HH->Option (W×HH))(U O L J:W)(rest:Sl)(h:HH):evS F G mE (aa U::aa O::aa L::aa J::aa (.p (.str "back"))::rest) h=evS F G Mm (aa U::aa O::aa L::aa J::aa (.p (.str "back"))::rest) h:=by rw[mE,pick,bN (by decide),yg,pick,bN (by decide),BJ,pick,bN (by decide),EV,pick,bN (by decide),Ih,pick,bN (by decide),Mn,pick,bM rfl]
def toN(F:FK->List W->HH->Option (W×HH))(U O L J:W)(rest:Sl)(h:HH)(v:String)(V:v∉["set","put","ask","say","call","back"]):evS F G mE (aa U::aa O::aa L::aa J::aa (.p (.str v))::rest) h=aa (.nx (aa U::aa O::aa L::aa J::aa (.p (.str v))::rest) h):=by simp only[aaP,YM,or_false,not_or]at V;obtain⟨d,c,b,a,Z,Y⟩:=V;rw[mE,pick,bN d,yg,pick,bN c,BJ,pick,bN b,EV,pick,bN a,Ih,pick,bN Z,Mn,pick,bN Y];rfl
def wC(P:Prg T G)(k:Nat)(p:Pg)(f:Pg.ok p)(aI:List Int)(st:St)(L:st.ok)(a:st.small)(U:over p st=ak)(h:HH):
 runN T G (k+6) "stepped" [.p (eW p),.p (.aD (cZ aI)),.p st.enc] h=aa (.p (step p aI st).enc,h):=by
 have c:st.row<p.length:=by
  rcases VD st.row p.length with q|q
  exact q;rw[over,Vs q]at U;exact OA U
 have e:p[st.row]?=aa p[st.row]:=Vm c;have m:(st.row:Int)<(p.length:Int):=by lia
 have J:=f _ (YN c);have O:(p[st.row]).over st=ak:=by rw[over,e]at U;exact U
 have W:=BH P k p.length p[st.row] J st L aI O;rw[step,e];have o:=a.sl;have n:=a.cl
 revert W J O
 generalize p[st.row]=r at *;intro J O W;have row:dZ (eW p) (.int st.row)=aa r.enc:=by simp[eW,m,e]
 have V:runN T G (k+6) "stepped" [.p (eW p),.p (.aD (cZ aI)),.p st.enc] h =
  i8 (evS (runN T G (k+5)) G Mu [aa (.p (eW p)),aa (.p (.aD (cZ aI))),aa (.p st.enc),aa (.p r.enc),aa (.p (.str r.word)),aa (.r h.length)] (h++[.l [.int (r.next aI st).row,.aE (cZ st.names),.aE (cZ st.cells),.aE (cY st.calls),.int st.aI,.aE (cZ st.said)]])) (fin h):=by
  rw[run_eq P.stepped rfl,rP];simp[row,r.uD,P.ROW,EU,encL,W]
 rw[V,Mu,Mv];cases r with
 |set x s =>
  have q:=gD P (k+1) s (by have:=J.2;lia) J.1 st L;have w:=jy P (k+3) st L x (s.val st);simp only[Rw.enc,Rw.next,Rw.word,to0];simp[Mt,P.ROW,P.NAMES,q,w,rd,nv,Rw.next];simp[St.enc]
 |put s t =>
  have q:=wu P k s J.1 st L;have d:=gD P (k+1) t (by have:=J.2.2;lia) J.2.1 st L;have v:=Sm.wk (s:=s) L J.1.1;have g:(s.val st%4).toNat<(cZ st.cells).length:=by rw[iY,L.clen];lia
  have w:=iX P (k+4) (cZ st.cells) (s.val st%4).toNat g (by rw[iY,L.clen];lia) (.int (t.val st));have j:(((s.val st%4).toNat:Nat):Int)=s.val st%4:=by lia
  rw[j,ints_set]at w;simp only[Rw.enc,Rw.next,Rw.word,to1];simp[Ms,P.ROW,P.CELLS,q,d,w,rd,nv,Rw.next];simp[St.enc]
 |ask x =>
  have b:=wo P (k+4) aI st.aI;have w:=jy P (k+3) st L x (aI.getD st.aI 0);simp only[Rw.enc,Rw.next,Rw.word,to2];simp only[Xd]at b w⊢;simp[Mr,P.ROW,P.NAMES,P.ASKED,b,w,rd,nv,Rw.next];simp[St.enc]
 |say s =>
  have q:=gD P (k+1) s (by have:=J.2;lia) J.1 st L;simp only[Rw.enc,Rw.next,Rw.word,to3];have Y:(cZ st.said).length+1<=100000:=by rw[iY];lia
  simp[Mq,P.ROW,P.SAID,q,rd,nv,Rw.next,Y,ints_snoc];simp[St.enc]
 |call q =>
  simp only[Rw.enc,Rw.next,Rw.word,to4];have Y:(cY st.calls).length+1<=100000:=by simp[cY];lia
  have Z:cY st.calls++[.int ((st.row:Int)+1)]=cY (st.calls++[st.row+1]):=by rw[←BI];simp
  simp[Mp,P.ROW,P.CALLS,rd,nv,Rw.next,Y,Z];simp[St.enc]
 |back =>
  simp only[Rw.enc,Rw.next,Rw.word,to5];have Z:=ET st.calls;have i:oO (.aE (cY st.calls)) af (aa (-1))=aa (.aE (cY st.calls.dropLast)):=by rw[tQ,Z]
  simp[-tQ,Mm,P.ROW,P.CALLS,rd,nv,Rw.next,i];simp[St.enc]
 |stop=>simp[Rw.over]at O
 |_ =>
  simp only[Rw.enc,Rw.next,Rw.word];rw[toN _ _ _ _ _ _ _ _ (by decide)];simp[P.ROW,rd,nv,Rw.next];simp[St.enc]
end
def Ask(aI:List Int):Prop:=∀x∈aI,Wth x
def EW{xs:List Int}{i:Nat}{v:Int}(h:∀x∈xs,Wth x)(L:Wth v):∀x∈xs.set i v,Wth x:=λx J=>by
 rcases Xk J with q|q
 exact h x q;rw[q];exact L
structure At(n:Nat)(st:St):Prop where
 ok:st.ok
 said:st.said.length<=n
 calls:st.calls.length<=6
def At.small{st:St}(a:At n st)(h:n<=5000):st.small:=⟨by have:=a.said;lia,by have:=a.calls;lia⟩
def zQ:At 0 St.zero:=⟨Ic,Vo _,by decide⟩
def zR{n:Nat}{p:Pg}{st:St}(U:Pg.ok p)(V:Ask aI)(a:At n st)(O:over p st=ak):At (n+1) (step p aI st):=by
 have c:st.row<p.length:=by
  rcases VD st.row p.length with q|q
  exact q;rw[over,Vs q]at O;cases O
 have e:p[st.row]?=aa p[st.row]:=Vm c;have L:=U _ (YN c);have J:(p[st.row]).over st=ak:=by rw[over,e]at O;exact O
 rw[step,e];dsimp only
 revert L J
 generalize p[st.row]=r;intro L J;obtain⟨ok,W,cl⟩:=a;cases r with
 |set x s=>exact⟨⟨by simp[Rw.next,ok.nlen],ok.clen,EW ok.nw (Sm.wk ok L.1),ok.cw⟩,by simp[Rw.next];lia,cl⟩|put s t=>exact⟨⟨ok.nlen,by simp[Rw.next,ok.clen],ok.nw,EW ok.cw (Sm.wk ok L.2.1)⟩,by simp[Rw.next];lia,cl⟩|ask x=>exact⟨⟨by simp[Rw.next,ok.nlen],ok.clen,EW ok.nw (yd V _),ok.cw⟩,by simp[Rw.next];lia,cl⟩|say s=>exact⟨⟨ok.nlen,ok.clen,ok.nw,ok.cw⟩,by simp[Rw.next];lia,cl⟩
 |call q =>
  simp[Rw.over]at J;exact⟨⟨ok.nlen,ok.clen,ok.nw,ok.cw⟩,by simp[Rw.next];lia,by simp[Rw.next];lia⟩
 |back=>exact⟨⟨ok.nlen,ok.clen,ok.nw,ok.cw⟩,by simp[Rw.next];lia,by simp[Rw.next];lia⟩|stop=>simp[Rw.over]at J|_=>exact⟨⟨ok.nlen,ok.clen,ok.nw,ok.cw⟩,by simp[Rw.next];lia,cl⟩
section
end
def ig:Fn:=⟨["_law_script","_law_k"],["_law_script","_law_k"], (.seq (.v (.z .eq (.v 0) (.aD ak .nil)) (.ret (.bin .mul (.j (.int 7)) (.v 1))) .nil) (.ret (.bin .add (.y (.v 0) (.bin .mod (.v 1) (.bi .len ak (cW (.v 0))))) (.bin .mul (.j (.int 6553)) (.bin .fdiv (.v 1) (.bi .len ak (cW (.v 0))))))))⟩
def iF:Fn:=⟨["_law_script","_law_k","_law_many"],["_law_script","_law_k","_law_many","_law_cell_here"], (.seq (.set 3 (.bin .mod (.bin .add (.bin .mul (.bin .mod (.call "_law_cell" (cV (.v 0) (.v 1))) (.j (.int 2147483563))) (.j (.int 69069))) (.bin .mul (.j (.int 104723)) (.bin .add (.v 1) (.j (.int 1))))) (.j (.int 2147483563)))) (.seq (.set 3 (.bin .mod (.bin .add (.bin .mul (.v 3) (.v 3)) (.bin .fdiv (.v 3) (.j (.int 3)))) (.j (.int 2147483399)))) (.ret (.bin .mod (.bin .fdiv (.bin .mod (.bin .add (.bin .mul (.v 3) (.v 3)) (.bin .fdiv (.v 3) (.j (.int 7)))) (.j (.int 2147483647))) (.j (.int 11))) (.v 2)))))⟩
def smL:S:=(.seq (.v (.z .eq (.call "_law_drawn" (cU (.v 0) (.bin .add (.v 1) (.j (.int 1))) (.j (.int 2)))) (.j (.int 0))) (.ret (.aE (cV (.j (.str "num")) (.y (.aD ak (cR (.j (.int 0)) (.j (.int 1)) (.j (.int 2)) (.j (.int 3)) (.j (.int 10)) (.j (.int 10006)))) (.call "_law_drawn" (cU (.v 0) (.bin .add (.v 1) (.j (.int 2))) (.j (.int 6)))))))) .nil) (.ret (.aE (cV (.j (.str "name")) (.y (.j (.str "abcf")) (.call "_law_drawn" (cU (.v 0) (.bin .add (.v 1) (.j (.int 2))) (.j (.int 4)))))))))
def smR:S:=(.seq (.set 4 (.call "_law_sum" (cU (.v 0) (.bin .add (.bin .mul (.v 1) (.j (.int 2))) (.j (.int 5))) (.bin .sub (.v 2) (.j (.int 1)))))) (.seq (.v (.z .lt (.v 3) (.j (.int 6))) (.ret (.aE (cV (.j (.str "cell")) (.v 4)))) .nil) (.ret (.aE (cU (.y (.aD ak (cT (.j (.str "add")) (.j (.str "sub")) (.j (.str "mul")) (.j (.str "less")))) (.bin .sub (.v 3) (.j (.int 6)))) (.v 4) (.call "_law_sum" (cU (.v 0) (.bin .add (.bin .mul (.v 1) (.j (.int 2))) (.j (.int 19))) (.bin .sub (.v 2) (.j (.int 1))))))))))
def gh:Fn:=⟨["_law_script","_law_at","_law_deep"],["_law_script","_law_at","_law_deep","_law_way","_law_one"], (.seq (.set 3 (.call "_law_drawn" (cU (.v 0) (.v 1) (.j (.int 10))))) (.seq (.v (.or (.z .eq (.v 2) (.j (.int 0))) (.z .lt (.v 3) (.j (.int 4)))) smL .nil) smR))⟩
def j7:Fn:=⟨["_law_script","_law_at","_law_size"],["_law_script","_law_at","_law_size","_law_way","_law_place","_law_name","_law_one"], (.seq (.set 3 (.call "_law_drawn" (cU (.v 0) (.v 1) (.j (.int 16))))) (.seq (.set 4 (.call "_law_drawn" (cU (.v 0) (.bin .add (.v 1) (.j (.int 1))) (.bin .add (.v 2) (.j (.int 1)))))) (.seq (.set 5 (.y (.j (.str "abc")) (.call "_law_drawn" (cU (.v 0) (.bin .add (.v 1) (.j (.int 2))) (.j (.int 3)))))) (.seq (.set 6 (.call "_law_sum" (cU (.v 0) (.bin .add (.v 1) (.j (.int 3))) (.j (.int 2))))) (.seq (.v (.z .lt (.v 3) (.j (.int 5))) (.ret (.aE (cU (.j (.str "set")) (.v 5) (.v 6)))) .nil) (.seq (.v (.z .lt (.v 3) (.j (.int 7))) (.ret (.aE (cU (.j (.str "put")) (.call "_law_sum" (cU (.v 0) (.bin .add (.v 1) (.j (.int 9))) (.j (.int 1)))) (.v 6)))) .nil) (.seq (.v (.z .lt (.v 3) (.j (.int 9))) (.ret (.y (.aD ak (cV (.aE (cV (.j (.str "ask")) (.v 5))) (.aE (cV (.j (.str "say")) (.v 6))))) (.bin .sub (.v 3) (.j (.int 7))))) .nil) (.seq (.v (.z .lt (.v 3) (.j (.int 12))) (.ret (.y (.aD ak (cU (.aE (cV (.j (.str "jump")) (.v 4))) (.aE (cU (.j (.str "unless")) (.v 6) (.v 4))) (.aE (cU (.j (.str "unless")) (.aE (cV (.j (.str "name")) (.v 5))) (.v 4))))) (.bin .sub (.v 3) (.j (.int 9))))) .nil) (.ret (.y (.aD ak (cT (.aE (cV (.j (.str "call")) (.v 4))) (.aE (cV (.j (.str "call")) (.v 4))) (.aE (cW (.j (.str "back")))) (.y (.aD ak (cV (.aE (cW (.j (.str "stop")))) (.aE (cW (.j (.str "back")))))) (.bin .mod (.v 4) (.j (.int 2)))))) (.bin .sub (.v 3) (.j (.int 12)))))))))))))⟩
def fM:Fn:=⟨["_law_script","_law_at"],["_law_script","_law_at","_law_size","_law_put","_law_sign","_law_rows"], (.seq (.set 2 (.bin .add (.j (.int 1)) (.call "_law_drawn" (cU (.v 0) (.v 1) (.j (.int 9)))))) (.seq (.v (.z .eq (.call "_law_drawn" (cU (.v 0) (.bin .add (.v 1) (.j (.int 1))) (.j (.int 4)))) (.j (.int 0))) (.seq (.set 3 (.aE (cU (.j (.str "put")) (.aE (cV (.j (.str "name")) (.j (.str "a")))) (.aE (cV (.j (.str "num")) (.call "_law_drawn" (cU (.v 0) (.bin .add (.v 1) (.j (.int 2))) (.j (.int 9))))))))) (.seq (.set 4 (.y (.aD ak (cV (.j (.str "add")) (.j (.str "sub")))) (.call "_law_drawn" (cU (.v 0) (.bin .add (.v 1) (.j (.int 3))) (.j (.int 2)))))) (.seq (.set 5 (.aE (cS (.aE (cV (.j (.str "ask")) (.j (.str "a")))) (.aE (cV (.j (.str "call")) (.j (.int 4)))) (.aE (cV (.j (.str "say")) (.aE (cV (.j (.str "name")) (.j (.str "a")))))) (.aE (cV (.j (.str "jump")) (.j (.int 0)))) (.v 3)))) (.ret (.bin .add (.v 5) (.aE (cT (.aE (cV (.j (.str "call")) (.j (.int 7)))) (.aE (cW (.j (.str "back")))) (.aE (cU (.j (.str "set")) (.j (.str "b")) (.aE (cU (.v 4) (.aE (cV (.j (.str "name")) (.j (.str "b")))) (.aE (cV (.j (.str "name")) (.j (.str "a")))))))) (.aE (cW (.j (.str "back"))))))))))) .nil) (.ret (.bi .tuple ak (cW (.comp ak .rng1 (cW (.v 2)) ["_law_k"] [(0,"_law_script"),(1,"_law_at"),(2,"_law_size")] .nil (.call "_law_row" (cU (.v 1) (.bin .add (.bin .add (.v 2) (.j (.int 10))) (.bin .mul (.j (.int 40)) (.v 0))) (.v 3)))))))))⟩
def iG:Fn:=⟨["_law_script","_law_at"],["_law_script","_law_at"], (.ret (.comp ak .rng1 (cW (.call "_law_drawn" (cU (.v 0) (.v 1) (.j (.int 4))))) ["_law_k"] [(0,"_law_script"),(1,"_law_at")] .nil (.y (.aD ak (cT (.j (.int 0)) (.j (.int 1)) (.j (.int 5)) (.j (.int 10006)))) (.call "_law_drawn" (cU (.v 1) (.bin .add (.bin .add (.v 2) (.j (.int 1))) (.v 0)) (.j (.int 4)))))))⟩
structure Lw(T:FK->Option Fn):Prop where
 cell:T "_law_cell"=aa ig
 drawn:T "_law_drawn"=aa iF
 sum:T "_law_sum"=aa gh
 row:T "_law_row"=aa j7
 aI:T "_law_asked"=aa iG
noncomputable def zS(ns:List Int)(k:Int):Int:=if ns=[]then 7*k else ns.getD (k%ns.length).toNat 0+6553*(k/ns.length)
def drw(ns:List Int)(k many:Int):Int :=
 let a:=(zS ns k%2147483563*69069+104723*(k+1))%2147483563
 let b:=(a*a+a/3)%2147483399
 (b*b+b/7)%2147483647/11%many
def gi(ns:List Int)(k:Int)(h:0<many):0<=drw ns k many:=Int.emod_nonneg _ (by lia)
def gj(ns:List Int)(k:Int)(h:0<many):drw ns k many<many:=Int.emod_lt_of_pos _ h
def sM(J:0<=i)(h1:i<18446744073709551616):big i=ah:=by unfold big;exact bR (by lia)
section
def Ii(ns:List Int):eqv (.aD (cZ ns)) (.aD [])=decide (ns=[]):=by cases ns<;>simp[cZ]
def EX(L:Lw T)(m:Nat)(ns:List Int)(a:ns.length<=1000)(k:Int)(h:HH):runN T G (m+1) "_law_cell" [.p (.aD (cZ ns)),.p (.int k)] h=aa (.p (.int (zS ns k)),h):=by
 rw[run_eq L.cell rfl]
 by_cases c:ns=[]
 ·subst c;simp[ig,cZ,zS,big,c6]
 ·have V:0<ns.length:=List.length_pos_iff.mpr c;have q:eqv (.aD (cZ ns)) (.aD [])=ak:=by rw[Ii];exact bQ c
  have J:(0:Int)<(ns.length:Int):=by lia
  have O:(ns.length:Int)<1073741824:=by lia
  have Y:=Int.emod_nonneg k (b:=(ns.length:Int)) (by lia);have W:=Int.emod_lt_of_pos k J;have Z:(k%(ns.length:Int)).toNat<ns.length:=by lia
  have U:ns.length<1073741824:=by lia
  simp[ig,-eqv,q,iY,J,O,V,U,Y,W,big,c6,zS,c];simp[cZ,Z,c6,V,U,Y,W,big,J,O]
def gq(L:Lw T)(m:Nat)(ns:List Int)(O:ns.length<=1000)(k many:Int)(J:0<many)(h:HH):
 runN T G (m+2) "_law_drawn" [.p (.aD (cZ ns)),.p (.int k),.p (.int many)] h=aa (.p (.int (drw ns k many)),h):=by
 rw[run_eq L.drawn rfl];have r:=EX (G:=G) L m ns O k;have Y:big 69069=ah:=by decide
 have W:big 104723=ah:=by decide
 have V:∀x:Int,big (x%2147483563)=ah:=λx=>sM (by lia) (by lia);have U:∀x:Int,big (x%2147483399)=ah:=λx=>sM (by lia) (by lia);simp[iF,r,Y,W,V,U,c6,J,drw]
def uE:Vu "abcf"=⟨#[97,98,99,102]⟩:=by decide +kernel
def EY:Vu "abc"=⟨#[97,98,99]⟩:=by decide +kernel
def o_a:Vu "a"=⟨#[97]⟩:=by decide +kernel
def o_b:Vu "b"=⟨#[98]⟩:=by decide +kernel
def o_c:Vu "c"=⟨#[99]⟩:=by decide +kernel
def o_f:Vu "f"=⟨#[102]⟩:=by decide +kernel
def zT(i:Int)(J:0<=i)(h1:i<4):∃x:Nm,dZ (.str "abcf") (.int i)=aa (.str x.w):=by
 have:i=0\/i=1\/i=2\/i=3:=by lia
 rcases this with rfl|rfl|rfl|rfl
 exact⟨.a,by rw[Nm.w,uE,o_a];rfl⟩;exact⟨.b,by rw[Nm.w,uE,o_b];rfl⟩;exact⟨.c,by rw[Nm.w,uE,o_c];rfl⟩;exact⟨.f,by rw[Nm.w,uE,o_f];rfl⟩
def Mw(i:Int)(J:0<=i)(h1:i<3):∃x:Nm,dZ (.str "abc") (.int i)=aa (.str x.w):=by
 have:i=0\/i=1\/i=2:=by lia
 rcases this with rfl|rfl|rfl
 exact⟨.a,by rw[Nm.w,EY,o_a];rfl⟩;exact⟨.b,by rw[Nm.w,EY,o_b];rfl⟩;exact⟨.c,by rw[Nm.w,EY,o_c];rfl⟩
def zU(i:Int)(J:0<=i)(h1:i<6):∃n:Int,Wth n/\dZ (.aD [.int 0,.int 1,.int 2,.int 3,.int 10,.int 10006]) (.int i)=aa (.int n):=by
 have:i=0\/i=1\/i=2\/i=3\/i=4\/i=5:=by lia
 rcases this with rfl|rfl|rfl|rfl|rfl|rfl
 exact⟨0,⟨by decide,by decide⟩,rfl⟩;exact⟨1,⟨by decide,by decide⟩,rfl⟩;exact⟨2,⟨by decide,by decide⟩,rfl⟩;exact⟨3,⟨by decide,by decide⟩,rfl⟩;exact⟨10,⟨by decide,by decide⟩,rfl⟩;exact⟨10006,⟨by decide,by decide⟩,rfl⟩
def Mx(i:Int)(J:0<=i)(h1:i<4):∃o:Op,dZ (.aD [.str "add",.str "sub",.str "mul",.str "less"]) (.int i)=aa (.str o.w):=by
 have:i=0\/i=1\/i=2\/i=3:=by lia
 rcases this with rfl|rfl|rfl|rfl
 exact⟨.add,rfl⟩;exact⟨.sub,rfl⟩;exact⟨.mul,rfl⟩;exact⟨.less,rfl⟩
def EZ(L:Lw T)(ns:List Int)(U:ns.length<=1000)(p n:Int)(k:Nat)(rest:Sl)(h:HH)(c:drw ns (p+1) 2=0)(en:dZ (.aD [.int 0,.int 1,.int 2,.int 3,.int 10,.int 10006]) (.int (drw ns (p+2) 6))=aa (.int n)):
 evS (runN T G (k+2)) G smL (aa (.p (.aD (cZ ns)))::aa (.p (.int p))::rest) h=aa (.rt (.p (Sm.num n).enc) h):=by
 have V:=λq J (O:0<J)=>gq (G:=G) L k ns U q J O;simp[-dP,-kJ,smL,V,c,en,Sm.enc]
def E2(L:Lw T)(ns:List Int)(U:ns.length<=1000)(p:Int)(x:Nm)(k:Nat)(rest:Sl)(h:HH)(c:¬drw ns (p+1) 2=0)(ex:dZ (.str "abcf") (.int (drw ns (p+2) 4))=aa (.str x.w)):
 evS (runN T G (k+2)) G smL (aa (.p (.aD (cZ ns)))::aa (.p (.int p))::rest) h=aa (.rt (.p (Sm.nam x).enc) h):=by
 have V:=λq J (O:0<J)=>gq (G:=G) L k ns U q J O;simp[-dP,-kJ,smL,V,c,ex,Sm.enc]
def zV(L:Lw T)(ns:List Int)(U:ns.length<=1000):∀(J:Nat)(p:Int),∃s:Sm,s.ok/\s.size+1<=2^(J+1)/\∀(m:Nat)(h:HH),
 runN T G (m+J+3) "_law_sum" [.p (.aD (cZ ns)),.p (.int p),.p (.int J)] h=aa (.p s.enc,h):=by
 intro J
 induction J with
 |zero =>
  intro p;have V:=λm q many (Z:0<many)=>gq (G:=G) L m ns U q many Z;obtain⟨x,ex⟩:=zT (drw ns (p+2) 4) (gi _ _ (by decide)) (gj _ _ (by decide));obtain⟨n,hn,en⟩:=zU (drw ns (p+2) 6) (gi _ _ (by decide)) (gj _ _ (by decide));have O:∀(s:Sm)(m:Nat)(h:HH),(∀rest,evS (runN T G (m+2)) G smL (aa (.p (.aD (cZ ns)))::aa (.p (.int p))::rest) h=aa (.rt (.p s.enc) h))->runN T G (m+0+3) "_law_sum" [.p (.aD (cZ ns)),.p (.int p),.p (.int ((0:Nat):Int))] h=aa (.p s.enc,h):=λs m h q=>by rw[run_eq L.sum rfl];simp[gh,V,q,c6]
  by_cases c:drw ns (p+1) 2=0
  exact⟨.num n,hn,by simp[Sm.size],λm h=>O _ m h λrest=>EZ L ns U p n m rest h c en⟩;exact⟨.nam x,trivial,by simp[Sm.size],λm h=>O _ m h λrest=>E2 L ns U p x m rest h c ex⟩
 |succ J f =>
  intro p;have V:=λm q many (Z:0<many)=>gq (G:=G) L m ns U q many Z;obtain⟨x,ex⟩:=zT (drw ns (p+2) 4) (gi _ _ (by decide)) (gj _ _ (by decide));obtain⟨n,hn,en⟩:=zU (drw ns (p+2) 6) (gi _ _ (by decide)) (gj _ _ (by decide));obtain⟨s,e,z,Y⟩:=f (p*2+5);obtain⟨t,l,y,W⟩:=f (p*2+19);have g:∀m,m+(J+1)+2=m+J+3:=λm=>by lia
  have d:=λm h=>(g m).symm ▸ Y m h;have tr:=λm h=>(g m).symm ▸ W m h;have a:¬((J:Int)+1=0):=by lia
  have i:((J:Int)+1-1)=J:=by lia
  have k:big 2=ah:=by decide
  have w:=gi ns p (many:=10) (by decide);have v:=gj ns p (many:=10) (by decide);have A:2^(J+1+1)=2^(J+1)+2^(J+1):=by lia
  by_cases b:drw ns p 10<4
  ·have O:∀(s:Sm)(m:Nat)(h:HH),(∀rest,evS (runN T G (m+J+1+2)) G smL (aa (.p (.aD (cZ ns)))::aa (.p (.int p))::rest) h=aa (.rt (.p s.enc) h))->runN T G (m+(J+1)+3) "_law_sum" [.p (.aD (cZ ns)),.p (.int p),.p (.int ((J+1:Nat):Int))] h=aa (.p s.enc,h):=λs m h q=>by rw[run_eq L.sum rfl];have u:=V (m+(J+1));have q:∀rest,evS (runN T G (m+(J+1)+2)) G smL (aa (.p (.aD (cZ ns)))::aa (.p (.int p))::rest) h=aa (.rt (.p s.enc) h):=q;simp[gh,u,b,a,q,c6]
   by_cases c:drw ns (p+1) 2=0
   exact⟨.num n,hn,by simp only[Sm.size];lia,λm h=>O _ m h λrest=>EZ L ns U p n (m+J+1) rest h c en⟩;exact⟨.nam x,trivial,by simp only[Sm.size];lia,λm h=>O _ m h λrest=>E2 L ns U p x (m+J+1) rest h c ex⟩
  ·by_cases j:drw ns p 10<6
   ·refine⟨.cell s,e,by simp only[Sm.size];lia,λm h=>?_⟩;rw[run_eq L.sum rfl];simp[-dP,-kJ,gh,smR,V,b,j,a,i,k,d,c6,Sm.enc]
   ·obtain⟨o,r⟩:=Mx (drw ns p 10-6) (by lia) (by lia);refine⟨.two o s t,⟨e,l⟩,by simp only[Sm.size];lia,λm h=>?_⟩;rw[run_eq L.sum rfl];simp[-dP,-kJ,gh,smR,V,b,j,a,i,k,d,tr,r,c6,Sm.enc]
end
def JQ:S:=(.ret (.y (.aD ak (cT (.aE (cV (.j (.str "call")) (.v 4))) (.aE (cV (.j (.str "call")) (.v 4))) (.aE (cW (.j (.str "back")))) (.y (.aD ak (cV (.aE (cW (.j (.str "stop")))) (.aE (cW (.j (.str "back")))))) (.bin .mod (.v 4) (.j (.int 2)))))) (.bin .sub (.v 3) (.j (.int 12)))))
def rA3:S:=(.ret (.y (.aD ak (cU (.aE (cV (.j (.str "jump")) (.v 4))) (.aE (cU (.j (.str "unless")) (.v 6) (.v 4))) (.aE (cU (.j (.str "unless")) (.aE (cV (.j (.str "name")) (.v 5))) (.v 4))))) (.bin .sub (.v 3) (.j (.int 9)))))
def E3:S:=(.seq (.v (.z .lt (.v 3) (.j (.int 12))) rA3 .nil) JQ)
def rA2:S:=(.ret (.y (.aD ak (cV (.aE (cV (.j (.str "ask")) (.v 5))) (.aE (cV (.j (.str "say")) (.v 6))))) (.bin .sub (.v 3) (.j (.int 7)))))
def zW:S:=(.seq (.v (.z .lt (.v 3) (.j (.int 9))) rA2 .nil) E3)
def rA1:S:=(.ret (.aE (cU (.j (.str "put")) (.call "_law_sum" (cU (.v 0) (.bin .add (.v 1) (.j (.int 9))) (.j (.int 1)))) (.v 6))))
def wD:S:=(.seq (.v (.z .lt (.v 3) (.j (.int 7))) rA1 .nil) zW)
def rA0:S:=(.ret (.aE (cU (.j (.str "set")) (.v 5) (.v 6))))
def yh:S:=(.seq (.v (.z .lt (.v 3) (.j (.int 5))) rA0 .nil) wD)
theorem rQ:j7=⟨["_law_script","_law_at","_law_size"],["_law_script","_law_at","_law_size","_law_way","_law_place","_law_name","_law_one"],
 (.seq (.set 3 (.call "_law_drawn" (.cons (.v 0) (.cons (.v 1) (.cons (.j (.int 16)) .nil)))))
 (.seq (.set 4 (.call "_law_drawn" (.cons (.v 0) (.cons (.bin .add (.v 1) (.j (.int 1))) (.cons (.bin .add (.v 2) (.j (.int 1))) .nil)))))
 (.seq (.set 5 (.y (.j (.str "abc")) (.call "_law_drawn" (.cons (.v 0) (.cons (.bin .add (.v 1) (.j (.int 2))) (.cons (.j (.int 3)) .nil))))))
 (.seq (.set 6 (.call "_law_sum" (.cons (.v 0) (.cons (.bin .add (.v 1) (.j (.int 3))) (.cons (.j (.int 2)) .nil)))))
 yh))))⟩:=rfl
section
def Ij(L:Lw T)(ns:List Int)(b:ns.length<=1000)(p:Int)(size:Nat):∃r:Rw,r.ok size/\∀(m:Nat)(h:HH),
 runN T G (m+6) "_law_row" [.p (.aD (cZ ns)),.p (.int p),.p (.int size)] h=aa (.p r.enc,h):=by
 have e:=λm q many (l:0<many)=>gq (G:=G) L m ns b q many l;obtain⟨x,ex⟩:=Mw (drw ns (p+2) 3) (gi _ _ (by decide)) (gj _ _ (by decide));obtain⟨s,k,y,j⟩:=zV (G:=G) L ns b 2 (p+3);obtain⟨t,i,v,tr⟩:=zV (G:=G) L ns b 1 (p+9);have o:=gi ns p (many:=16) (by decide);have n:=gj ns p (many:=16) (by decide);have sz:(0:Int)<(size:Int)+1:=by lia
 have B:=gi ns (p+1) sz;have A:=gj ns (p+1) sz;obtain⟨J,hpl⟩:∃J:Nat,drw ns (p+1) ((size:Int)+1)=(J:Int):=⟨(drw ns (p+1) ((size:Int)+1)).toNat,by lia⟩;have U:J<=size:=by lia
 have V:uC s:=⟨k,by lia⟩;have tok:uC t:=⟨i,by lia⟩;have Y:=λm h=>j (m+0) h;have W:=λm h=>tr (m+1) h;simp at Y W;have f:=λm h=>e m (p+1) ((size:Int)+1) sz h;rw[hpl]at f;have O:∀(m:Nat)(h:HH),runN T G (m+6) "_law_row" [.p (.aD (cZ ns)),.p (.int p),.p (.int size)] h =
  i8 (evS (runN T G (m+5)) G yh [aa (.p (.aD (cZ ns))),aa (.p (.int p)),aa (.p (.int size)),aa (.p (.int (drw ns p 16))),aa (.p (.int (J:Int))),aa (.p (.str x.w)),aa (.p s.enc)] h) (fin h):=λm h=>by
  rw[run_eq L.row rfl,rQ];simp[-kJ,f,e,ex,Y]
 by_cases Z:drw ns p 16<5
 ·refine⟨.set x s,V,λm h=>?_⟩;rw[O];simp[-dP,-kJ,yh,rA0,Z,c6,Rw.enc]
 ·by_cases a:drw ns p 16<7
  ·refine⟨.put t s,⟨tok,V⟩,λm h=>?_⟩;rw[O];simp[-dP,-kJ,yh,wD,rA1,W,Z,a,c6,Rw.enc]
  ·by_cases d:drw ns p 16<9
   ·obtain⟨r,ro,ix⟩:∃r:Rw,r.ok size/\dZ (.aD [.aE [.str "ask",.str x.w],.aE [.str "say",s.enc]]) (.int (drw ns p 16-7))=aa r.enc:=by
     have c:drw ns p 16=7\/drw ns p 16=8:=by lia
     rcases c with c|c<;>rw[c]
     exact⟨.ask x,trivial,rfl⟩;exact⟨.say s,V,rfl⟩
    refine⟨r,ro,λm h=>?_⟩;rw[O];simp[-dP,yh,wD,zW,rA2,Z,a,d,ix,c6]
   ·by_cases g:drw ns p 16<12
    ·obtain⟨r,ro,ix⟩:∃r:Rw,r.ok size/\dZ (.aD [.aE [.str "jump",.int J],.aE [.str "unless",s.enc,.int J],.aE [.str "unless",.aE [.str "name",.str x.w],.int J]]) (.int (drw ns p 16-9))=aa r.enc:=by
      have c:drw ns p 16=9\/drw ns p 16=10\/drw ns p 16=11:=by lia
      rcases c with c|c|c<;>rw[c]
      exact⟨.jump J,U,rfl⟩;exact⟨.unless s J,⟨V,U⟩,rfl⟩;exact⟨.unless (.nam x) J,⟨⟨trivial,by simp[Sm.size]⟩,U⟩,rfl⟩
     refine⟨r,ro,λm h=>?_⟩;rw[O];simp[-dP,yh,wD,zW,E3,rA3,Z,a,d,g,ix,c6]
    ·obtain⟨u,uo,iu⟩:∃u:Rw,u.ok size/\dZ (.aD [.aE [.str "stop"],.aE [.str "back"]]) (.int ((J:Int)%2))=aa u.enc:=by
      have z:(J:Int)%2=0\/(J:Int)%2=1:=by lia
      rcases z with z|z<;>rw[z]
      exact⟨.stop,trivial,rfl⟩;exact⟨.back,trivial,rfl⟩
     obtain⟨r,ro,ix⟩:∃r:Rw,r.ok size/\dZ (.aD [.aE [.str "call",.int J],.aE [.str "call",.int J],.aE [.str "back"],u.enc]) (.int (drw ns p 16-12))=aa r.enc:=by
      have c:drw ns p 16=12\/drw ns p 16=13\/drw ns p 16=14\/drw ns p 16=15:=by lia
      rcases c with c|c|c|c<;>rw[c]
      exact⟨.call J,U,rfl⟩;exact⟨.call J,U,rfl⟩;exact⟨.back,trivial,rfl⟩;exact⟨u,uo,rfl⟩
     refine⟨r,ro,λm h=>?_⟩;rw[O];simp[-dP,yh,wD,zW,E3,JQ,Z,a,d,g,iu,ix,c6]
def comp_map(f:List D->HH->Option (Option D×HH))(g:D->D):∀(ds:List D)(h:HH),(∀d∈ds,∀h,f [d] h=aa (aa (g d),h))->eH f 1 ds h=aa (ds.map g,h):=by
 intro ds
 induction ds with
 |nil=>intro h _;rfl
 |cons d r L =>
  intro h J;have e1:=J d Vt h;have e2:=L h λx O=>J x (Vn _ O);rw[eH,mU];simp[e1,e2]
def wF(h:d∈upto 0 n):∃k:Nat,k<n/\d=.int k:=by simp[upto]at h;obtain⟨k,J,e⟩:=h;exact⟨k,J,e.symm⟩
def wG(n:Nat)(g:D->D):(upto 0 n).map g=(VM n).map λ(k:Nat)=>g (.int k):=by simp[upto,Function.comp_def]
def Ik:E:=.y (.aD ak (cT (.j (.int 0)) (.j (.int 1)) (.j (.int 5)) (.j (.int 10006)))) (.call "_law_drawn" (cU (.v 1) (.bin .add (.bin .add (.v 2) (.j (.int 1))) (.v 0)) (.j (.int 4))))
theorem oV:iG=⟨["_law_script","_law_at"],["_law_script","_law_at"],.ret (.comp ak .rng1 (.cons (.call "_law_drawn" (.cons (.v 0) (.cons (.v 1) (.cons (.j (.int 4)) .nil)))) .nil) ["_law_k"] [(0,"_law_script"),(1,"_law_at")] .nil Ik)⟩:=rfl
def BK(L:Lw T)(ns:List Int)(b:ns.length<=1000)(p:Int):∃aI:List Int,Ask aI/\aI.length<=3/\∀(m:Nat)(h:HH),
 runN T G (m+3) "_law_asked" [.p (.aD (cZ ns)),.p (.int p)] h=aa (.p (.aD (cZ aI)),h):=by
 have Y:=λm q many (a:0<many)=>gq (G:=G) L m ns b q many a;have U:∀i:Int,0<=i->i<4->∃n:Int,Wth n/\dZ (.aD [.int 0,.int 1,.int 5,.int 10006]) (.int i)=aa (.int n):=by
  intro i v u;have:i=0\/i=1\/i=2\/i=3:=by lia
  rcases this with rfl|rfl|rfl|rfl
  exact⟨0,⟨by decide,by decide⟩,rfl⟩;exact⟨1,⟨by decide,by decide⟩,rfl⟩;exact⟨5,⟨by decide,by decide⟩,rfl⟩;exact⟨10006,⟨by decide,by decide⟩,rfl⟩
 have j:∀k:Nat,∃n:Int,Wth n/\dZ (.aD [.int 0,.int 1,.int 5,.int 10006]) (.int (drw ns (p+1+k) 4))=aa (.int n):=λk =>
  U _ (gi _ _ (by decide)) (gj _ _ (by decide))
 obtain⟨g,W⟩:=aai j;have s:=gi ns p (many:=4) (by decide);have r:=gj ns p (many:=4) (by decide);refine⟨(VM (drw ns p 4).toNat).map g,?_,by simp;lia,λm h=>?_⟩
 ·intro x V;simp at V;obtain⟨k,_,rfl⟩:=V;exact(W k).1
 ·rw[run_eq L.aI rfl,oV];have l:drw ns p 4<=100000:=by lia
  have o:-100000<=drw ns p 4:=by lia
  have c:∀(k:Nat)(h:HH),ev (runN T G (m+2)) G Ik [aa (.p (.int k)),aa (.p (.aD (cZ ns))),aa (.p (.int p))] h=aa (.p (.int (g k)),h):=λk h=>by have e:=(W k).2;simp[-dP,Ik,Y,e]
  have O:=comp_map (fD (λ_ h=>aa ([],h)) (ev (runN T G (m+2)) G Ik) [aa (.p (.aD (cZ ns))),aa (.p (.int p))]) (λd=>match d with | .int k=>.int (g k.toNat)|_=>.aF) (upto 0 (drw ns p 4).toNat) h (by
   intro d f h;obtain ⟨k,t,rfl⟩:=wF f;simp[fB,c])
  have Z:(drw ns p 4).toNat<=100000:=by lia
  rw[wG]at O;have J:(VM (drw ns p 4).toNat).map (λ(k:Nat)=>match D.int (k:Int)with|.int k=>D.int (g k.toNat)|_=>.aF)=cZ ((VM (drw ns p 4).toNat).map g):=by simp[cZ,Function.comp_def]
  rw[J]at O;simp[Y,o,l,O,iY,Z,c6,iB]
def E4:E:=.call "_law_row" (cU (.v 1) (.bin .add (.bin .add (.v 2) (.j (.int 10))) (.bin .mul (.j (.int 40)) (.v 0))) (.v 3))
structure Drawn(p:Pg):Prop where
 ok:Pg.ok p
 lo:1<=p.length
 hi:p.length<=9
def kX(n:Int)(o:Op):Pg:=[.ask .a,.call 4,.say (.nam .a),.jump 0,.put (.nam .a) (.num n),.call 7,.back,.set .b (.two o (.nam .b) (.nam .a)),.back]
def uF(n:Int)(o:Op)(h:Wth n):Drawn (kX n o):=by refine⟨?_,by simp[kX],by simp[kX]⟩;intro r J;simp only[kX,aaP,YM,or_false]at J;rcases J with rfl|rfl|rfl|rfl|rfl|rfl|rfl|rfl|rfl<;>simp[Rw.ok,kX,uC,Sm.ok,Sm.size,h]
def qM(L:Lw T)
(ns:List Int)(V:ns.length<=1000)(p:Int)
(O:∀ (m:Nat) (h:HH) (n:Int) (o:Op),drw ns (p+1) 4=0->n=drw ns (p+2) 9->dZ (.aD [.str "add",.str "sub"]) (.int (drw ns (p+3) 2))=aa (.str o.w) →
  (∀m q many,0<many->∀h,runN T G (m+2) "_law_drawn" [.p (.aD (cZ ns)),.p (.int q),.p (.int many)] h=aa (.p (.int (drw ns q many)),h)) →
  runN T G (m+7) "_law_program" [.p (.aD (cZ ns)),.p (.int p)] h=aa (.p (eW (kX n o)),h))
(J:∀ (m:Nat) (h:HH) (pg:Pg),drw ns (p+1) 4≠0->pg.length=(1+drw ns p 9).toNat →
  (∀m q many,0<many->∀h,runN T G (m+2) "_law_drawn" [.p (.aD (cZ ns)),.p (.int q),.p (.int many)] h=aa (.p (.int (drw ns q many)),h)) →
  (∀h,eH (fD (λ_ h=>aa ([],h)) (ev (runN T G (m+6)) G E4) [aa (.p (.aD (cZ ns))),aa (.p (.int p)),aa (.p (.int (1+drw ns p 9)))]) 1 (upto 0 (1+drw ns p 9).toNat) h=aa (pg.map Rw.enc,h)) →
  runN T G (m+7) "_law_program" [.p (.aD (cZ ns)),.p (.int p)] h=aa (.p (eW pg),h)):
 ∃pg:Pg,Drawn pg/\∀(m:Nat)(h:HH),runN T G (m+7) "_law_program" [.p (.aD (cZ ns)),.p (.int p)] h=aa (.p (eW pg),h):=by
 have Y:=λm q many (a:0<many)=>gq (G:=G) L m ns V q many a
 by_cases c:drw ns (p+1) 4=0
 ·have s:=gi ns (p+3) (many:=2) (by decide);have l:=gj ns (p+3) (many:=2) (by decide);have v:=gi ns (p+2) (many:=9) (by decide);have e1:=gj ns (p+2) (many:=9) (by decide);have z:drw ns (p+3) 2=0\/drw ns (p+3) 2=1:=by lia
  have:∃o:Op,dZ (.aD [.str "add",.str "sub"]) (.int (drw ns (p+3) 2))=aa (.str o.w):=by
   rcases z with z|z<;>rw[z]
   exact⟨.add,rfl⟩;exact⟨.sub,rfl⟩
  obtain⟨o,j⟩:=this;exact⟨kX (drw ns (p+2) 9) o,uF _ _ ⟨by lia,by lia⟩,λm h=>O m h _ o c rfl j Y⟩
 ·have s:=gi ns p (many:=9) (by decide);have l:=gj ns p (many:=9) (by decide);obtain⟨sz,hsz⟩:∃sz:Nat,1+drw ns p 9=(sz:Int):=⟨(1+drw ns p 9).toNat,by lia⟩;have t:∀k:Nat,∃r:Rw,r.ok sz/\∀(m:Nat)(h:HH),runN T G (m+6) "_law_row" [.p (.aD (cZ ns)),.p (.int (p+10+40*(k:Int))),.p (.int sz)] h=aa (.p r.enc,h) :=
   λk=>Ij L ns V _ sz
  obtain⟨g,W⟩:=aai t;refine⟨(VM sz).map g,⟨?_,by simp;lia,by simp;lia⟩,λm h=>J m h _ c (by simp;lia) Y λh=>?_⟩
  ·intro r U;simp at U;obtain⟨k,_,rfl⟩:=U;simpa using (W k).1
  ·rw[hsz];have b:big 40=ah:=by decide
   have f:∀(k:Nat)(h:HH),ev (runN T G (m+6)) G E4 [aa (.p (.int k)),aa (.p (.aD (cZ ns))),aa (.p (.int p)),aa (.p (.int sz))] h=aa (.p (g k).enc,h):=λk h=>by have e:=(W k).2;simp[E4,e,b]
   have Z:=comp_map (fD (λ_ h=>aa ([],h)) (ev (runN T G (m+6)) G E4) [aa (.p (.aD (cZ ns))),aa (.p (.int p)),aa (.p (.int sz))]) (λd=>match d with | .int k=>(g k.toNat).enc|_=>.aF) (upto 0 sz) h (by
    intro d i h;obtain ⟨k,u,rfl⟩:=wF i;simp[fB,f])
   rw[wG]at Z;simp only[WV,W6];rw[Z];rfl
end
section
def prA:S:=(.seq (.set 3 (.aE (cU (.j (.str "put")) (.aE (cV (.j (.str "name")) (.j (.str "a")))) (.aE (cV (.j (.str "num")) (.call "_law_drawn" (cU (.v 0) (.bin .add (.v 1) (.j (.int 2))) (.j (.int 9))))))))) (.seq (.set 4 (.y (.aD ak (cV (.j (.str "add")) (.j (.str "sub")))) (.call "_law_drawn" (cU (.v 0) (.bin .add (.v 1) (.j (.int 3))) (.j (.int 2)))))) (.seq (.set 5 (.aE (cS (.aE (cV (.j (.str "ask")) (.j (.str "a")))) (.aE (cV (.j (.str "call")) (.j (.int 4)))) (.aE (cV (.j (.str "say")) (.aE (cV (.j (.str "name")) (.j (.str "a")))))) (.aE (cV (.j (.str "jump")) (.j (.int 0)))) (.v 3)))) (.ret (.bin .add (.v 5) (.aE (cT (.aE (cV (.j (.str "call")) (.j (.int 7)))) (.aE (cW (.j (.str "back")))) (.aE (cU (.j (.str "set")) (.j (.str "b")) (.aE (cU (.v 4) (.aE (cV (.j (.str "name")) (.j (.str "b")))) (.aE (cV (.j (.str "name")) (.j (.str "a")))))))) (.aE (cW (.j (.str "back")))))))))))
def prB:S:=(.ret (.bi .tuple ak (cW (.comp ak .rng1 (cW (.v 2)) ["_law_k"] [(0,"_law_script"),(1,"_law_at"),(2,"_law_size")] .nil E4))))
theorem ji:fM=⟨["_law_script","_law_at"],["_law_script","_law_at","_law_size","_law_put","_law_sign","_law_rows"],
 (.seq (.set 2 (.bin .add (.j (.int 1)) (.call "_law_drawn" (.cons (.v 0) (.cons (.v 1) (.cons (.j (.int 9)) .nil))))))
 (.seq (.v (.z .eq (.call "_law_drawn" (.cons (.v 0) (.cons (.bin .add (.v 1) (.j (.int 1))) (.cons (.j (.int 4)) .nil)))) (.j (.int 0))) prA .nil)
 prB))⟩:=rfl
def wH(L:Lw T)(V:T "_law_program"=aa fM)(ns:List Int)(W:ns.length<=1000)(p:Int):
 ∃pg:Pg,Drawn pg/\∀(m:Nat)(h:HH),runN T G (m+7) "_law_program" [.p (.aD (cZ ns)),.p (.int p)] h=aa (.p (eW pg),h):=by
 refine qM L ns W p (λm h n o c en Y O=>?_) (λm h pg c f O Z=>?_)
 ·rw[run_eq V rfl];have d:=λq many J h=>O (m+4) q many J h;rw[ji];simp[-dP,prA,d,c,Y,c6,eW,kX,Rw.enc,Sm.enc,←en,Nm.w]
 ·rw[run_eq V rfl];have d:=λq many J h=>O (m+4) q many J h;have i:=gi ns p (many:=9) (by decide);have g:=gj ns p (many:=9) (by decide);have e:-100000<=1+drw ns p 9:=by lia
  have b:1+drw ns p 9<=100000:=by lia
  have a:pg.length<=100000:=by lia
  have U:=Z h;rw[ji];simp[-fD,prB,d,c,e,b,a,U,c6,eW,iB]
mutual
theorem iZ:∀d:D,eqv d d=ah
 |.aF=>rfl
 |.bl b=>by simp
 |.int i=>by simp
 |.str x=>by simp
 |.aE J=>by simp[lM J]
 |.aD J=>by simp[lM J]
theorem lM:∀ds:List D,kH ds ds=ah
 |[]=>rfl
 |d::r=>by simp[iZ d,lM r]
end
def qN(n:Nat)(xs:List Int):(cZ xs).all (dok n)=ah:=by simp[cZ,WY]
def wI(n:Nat)(xs:List Nat):(cY xs).all (dok n)=ah:=by simp[cY,WY]
def ne_self(h:dok 100 x=ah):gR .ne x x=aa ak:=by rw[o9,bM (iP h),iZ];rfl
@[simp]theorem Mz(ds:List D):kH ds ds=ah:=lM ds
@[simp]theorem NH(d:D):eqv d d=ah:=iZ d
@[simp]theorem NI(x:D)(xs:List Int):fk x (.aE (cZ xs))=ah:=iP (qN 99 xs)
@[simp]theorem NJ(x:D)(xs:List Nat):fk x (.aE (cY xs))=ah:=iP (wI 99 xs)
@[simp]theorem Qk(x:D)(xs ys:List Int):fk x (.aE [.aE (cZ xs),.aE (cZ ys)])=ah:=iP (by simp[qN])
end
section
variable{T:FK->Option Fn}{G:aA->Option W}
def ix2(a b c:D)(r:List D):dZ (.aE (a::b::c::r)) (.int 2)=aa c:=by
 have:(2:Int)<(r.length:Int)+1+1+1:=by lia
 simp[this]
@[simp]theorem TV(st:St):oO st.enc (aa 1) (aa 3)=aa (.aE [.aE (cZ st.names),.aE (cZ st.cells)]):=rfl
end
theorem lN:∀{xs ys:List Int},kH (cZ xs) (cZ ys)=ah->xs=ys
 |[],[],_=>rfl
 |[],_::_,h=>by simp[cZ]at h
 |_::_,[],h=>by simp[cZ]at h
 |x::xs,y::ys,h=>by simp[cZ]at h;have:=lN (xs:=xs) (ys:=ys) (by simpa [cZ]using h.2);rw[h.1,this]
theorem sN:∀{xs ys:List Nat},kH (cY xs) (cY ys)=ah->xs=ys
 |[],[],_=>rfl
 |[],_::_,h=>by simp[cY]at h
 |_::_,[],h=>by simp[cY]at h
 |x::xs,y::ys,h=>by
  simp[cY]at h;have:=sN (xs:=xs) (ys:=ys) (by simpa [cY]using h.2);rw[this];have J:x=y:=by have:=h.1;lia
  rw[J]
def uG{a b:St}(h:eqv a.enc b.enc=ah):a=b:=by
 obtain⟨r,n,c,k,q,s⟩:=a;obtain⟨J,d,i,e,L,Z⟩:=b;simp only[St.enc,eqv,kH,Vg,bW,and_true]at h;obtain⟨g,W,V,U,f,O⟩:=h;have e1:r=J:=by lia
 have Y:q=L:=by lia
 rw[e1,Y,lN W,lN V,sN U,lN O]
def uH(n:Nat)(st:St):dok (n+2) st.enc=ah:=by simp[St.enc,yT,qN,wI]
def ny(L:List St):dok 100 (.aD (L.map St.enc))=ah:=by rw[yU,WY];intro d J;simp at J;obtain⟨st,_,rfl⟩:=J;exact uH 97 st
@[simp]theorem RI(x:D)(st:St):fk x st.enc=ah:=iP (uH 98 st)
@[simp]theorem Ql(x:D)(L:List St):fk x (.aD (L.map St.enc))=ah:=iP (ny L)
def itr(s0:St)(p:Pg)(aI:List Int):Nat->St
 |0=>s0|n+1=>step p aI (itr s0 p aI n)
structure Run(s0:St)(p:Pg)(aI:List Int)(most e:Nat):Prop where
 le:e<=most
 on:∀i,i<e->over p (itr s0 p aI i)=ak
 last:e=most\/over p (itr s0 p aI e)=ah
theorem E5(s0:St)(p:Pg)(aI:List Int):∀(r j:Nat),∃e,e<=r/\sts p aI r (itr s0 p aI j)=(VM (e+1)).map (λi=>itr s0 p aI (j+i))/\(∀i,i<e->over p (itr s0 p aI (j+i))=ak)/\(e=r\/over p (itr s0 p aI (j+e))=ah)
 |0,j=>⟨0,Vo _,rfl,λi J=>bO J (aaz _),.inl rfl⟩
 |r+1,j=>by
  rw[sts]
  by_cases c:over p (itr s0 p aI j)=ah
  ·rw[bM c];exact⟨0,Wg _,rfl,λi J=>bO J (aaz _),.inr c⟩
  ·rw[bN c];obtain⟨e,W,U,O,L⟩:=E5 s0 p aI r (j+1);have V:over p (itr s0 p aI j)=ak:=by simpa using c
   refine⟨e+1,by lia,?_,λi J=>?_,?_⟩
   ·show itr s0 p aI j::sts p aI r (itr s0 p aI (j+1))=_;rw[U,YS (n:=e+1),VA,W6];congr 1;apply Xs;intro i _;show itr s0 p aI (j+1+i)=itr s0 p aI (j+(i+1));congr 1;lia
   ·cases i with
    |zero=>exact V
    |succ i =>
     have:=O i (by lia);rw[show j+(i+1)=j+1+i by lia];exact this
   ·rcases L with L|L
    exact .inl (by lia);exact .inr (by rw[show j+(e+1)=j+1+e by lia];exact L)
def zX(s0:St)(p:Pg)(aI:List Int)(most:Nat):∃e,Run s0 p aI most e/\sts p aI most s0=(VM (e+1)).map (itr s0 p aI):=by obtain⟨e,V,U,O,L⟩:=E5 s0 p aI most 0;refine⟨e,⟨V,λi J=>by have:=O i J;simpa using this,by simpa using L⟩,?_⟩;have:sts p aI most s0=sts p aI most (itr s0 p aI 0):=rfl;rw[this,U];apply Xs;intro i _;simp
def At.mono{m n:Nat}{st:St}(a:At m st)(h:m<=n):At n st:=⟨a.ok,VJ a.said h,a.calls⟩
theorem yi{s0:St}{p:Pg}{aI:List Int}{most e:Nat}(J:Pg.ok p)(L:Ask aI)(O:At 1000 s0)(R:Run s0 p aI most e):∀i,i<=e->At (1000+i) (itr s0 p aI i)
 |0,_=>O|i+1,h=>zR J L (yi J L O R i (by lia)) (R.on i (by lia))
structure Tp where
 p:Pg
 aI:List Int
 aM:Nat
 most:Nat
 aJ:List St
 far:Nat
 aK:St
 now:Nat
def Tp.fs(t:Tp)(r:Nat):List (aA×W):=[("program",.p (eW t.p)),("asked",.p (.aD (cZ t.aI))),("gap",.p (.int t.aM)),("most",.p (.int t.most)),("kept",.r r),("farthest",.p (.int t.far)),("front",.p t.aK.enc),("now",.p (.int t.now))]
section
variable(t:Tp)(r:Nat)
@[simp]theorem MA:dR "program" (t.fs r)=aa (.p (eW t.p)):=by simp[Tp.fs]
@[simp]theorem Qm:dR "asked" (t.fs r)=aa (.p (.aD (cZ t.aI))):=by simp[Tp.fs]
@[simp]theorem TY:dR "gap" (t.fs r)=aa (.p (.int t.aM)):=by simp[Tp.fs]
@[simp]theorem RJ:dR "most" (t.fs r)=aa (.p (.int t.most)):=by simp[Tp.fs]
@[simp]theorem Il:dR "kept" (t.fs r)=aa (.r r):=by simp[Tp.fs]
@[simp]theorem TZ:dR "farthest" (t.fs r)=aa (.p (.int t.far)):=by simp[Tp.fs]
@[simp]theorem Qn:dR "front" (t.fs r)=aa (.p t.aK.enc):=by simp[Tp.fs]
@[simp]theorem T3:dR "now" (t.fs r)=aa (.p (.int t.now)):=by simp[Tp.fs]
@[simp]theorem T4:(t.fs r).length=8:=rfl
def Im(v:Nat):fy "gap" (.p (.int v)) (t.fs r)=({t with aM:=v}:Tp).fs r:=by simp[Tp.fs]
def E6(J:Nat):fy "kept" (.r J) (t.fs r)=t.fs J:=by simp[Tp.fs]
def Io(v:Nat):fy "farthest" (.p (.int v)) (t.fs r)=({t with far:=v}:Tp).fs r:=by simp[Tp.fs]
def BN(v:St):fy "front" (.p v.enc) (t.fs r)=({t with aK:=v}:Tp).fs r:=by simp[Tp.fs]
def jj{m:String}(h:(["program","asked","gap","most","kept","farthest","front","now"]:List String).contains m=ak):dR m (t.fs r)=af:=by simp only[Zu,List.contains_nil,YH,abh,bV,ne_eq]at h;obtain⟨Z,Y,W,V,U,O,L,J⟩:=h;simp[Tp.fs,Z,Y,W,V,U,O,L,J]
end
structure TAt(c:aA)(h:HH)(n r:Nat)(t:Tp):Prop where
 ob:oat h n=aa (c,t.fs r)
 li:lat h r=aa (t.aJ.map St.enc)
def jz{h:HH}{n:Nat}{q:aA×List (aA×W)}(e:oat h n=aa q):n<h.length:=by
 unfold oat at e;rcases VD n h.length with z|z
 exact z;rw[Vs z]at e;exact fU e
def iC{h:HH}{n:Nat}{q:List D}(e:lat h n=aa q):n<h.length:=by
 unfold lat at e;rcases VD n h.length with z|z
 exact z;rw[Vs z]at e;exact fU e
def nA{h:HH}{n r:Nat}{q:aA×List (aA×W)}{xs:List D}(e:oat h n=aa q)(e':lat h r=aa xs):n≠r:=by
 rintro rfl
 unfold oat at e;unfold lat at e';cases g:h[n]? with
 |none=>rw[g]at e;exact fU e|some c=>rw[g]at e e';cases c<;>simp at e e'
def nB{h:HH}{n:Nat}(hn:n<h.length)(c:Cl):oat (h.set n c) n=rF c:=by unfold oat;rw[VH hn];rfl
def qO{h:HH}{n i:Nat}(hn:i≠n)(c:Cl):oat (h.set n c) i=oat h i:=by unfold oat;rw[Vr (Wa hn)]
def wJ{h:HH}{n:Nat}(hn:n<h.length)(c:Cl):lat (h.set n c) n=pU c:=by unfold lat;rw[VH hn];rfl
def mF{h:HH}{n i:Nat}(hn:i≠n)(c:Cl):lat (h.set n c) i=lat h i:=by unfold lat;rw[Vr (Wa hn)]
def qP{h h':HH}{i:Nat}(e:h'[i]?=h[i]?):lat h' i=lat h i:=by unfold lat;rw[e]
def oi{h h':HH}{i:Nat}(e:h'[i]?=h[i]?):oat h' i=oat h i:=by unfold oat;rw[e]
def zY{h g:HH}{i:Nat}(hi:i<h.length):lat (h++g) i=lat h i:=qP (Vi hi)
def zZ{h g:HH}{i:Nat}(hi:i<h.length):oat (h++g) i=oat h i:=oi (Vi hi)
structure Go(c:aA)(n:Nat)(h:HH)(r:Nat)(t:Tp)(h':HH)(r':Nat)(t':Tp):Prop where
 a:TAt c h n r t
 b:TAt c h' n r' t'
 len:(h'.length=h.length/\r'=r)\/(h.length<=r')
 le:h.length<=h'.length
 fr:∀i,i≠n->i≠r->i<h.length->h'[i]?=h[i]?
def Go.refl{c:aA}{n:Nat}{h:HH}{r:Nat}{t:Tp}(a:TAt c h n r t):Go c n h r t h r t:=⟨a,a,.inl ⟨rfl,rfl⟩,Vo _,λ_ _ _ _=>rfl⟩
def Go.trans{c:aA}{n:Nat}{h h1 h2:HH}{r O Y:Nat}{t W V:Tp}(x:Go c n h r t h1 O W)(y:Go c n h1 O W h2 Y V):Go c n h r t h2 Y V:=by
 refine⟨x.a,y.b,?_,VJ x.le y.le,λi h1 h2 d=>?_⟩
 ·rcases x.len with⟨L,U⟩|L
  ·rcases y.len with⟨J,Z⟩|J
   exact .inl ⟨J.trans L,Z.trans U⟩;exact .inr (by lia)
  ·rcases y.len with⟨J,Z⟩|J
   exact .inr (by lia);exact .inr (by have:=x.le;lia)
 ·have:i≠O:=by
   rcases x.len with⟨L,U⟩|L
   rw[U];exact h2;lia
  rw[y.fr i h1 this (by have:=x.le;lia)];exact x.fr i h1 h2 d
def Go.other{c:aA}{n m:Nat}{h h':HH}{r J s:Nat}{t t' u:Tp}(x:Go c n h r t h' J t')(o:TAt c h m s u)(V:m≠n)(L:s≠r):TAt c h' m s u/\s≠J:=by
 have U:m≠r:=nA o.ob x.a.li;have O:s≠n:=(nA x.a.ob o.li).symm;refine⟨⟨(oi (x.fr m V U (jz o.ob))).trans o.ob,(qP (x.fr s O L (iC o.li))).trans o.li⟩,?_⟩;rcases x.len with⟨Y,W⟩|Y
 rw[W];exact L;have:=iC o.li;lia
def mG{c:aA}{n:Nat}{h h':HH}{r L:Nat}{t t':Tp}(x:Go c n h r t h' L t')(w:W):fin h w h'=aa (w,h'):=by
 unfold fin
 by_cases c:h'.length=h.length
 rw[bM c]
 ·rw[bN c];rw[bN];intro z;rcases x.len with⟨J,U⟩|J
  exact c J
  ·have hn:=jz x.a.ob;have e:h'[n]?=h[n]?:=by have q:=Wu (l:=h') hn;rw[z]at q;exact q.symm
   have e2:oat h' n=oat h n:=oi e;rw[x.a.ob,x.b.ob]at e2;have O:=bU (λq:Option (aA×List (aA×W))=>q.bind λy=>dR "kept" y.2) e2;simp only[VV,Il,Yd,W.r.injEq]at O;have:=iC x.a.li;lia
def jk:Fn:=⟨["thing"],["thing"], (.ret (.and (.bi .isInt ak (cW (.v 0))) (.not (.bi .isBool ak (cW (.v 0))))))⟩
def iH:Fn:=⟨["self","program","asked","every","most"],["self","program","asked","every","most"], (.seq (.setf (.v 0) "program" (.v 1)) (.seq (.setf (.v 0) "asked" (.bi .list ak (cW (.v 2)))) (.seq (.setf (.v 0) "gap" (.bi .max2 ak (cV (.v 3) (.j (.int 1))))) (.seq (.setf (.v 0) "most" (.bi .max2 ak (cV (.v 4) (.j (.int 0))))) (.seq (.setf (.v 0) "kept" (.aD ah (cW (.call "begun" .nil)))) (.seq (.setf (.v 0) "farthest" (.j (.int 0))) (.seq (.setf (.v 0) "front" (.call "begun" .nil)) (.setf (.v 0) "now" (.j (.int 0))))))))))⟩
def j8:Fn:=⟨["self","moment"],["self","moment","state","step"], (.seq (.ex (.aH (.v 0) "check" (cW (.v 1)))) (.seq (.set 2 (.y (.i (.v 0) "kept") (.bin .fdiv (.v 1) (.i (.v 0) "gap")))) (.seq (.for [(3,"step")] .rng1 (cW (.bin .mod (.v 1) (.i (.v 0) "gap"))) (.set 2 (.aH (.v 0) "behind" (cW (.v 2))))) (.ret (.v 2)))))⟩
def jm:Fn:=⟨["self"],["self"], (.seq (.ex (.aH (.v 0) "reach" (cW (.i (.v 0) "most")))) (.ret (.i (.v 0) "farthest")))⟩
def gE:Fn:=⟨["self","state"],["self","state"], (.ret (.call "stepped" (cU (.i (.v 0) "program") (.i (.v 0) "asked") (.v 1))))⟩
def fF:Fn:=⟨["self","moment","state"],["self","moment","state"], (.ret (.or (.z .ge (.v 1) (.i (.v 0) "most")) (.call "is_over" (cV (.i (.v 0) "program") (.v 2)))))⟩
def gF:Fn:=⟨["self","state"],["self","state"], (.seq (.ex (.me .append (.i (.v 0) "kept") (cW (.v 1)))) (.v (.z .gt (.bi .len ak (cW (.i (.v 0) "kept"))) (.aG "MOST_MARKS")) (.seq (.setf (.v 0) "kept" (.stp ah 2 (.i (.v 0) "kept"))) (.augf (.v 0) "gap" .mul (.j (.int 2)))) .nil))⟩
def gW:Fn:=⟨["self","moment"],["self","moment"], (.j (.and (.z .lt (.i (.v 0) "farthest") (.v 1)) (.not (.aH (.v 0) "is_last" (cV (.i (.v 0) "farthest") (.i (.v 0) "front"))))) (.seq (.setf (.v 0) "front" (.aH (.v 0) "behind" (cW (.i (.v 0) "front")))) (.seq (.augf (.v 0) "farthest" .add (.j (.int 1))) (.v (.z .eq (.bin .mod (.i (.v 0) "farthest") (.i (.v 0) "gap")) (.j (.int 0))) (.ex (.aH (.v 0) "keep" (cW (.i (.v 0) "front")))) .nil))))⟩
def iw:Fn:=⟨["self","moment"],["self","moment"], (.seq (.v (.or (.not (.call "is_whole" (cW (.v 1)))) (.or (.z .lt (.v 1) (.j (.int 0))) (.z .gt (.v 1) (.i (.v 0) "most")))) (.ret (.j (.bl ak))) .nil) (.seq (.ex (.aH (.v 0) "reach" (cW (.v 1)))) (.ret (.z .le (.v 1) (.i (.v 0) "farthest")))))⟩
def gX:Fn:=⟨["self","moment"],["self","moment"], (.v (.not (.aH (.v 0) "has" (cW (.v 1)))) .bad .nil)⟩
structure TpP(c:aA)(T:FK->Option Fn)(G:aA->Option W):Prop where
 prg:Prg T G
 is_whole:T "is_whole"=aa jk
 behind:T (.m c "behind")=aa gE
 is_last:T (.m c "is_last")=aa fF
 keep:T (.m c "keep")=aa gF
 reach:T (.m c "reach")=aa gW
 has:T (.m c "has")=aa iw
 check:T (.m c "check")=aa gX
 at_:T (.m c "at")=aa j8
 MOST_MARKS:G "MOST_MARKS"=aa (.p (.int 8))
section
variable{c:aA}{T:FK->Option Fn}{G:aA->Option W}
def iI(P:TpP c T G)(k:Nat)(i:Int)(h:HH):runN T G (k+1) "is_whole" [.p (.int i)] h=aa (.p (.bl ah),h):=by rw[run_eq P.is_whole rfl];simp[jk,c6]
def qQ(P:TpP c T G)(k:Nat){n r:Nat}{t:Tp}{h:HH}(a:TAt c h n r t)(J:Pg.ok t.p){j:Nat}{st:St}(L:j<=5000)(at_:At j st)(O:over t.p st=ak):runN T G (k+7) (.m c "behind") [.o n,.p st.enc] h=aa (.p (step t.p t.aI st).enc,h):=by rw[run_eq P.behind rfl];have s:=wC P.prg k t.p J t.aI st at_.ok (at_.small L) O;simp[gE,a.ob,s,c6]
def wK(P:TpP c T G)(k:Nat){n r:Nat}{t:Tp}{h:HH}(a:TAt c h n r t)(mo:Nat)(st:St):runN T G (k+2) (.m c "is_last") [.o n,.p (.int mo),.p st.enc] h=aa (.p (.bl (decide (t.most<=mo)||over t.p st)),h):=by
 rw[run_eq P.is_last rfl];have o:=wB P.prg k t.p st
 by_cases L:t.most<=mo
 ·have J:(t.most:Int)<=(mo:Int):=by lia
  simp[fF,a.ob,L,J,c6]
 ·have J:¬(t.most:Int)<=(mo:Int):=by lia
  simp[fF,a.ob,o,L,J,c6]
def E7:YV (VU af af (aa 2) 9).1 (VU af af (aa 2) 9).2.1 (VU af af (aa 2) 9).2.2=[0,2,4,6,8]:=by decide +kernel
def MB(V a U Z O Y L W J:D):oG 2 [V,a,U,Z,O,Y,L,W,J]=[V,U,O,L,J]:=by show(YV (VU af af (aa 2) 9).1 (VU af af (aa 2) 9).2.1 (VU af af (aa 2) 9).2.2).filterMap _=_;rw[E7];rfl
noncomputable def Tp.keep(t:Tp)(st:St):Tp:=if t.aJ.length<8 then {t with aJ:=t.aJ++[st]}else {t with aJ:=(VM 5).filterMap λi=>(t.aJ++[st])[2*i]?,aM:=2*t.aM}
def E8(P:TpP c T G)(k:Nat){n r:Nat}{t:Tp}{h:HH}(a:TAt c h n r t)(M:t.aM<=100000)(K:t.aJ.length<=8)(st:St):
 ∃h' B,runN T G (k+1) (.m c "keep") [.o n,.p st.enc] h=aa (.p .aF,h')/\Go c n h r t h' B (t.keep st):=by
 have D:=nA a.ob a.li;have hn:=jz a.ob;have E:=iC a.li;have e1:lat (h.set r (Cl.l (t.aJ.map St.enc++[st.enc]))) r=aa (t.aJ.map St.enc++[st.enc]):=wJ E _;have e2:oat (h.set r (Cl.l (t.aJ.map St.enc++[st.enc]))) n=aa (c,t.fs r):=(qO D _).trans a.ob;have s:t.aJ.length<100000:=by lia
 by_cases e:t.aJ.length<8
 ·have q:¬(8:Int)<(t.aJ.length:Int)+1:=by lia
  have L:Go c n h r t (h.set r (Cl.l (t.aJ.map St.enc++[st.enc]))) r (t.keep st):=by refine⟨a,⟨?_,?_⟩,.inl ⟨by simp,rfl⟩,by simp,λi v j u=>Vr (Wa j)⟩;rw[Tp.keep,bM e];exact e2;rw[Tp.keep,bM e,e1];simp
  refine⟨_,r,?_,L⟩;rw[run_eq P.keep rfl];have f:=mG L (.p .aF);simp[gF,a.ob,a.li,e1,e2,P.MOST_MARKS,rd,q,s,f]
 ·have H:t.aJ.length=8:=by lia
  obtain⟨d,b,Z,Y,W,V,U,O,ek⟩:∃d b Z Y W V U O,t.aJ=[d,b,Z,Y,W,V,U,O]:=by
   match t.aJ,H with
   |[d,b,Z,Y,W,V,U,O],_=>exact⟨d,b,Z,Y,W,V,U,O,rfl⟩
  have ev:oG 2 (t.aJ.map St.enc++[st.enc])=((t.keep st).aJ).map St.enc:=by rw[Tp.keep,bN e,ek];exact MB _ _ _ _ _ _ _ _ _
  have q:(8:Int)<(t.aJ.length:Int)+1:=by lia
  have F:∀g:HH,oat ((h.set r (Cl.l (t.aJ.map St.enc++[st.enc])))++g) n=aa (c,t.fs r):=λg=>(zZ (by simpa using hn)).trans e2;have z:(h.set r (Cl.l (t.aJ.map St.enc++[st.enc]))).length=h.length:=by simp
  have I:big (t.aM:Int)=ah:=by unfold big;exact bR (by lia)
  have L:Go c n h r t ((h.set r (Cl.l (t.aJ.map St.enc++[st.enc]))++[Cl.l ((t.keep st).aJ.map St.enc)]).set n (.o c ((t.keep st).fs h.length))) h.length (t.keep st):=by
   have J:n<(h.set r (Cl.l (t.aJ.map St.enc++[st.enc]))++[Cl.l ((t.keep st).aJ.map St.enc)]).length:=by simp;lia
   refine⟨a,⟨nB J _,?_⟩,.inr (Vo _),by simp,λi v j u=>?_⟩
   ·rw[mF (Wa (VI hn))];have:=TU (h.set r (Cl.l (t.aJ.map St.enc++[st.enc]))) (Cl.l ((t.keep st).aJ.map St.enc)) [];rw[z]at this;exact this
   rw[Vr (Wa v),Vi (by simpa using u),Vr (Wa j)]
  refine⟨_,_,?_,L⟩;rw[run_eq P.keep rfl];have f:=mG L (.p .aF);have k2:(t.keep st).fs h.length=({t with aM:=2*t.aM}:Tp).fs h.length:=by rw[Tp.keep,bN e];rfl
  have C:fy "gap" (.p (.int ((t.aM:Int)*2))) (t.fs h.length)=(t.keep st).fs h.length:=by rw[k2,←Im t h.length (2*t.aM)];congr 3;show(t.aM:Int)*2=((2*t.aM:Nat):Int);lia
  have J:n<(h.set r (Cl.l (t.aJ.map St.enc++[st.enc]))++[Cl.l ((t.keep st).aJ.map St.enc)]).length:=by simp;lia
  have w:=nB J (.o c (t.fs h.length));rw[KP]at w;have A:∀x y:Cl,((h.set r (Cl.l (t.aJ.map St.enc++[st.enc]))++[Cl.l ((t.keep st).aJ.map St.enc)]).set n x).set n y=(h.set r (Cl.l (t.aJ.map St.enc++[st.enc]))++[Cl.l ((t.keep st).aJ.map St.enc)]).set n y:=λx y=>by rw[aa7]
  simp[gF,a.ob,a.li,e1,e2,F,z,P.MOST_MARKS,rd,q,s,ev,E6,w,I,C,A,f]
end
structure TI(s0:St)(t:Tp)(e gv:Nat):Prop where
 run:Run s0 t.p t.aI t.most e
 ok:Pg.ok t.p
 ask:Ask t.aI
 a0:At 1000 s0
 g0:0<t.aM
 g1:t.aM<=1000
 m1:t.most<=1000
 far:t.far<=e
 aK:t.aK=itr s0 t.p t.aI t.far
 len:t.aJ.length=t.far/t.aM+1
 l8:t.aJ.length<=8
 aJ:∀j,j<t.aJ.length->t.aJ[j]?=aa (itr s0 t.p t.aI (j*t.aM))
 now:t.now<=t.far
 pw:∃j,t.aM=gv*2^j/\(0<j->8<=t.far/(t.aM/2))
structure Sm8(t t':Tp):Prop where
 p:t'.p=t.p
 aI:t'.aI=t.aI
 most:t'.most=t.most
 now:t'.now=t.now
def Sm8.refl(t:Tp):Sm8 t t:=⟨rfl,rfl,rfl,rfl⟩
def Sm8.trans{t u v:Tp}(x:Sm8 t u)(y:Sm8 u v):Sm8 t v:=⟨y.p.trans x.p,y.aI.trans x.aI,y.most.trans x.most,y.now.trans x.now⟩
def Tp.on(t:Tp):Tp:={t with aK:=step t.p t.aI t.aK,far:=t.far+1}
def Tp.nx(t:Tp):Tp:=if(t.far+1)%t.aM=0 then t.on.keep t.on.aK else t.on
def E9{f g:Nat}(J:0<g)(c:¬(f+1)%g=0):(f+1)/g=f/g:=by
 have U:=aaA f g;have O:f%g<g:=ZP _ J;have e:f+1=g*(f/g)+(f%g+1):=by lia
 have L:f%g+1<g:=by
  rcases VD (f%g+1) g with z|z
  exact z
  ·exfalso;apply c;have:f%g+1=g:=by lia
   rw[e,this,Nat.mul_add_mod,Nat.mod_self]
 rw[e,Nat.mul_add_div J,Nat.div_eq_of_lt L];lia
def Fb{f g:Nat}(J:0<g)(c:(f+1)%g=0):(f+1)/g=f/g+1/\(f/g+1)*g=f+1:=by
 have U:=aaA f g;have O:f%g<g:=ZP _ J;have L:f%g+1=g:=by
  rcases VD (f%g+1) g with z|z
  ·exfalso;have e:f+1=g*(f/g)+(f%g+1):=by lia
   rw[e,Nat.mul_add_mod,Nat.mod_eq_of_lt z]at c;lia
  lia
 have e:f+1=(f/g+1)*g:=by rw[Nat.add_mul,Xz (f/g) g];lia
 exact⟨by rw[e,Zx _ J],e.symm⟩
def TI.nx{s0:St}{t:Tp}{e gv:Nat}(I:TI s0 t e gv)(h:t.far<e):TI s0 t.nx e gv/\Sm8 t t.nx/\t.nx.far=t.far+1:=by
 have g0:=I.g0;have Y:step t.p t.aI t.aK=itr s0 t.p t.aI (t.far+1):=by rw[I.aK];rfl
 have mono:∀g:Nat,t.far/g<=(t.far+1)/g:=λg=>abr (Wh _);unfold Tp.nx
 by_cases c:(t.far+1)%t.aM=0
 ·rw[bM c];obtain⟨n,f⟩:=Fb g0 c;have V:t.on.aK=itr s0 t.p t.aI (t.far+1):=Y;have b:∀j,j<t.aJ.length+1->(t.aJ++[itr s0 t.p t.aI (t.far+1)])[j]?=aa (itr s0 t.p t.aI (j*t.aM)):=λj J=>by
   rcases VD j t.aJ.length with z|z
   rw[Vi z];exact I.aJ j z
   ·have l:j=t.aJ.length:=by lia
    subst l;rw[VW (Vo _),Nat.sub_self];have:t.aJ.length*t.aM=t.far+1:=by rw[I.len];exact f
    rw[this];rfl
  unfold Tp.keep
  by_cases k:t.aJ.length<8
  ·have O:t.on.aJ.length<8:=k;rw[bM O];refine⟨⟨I.run,I.ok,I.ask,I.a0,g0,I.g1,I.m1,h,Y,?_,?_,λj J=>?_,?_,?_⟩,⟨rfl,rfl,rfl,rfl⟩,rfl⟩
   ·show(t.aJ++[t.on.aK]).length=(t.far+1)/t.aM+1;rw[n,VN,I.len];rfl
   ·show(t.aJ++[t.on.aK]).length<=8;rw[VN];simp;lia
   ·have L:j<t.aJ.length+1:=by
     have:(t.aJ++[t.on.aK]).length=t.aJ.length+1:=by simp
     rw[←this];exact J
    show(t.aJ++[t.on.aK])[j]?=aa (itr s0 t.p t.aI (j*t.aM));rw[V];exact b j L
   show t.now<=t.far+1;have:=I.now;lia
   ·obtain⟨j,W,Z⟩:=I.pw;exact⟨j,W,λJ=>VJ (Z J) (mono _)⟩
  ·have O:¬t.on.aJ.length<8:=k;rw[bN O];have l8:t.aJ.length=8:=by have:=I.l8;lia
   have d:t.far+1=8*t.aM:=by rw[←f,←I.len,l8]
   have le:=I.run.le;have m1:=I.m1;have U:∀i,i<5->(t.aJ++[itr s0 t.p t.aI (t.far+1)])[2*i]?=aa (itr s0 t.p t.aI (i*(2*t.aM))):=λi o=>by rw[b (2*i) (by lia)];congr 2;rw[Xz 2 i,Nat.mul_assoc]
   have a:(VM 5).filterMap (λi=>(t.aJ++[t.on.aK])[2*i]?)=(VM 5).map λi=>itr s0 t.p t.aI (i*(2*t.aM)):=by rw[V,show VM 5=[0,1,2,3,4] from rfl];simp only[VT,List.filterMap_nil,U 0 (by decide),U 1 (by decide),U 2 (by decide),U 3 (by decide),U 4 (by decide),VA,Wb]
   have m:(t.far+1)/(2*t.aM)=4:=by rw[d,show 8*t.aM=4*(2*t.aM) by lia];exact Zx _ (by lia)
   refine⟨⟨I.run,I.ok,I.ask,I.a0,?_,?_,I.m1,h,Y,?_,?_,λj J=>?_,?_,?_⟩,⟨rfl,rfl,rfl,rfl⟩,rfl⟩;show 0<2*t.aM;lia;show 2*t.aM<=1000;lia
   ·show((VM 5).filterMap λi=>(t.aJ++[t.on.aK])[2*i]?).length=(t.far+1)/(2*t.aM)+1;rw[a,m];simp
   ·show((VM 5).filterMap λi=>(t.aJ++[t.on.aK])[2*i]?).length<=8;rw[a];simp
   ·have L:j<5:=by have q:j<((VM 5).filterMap λi=>(t.aJ++[t.on.aK])[2*i]?).length:=J;rw[a]at q;simpa using q
    show((VM 5).filterMap λi=>(t.aJ++[t.on.aK])[2*i]?)[j]?=aa (itr s0 t.p t.aI (j*(2*t.aM)));rw[a,VF,Yh L];rfl
   show t.now<=t.far+1;have:=I.now;lia
   ·obtain⟨j,W,Z⟩:=I.pw;refine⟨j+1,?_,λ_=>?_⟩
    ·show 2*t.aM=gv*2^(j+1);rw[W,Nat.pow_succ];rw[Xz 2,Nat.mul_assoc]
    ·show 8<=(t.far+1)/(2*t.aM/2);rw[Nat.mul_div_cancel_left _ (by lia:0<2),d,Zx _ g0];exact Vo _
 ·rw[bN c];refine⟨⟨I.run,I.ok,I.ask,I.a0,g0,I.g1,I.m1,h,Y,?_,I.l8,I.aJ,?_,?_⟩,⟨rfl,rfl,rfl,rfl⟩,rfl⟩
  ·show t.aJ.length=(t.far+1)/t.aM+1;rw[I.len,E9 g0 c]
  show t.now<=t.far+1;have:=I.now;lia
  ·obtain⟨j,W,Z⟩:=I.pw;exact⟨j,W,λJ=>VJ (Z J) (mono _)⟩
section
variable{c:aA}{s0:St}{T:FK->Option Fn}{G:aA->Option W}
def rcC:E:=(.and (.z .lt (.i (.v 0) "farthest") (.v 1)) (.not (.aH (.v 0) "is_last" (cV (.i (.v 0) "farthest") (.i (.v 0) "front")))))
def rcB:S:=(.seq (.setf (.v 0) "front" (.aH (.v 0) "behind" (cW (.i (.v 0) "front")))) (.seq (.augf (.v 0) "farthest" .add (.j (.int 1))) (.v (.z .eq (.bin .mod (.i (.v 0) "farthest") (.i (.v 0) "gap")) (.j (.int 0))) (.ex (.aH (.v 0) "keep" (cW (.i (.v 0) "front")))) .nil)))
def sO(t:Tp)(r:Nat):dR "is_last" (t.fs r)=af:=jj t r rfl
def wL(t:Tp)(r:Nat):dR "behind" (t.fs r)=af:=jj t r rfl
def MC(t:Tp)(r:Nat):dR "keep" (t.fs r)=af:=jj t r rfl
def Aa(t:Tp)(r:Nat):dR "reach" (t.fs r)=af:=jj t r rfl
def Fc(t:Tp)(r:Nat):dR "has" (t.fs r)=af:=jj t r rfl
def Ip(t:Tp)(r:Nat):dR "check" (t.fs r)=af:=jj t r rfl
def T5(t:Tp)(r:Nat):dR "at" (t.fs r)=af:=jj t r rfl
def Qo(t:Tp)(r:Nat):dR "end" (t.fs r)=af:=jj t r rfl
def Qp{n r:Nat}{t:Tp}{h:HH}(a:TAt c h n r t)(t':Tp)(k:t'.aJ=t.aJ):Go c n h r t (h.set n (.o c (t'.fs r))) r t':=by have hn:=jz a.ob;have J:=nA a.ob a.li;exact⟨a,⟨nB hn _,by rw[mF (Wa J),k];exact a.li⟩,.inl ⟨by simp,rfl⟩,by simp,λi L _ _=>Vr (Wa L)⟩
def Iq(P:TpP c T G)(k:Nat){n r:Nat}{t:Tp}{h:HH}{e:Nat}(a:TAt c h n r t)(I:TI s0 t e gv)(q:t.far<e)(w:W):
 ∃h' f,evS (runN T G (k+7)) G rcB [aa (.o n),aa w] h=aa (.nx [aa (.o n),aa w] h')/\Go c n h r t h' f t.nx:=by
 have hn:=jz a.ob;have U:=yi I.ok I.ask I.a0 I.run t.far (by lia);have le:=I.run.le;have m1:=I.m1;have A:=qQ P k a I.ok (j:=1000+t.far) (st:=t.aK) (by lia) (by rw[I.aK];exact U) (by rw[I.aK];exact I.run.on _ q);have J:=Qp a t.on rfl;have e1:oat (h.set n (.o c (({t with aK:=step t.p t.aI t.aK}:Tp).fs r))) n=aa (c,({t with aK:=step t.p t.aI t.aK}:Tp).fs r):=nB hn _;have g:=BN t r (step t.p t.aI t.aK);have l:fy "farthest" (.p (.int ((t.far:Int)+1))) (({t with aK:=step t.p t.aI t.aK}:Tp).fs r)=t.on.fs r:=Io ({t with aK:=step t.p t.aI t.aK}:Tp) r (t.far+1);have e2:oat (h.set n (.o c (t.on.fs r))) n=aa (c,t.on.fs r):=nB hn _;have g0:(0:Int)<(t.aM:Int):=by have:=I.g0;lia
 have Z:∀x y:Cl,(h.set n x).set n y=h.set n y:=λx y=>by rw[aa7]
 have of:t.on.far=t.far+1:=rfl;have V:t.on.aM=t.aM:=rfl;have L:evS (runN T G (k+7)) G rcB [aa (.o n),aa w] h=evS (runN T G (k+7)) G (.v (.z .eq (.bin .mod (.i (.v 0) "farthest") (.i (.v 0) "gap")) (.j (.int 0))) (.ex (.aH (.v 0) "keep" (.cons (.i (.v 0) "front") .nil))) .nil) [aa (.o n),aa w] (h.set n (.o c (t.on.fs r))):=by rw[rcB];simp[a.ob,A,wL,g,e1,l,Z]
 rw[L];unfold Tp.nx;have B:(((t.far+1)%t.aM:Nat):Int)=((t.far:Int)+1)%(t.aM:Int):=by simp
 by_cases Y:(t.far+1)%t.aM=0
 ·rw[bM Y];have O:((t.far:Int)+1)%(t.aM:Int)=0:=by lia
  obtain⟨s,d,m,k2⟩:=E8 P (k+6) J.b (by show t.aM<=100000;have:=I.g1;lia) (by show t.aJ.length<=8;exact I.l8) t.on.aK;refine⟨s,d,?_,J.trans k2⟩;simp[e2,of,V,g0,I.g0,O,MC,m]
 ·rw[bN Y];have O:¬((t.far:Int)+1)%(t.aM:Int)=0:=by lia
  refine⟨_,r,?_,J⟩;have u:(((t.far:Int)+1)%(t.aM:Int)==0)=ak:=by simpa using O
  simp[e2,of,V,g0,I.g0,u]
def uI(P:TpP c T G)(k:Nat){n r:Nat}{t:Tp}{h:HH}{e:Nat}(a:TAt c h n r t)(I:TI s0 t e gv)(m:Nat):
 aN (runN T G (k+7)) G rcC [aa (.o n),aa (.p (.int m))] h=aa (.p (.bl (decide (t.far<min m e))),h):=by
 have J:=wK P (k+5) a t.far t.aK;have le:=I.run.le
 by_cases O:t.far<m
 ·have L:(t.far:Int)<(m:Int):=by lia
  by_cases V:t.far<e
  ·have o:over t.p t.aK=ak:=by rw[I.aK];exact I.run.on _ V
   have q:(decide (t.most<=t.far)||over t.p t.aK)=ak:=by rw[o,YH];exact bQ (by lia)
   rw[q]at J;have d:decide (t.far<min m e)=ah:=bR (by lia);rw[d];simp[rcC,a.ob,L,O,sO,J]
  ·have U:t.far=e:=by have:=I.far;lia
   have q:(decide (t.most<=t.far)||over t.p t.aK)=ah:=by
    rcases I.run.last with z|z
    rw[bR (by lia)];rfl;rw[I.aK,U,z,Bool.or_true]
   rw[q]at J;have d:decide (t.far<min m e)=ak:=bQ (by lia);rw[d];simp[rcC,a.ob,L,O,sO,J]
 ·have L:¬(t.far:Int)<(m:Int):=by lia
  have d:decide (t.far<min m e)=ak:=bQ (by lia);rw[d];simp[rcC,a.ob,L,O]
def Ir(P:TpP c T G)(k:Nat)(n:Nat)(e gv m:Nat):∀(d f:Nat)(h:HH)(r:Nat)(t:Tp),TAt c h n r t->TI s0 t e gv->min m e-t.far<=d->d<=f →
 ∃h' Z t',fz (aN (runN T G (k+7)) G rcC) (evS (runN T G (k+7)) G rcB) (f+1) [aa (.o n),aa (.p (.int m))] h=aa (.nx [aa (.o n),aa (.p (.int m))] h')/\Go c n h r t h' Z t'/\TI s0 t' e gv/\Sm8 t t'/\t'.far=max t.far (min m e):=by
 intro d
 induction d with
 |zero =>
  intro f h r t a I j i;have q:=uI P k a I m;rw[bQ (by lia)]at q;refine⟨h,r,t,?_,.refl a,I,.refl t,by lia⟩;rw[fz,q,jr,nS]
 |succ d g =>
  intro f h r t a I j i
  by_cases L:t.far<min m e
  ·have q:=uI P k a I m;rw[bR L]at q;obtain⟨s,Y,w,J⟩:=Iq P k a I (by lia) (.p (.int m));obtain⟨y,V,A⟩:=I.nx (by lia);cases f with
   |zero=>lia
   |succ f =>
    obtain⟨l,W,O,v,u,x,U,z⟩:=g f s Y t.nx J.b y (by lia) (by lia);refine⟨l,W,O,?_,J.trans u,x,V.trans U,by lia⟩;rw[fz,q,jr,nR,w,gC,v]
  ·have q:=uI P k a I m;rw[bQ L]at q;refine⟨h,r,t,?_,.refl a,I,.refl t,by lia⟩;rw[fz,q,jr,nS]
theorem wM:gW=⟨["self","moment"],["self","moment"],.j rcC rcB⟩:=rfl
inductive BO{α:Type}(c:aA)(s0:St)(x:Option (α×HH))(y:α)(n:Nat)(h:HH)(r:Nat)(t:Tp)(e gv f:Nat):Prop
 |mk(h':HH)(J:Nat)(t':Tp)(q:x=aa (y,h'))(g:Go c n h r t h' J t')(i:TI s0 t' e gv)(m:Sm8 t t')(a:t'.far=f):BO c s0 x y n h r t e gv f
def sP(P:TpP c T G)(k:Nat){n r:Nat}{t:Tp}{h:HH}{e:Nat}(a:TAt c h n r t)(I:TI s0 t e gv)(m:Nat):
 BO c s0 (runN T G (k+8) (.m c "reach") [.o n,.p (.int m)] h) (.p .aF) n h r t e gv (max t.far (min m e)):=by
 have le:=I.run.le;have m1:=I.m1;obtain⟨O,L,J,b,g,U,s,f⟩:=Ir P k n e gv m 99999 99999 h r t a I (by lia) (Vo _);refine⟨O,L,J,?_,g,U,s,f⟩;rw[run_eq P.reach rfl,wM];have fn:=mG g (.p .aF);simp[turns,b,fn]
def uJ(P:TpP c T G)(k:Nat){n r:Nat}{t:Tp}{h:HH}{e:Nat}(a:TAt c h n r t)(I:TI s0 t e gv)(m:Nat)(Z:m<=t.most):
 BO c s0 (runN T G (k+9) (.m c "has") [.o n,.p (.int m)] h) (.p (.bl (decide (m<=e)))) n h r t e gv (max t.far (min m e)):=by
 obtain⟨U,O,J,b,g,Y,s,f⟩:=sP P k a I m;refine⟨U,O,J,?_,g,Y,s,f⟩;rw[run_eq P.has rfl];have w:=iI P (k+7) m;have W:¬((m:Int)<0):=by lia
 have V:¬((t.most:Int)<(m:Int)):=by lia
 have fn:=λw=>mG g w;have far:=I.far;have d:decide ((m:Int)<=(J.far:Int))=decide (m<=e):=by
  by_cases L:m<=e
  rw[bR L];exact bR (by lia);rw[bQ L];exact bQ (by lia)
 simp[iw,w,W,a.ob,V,Aa,b,g.b.ob,fn];simpa using d
def BP(P:TpP c T G)(k:Nat){n r:Nat}{t:Tp}{h:HH}{e:Nat}(a:TAt c h n r t)(I:TI s0 t e gv)(m:Nat)(J:m<=e):
 BO c s0 (runN T G (k+10) (.m c "check") [.o n,.p (.int m)] h) (.p .aF) n h r t e gv (max t.far m):=by
 obtain⟨U,O,L,b,g,V,s,f⟩:=uJ P k a I m (VJ J I.run.le);rw[bR J]at b;refine⟨U,O,L,?_,g,V,s,by lia⟩;rw[run_eq P.check rfl];have fn:=mG g (.p .aF);simp[gX,a.ob,Fc,b,fn]
def atB:S:=(.set 2 (.aH (.v 0) "behind" (cW (.v 2))))
theorem Ab(P:TpP c T G)(k:Nat){n r:Nat}{t:Tp}{h:HH}{e gv:Nat}(a:TAt c h n r t)(I:TI s0 t e gv)(J:W):∀(q j:Nat)(x:Option W)(lo:Int),j+q<=e →
 ∃L,fc (evS (runN T G (k+7)) G atB) [(3,"step")] (upto lo q) [aa (.o n),aa J,aa (.p (itr s0 t.p t.aI j).enc),x] h=aa (.nx [aa (.o n),aa J,aa (.p (itr s0 t.p t.aI (j+q)).enc),L] h)
 |0,j,x,lo,_=>⟨x,rfl⟩
 |q+1,j,x,lo,hj=>by
  have le:=I.run.le;have m1:=I.m1;obtain⟨L,b⟩:=Ab P k a I J q (j+1) (aa (.p (.int lo))) (lo+1) (by lia);refine⟨L,?_⟩;have O:=qQ P k a I.ok (j:=1000+j) (st:=itr s0 t.p t.aI j) (by lia) (yi I.ok I.ask I.a0 I.run j (by lia)) (I.run.on j (by lia));have up:upto lo (q+1)=.int lo::upto (lo+1) q:=by unfold upto;rw[YS,VA,W6];simp only[Int.natCast_zero,Int.add_zero,XX,true_and];apply Xs;intro i _;simp;lia
  rw[up];have U:step t.p t.aI (itr s0 t.p t.aI j)=itr s0 t.p t.aI (j+1):=rfl;rw[U]at O;have Y:j+1+q=j+(q+1):=by lia
  rw[Y]at b;have V:evS (runN T G (k+7)) G atB [aa (.o n),aa J,aa (.p (itr s0 t.p t.aI j).enc),aa (.p (.int lo))] h=aa (.nx [aa (.o n),aa J,aa (.p (itr s0 t.p t.aI (j+1)).enc),aa (.p (.int lo))] h):=by simp[atB,a.ob,wL,O]
  simp[V,b]
theorem Fd:j8=⟨["self","moment"],["self","moment","state","step"],(.seq (.ex (.aH (.v 0) "check" (.cons (.v 1) .nil)))
 (.seq (.set 2 (.y (.i (.v 0) "kept") (.bin .fdiv (.v 1) (.i (.v 0) "gap"))))
 (.seq (.for [(3,"step")] .rng1 (.cons (.bin .mod (.v 1) (.i (.v 0) "gap")) .nil) atB)
 (.ret (.v 2)))))⟩:=rfl
def MD(P:TpP c T G)(k:Nat){n r:Nat}{t:Tp}{h:HH}{e:Nat}(a:TAt c h n r t)(I:TI s0 t e gv)(m:Nat)(Z:m<=e):
 BO c s0 (runN T G (k+11) (.m c "at") [.o n,.p (.int m)] h) (.p (itr s0 t.p t.aI m).enc) n h r t e gv (max t.far m):=by
 obtain⟨d,W,J,b,g,L,s,f⟩:=BP P k a I m Z;refine⟨d,W,J,?_,g,L,s,f⟩;rw[run_eq P.at_ rfl,Fd];have fn:=λw=>mG g w;have g0:=L.g0;have g1:=L.g1;have dm:=aaA m J.aM;have v:=ZP m g0;have Y:m/J.aM<J.aJ.length:=by rw[L.len];have:m/J.aM<=J.far/J.aM:=abr (by lia);lia
 have U:=L.aJ _ Y;have le:=L.run.le;have m1:=L.m1;rw[s.p,s.aI]at U;have i:(0:Int)<(J.aM:Int):=by lia
 have j:(J.aM:Int)<1073741824:=by lia
 have e1:(m:Int)/(J.aM:Int)=((m/J.aM:Nat):Int):=by simp
 have e2:(m:Int)%(J.aM:Int)=((m%J.aM:Nat):Int):=by simp
 have ix:dZ (.aD (J.aJ.map St.enc)) (.int ((m/J.aM:Nat):Int))=aa (itr s0 t.p t.aI (m/J.aM*J.aM)).enc:=by show atP _ _=_;rw[j6,VF,U];rfl
 obtain⟨u,O⟩:=Ab P (k+3) g.b L (.p (.int m)) (m%J.aM) (m/J.aM*J.aM) af 0 (by rw[Xz];lia);rw[s.p,s.aI]at O;have l:m/J.aM*J.aM+m%J.aM=m:=by rw[Xz];exact dm
 rw[l]at O;have V:gy .rng1 [.int ((m%J.aM:Nat):Int)]=aa (upto 0 (m%J.aM)):=by
  rw[iM];have q:((-100000<=(((m%J.aM:Nat):Int)):Bool)&&(((m%J.aM:Nat):Int)<=100000:Bool))=ah:=by simp only[Vg,bP];lia
  rw[bM q];rfl
 simp[-dP,-iM,-Int.natCast_ediv,-Int.natCast_emod,a.ob,Ip,b,g.b.ob,g.b.li,rd,i,g0,j,e1,e2,ix,V,iB,O,fn]
structure TpM(c:aA)(T:FK->Option Fn):Prop where
 end_:T (.m c "end")=aa jm
def Iu(P:TpP c T G)(M:TpM c T)(k:Nat){n r:Nat}{t:Tp}{h:HH}{e:Nat}(a:TAt c h n r t)(I:TI s0 t e gv):
 BO c s0 (runN T G (k+9) (.m c "end") [.o n] h) (.p (.int e)) n h r t e gv e:=by
 obtain⟨U,O,J,b,g,V,s,f⟩:=sP P k a I t.most;have le:=I.run.le;have W:=I.far;have L:J.far=e:=by lia
 refine⟨U,O,J,?_,g,V,s,L⟩;rw[run_eq M.end_ rfl];have fn:=λw=>mG g w;simp[jm,a.ob,Aa,b,g.b.ob,L,fn]
def nC{h h':HH}(i:Nat)(hi:i<h.length)(J:h'[i]?≠h[i]?)(w:W):fin h w h'=aa (w,h'):=by
 unfold fin
 by_cases c:h'.length=h.length
 rw[bM c]
 ·rw[bN c,bN];intro z;apply J;have q:=Wu (l:=h') hi;rw[z]at q;exact q.symm
end
def j9:Fn:=⟨["thing"],["thing"], (.ret (.and (.call "is_whole" (cW (.v 0))) (.chain .le .lt (.j (.int 0)) (.v 0) (.aG "CELL_COUNT"))))⟩
def fN:Fn:=⟨["thing"],["thing"], (.v (.and (.not (.call "is_name" (cW (.v 0)))) (.not (.call "is_cell" (cW (.v 0))))) .bad .nil)⟩
structure ThP(T:FK->Option Fn):Prop where
 is_cell:T "is_cell"=aa j9
 check:T "check_thing"=aa fN
inductive Th
 |nm(x:Nm)|cl(i:Nat)(h:i<4)
def Th.enc:Th->D
 |.nm x=>.str x.w|.cl i _=>.int i
def Th.val(st:St):Th->Int
 |.nm x=>st.names.getD x.ix 0|.cl i _=>st.cells.getD i 0
def fY:Fn:=⟨["state","thing","worth"],["state","thing","worth"], (.seq (.v (.call "is_name" (cW (.v 1))) (.ret (.bin .add (.bin .add (.n (.v 0) .nil (cW (.aG "NAMES"))) (.aE (cW (.call "with_name" (cU (.v 0) (.v 1) (.v 2)))))) (.n (.v 0) (cW (.bin .add (.aG "NAMES") (.j (.int 1)))) .nil))) .nil) (.ret (.bin .add (.bin .add (.n (.v 0) .nil (cW (.aG "CELLS"))) (.aE (cW (.call "with_worth" (cU (.y (.v 0) (.aG "CELLS")) (.v 1) (.v 2)))))) (.n (.v 0) (cW (.bin .add (.aG "CELLS") (.j (.int 1)))) .nil))))⟩
structure LdP(T:FK->Option Fn)(G:aA->Option W):Prop where
 with_thing:T "with_thing"=aa fY
def Th.put(st:St)(v:Int):Th->St
 |.nm x=>{st with names:=st.names.set x.ix v}|.cl i _=>{st with cells:=st.cells.set i v}
structure Szd(st:St):Prop where
 n:st.names.length=6
 c:st.cells.length=4
def Szd.put{st:St}(z:Szd st)(v:Int)(th:Th):Szd (th.put st v):=by
 cases th with
 |nm x=>exact⟨by show(st.names.set _ _).length=6;rw[VX];exact z.n,z.c⟩|cl i h=>exact⟨z.n,by show(st.cells.set _ _).length=4;rw[VX];exact z.c⟩
def Th.ME{st:St}(J:st.ok){v:Int}(O:Wth v)(th:Th):(th.put st v).ok:=by
 have z:=Szd.put ⟨J.nlen,J.clen⟩ v th;cases th with
 |nm x=>exact⟨z.n,z.c,λy L=>(Xk L).elim (J.nw y) λe=>e ▸ O,J.cw⟩|cl i h=>exact⟨z.n,z.c,J.nw,λy L=>(Xk L).elim (J.cw y) λe=>e ▸ O⟩
def nE{F:FK->List W->HH->Option (W×HH)}{G:aA->Option W}{L:Sr}{O:Es}{tg:List aA}{U:List (Nat×aA)}{cond:Es}{J:E}{s:Sl}{h h1 h2:HH}{ws:List W}{ds xs:List D}{fs:Sl}(e1:evs F G O s h=aa (ws,h1))(e2:(rds ws h1).bind (gy L)=aa ds)(a:frees s U=aa fs)(Z:iB ws=ah)(Y:eH (fD (evs F G cond) (aN F G J) fs) tg.length ds h1=aa (xs,h2))(V:xs.length<=100000):aN F G (.comp ak L O tg U cond J) s h=aa (.p (.aD xs),h2):=by show bnd (evs F G O s h) (qk ak L tg.length (frees s U) (evs F G cond) (aN F G J))=_;rw[e1,fu];unfold qk;rw[e2,a];show(if iB ws=ah then _ else _)=_;rw[bM Z,Y,fu];unfold g8;rw[bM (show xs.length<=lim from V)];rfl
def yj{J:Type}(f:List D->HH->Option (Option D×HH))(mk:J->D)(g:J->Option D)(h:HH):∀(l:List J),(∀x∈l,f [mk x] h=aa (g x,h))->eH f 1 (l.map mk) h=aa (l.filterMap g,h):=by
 intro l
 induction l with
 |nil=>intro _;rfl
 |cons x r O =>
  intro L;rw[VA,eH,mU];show bnd (f [mk x] h) (Dh (eH f 1 (r.map mk)))=_;rw[L x Vt,fu,yX,O λy U=>L y (Vn _ U),fu,vJ,VT];cases g x<;>rfl
def Fe{L:Type}(f:List D->HH->Option (Option D×HH))(mk:L->D)(g:L->Option D)(J:HH->Prop):∀(l:List L),(∀x∈l,∀h,J h->∃h',f [mk x] h=aa (g x,h')/\J h')->∀h,J h->∃h',eH f 1 (l.map mk) h=aa (l.filterMap g,h')/\J h':=by
 intro l
 induction l with
 |nil=>intro _ h O;exact⟨h,rfl,O⟩
 |cons x r V =>
  intro U h O;obtain⟨b,e1,Y⟩:=U x Vt h O;obtain⟨a,e2,W⟩:=V (λy Z=>U y (Vn _ Z)) b Y;refine⟨a,?_,W⟩;rw[VA,eH,mU];show bnd (f [mk x] h) (Dh (eH f 1 (r.map mk)))=_;rw[e1,fu,yX,e2,fu,vJ,VT];cases g x<;>rfl
def gG:Fn:=⟨["_law_script","_law_at"],["_law_script","_law_at"], (.ret (.y (.aD ak (cP (.j (.str "a")) (.j (.str "b")) (.j (.str "c")) (.j (.str "f")) (.j (.int 0)) (.j (.int 1)) (.j (.int 2)) (.j (.int 3)))) (.call "_law_drawn" (cU (.v 0) (.v 1) (.j (.int 8))))))⟩
def sR:Fn:=⟨["_law_state","_law_thing_here"],["_law_state","_law_thing_here"], (.seq (.v (.bi .isStr ak (cW (.v 1))) (.ret (.y (.y (.v 0) (.j (.int 1))) (.me .sindex (.j (.str "abcdef")) (cW (.v 1))))) .nil) (.ret (.y (.y (.v 0) (.j (.int 2))) (.v 1))))⟩
section
variable{c:aA}{T:FK->Option Fn}{G:aA->Option W}
def lV(P:Prg T G)(k:Nat)(i:Int)(h:HH):runN T G (k+1) "is_name" [.p (.int i)] h=aa (.p (.bl ak),h):=by rw[run_eq P.is_name rfl];simp[iU,P.LETTERS,c6]
def wN(P:TpP c T G)(C:ThP T)(k:Nat){i:Nat}(hi:i<4)(h:HH):runN T G (k+2) "is_cell" [.p (.int i)] h=aa (.p (.bl ah),h):=by
 rw[run_eq C.is_cell rfl];have w:=iI P k i h;have J:(i:Int)<4:=by lia
 have L:(0:Int)<=(i:Int):=by lia
 simp[j9,w,P.prg.CELL_COUNT,J,L,c6]
def oW(P:TpP c T G)(C:ThP T)(k:Nat)(th:Th)(h:HH):runN T G (k+3) "check_thing" [.p th.enc] h=aa (.p .aF,h):=by
 rw[run_eq C.check rfl];cases th with
 |nm x =>
  have n:=kR P.prg (k+1) x h;simp[fN,Th.enc,n,c6]
 |cl i J =>
  have n:=lV P.prg (k+1) i h;have L:=wN P C k J h;simp[fN,Th.enc,n,L,c6]
def qR(P:TpP c T G)(L:LdP T G)(k:Nat){st:St}(J:st.ok)(th:Th)(v:Int)(h:HH):runN T G (k+3) "with_thing" [.p st.enc,.p th.enc,.p (.int v)] h=aa (.p (th.put st v).enc,h):=by
 rw[run_eq L.with_thing rfl];cases th with
 |nm x =>
  have w:=jy P.prg k st J x v h;have i:=kR P.prg (k+1) x h;rw[St.enc]at w;simp[fY,Th.enc,i,P.prg.NAMES,w,c6,St.enc,Th.put]
 |cl j O =>
  have w:=iX P.prg (k+1) (cZ st.cells) j (by rw[iY,J.clen];exact O) (by rw[iY,J.clen];lia) (.int v) h;have i:=lV P.prg (k+1) (j:Int) h;simp[fY,Th.enc,i,P.prg.NAMES,P.prg.CELLS,w,c6,St.enc,Th.put];exact(YZ).symm
def gu(L:Lw T)(ns:List Int)(O:ns.length<=1000)(q many:Int)(J:0<many):∃z:Nat,(z:Int)<many/\∀k h,runN T G (k+2) "_law_drawn" [.p (.aD (cZ ns)),.p (.int q),.p (.int many)] h=aa (.p (.int (z:Int)),h):=by
 have V:=gi ns q J;have U:=gj ns q J;refine⟨(drw ns q many).toNat,by omega,λk h=>?_⟩;have:=gq (G:=G) L k ns O q many J h;rw[this];congr 4
 omega
def BQ(L:Lw T)(U:T "_law_thing"=aa gG)(ns:List Int)(O:ns.length<=1000)(p:Int):∃th:Th,∀k h,runN T G (k+3) "_law_thing" [.p (.aD (cZ ns)),.p (.int p)] h=aa (.p th.enc,h):=by
 obtain⟨z,W,V⟩:=gu (G:=G) L ns O p 8 (by decide);have J:∃th:Th,dZ (.aD [.str "a",.str "b",.str "c",.str "f",.int 0,.int 1,.int 2,.int 3]) (.int (z:Int))=aa th.enc:=by
  have:z=0\/z=1\/z=2\/z=3\/z=4\/z=5\/z=6\/z=7:=by omega
  rcases this with rfl|rfl|rfl|rfl|rfl|rfl|rfl|rfl
  exact⟨.nm .a,rfl⟩;exact⟨.nm .b,rfl⟩;exact⟨.nm .c,rfl⟩;exact⟨.nm .f,rfl⟩;exact⟨.cl 0 (by decide),rfl⟩;exact⟨.cl 1 (by decide),rfl⟩;exact⟨.cl 2 (by decide),rfl⟩;exact⟨.cl 3 (by decide),rfl⟩
 obtain⟨th,e⟩:=J;refine⟨th,λk h=>?_⟩;rw[run_eq U rfl];have d:=V k h;simp[-dP,gG,d,e,c6]
end
def gH:Fn:=⟨["self","program","asked","most","state"],["self","program","asked","most","state"], (.seq (.ex (.sup "Tape" (cS (.v 0) (.v 1) (.v 2) (.j (.int 1)) (.v 3)))) (.seq (.setf (.v 0) "kept" (.aD ah (cW (.v 4)))) (.setf (.v 0) "front" (.v 4))))⟩
def iJ:Fn:=⟨["self","program","asked","most"],["self","program","asked","most"], (.seq (.setf (.v 0) "program" (.v 1)) (.seq (.setf (.v 0) "asked" (.bi .list ak (cW (.v 2)))) (.seq (.setf (.v 0) "most" (.v 3)) (.seq (.setf (.v 0) "origins" (.aD ah (cW (.j .aF)))) (.setf (.v 0) "branches" (.obl (.make "Branch" (cT (.v 1) (.v 2) (.v 3) (.call "begun" .nil)))))))))⟩
def iK:Fn:=⟨["self","run","moment","thing","worth"],["self","run","moment","thing","worth","state"], (.seq (.set 5 (.aH (.v 0) "at" (cV (.v 1) (.v 2)))) (.seq (.ex (.call "check_thing" (cW (.v 3)))) (.seq (.ex (.me .append (.i (.v 0) "origins") (cW (.aE (cV (.v 1) (.v 2)))))) (.seq (.ex (.oba (.i (.v 0) "branches") (.make "Branch" (cT (.i (.v 0) "program") (.i (.v 0) "asked") (.bin .sub (.i (.v 0) "most") (.v 2)) (.call "with_thing" (cU (.v 5) (.v 3) (.v 4))))))) (.ret (.bin .sub (.obn (.i (.v 0) "branches")) (.j (.int 1))))))))⟩
def kg:Fn:=⟨["self","run","moment"],["self","run","moment","holder","branch","number"], (.seq (.ex (.aH (.v 0) "check_run" (cW (.v 1)))) (.seq (.set 3 (.aH (.v 0) "holder" (cV (.v 1) (.v 2)))) (.seq (.set 4 (.obi (.i (.v 0) "branches") (.v 3))) (.seq (.set 5 (.bin .sub (.v 2) (.aH (.v 0) "first" (cW (.v 3))))) (.seq (.v (.not (.aH (.v 4) "has" (cW (.v 5)))) .bad .nil) (.ret (.aH (.v 4) "at" (cW (.v 5)))))))))⟩
def jn:Fn:=⟨["self","run"],["self","run"], (.seq (.ex (.aH (.v 0) "check_run" (cW (.v 1)))) (.ret (.bin .add (.aH (.v 0) "first" (cW (.v 1))) (.aH (.obi (.i (.v 0) "branches") (.v 1)) "end" .nil))))⟩
def gJ:Fn:=⟨["self","run"],["self","run"], (.seq (.ex (.aH (.v 0) "check_run" (cW (.v 1)))) (.ret (.y (.i (.v 0) "origins") (.v 1))))⟩
noncomputable def ptC:E:=(.z .ne (.y (.v 2) (.neg (.j (.int 1)))) (.j (.int 0)))
def ptB:S:=(.ex (.me .append (.v 2) (cW (.y (.y (.i (.v 0) "origins") (.y (.v 2) (.neg (.j (.int 1))))) (.j (.int 0))))))
def gK:Fn:=⟨["self","run"],["self","run","runs"], (.seq (.ex (.aH (.v 0) "check_run" (cW (.v 1)))) (.seq (.set 2 (.aD ah (cW (.v 1)))) (.seq (.j ptC ptB) (.ret (.stp ak (-1) (.v 2))))))⟩
noncomputable def cnC:E:=(.z .eq (.y (.y (.i (.v 1) "origins") (.v 0)) (.j (.int 0))) (.v 2))
def gS:Fn:=⟨["self","run"],["self","run"], (.seq (.ex (.aH (.v 0) "check_run" (cW (.v 1)))) (.ret (.comp ak .rng2 (cV (.j (.int 1)) (.bi .len ak (cW (.i (.v 0) "origins")))) ["child"] [(0,"self"),(1,"run")] (cW cnC) (.v 0))))⟩
def fH:Fn:=⟨["self","run"],["self","run"], (.v (.or (.not (.call "is_whole" (cW (.v 1)))) (.or (.z .lt (.v 1) (.j (.int 0))) (.z .ge (.v 1) (.obn (.i (.v 0) "branches"))))) .bad .nil)⟩
def fZ:Fn:=⟨["self","run"],["self","run"], (.ret (.ite (.z .eq (.v 1) (.j (.int 0))) (.j (.int 0)) (.y (.y (.i (.v 0) "origins") (.v 1)) (.j (.int 1)))))⟩
def hdC:E:=(.and (.z .ne (.v 1) (.j (.int 0))) (.z .lt (.v 2) (.aH (.v 0) "first" (cW (.v 1)))))
noncomputable def hdB:S:=(.set 1 (.y (.y (.i (.v 0) "origins") (.v 1)) (.j (.int 0))))
def fO:Fn:=⟨["self","run","moment"],["self","run","moment"], (.seq (.j hdC hdB) (.ret (.v 1)))⟩
structure TrP(T:FK->Option Fn)(G:aA->Option W):Prop where
 tp:TpP "Branch" T G
 en:TpM "Branch" T
 tin:T (.m "Tape" "__init__")=aa iH
 bin:T (.m "Branch" "__init__")=aa gH
 init:T (.m "Tree" "__init__")=aa iJ
 part:T (.m "Tree" "part")=aa iK
 at_:T (.m "Tree" "at")=aa kg
 end_:T (.m "Tree" "end")=aa jn
 check_run:T (.m "Tree" "check_run")=aa fH
 first:T (.m "Tree" "first")=aa fZ
 holder:T (.m "Tree" "holder")=aa fO
 th:ThP T
 ld:LdP T G
structure Nd where
 par:Nat
 fi:Nat
 s0:St
 e:Nat
 f:Nat->St
noncomputable def Nd.en(d:Nd):Nat:=d.fi+d.e
structure Tr where
 p:Pg
 aI:List Int
 most:Nat
 ds:List Nd
noncomputable def Nd.org(d:Nd):D:=.aE [.int d.par,.int d.fi]
def iy(ds:List Nd):List D:=.aF::ds.tail.map Nd.org
def Ff{ds:List Nd}{i:Nat}{d:Nd}(h:ds[i]?=aa d)(hi:0<i):(iy ds)[i]?=aa d.org:=by
 cases i with
 |zero=>exact bO hi (V5 _)
 |succ i =>
  cases ds with
  |nil=>simp at h
  |cons x r =>
   simp only[aaR]at h;simp[iy,h]
def nF{ds:List Nd}(h:ds≠[]):(iy ds).length=ds.length:=by
 cases ds with
 |nil=>exact bO rfl h|cons x r=>simp[iy]
def Fg{ds:List Nd}(h:ds≠[])(d:Nd):iy (ds++[d])=iy ds++[d.org]:=by
 cases ds with
 |nil=>exact bO rfl h|cons x r=>simp[iy]
structure Own(t:Tr)(i:Nat)(d:Nd):Prop where
 run:Run d.s0 t.p t.aI (t.most-d.fi) d.e
 at0:At d.fi d.s0
 le:d.fi<=t.most
 own:∀k,k<=d.e->d.f (d.fi+k)=itr d.s0 t.p t.aI k
 zero:i=0->d.fi=0/\d.s0=St.zero
 par:0<i->∃q,t.ds[d.par]?=aa q/\d.par<i/\d.fi<=q.en/\∀m,m<d.fi->d.f m=q.f m
 put:0<i->∀q,t.ds[d.par]?=aa q->∃(th:Th) (v:Int),d.s0=th.put (q.f d.fi) v
structure Wf(t:Tr):Prop where
 ok:Pg.ok t.p
 ask:Ask t.aI
 m1:t.most<=100
 l1:t.ds.length<=100
 l0:t.ds≠[]
 each:∀i d,t.ds[i]?=aa d->Own t i d
theorem Ac{s0:St}{p:Pg}{aI:List Int}{most e j:Nat}(J:Pg.ok p)(L:Ask aI)(O:At j s0)(R:Run s0 p aI most e):∀i,i<=e->At (j+i) (itr s0 p aI i)
 |0,_=>O|i+1,h=>zR J L (Ac J L O R i (by lia)) (R.on i (by lia))
theorem Wf.hold{t:Tr}(W:Wf t){m:Nat}:∀(n i:Nat)(d:Nd),i<=n->t.ds[i]?=aa d->m<=d.en->∃(j:Nat) (q:Nd),t.ds[j]?=aa q/\q.fi<=m/\m<=q.en/\d.f m=itr q.s0 t.p t.aI (m-q.fi)/\At m (d.f m)
 |n,i,d,hn,h,hm=>by
  have O:=W.each i d h
  by_cases c:d.fi<=m
  ·have e1:=O.own (m-d.fi) (by unfold Nd.en at hm;lia);rw[show d.fi+(m-d.fi)=m by lia]at e1;refine⟨i,d,h,c,hm,e1,?_⟩;rw[e1];have:=Ac W.ok W.ask O.at0 O.run (m-d.fi) (by unfold Nd.en at hm;lia);rw[show d.fi+(m-d.fi)=m by lia]at this;exact this
  ·have L:0<i:=by
    rcases WO i with z|z
    have:=(O.zero z).1;lia;exact z
   obtain⟨q,V,k,g,U⟩:=O.par L;cases n with
   |zero=>lia
   |succ n =>
    obtain⟨j,J,e,b,a,Z,Y⟩:=W.hold (m:=m) n d.par q (by lia) V (by lia);rw[U m (by lia)];exact⟨j,J,e,b,a,Z,Y⟩
def Wf.at_{t:Tr}(W:Wf t){m i:Nat}{d:Nd}(h:t.ds[i]?=aa d)(J:m<=d.en):At m (d.f m):=by obtain⟨_,_,_,_,_,_,a⟩:=W.hold i i d (Vo _) h J;exact a
def Wf.wO{t:Tr}(W:Wf t){i:Nat}{d:Nd}(h:t.ds[i]?=aa d):d.en<=t.most:=by have O:=W.each i d h;have:=O.run.le;have:=O.le;unfold Nd.en;lia
def tfs(t:Tr)(ro rb:Nat):List (aA×W):=[("program",.p (eW t.p)),("asked",.p (.aD (cZ t.aI))),("most",.p (.int t.most)),("origins",.r ro),("branches",.r rb)]
section
variable(t:Tr)(ro rb:Nat)
@[simp]theorem MF:dR "program" (tfs t ro rb)=aa (.p (eW t.p)):=by simp[tfs]
@[simp]theorem Qq:dR "asked" (tfs t ro rb)=aa (.p (.aD (cZ t.aI))):=by simp[tfs]
@[simp]theorem RK:dR "most" (tfs t ro rb)=aa (.p (.int t.most)):=by simp[tfs]
@[simp]theorem MG:dR "origins" (tfs t ro rb)=aa (.r ro):=by simp[tfs]
@[simp]theorem JR:dR "branches" (tfs t ro rb)=aa (.r rb):=by simp[tfs]
def fP{m:String}(h:(["program","asked","most","origins","branches"]:List String).contains m=ak):dR m (tfs t ro rb)=af:=by simp only[Zu,List.contains_nil,YH,abh,bV,ne_eq]at h;obtain⟨V,U,O,L,J⟩:=h;simp[tfs,V,U,O,L,J]
@[simp]theorem Iw:dR "check_run" (tfs t ro rb)=af:=fP t ro rb rfl
@[simp]theorem Qs:dR "first" (tfs t ro rb)=af:=fP t ro rb rfl
@[simp]theorem NK:dR "holder" (tfs t ro rb)=af:=fP t ro rb rfl
@[simp]theorem U5:dR "at" (tfs t ro rb)=af:=fP t ro rb rfl
@[simp]theorem T6:dR "end" (tfs t ro rb)=af:=fP t ro rb rfl
@[simp]theorem RL:dR "part" (tfs t ro rb)=af:=fP t ro rb rfl
@[simp]theorem sU:dR "parent" (tfs t ro rb)=af:=fP t ro rb rfl
@[simp]theorem nG:dR "path" (tfs t ro rb)=af:=fP t ro rb rfl
@[simp]theorem wQ:dR "children" (tfs t ro rb)=af:=fP t ro rb rfl
end
noncomputable abbrev Bx:=Nat×Nat×Tp
noncomputable abbrev Pts:=Nat->Option Cl
structure iL(Pt:Pts)(h:HH)(n:Nat)(t:Tr)(ro rb:Nat)(bs:List Bx):Prop where
 ob:oat h n=aa (Vu "Tree",tfs t ro rb)
 og:lat h ro=aa (iy t.ds)
 br:bat h rb=aa (bs.map (·.1))
 len:bs.length=t.ds.length
 tp:∀(i:Nat)(b:Bx)(d:Nd),bs[i]?=aa b->t.ds[i]?=aa d->TAt "Branch" h b.1 b.2.1 b.2.2/\TI d.s0 b.2.2 d.e 1/\b.2.2.p=t.p/\b.2.2.aI=t.aI
 nd1:(bs.map (·.1)).Nodup
 nd2:(ro::bs.map (·.2.1)).Nodup
 pt:∀i c,Pt i=aa c->h[i]?=aa c/\i≠n/\i≠ro/\i≠rb/\∀b∈bs,i≠b.1/\i≠b.2.1
inductive fJ(Pt:Pts)(h:HH)(n:Nat)(t:Tr)(ro rb:Nat):Prop
 |mk(bs:List Bx)(a:iL Pt h n t ro rb bs)
def yk{h:HH}{n:Nat}{q:List Nat}(e:bat h n=aa q):n<h.length:=by
 unfold bat at e;rcases VD n h.length with z|z
 exact z;rw[Vs z]at e;exact fU e
def Fi{h h':HH}{i:Nat}(e:h'[i]?=h[i]?):bat h' i=bat h i:=by unfold bat;rw[e]
def Ad{h:HH}{n r:Nat}{q:aA×List (aA×W)}{xs:List Nat}(e:oat h n=aa q)(e':bat h r=aa xs):r≠n:=by
 rintro rfl
 unfold oat at e;unfold bat at e';cases g:h[r]? with
 |none=>rw[g]at e;exact fU e|some c=>rw[g]at e e';cases c<;>simp[oF]at e e'
def Ae{h:HH}{n r:Nat}{q:List D}{xs:List Nat}(e:lat h n=aa q)(e':bat h r=aa xs):r≠n:=by
 rintro rfl
 unfold lat at e;unfold bat at e';cases g:h[r]? with
 |none=>rw[g]at e;exact fU e|some c=>rw[g]at e e';cases c<;>simp[oF]at e e'
def Iz{h:HH}{n:Nat}(hn:n<h.length)(c:Cl):bat (h.set n c) n=oF c:=by unfold bat;rw[VH hn];rfl
def yl{h:HH}{n i:Nat}(hn:i≠n)(c:Cl):bat (h.set n c) i=bat h i:=by unfold bat;rw[Vr (Wa hn)]
def IA{h g:HH}{i:Nat}(hi:i<h.length):bat (h++g) i=bat h i:=Fi (Vi hi)
def fj{J:Type}{l:List J}{i:Nat}(h:i<l.length):∃x,l[i]?=aa x:=⟨_,Vm h⟩
def dB{J:Type}{l:List J}{i:Nat}{x:J}(h:l[i]?=aa x):i<l.length:=by
 rcases VD i l.length with z|z
 exact z;rw[Vs z]at h;exact fU h
def qS{J:Type}{l:List J}(L:l.Nodup){i j:Nat}{x:J}(a:l[i]?=aa x)(b:l[j]?=aa x):i=j:=by rw[Vm (dB a)]at a;rw[Vm (dB b)]at b;exact(ZY L).mp ((Vp a).trans (Vp b).symm)
def BU{J:Type}{l:List J}(Z:l.Nodup)(i:Nat){y:J}(W:∀(j:Nat)(x:J),l[j]?=aa x->j≠i->x≠y):(l.set i y).Nodup:=by
 refine List.pairwise_iff_getElem.mpr λa b U L O=>?_;rw[VX]at U L;rw[List.getElem_set,List.getElem_set]
 by_cases V:i=a
 ·rw[bM V,bN (by lia)];exact Wa (W b _ (Vm L) (by lia))
 ·rw[bN V]
  by_cases Y:i=b
  ·rw[bM Y];exact W a _ (Vm U) (Wa V)
  ·rw[bN Y];exact List.pairwise_iff_getElem.mp Z a b U L O
def iL.step{Pt:Pts}{h:HH}{n:Nat}{t:Tr}{ro rb:Nat}{bs:List Bx}(A:iL Pt h n t ro rb bs){i:Nat}{b:Bx}{d:Nd}(L:bs[i]?=aa b)(B:t.ds[i]?=aa d){h':HH}{O:Nat}{t':Tp}(g:Go "Branch" b.1 h b.2.1 b.2.2 h' O t')(I:TI d.s0 t' d.e 1)(s:Sm8 b.2.2 t'):
 iL Pt h' n t ro rb (bs.set i (b.1,O,t')):=by
 have X:=dB L;obtain⟨Z,a2,a3,a4⟩:=A.tp i b d L B;have R:n≠b.1:=by intro z;have:=A.ob;rw[z,Z.ob]at this;have:=bU (λq:Option (aA×List (aA×W))=>q.map (·.1)) this;simp at this
 have Q:n≠b.2.1:=nA A.ob Z.li;have hn:=jz A.ob;have e1:h'[n]?=h[n]?:=g.fr n R Q hn;have ob:ro≠b.1:=(nA Z.ob A.og).symm;have S:b.2.1∈bs.map (·.2.1):=List.mem_map.mpr ⟨b,Vz L,rfl⟩;have U:ro≠b.2.1:=λz=>(List.nodup_cons.mp A.nd2).1 (by rw[z];exact S);have e2:h'[ro]?=h[ro]?:=g.fr ro ob U (iC A.og);have e3:h'[rb]?=h[rb]?:=g.fr rb (Ad Z.ob A.br) (Ae Z.li A.br) (yk A.br);have w:∀(f:Bx->Nat)(x:Bx),f x=f b->(bs.set i x).map f=bs.map f:=λf x J=>by
  rw[YZ,J];have:(bs.map f)[i]?=aa (f b):=by rw[VF,L];rfl
  have V:=dB this;rw[Vm V]at this;rw[←Vp this];exact List.set_getElem_self V
 have m:∀(j:Nat)(x:Bx),bs[j]?=aa x->x.2.1<h.length:=λj x J=>by obtain⟨y,Y⟩:=fj (l:=t.ds) (by rw[←A.len];exact dB J);exact iC (A.tp j x y J Y).1.li
 refine⟨(oi e1).trans A.ob,(qP e2).trans A.og,?_,by rw[VX];exact A.len,λj x y J Y=>?_,?_,?_,λj c r=>?_⟩;rw[Fi e3,A.br,w (·.1) (b.1,O,t') rfl]
 ·by_cases c:j=i
  ·subst c;rw[VH X]at J;cases J;rw[B]at Y;cases Y;exact⟨g.b,I,s.p.trans a3,s.aI.trans a4⟩
  ·rw[Vr (Wa c)]at J;obtain⟨K,H,G,F⟩:=A.tp j x y J Y;have E:x.1≠b.1:=λz=>c (qS A.nd1 (i:=j) (j:=i) (x:=b.1) (by rw[VF,J];exact bU aa z) (by rw[VF,L];rfl));have D:x.2.1≠b.2.1:=λz=>c (qS (List.nodup_cons.mp A.nd2).2 (i:=j) (j:=i) (x:=b.2.1) (by rw[VF,J];exact bU aa z) (by rw[VF,L];rfl));exact⟨(g.other K E D).1,H,G,F⟩
 rw[w (·.1) (b.1,O,t') rfl];exact A.nd1
 ·have o:∀(j:Nat)(x:Nat),(ro::bs.map (·.2.1))[j]?=aa x->j≠i+1->x≠O:=λj x J r=>by
   have C:x<h.length/\x≠b.2.1:=by
    cases j with
    |zero=>cases J;exact⟨iC A.og,U⟩
    |succ j =>
     rw[aaR,VF]at J;cases k:bs[j]? with
     |none=>rw[k]at J;exact fU J
     |some y =>
      rw[k]at J;cases J;exact⟨m j y k,λz=>r (by rw[qS (List.nodup_cons.mp A.nd2).2 (i:=j) (j:=i) (x:=b.2.1) (by rw[VF,k];exact bU aa z) (by rw[VF,L];rfl)])⟩
   rcases g.len with⟨_,z⟩|z
   rw[z];exact C.2;lia
  have:=BU A.nd2 (i+1) o;rw[List.set_cons_succ]at this;rw[YZ];exact this
 ·obtain⟨v,P,N,M,u⟩:=A.pt j c r;have a:=u b (Vz L);have T:=dB v;refine⟨(g.fr j a.1 a.2 T).trans v,P,N,M,λx J=>?_⟩;rcases Xk J with q|q
  exact u x q
  ·subst q;refine⟨a.1,?_⟩;rcases g.len with⟨_,z⟩|z
   show j≠O;rw[z];exact a.2;show j≠O;lia
def kh(h:HH)(d:D)(h':HH):∃h2,fin h (.p d) h'=aa (.p d,h2)/\(h2=h'\/h2=h):=by
 unfold fin
 by_cases c:h'.length=h.length
 rw[bM c];exact⟨h',rfl,.inl rfl⟩
 ·rw[bN c]
  by_cases J:h'.take h.length=h
  rw[bM J];exact⟨h,rfl,.inr rfl⟩;rw[bN J];exact⟨h',rfl,.inl rfl⟩
section
variable{T:FK->Option Fn}{G:aA->Option W}{Pt:Pts}{h:HH}{n:Nat}{t:Tr}{ro rb:Nat}{bs:List Bx}
def fm(P:TrP T G)(W:Wf t)(A:iL Pt h n t ro rb bs)(k:Nat){i:Nat}(hi:i<t.ds.length):runN T G (k+2) (.m "Tree" "check_run") [.o n,.p (.int i)] h=aa (.p .aF,h):=by
 rw[run_eq P.check_run rfl];have w:=iI P.tp k i h;have O:¬((i:Int)<0):=by lia
 have l1:=W.l1;have l:=A.len;have L:¬((bs.length:Int)<=(i:Int)):=by lia
 have J:bs.length<=100000:=by lia
 simp[fH,w,O,A.ob,A.br,L,J,c6]
def gT(P:TrP T G)(W:Wf t)(A:iL Pt h n t ro rb bs)(k:Nat){i:Nat}{d:Nd}(J:t.ds[i]?=aa d):runN T G (k+1) (.m "Tree" "first") [.o n,.p (.int i)] h=aa (.p (.int d.fi),h):=by
 rw[run_eq P.first rfl];rcases WO i with z|z
 ·subst z;have:=((W.each 0 d J).zero rfl).1;simp[fZ,this,c6]
 ·have c:¬((i:Int)=0):=by lia
  have L:¬i=0:=by lia
  have ix:dZ (.aD (iy t.ds)) (.int i)=aa d.org:=by rw[dP,j6];exact Ff J z
  have ix2:dZ d.org (.int 1)=aa (.int d.fi):=rfl;simp[-dP,-jL,fZ,c,L,A.ob,A.og,rd,ix,ix2,c6]
end
inductive uK(Pt:Pts)(x:Option (W×HH))(y:W)(n:Nat)(t:Tr)(ro rb:Nat):Prop
 |mk(h':HH)(q:x=aa (y,h'))(a:fJ Pt h' n t ro rb)
section
variable{T:FK->Option Fn}{G:aA->Option W}{Pt:Pts}{h:HH}{n:Nat}{t:Tr}{ro rb:Nat}{bs:List Bx}
def uL{i:Nat}{d:Nd}(J:t.ds[i]?=aa d)(z:0<i):dZ (.aD (iy t.ds)) (.int i)=aa d.org:=by rw[dP,j6];exact Ff J z
def uM(P:TrP T G)(W:Wf t)(A:iL Pt h n t ro rb bs)(k:Nat){i m:Nat}{d:Nd}(J:t.ds[i]?=aa d):
 aN (runN T G (k+1)) G hdC [aa (.o n),aa (.p (.int i)),aa (.p (.int m))] h=aa (.p (.bl (decide (m<d.fi))),h):=by
 rcases WO i with z|z
 ·subst z;have:=((W.each 0 d J).zero rfl).1;simp[hdC,this]
 ·have c:¬((i:Int)=0):=by lia
  have L:¬i=0:=by lia
  have f:=gT P W A k J;simp[hdC,c,L,A.ob,f]
def IB(P:TrP T G)(W:Wf t)(A:iL Pt h n t ro rb bs)(k m:Nat):∀(f i:Nat)(d:Nd),t.ds[i]?=aa d->m<=d.en->i<=f →
 ∃(j:Nat) (q:Nd),fz (aN (runN T G (k+1)) G hdC) (evS (runN T G (k+1)) G hdB) (f+1) [aa (.o n),aa (.p (.int i)),aa (.p (.int m))] h=aa (.nx [aa (.o n),aa (.p (.int j)),aa (.p (.int m))] h)/\t.ds[j]?=aa q/\q.fi<=m/\m<=q.en/\d.f m=q.f m:=by
 intro f
 induction f with
 |zero =>
  intro i d J L U;have z:i=0:=by lia
  subst z;have s:=((W.each 0 d J).zero rfl).1;have q:=uM P W A k (m:=m) J;rw[bQ (by lia)]at q;refine⟨0,d,?_,J,by lia,L,rfl⟩;rw[fz,q,jr,nS]
 |succ f O =>
  intro i d J L U;have q:=uM P W A k (m:=m) J
  by_cases c:m<d.fi
  ·have z:0<i:=by
    rcases WO i with z|z
    have:=((W.each i d J).zero z).1;lia;exact z
   obtain⟨p,Y,l,g,V⟩:=(W.each i d J).par z;obtain⟨j,r,e1,e2,e,a,Z⟩:=O d.par p Y (by lia) (by lia);refine⟨j,r,?_,e2,e,a,(V m c).trans Z⟩;rw[bR c]at q;have b:evS (runN T G (k+1)) G hdB [aa (.o n),aa (.p (.int i)),aa (.p (.int m))] h=aa (.nx [aa (.o n),aa (.p (.int d.par)),aa (.p (.int m))] h):=by have ix2:dZ d.org (.int 0)=aa (.int d.par):=rfl;simp[-dP,-jL,hdB,A.ob,A.og,rd,uL J z,ix2]
   rw[fz,q,jr,nR,b,gC,e1]
  ·rw[bQ c]at q;refine⟨i,d,?_,J,by lia,L,rfl⟩;rw[fz,q,jr,nS]
def ym(P:TrP T G)(W:Wf t)(A:iL Pt h n t ro rb bs)(k m:Nat){i:Nat}{d:Nd}(J:t.ds[i]?=aa d)(L:m<=d.en):
 ∃(j:Nat) (q:Nd),runN T G (k+2) (.m "Tree" "holder") [.o n,.p (.int i),.p (.int m)] h=aa (.p (.int j),h)/\t.ds[j]?=aa q/\q.fi<=m/\m<=q.en/\d.f m=q.f m:=by
 have l1:=W.l1;have:=dB J;obtain⟨j,q,e1,e2⟩:=IB P W A k m 99999 i d J L (by lia);refine⟨j,q,?_,e2⟩;rw[run_eq P.holder rfl];simp[fO,turns,e1,c6]
def uN(A:iL Pt h n t ro rb bs){j:Nat}{b:Bx}(J:bs[j]?=aa b):atP (bs.map (·.1)) (j:Int)=aa b.1:=by rw[j6,VF,J];rfl
def uO(P:TrP T G)(W:Wf t)(A:iL Pt h n t ro rb bs)(k:Nat){i m:Nat}{d:Nd}(c:t.ds[i]?=aa d)(x:m<=d.en):
 uK Pt (runN T G (k+12) (.m "Tree" "at") [.o n,.p (.int i),.p (.int m)] h) (.p (d.f m).enc) n t ro rb:=by
 have w:=dB c;obtain⟨j,q,e1,L,e3,I,H⟩:=ym P W A (k+9) m c x;have M:=fm P W A (k+9) w;have v:=dB L;obtain⟨b,U⟩:=fj (l:=bs) (by rw[A.len];exact v);obtain⟨Z,Y,tp,s⟩:=A.tp j b q U L;have F:=gT P W A (k+10) L;have J:m-q.fi<=q.e:=by unfold Nd.en at I;lia
 obtain⟨h1,r1,a,r,V,Q,O,_⟩:=uJ P.tp (k+2) Z Y (m-q.fi) (VJ J Y.run.le);rw[bR J]at r;obtain⟨B,X,S,g,C,N,u,_⟩:=MD P.tp k V.b Q (m-q.fi) J;have R:=A.step U L (V.trans C) N (O.trans u);have en:d.f m=itr q.s0 a.p a.aI (m-q.fi):=by have:=(W.each j q L).own (m-q.fi) J;rw[show q.fi+(m-q.fi)=m by lia]at this;rw[H,this,O.p,O.aI,tp,s]
 rw[←en]at g;have K:(m:Int)-(q.fi:Int)=((m-q.fi:Nat):Int):=by lia
 obtain⟨y,E,D⟩:=kh h (d.f m).enc B;refine⟨y,?_,?_⟩
 ·rw[run_eq P.at_ rfl];have ix:=uN A U;rw[kg];simp only[d8,VA,Wb,Vv,VY];simp[-atP,A.ob,M,e1,A.br,ix,F,K,Z.ob,Fc,r,V.b.ob,T5,g,E]
 ·rcases D with z|z
  rw[z];exact⟨_,R⟩;rw[z];exact⟨_,A⟩
def nH(P:TrP T G)(W:Wf t)(A:iL Pt h n t ro rb bs)(k:Nat){i:Nat}{d:Nd}(J:t.ds[i]?=aa d):
 uK Pt (runN T G (k+10) (.m "Tree" "end") [.o n,.p (.int i)] h) (.p (.int d.en)) n t ro rb:=by
 have U:=dB J;have r:=fm P W A (k+7) U;obtain⟨b,L⟩:=fj (l:=bs) (by rw[A.len];exact U);obtain⟨O,V,tp,w⟩:=A.tp i b d L J;have j:=gT P W A (k+8) J;obtain⟨a,y,x,s,c,u,Y,_⟩:=Iu P.tp P.en k O V;have v:=A.step L J c u Y;obtain⟨Z,g,f⟩:=kh h (.int d.en) a;have ix:=uN A L;have q:(d.fi:Int)+(d.e:Int)=(d.en:Int):=by unfold Nd.en;lia
 refine⟨Z,?_,?_⟩
 ·rw[run_eq P.end_ rfl,jn];simp only[d8,VA,Wb,Vv,VY];simp[-atP,A.ob,r,j,A.br,ix,O.ob,Qo,s,q,g]
 ·rcases f with z|z
  rw[z];exact⟨_,v⟩;rw[z];exact⟨_,A⟩
end
noncomputable def Tp.new(p:Pg)(aI:List Int)(s0:St)(most:Nat):Tp:=⟨p,aI,1,most,[s0],0,s0,0⟩
def Fj{s0:St}{p:Pg}{e:Nat}(J:Pg.ok p)(O:Ask aI)(V:At 1000 s0)(R:Run s0 p aI most e)(U:most<=1000):TI s0 (Tp.new p aI s0 most) e 1 :=
 ⟨R,J,O,V,Vo 1,by show 1<=1000;decide,U,Wg _,rfl,by simp[Tp.new],by simp[Tp.new],λj L=>by
  have:j=0:=by simpa [Tp.new]using L
  subst this;simp[Tp.new,itr],Wg _,⟨0,by simp[Tp.new],λz=>bO z (V5 _)⟩⟩
section
variable{T:FK->Option Fn}{G:aA->Option W}
def BV(P:TrP T G)(k:Nat)(J:aA)(p:Pg)(aI:List Int)(most:Nat)(h:HH):
 runN T G (k+2) (.m "Tape" "__init__") [.o h.length,.p (eW p),.p (.aD (cZ aI)),.p (.int 1),.p (.int most)] (h++[.o J []])=aa (.p .aF,h++[.o J ((Tp.new p aI St.zero most).fs (h.length+1)),.l [St.zero.enc]]):=by
 rw[run_eq P.tin rfl];have b:=sL P.tp.prg k;have O:(if(0:Int)>(most:Int)then(0:Int)else(most:Int))=(most:Int):=bN (by lia);have f:∀(c:Cl)(g:HH)(w:W),c≠.o J []->fin (h++[.o J []]) w (h++c::g)=aa (w,h++c::g):=λc g w hc=>by refine nC h.length (by simp) ?_ w;simp;exact hc
 have L:=f (.o J ((Tp.new p aI St.zero most).fs (h.length+1))) [.l [St.zero.enc]] (.p .aF) (by simp[Tp.fs]);have fs:(Tp.new p aI St.zero most).fs (h.length+1)=([("program",.p (eW p)),("asked",.p (.aD (cZ aI))),("gap",.p (.int 1)),("most",.p (.int most)),("kept",.r (h.length+1)),("farthest",.p (.int 0)),("front",.p St.zero.enc),("now",.p (.int 0))]:List (aA×W)):=by simp[Tp.fs,Tp.new]
 rw[fs]at L⊢;rw[iH];simp only[d8,VA,Wb,Vv,VY];simp[O,b,L]
def qT(P:TrP T G)(k:Nat)(p:Pg)(aI:List Int)(most:Nat)(s0:St)(h:HH):
 runN T G (k+3) (.m "Branch" "__init__") [.o h.length,.p (eW p),.p (.aD (cZ aI)),.p (.int most),.p s0.enc] (h++[.o "Branch" []])=aa (.p .aF,h++[.o "Branch" ((Tp.new p aI s0 most).fs (h.length+2)),.l [St.zero.enc],.l [s0.enc]]):=by
 rw[run_eq P.bin rfl];have b:=BV P k "Branch" p aI most h;have J:fin (h++[.o "Branch" []]) (.p .aF) (h++[.o "Branch" ((Tp.new p aI s0 most).fs (h.length+2)),.l [St.zero.enc],.l [s0.enc]])=aa (.p .aF,h++[.o "Branch" ((Tp.new p aI s0 most).fs (h.length+2)),.l [St.zero.enc],.l [s0.enc]]):=by refine nC h.length (by simp) ?_ _;simp[Tp.fs]
 have fs:∀(s:St)(r:Nat),(Tp.new p aI s most).fs r=([("program",.p (eW p)),("asked",.p (.aD (cZ aI))),("gap",.p (.int 1)),("most",.p (.int most)),("kept",.r r),("farthest",.p (.int 0)),("front",.p s.enc),("now",.p (.int 0))]:List (aA×W)):=λs r=>by simp[Tp.fs,Tp.new]
 rw[fs]at J⊢;rw[fs]at b;rw[gH];simp only[d8,VA,Wb,Vv,VY];simp[b,J]
end
def Tr.new(p:Pg)(aI:List Int)(most e:Nat):Tr:=⟨p,aI,most,[⟨0,0,St.zero,e,itr St.zero p aI⟩]⟩
def Nd.of(t:Tr)(i m:Nat)(d:Nd)(s0:St)(e:Nat):Nd:=⟨i,m,s0,e,λj=>if j<m then d.f j else itr s0 t.p t.aI (j-m)⟩
noncomputable def Tr.add(t:Tr)(x:Nd):Tr:={t with ds:=t.ds++[x]}
def MH{p:Pg}{e:Nat}(L:Pg.ok p)(U:Ask aI)(O:most<=100)(R:Run St.zero p aI most e):Wf (Tr.new p aI most e):=by
 refine⟨L,U,O,by simp[Tr.new],by simp[Tr.new],λi d J=>?_⟩;have z:i=0/\(⟨0,0,St.zero,e,itr St.zero p aI⟩:Nd)=d:=by
  cases i with
  |zero=>exact⟨rfl,by simpa [Tr.new]using J⟩|succ i=>simp[Tr.new]at J
 obtain⟨rfl,rfl⟩:=z;exact⟨R,zQ,Wg _,λk _=>by show itr St.zero p aI (0+k)=_;rw[abe];rfl,λ_=>⟨rfl,rfl⟩,λz=>bO z (V5 _),λz=>bO z (V5 _)⟩
def Own.mono{t:Tr}{x:Nd}{i:Nat}{d:Nd}(O:Own t i d):Own (t.add x) i d :=
 ⟨O.run,O.at0,O.le,O.own,O.zero,λz=>by
  obtain⟨q,J,U⟩:=O.par z;exact⟨q,by show(t.ds++[x])[d.par]?=aa q;rw[Vi (dB J)];exact J,U⟩,λz q L=>by
  obtain ⟨V,J,_⟩:=O.par z;have e:(t.ds++[x])[d.par]?=aa q:=L;rw[Vi (dB J)] at e;exact O.put z q e⟩
def MI{t:Tr}(W:Wf t){i m e:Nat}{d:Nd}{s0:St}(L:t.ds[i]?=aa d)(U:m<=d.en)(b:At m s0)(R:Run s0 t.p t.aI (t.most-m) e)(g:t.ds.length<100){th:Th}{v:Int}(a:s0=th.put (d.f m) v):Wf (t.add (Nd.of t i m d s0 e)):=by
 refine⟨W.ok,W.ask,W.m1,by simp[Tr.add];lia,by simp[Tr.add],λj q O=>?_⟩;rcases VD j t.ds.length with c|c
 ·have J:t.ds[j]?=aa q:=by have:(t.ds++[Nd.of t i m d s0 e])[j]?=aa q:=O;rw[Vi c]at this;exact this
  exact(W.each j q J).mono
 ·have J:(t.ds++[Nd.of t i m d s0 e])[j]?=aa q:=O;have V:=dB J;have Y:j=t.ds.length:=by simp at V;lia
  subst Y;simp at J;subst J;refine⟨R,b,VJ U (W.wO L),λk h=>?_,λz=>?_,λ_=>⟨d,?_,dB L,U,λx Z=>bM Z⟩,λ_ q O=>?_⟩
  ·show(if m+k<m then d.f (m+k)else itr s0 t.p t.aI (m+k-m))=_;rw[bN (by lia),show m+k-m=k by lia];rfl
  exact bO (List.length_eq_zero_iff.mp z) W.l0
  ·show(t.ds++[Nd.of t i m d s0 e])[i]?=aa d;rw[Vi (dB L)];exact L
  ·have e2:(t.ds++[Nd.of t i m d s0 e])[i]?=aa q:=O;rw[Vi (dB L),L]at e2;cases e2;exact⟨th,v,a⟩
section
variable{T:FK->Option Fn}{G:aA->Option W}{Pt:Pts}
def Fk(P:TrP T G)(k:Nat)(p:Pg)(aI:List Int)(most e:Nat)(h:HH):
 runN T G (k+4) (.m "Tree" "__init__") [.o h.length,.p (eW p),.p (.aD (cZ aI)),.p (.int most)] (h++[.o "Tree" []])=aa (.p .aF,h++[.o "Tree" (tfs (Tr.new p aI most e) (h.length+1) (h.length+5)),.l [.aF],.o "Branch" ((Tp.new p aI St.zero most).fs (h.length+4)),.l [St.zero.enc],.l [St.zero.enc],.b [h.length+2]]):=by
 rw[run_eq P.init rfl];have b:=sL P.tp.prg (k+2);have L:=qT P k p aI most St.zero (h++[.o "Tree" [("program",.p (eW p)),("asked",.p (.aD (cZ aI))),("most",.p (.int most)),("origins",.r (h.length+1))],.l [.aF]]);have J:fin (h++[.o "Tree" []]) (.p .aF) (h++[.o "Tree" (tfs (Tr.new p aI most e) (h.length+1) (h.length+5)),.l [.aF],.o "Branch" ((Tp.new p aI St.zero most).fs (h.length+4)),.l [St.zero.enc],.l [St.zero.enc],.b [h.length+2]])=aa (.p .aF,h++[.o "Tree" (tfs (Tr.new p aI most e) (h.length+1) (h.length+5)),.l [.aF],.o "Branch" ((Tp.new p aI St.zero most).fs (h.length+4)),.l [St.zero.enc],.l [St.zero.enc],.b [h.length+2]]):=by refine nC h.length (by simp) ?_ _;simp[tfs]
 have fs:tfs (Tr.new p aI most e) (h.length+1) (h.length+5)=([("program",.p (eW p)),("asked",.p (.aD (cZ aI))),("most",.p (.int most)),("origins",.r (h.length+1)),("branches",.r (h.length+5))]:List (aA×W)):=rfl;rw[fs]at J⊢;rw[iJ];simp only[d8,VA,Wb,Vv,VY];simp only[VN,Vv,VY,Wd,Z1,XD]at L;simp[b,L,J]
def Fo{p:Pg}{e:Nat}{h:HH}(U:Pg.ok p)(W:Ask aI)(Z:most<=100)(R:Run St.zero p aI most e)(Y:∀i c,Pt i=aa c->h[i]?=aa c):
 fJ Pt (h++[.o "Tree" (tfs (Tr.new p aI most e) (h.length+1) (h.length+5)),.l [.aF],.o "Branch" ((Tp.new p aI St.zero most).fs (h.length+4)),.l [St.zero.enc],.l [St.zero.enc],.b [h.length+2]]) h.length (Tr.new p aI most e) (h.length+1) (h.length+5):=by
 refine⟨[(h.length+2,h.length+4,Tp.new p aI St.zero most)],⟨by simp[oat],by simp[lat,iy,Tr.new],by simp[bat],by simp[Tr.new],λi b d J L=>?_,by simp,by simp,λi c V=>?_⟩⟩
 ·have z:i=0:=by
   cases i with
   |zero=>rfl|succ i=>simp at J
  subst z;simp at J;subst J;simp[Tr.new]at L;subst L;exact⟨⟨by simp[oat],by simp[lat,Tp.new]⟩,Fj U W (zQ.mono (by decide)) R (by lia),rfl,rfl⟩
 ·have e:=Y i c V;have O:=dB e;refine⟨by rw[Vi O];exact e,by lia,by lia,by lia,λb J=>?_⟩;simp at J;subst J;exact⟨by show i≠h.length+2;lia,by show i≠h.length+4;lia⟩
end
section
variable{T:FK->Option Fn}{G:aA->Option W}{Pt:Pts}{h:HH}{n:Nat}{t:Tr}{ro rb:Nat}{bs:List Bx}
def At.put{m:Nat}{st:St}(a:At m st){v:Int}(J:Wth v)(th:Th):At m (th.put st v):=by refine⟨Th.ME a.ok J th,?_,?_⟩;cases th<;>exact a.said;cases th<;>exact a.calls
def ptH(h1:HH)(t:Tr)(ro rb:Nat)(bs:List Bx)(x:Nd)(mo:Nat):HH :=
 (h1.set ro (Cl.l (iy t.ds++[x.org]))++[Cl.o "Branch" ((Tp.new t.p t.aI x.s0 mo).fs (h1.length+2)),Cl.l [St.zero.enc],Cl.l [x.s0.enc]]).set rb (Cl.b (bs.map (λb=>b.1)++[h1.length]))
def Qt{h1:HH}(W:Wf t)(A:iL Pt h1 n t ro rb bs){x:Nd}{mo:Nat}(I:TI x.s0 (Tp.new t.p t.aI x.s0 mo) x.e 1):
 iL Pt (ptH h1 t ro rb bs x mo) n (t.add x) ro rb (bs++[(h1.length,h1.length+2,Tp.new t.p t.aI x.s0 mo)]):=by
 have hn:=jz A.ob;have Z:=iC A.og;have hrb:=yk A.br;have T:n≠ro:=nA A.ob A.og;have S:rb≠n:=Ad A.ob A.br;have R:rb≠ro:=Ae A.og A.br;have U:∀i,i<h1.length->i≠ro->i≠rb->(ptH h1 t ro rb bs x mo)[i]?=h1[i]?:=λi hi c1 c2=>by unfold ptH;rw[Vr (Wa c2),Vi (by rw[VX];exact hi),Vr (Wa c1)]
 have u:∀k,k<3->(ptH h1 t ro rb bs x mo)[h1.length+k]?=[Cl.o "Branch" ((Tp.new t.p t.aI x.s0 mo).fs (h1.length+2)),.l [St.zero.enc],.l [x.s0.enc]][k]?:=λk hk=>by unfold ptH;rw[Vr (by lia),VW (by rw[VX];lia),VX];congr 1;lia
 have L:∀(j:Nat)(b:Bx),bs[j]?=aa b->b.1<h1.length/\b.2.1<h1.length/\b.1≠ro/\b.1≠rb/\b.2.1≠ro/\b.2.1≠rb:=λj b J=>by obtain⟨y,Y⟩:=fj (l:=t.ds) (by rw[←A.len];exact dB J);have V:=(A.tp j b y J Y).1;exact⟨jz V.ob,iC V.li,nA V.ob A.og,(Ad V.ob A.br).symm,λz=>(List.nodup_cons.mp A.nd2).1 (by rw[←z];exact List.mem_map.mpr ⟨b,Vz J,rfl⟩),(Ae V.li A.br).symm⟩
 refine⟨(oi (U n hn T (Wa S))).trans A.ob,?_,?_,by simp[Tr.add,A.len],λj b d J v=>?_,?_,?_,λj c f=>?_⟩
 ·unfold ptH;rw[mF (Wa R),zY (by rw[VX];exact Z),wJ Z,KO];show aa (iy t.ds++[x.org])=aa (iy (t.ds++[x]));rw[Fg W.l0]
 ·unfold ptH;rw[Iz (by simp;lia)];simp
 ·rcases VD j bs.length with c|c
  ·rw[Vi c]at J;have O:t.ds[j]?=aa d:=by have:(t.ds++[x])[j]?=aa d:=v;rw[Vi (by rw[←A.len];exact c)]at this;exact this
   obtain⟨h,E,D,C⟩:=A.tp j b d J O;obtain⟨Q,P,N,M,K,H⟩:=L j b J;exact⟨⟨(oi (U _ Q N M)).trans h.ob,(qP (U _ P K H)).trans h.li⟩,E,D,C⟩
  ·have je:j=bs.length:=by have:=dB J;simp at this;lia
   subst je;simp at J;have O:(t.ds++[x])[bs.length]?=aa d:=v;rw[A.len]at O;simp at O;subst J O;have B:=u 0 (by decide);have w:=u 2 (by decide);exact⟨⟨by unfold oat;rw[show h1.length=h1.length+0 from rfl,B];rfl,by unfold lat;rw[w];rfl⟩,I,rfl,rfl⟩
 ·rw[Yg];refine List.nodup_append.mpr ⟨A.nd1,by simp,λa g b J=>?_⟩;simp at J;subst J;obtain⟨y,Y,rfl⟩:=List.mem_map.mp g;obtain⟨j,f⟩:=Xf Y;have:=(L j y f).1;lia
 ·rw[Yg,←Z1];refine List.nodup_append.mpr ⟨A.nd2,by simp,λa g b J=>?_⟩;simp at J;subst J;rcases List.mem_cons.mp g with z|z
  lia
  ·obtain⟨y,Y,rfl⟩:=List.mem_map.mp z;obtain⟨j,f⟩:=Xf Y;have:=(L j y f).2.1;lia
 ·obtain⟨s,G,r,m,F⟩:=A.pt j c f;have X:=dB s;refine⟨(U j X r m).trans s,G,r,m,λb J=>?_⟩;rcases List.mem_append.mp J with q|q
  exact F b q
  ·simp at q;subst q;exact⟨by show j≠h1.length;lia,by show j≠h1.length+2;lia⟩
def Fp(P:TrP T G)(W:Wf t)(A:iL Pt h n t ro rb bs)(k:Nat){i m:Nat}{d:Nd}(a:t.ds[i]?=aa d)(Z:m<=d.en)(th:Th){v:Int}(K:Wth v){e:Nat}(R:Run (th.put (d.f m) v) t.p t.aI (t.most-m) e):
 uK Pt (runN T G (k+13) (.m "Tree" "part") [.o n,.p (.int i),.p (.int m),.p th.enc,.p (.int v)] h) (.p (.int t.ds.length)) n (t.add (Nd.of t i m d (th.put (d.f m) v) e)) ro rb:=by
 obtain⟨O,X,⟨J,L⟩⟩:=uO P W A k a Z;have y:At m (d.f m):=W.at_ a Z;have ml:=VJ Z (W.wO a);have m1:=W.m1;have l1:=W.l1;have lb:=L.len;have I:TI (th.put (d.f m) v) (Tp.new t.p t.aI (th.put (d.f m) v) (t.most-m)) e 1:=Fj W.ok W.ask ((y.put K th).mono (by lia)) R (by lia);have U:=Qt W L (x:=Nd.of t i m d (th.put (d.f m) v) e) (mo:=t.most-m) I;refine⟨_,?_,⟨_,U⟩⟩;have hn:=jz L.ob;have M:=iC L.og;have Y:=yk L.br;have H:n≠ro:=nA L.ob L.og;have n2:rb≠n:=Ad L.ob L.br;have F:rb≠ro:=Ae L.og L.br;have Q:=oW P.tp P.th (k+9) th O;have D:(iy t.ds).length<100000:=by rw[nF W.l0];lia
 have E:oat (O.set ro (.l (iy t.ds++[.aE [.int i,.int m]]))) n=aa (Vu "Tree",tfs t ro rb):=(qO H _).trans L.ob;have r:bat (O.set ro (.l (iy t.ds++[.aE [.int i,.int m]]))) rb=aa (J.map (·.1)):=(yl F _).trans L.br;have N:(t.most:Int)-(m:Int)=((t.most-m:Nat):Int):=by lia
 have B:=qR P.tp P.ld (k+9) y.ok th v (O.set ro (.l (iy t.ds++[.aE [.int i,.int m]])));have br:=qT P (k+9) t.p t.aI (t.most-m) (th.put (d.f m) v) (O.set ro (.l (iy t.ds++[.aE [.int i,.int m]])));rw[VX]at br;have C:∀g:HH,bat (O.set ro (.l (iy t.ds++[.aE [.int i,.int m]]))++g) rb=aa (J.map (·.1)):=λg=>(IA (by rw[VX];exact Y)).trans r;have bl:J.length<100000:=by lia
 have s:=U.ob;have c:=U.br;unfold ptH Nd.org Nd.of at s c;have u:∀w,fin h w (ptH O t ro rb J (Nd.of t i m d (th.put (d.f m) v) e) (t.most-m))=aa (w,ptH O t ro rb J (Nd.of t i m d (th.put (d.f m) v) e) (t.most-m)):=λw=>by refine nC ro (iC A.og) (λz=>?_) w;have q:=qP z;rw[A.og,U.og]at q;have j:=bU YG (Vp q);rw[nF W.l0,nF (by simp[Tr.add])]at j;simp[Tr.add]at j
 unfold ptH Nd.org Nd.of at u;unfold ptH Nd.org Nd.of;have lc:((J.map (·.1)++[O.length]).length:Int)-1=(t.ds.length:Int):=by simp;lia
 rw[run_eq P.part rfl,iK];simp only[d8,VA,Wb,Vv,VY];have S:¬(100000<=J.length):=by lia
 have b:J.length+1<=100000:=by lia
 have V:(J.length:Int)=(t.ds.length:Int):=by lia
 simp only[Yg,VA,Wb]at c;simp[A.ob,X,Q,L.ob,L.og,rd,D,E,r,N,B,br,C,bl,b,s,c,V,u,lO]
end
structure TrQ(T:FK->Option Fn):Prop where
 parent:T (.m "Tree" "parent")=aa gJ
 path:T (.m "Tree" "path")=aa gK
 children:T (.m "Tree" "children")=aa gS
inductive Pth(t:Tr):Nat->List Nat->Prop
 |zero:Pth t 0 [0]
 |step{i:Nat}{d:Nd}{l:List Nat}(J:t.ds[i]?=aa d)(hi:0<i)(r:Pth t d.par l):Pth t i (i::l)
def Pth.inj{t:Tr}{i:Nat}{l L:List Nat}(a:Pth t i l)(b:Pth t i L):l=L:=by
 induction a generalizing L with
 |zero =>
  cases b with
  |zero=>rfl|step _ z _=>exact bO z (V5 _)
 |step W V r U =>
  cases b with
  |zero=>exact bO V (V5 _)
  |step J _ O =>
   rw[W]at J;cases J;rw[U O]
def Pth.len{t:Tr}(W:Wf t){i:Nat}{l:List Nat}(a:Pth t i l):l.length<=i+1:=by
 induction a with
 |zero=>exact Vo _
 |step L J r O =>
  obtain⟨_,_,U,_⟩:=(W.each _ _ L).par J;rw[Vv];lia
theorem Wf.pth{t:Tr}(W:Wf t):∀(n i:Nat)(d:Nd),i<=n->t.ds[i]?=aa d->∃l,Pth t i l
 |n,i,d,hn,hd=>by
  rcases WO i with z|z
  subst z;exact⟨_,.zero⟩
  ·obtain⟨q,L,O,_⟩:=(W.each i d hd).par z;cases n with
   |zero=>lia
   |succ n =>
    obtain⟨l,J⟩:=W.pth n d.par q (by lia) L;exact⟨_,.step hd z J⟩
noncomputable def kids(t:Tr)(i:Nat):List Nat:=((VM (t.ds.length-1)).map (·+1)).filter λj=>decide ((t.ds[j]?).map Nd.par=aa i)
def uP{t:Tr}(W:Wf t){i c:Nat}(h:c∈kids t i):i<c/\∃d,t.ds[c]?=aa d/\d.par=i:=by obtain⟨U,O⟩:=List.mem_filter.mp h;obtain⟨j,L,rfl⟩:=List.mem_map.mp U;have V:=List.mem_range.mp L;obtain⟨d,J⟩:=fj (l:=t.ds) (i:=j+1) (by lia);have e:=bS O;rw[J]at e;have e2:=Vp e;obtain⟨_,_,Y,_⟩:=(W.each _ _ J).par (ZU _);exact⟨by lia,d,J,e2⟩
section
variable{T:FK->Option Fn}{G:aA->Option W}{Pt:Pts}{h:HH}{n:Nat}{t:Tr}{ro rb:Nat}{bs:List Bx}
def BW(i:Nat)(d:Nd):D:=if i=0 then .aF else d.org
def IC{i:Nat}{d:Nd}(J:t.ds[i]?=aa d):dZ (.aD (iy t.ds)) (.int i)=aa (BW i d):=by
 unfold BW;rcases WO i with z|z
 subst z;rw[bM rfl,dP,j6];rfl;rw[bN (by lia)];exact uL J z
def qU(P:TrP T G)(Q:TrQ T)(W:Wf t)(A:iL Pt h n t ro rb bs)(k:Nat){i:Nat}{d:Nd}(J:t.ds[i]?=aa d):runN T G (k+3) (.m "Tree" "parent") [.o n,.p (.int i)] h=aa (.p (BW i d),h):=by rw[run_eq Q.parent rfl];have L:=fm P W A k (dB J);simp[-dP,gJ,A.ob,L,A.og,rd,IC J,c6]
def oj(h:HH)(xs:List D):lat (h++[.l xs]) h.length=aa xs:=by simp[lat]
def MJ(h:HH)(c c':Cl):(h++[c]).set h.length c'=h++[c']:=by simp
def pI(xs:List D)(d:D):dZ (.aD (xs++[d])) (.int (-1))=aa d:=by
 rw[dP];show((place (xs++[d]).length (-1)).bind λj=>(xs++[d])[j]?)=aa d;have:place (xs++[d]).length (-1)=aa xs.length:=by unfold place;rw[bN (by decide),bM (by simp;lia)];congr 1;simp;lia
 rw[this];simp
def ID(P:TrP T G)(m:Wf t)(A:iL Pt h n t ro rb bs)(F:FK->List W->HH->Option (W×HH))(J:W){i:Nat}{l:List Nat}(k:Pth t i l):∀(pre:List Nat)(f:Nat),pre.length+i+1<=1000->i<=f →
 fz (aN F G ptC) (evS F G ptB) (f+1) [aa (.o n),aa J,aa (.r h.length)] (h++[.l (cY (pre++[i]))])=aa (.nx [aa (.o n),aa J,aa (.r h.length)] (h++[.l (cY (pre++l))])):=by
 have ob:∀g,oat (h++g) n=aa (Vu "Tree",tfs t ro rb):=λg=>(zZ (jz A.ob)).trans A.ob;have og:∀g,lat (h++g) ro=aa (iy t.ds):=λg=>(zY (iC A.og)).trans A.og;have tst:∀(pre:List Nat)(i:Nat),aN F G ptC [aa (.o n),aa J,aa (.r h.length)] (h++[.l (cY (pre++[i]))])=aa (.p (.bl (!decide (i=0))),h++[.l (cY (pre++[i]))]):=λpre i=>by
  have e:cY (pre++[i])=cY pre++[.int i]:=by simp[cY]
  rw[e]
  by_cases z:i=0
  ·subst z;simp[-dP,ptC,rd,oj,pI]
  ·have Y:¬(i:Int)=0:=by lia
   simp[-dP,ptC,rd,oj,pI,z,Y]
 induction k with
 |zero =>
  intro pre f _ _;rw[fz,tst];rfl
 |@step i d l V U r j =>
  intro pre f s u;obtain⟨_,_,v,_⟩:=(m.each _ _ V).par U;have q:=tst pre i;rw[show(!decide (i=0))=ah by simp;lia]at q;have e:cY (pre++[i])=cY pre++[.int i]:=by simp[cY]
  have b:evS F G ptB [aa (.o n),aa J,aa (.r h.length)] (h++[.l (cY (pre++[i]))])=aa (.nx [aa (.o n),aa J,aa (.r h.length)] (h++[.l (cY ((pre++[i])++[d.par]))])):=by
   have e2:cY ((pre++[i])++[d.par])=cY pre++[.int i]++[.int d.par]:=by simp[cY]
   have ix2:dZ d.org (.int 0)=aa (.int d.par):=rfl;have Z:(cY pre++[D.int i]).length<100000:=by simp[cY];lia
   have L:dZ (.aD (iy t.ds)) (.int i)=aa d.org:=uL V U;have c:lO (.r h.length) (h++[.l (cY pre++[.int i])])=ah:=by simp[lO,oj]
   rw[e,e2];have a:meW .append (.r h.length) [.p (.int d.par)] (h++[.l (cY pre++[.int i])])=aa (.p .aF,h++[.l (cY pre++[.int i]++[.int d.par])]):=by rw[l7,oj];show(if(cY pre++[D.int i]).length<lim then _ else af)=_;rw[bM (show _<lim from Z),MJ]
   simp[-dP,-jL,-l7,ptB,ob,og,rd,oj,pI,L,ix2,kMe,c,a]
  cases f with
  |zero=>lia
  |succ f =>
   have O:=j (pre++[i]) f (by simp;lia) (by lia);rw[fz,q,jr,nR,b,gC,O];simp
def BY(xs:List D):oG (-1) xs=xs.reverse:=by unfold oG;rw[PySem.W.krv_bounds];show(YV ((xs.length:Int)-1) (-1) (-1)).filterMap (λi=>xs[i]?)=_;rw[PySem.W.krv_sliceRange,PySem.W.krv_range,List.filterMap_reverse];have:=PySem.W.krv_all xs.toArray;simp only[Vl,aa8]at this;rw[this]
def sV(P:TrP T G)(V:T (.m "Tree" "path")=aa gK)(J:Wf t)(A:iL Pt h n t ro rb bs)(k:Nat){i:Nat}{l:List Nat}(hi:i<t.ds.length)(U:Pth t i l):runN T G (k+3) (.m "Tree" "path") [.o n,.p (.int i)] h=aa (.p (.aD (cY l.reverse)),h):=by
 rw[run_eq V rfl];have W:=fm P J A k hi;have l1:=J.l1;have L:=ID P J A (runN T G (k+2)) (.p (.int i)) U [] 99999 (by simp;lia) (by lia);have e1:cY ([]++[i])=[.int i]:=rfl;rw[e1,XD]at L;have f:=nv h [.l (cY l)] (.aD (cY l.reverse));have O:oG (-1) (cY l)=cY l.reverse:=by rw[BY];simp[cY]
 rw[gK];simp only[d8,VA,Wb,Vv,VY];simp[A.ob,W,turns,L,rd,oj,O,f]
def nI(P:TrP T G)(Q:TrQ T)(L:Wf t)(A:iL Pt h n t ro rb bs)(k:Nat){i:Nat}{l:List Nat}(hi:i<t.ds.length)(J:Pth t i l):runN T G (k+3) (.m "Tree" "path") [.o n,.p (.int i)] h=aa (.p (.aD (cY l.reverse)),h):=sV P Q.path L A k hi J
def nJ(P:TrP T G)(Q:TrQ T)(L:Wf t)(A:iL Pt h n t ro rb bs)(k:Nat){i:Nat}(hi:i<t.ds.length):runN T G (k+3) (.m "Tree" "children") [.o n,.p (.int i)] h=aa (.p (.aD (cY (kids t i))),h):=by
 rw[run_eq Q.children rfl];have g:=fm P L A k hi;have l1:=L.l1;have O:=nF L.l0;have Z:gy .rng2 [.int 1,.int ((iy t.ds).length:Int)]=aa (upto 1 (t.ds.length-1)):=by
  rw[jB,O];have c:((-100000<=(1:Int):Bool)&&((1:Int)<=100000:Bool)&&((-100000<=(t.ds.length:Int):Bool))&&(((t.ds.length:Int)<=100000:Bool)))=ah:=by simp only[Vg,bP];lia
  rw[bM c];congr 2;lia
 have ct:∀(j:Nat)(d:Nd),t.ds[j+1]?=aa d->aN (runN T G (k+2)) G cnC [aa (.p (.int ((1:Int)+(j:Int)))),aa (.o n),aa (.p (.int i))] h=aa (.p (.bl (decide (d.par=i))),h):=λj d J=>by
  have ix:=uL J (ZU _);rw[show((j+1:Nat):Int)=1+(j:Int) by lia]at ix;have ix2:dZ d.org (.int 0)=aa (.int d.par):=rfl;have q:((d.par:Int)==(i:Int))=decide (d.par=i):=by
   by_cases z:d.par=i
   rw[z];simp
   ·have:¬(d.par:Int)=(i:Int):=by lia
    simp[z,this]
  simp[-dP,-jL,cnC,A.ob,A.og,rd,ix,ix2,q]
 have f:eH (fD (evs (runN T G (k+2)) G (.cons cnC .nil)) (aN (runN T G (k+2)) G (.v 0)) [aa (.o n),aa (.p (.int i))]) 1 (upto 1 (t.ds.length-1)) h=aa (cY (kids t i),h):=by
  have e:cY (kids t i)=(VM (t.ds.length-1)).filterMap λj=>if decide ((t.ds[j+1]?).map Nd.par=aa i)=ah then aa (D.int (((j+1:Nat):Int)))else af:=by
   unfold kids cY
   induction VM (t.ds.length-1)with
   |nil=>rfl
   |cons a r U =>
    rw[VA,ZZ,VT]
    by_cases z:(t.ds[a+1]?).map Nd.par=aa i
    ·simp only[z,decide_true,if_true,VA];rw[U]
    ·simp only[z,decide_false,if_false,abO];rw[U]
  rw[e];refine yj _ (λ(k:Nat)=>D.int (1+(k:Int))) _ h (VM (t.ds.length-1)) λj b=>?_;have s:=List.mem_range.mp b;obtain⟨d,J⟩:=fj (l:=t.ds) (i:=j+1) (by lia);have c:=ct j d J;have Y:([D.int ((1:Int)+(j:Int))].map fB++[aa (.o n),aa (.p (.int i))]:Sl)=[aa (.p (.int ((1:Int)+(j:Int)))),aa (.o n),aa (.p (.int i))]:=rfl;unfold fD;rw[Y,J,show((j+1:Nat):Int)=1+(j:Int) by lia]
  by_cases q:d.par=i
  ·rw[bR q]at c;simp[evs,c,q]
  ·rw[bQ q]at c;simp[evs,c,q]
 have cl:(cY (kids t i)).length<=100000:=by unfold kids cY;rw[Vx];have:=Y3 (λj=>decide ((t.ds[j]?).map Nd.par=aa i)) ((VM (t.ds.length-1)).map (·+1));rw[Vx,YA]at this;lia
 have ce:aN (runN T G (k+2)) G (.comp ak .rng2 (.cons (.j (.int 1)) (.cons (.bi .len ak (.cons (.i (.v 0) "origins") .nil)) .nil)) ["child"] [(0,"self"),(1,"run")] (.cons cnC .nil) (.v 0)) [aa (.o n),aa (.p (.int i))] h=aa (.p (.aD (cY (kids t i))),h):=by
  refine nE (ws:=[.p (.int 1),.p (.int ((iy t.ds).length:Int))]) (h1:=h) ?_ ?_ rfl rfl f cl
  ·have:(iy t.ds).length<=100000:=by rw[O];lia
   simp[A.ob,A.og,rd]
  simp[-jB,rds,rd,Z]
 have W:evS (runN T G (k+2)) G (.ex (.aH (.v 0) "check_run" (.cons (.v 1) .nil))) [aa (.o n),aa (.p (.int i))] h=aa (.nx [aa (.o n),aa (.p (.int i))] h):=by simp[A.ob,g]
 have V:=(kU W).trans (kW ce);show i8 (evS (runN T G (k+2)) G (.seq _ _) [aa (.o n),aa (.p (.int i))] h) (fin h)=_;rw[V,jO,c6]
end
def shC:E:=(.z .eq (.me .count (.v 2) (cW (.v 0))) (.j (.int 1)))
def shE:E:=(.aH (.v 1) "first" (cW (.v 0)))
def shM:E:=(.comp ak .seq (cW (.v 3)) ["run"] [(0,"self"),(3,"runs")] (cW shC) shE)
def shR:E:=(.bi .min1 ak (cW (.bin .add (.aD ak (cV (.bin .add (.aH (.v 0) "end" (cW (.v 1))) (.j (.int 1))) (.bin .add (.aH (.v 0) "end" (cW (.v 2))) (.j (.int 1))))) (.v 4))))
def i6:Fn:=⟨["self","one","other"],["self","one","other","runs","moments"], (.seq (.set 3 (.bin .add (.aH (.v 0) "path" (cW (.v 1))) (.aH (.v 0) "path" (cW (.v 2))))) (.seq (.set 4 shM) (.ret shR)))⟩
noncomputable def fiN(t:Tr)(i:Nat):Nat:=match t.ds[i]? with
 |some d=>d.fi|none=>0
def kY{t:Tr}{i:Nat}{d:Nd}(J:t.ds[i]?=aa d):fiN t i=d.fi:=by unfold fiN;rw[J]
def alone(t:Tr)(rs:List Nat):List Nat:=(rs.filter λr=>decide (rs.count r=1)).map (fiN t)
def shN(t:Tr)(rs:List Nat)(a b:Nat):Nat:=(alone t rs).foldl min (min (a+1) (b+1))
theorem kZ:∀(l:List Nat)(a:Nat),(l.map λ(x:Nat)=>(x:Int)).foldl min (a:Int)=((l.foldl min a:Nat):Int)
 |[],_=>rfl
 |b::l,a=>by rw[VA,WU,WU,show min (a:Int) (b:Int)=((min a b:Nat):Int) by lia];exact kZ l (min a b)
def Fq(t:Tr)(rs:List Nat)(a b:Nat):shN t rs a b<=a+1/\shN t rs a b<=b+1:=by
 have:∀(l:List Nat)(x:Nat),l.foldl min x<=x:=λl=>by
  induction l with
  |nil=>intro x;exact Vo _|cons y r J=>intro x;rw[WU];exact VJ (J _) (Nat.min_le_left _ _)
 have h:=this (alone t rs) (min (a+1) (b+1));unfold shN;lia
def Pth.mem{t:Tr}(W:Wf t){i:Nat}{l:List Nat}(hi:i<t.ds.length)(a:Pth t i l):∀x∈l,x<t.ds.length:=by
 induction a with
 |zero=>intro x J;simp at J;subst J;exact hi
 |step L V r O =>
  obtain⟨q,U,Y,_⟩:=(W.each _ _ L).par V;intro x J;rcases List.mem_cons.mp J with z|z
  subst z;exact dB L;exact O (dB U) x z
structure TrS(T:FK->Option Fn):Prop where
 shared:T (.m "Tree" "shared")=aa i6
section
variable{T:FK->Option Fn}{G:aA->Option W}{Pt:Pts}{h:HH}{n:Nat}{t:Tr}{ro rb:Nat}
@[simp]theorem om(t:Tr)(ro rb:Nat):dR "shared" (tfs t ro rb)=af:=fP t ro rb rfl
@[simp]theorem RM(t:Tr)(ro rb:Nat):dR "ends_with" (tfs t ro rb)=af:=fP t ro rb rfl
def MK{L:Type}(f:List D->HH->Option (Option D×HH))(mk:L->D)(g:L->Bool)(o:L->D)(J:HH->Prop)(l:List L)(O:∀x∈l,∀h,J h->∃h',f [mk x] h=aa (if g x then aa (o x)else af,h')/\J h')(h:HH)(hi:J h):∃h',eH f 1 (l.map mk) h=aa ((l.filter g).map o,h')/\J h':=by
 obtain⟨h',e,i⟩:=Fe f mk (λx=>if g x then aa (o x)else af) J l O h hi;refine⟨h',?_,i⟩;rw[e];congr 2;clear e O
 induction l with
 |nil=>rfl
 |cons a r U =>
  rw[VT,ZZ];cases g a with
  |_=>simp[U]
def ML(rs:List Nat)(r:Nat):meD .count (.aD (cY rs)) [.int (r:Int)]=aa (.int ((rs.count r:Nat):Int)):=by rw[De,bM (by simp)];congr 3;unfold cY;rw[List.countP_map,List.count];apply List.countP_congr;intro x _;simp;lia
def yo(P:TrP T G)(Q:TrQ T)(S:TrS T)(O:Wf t)(A:fJ Pt h n t ro rb)(k:Nat){i j:Nat}{L J:Nd}(hi:t.ds[i]?=aa L)(b:t.ds[j]?=aa J)(Z:Pth t i li)(Y:Pth t j lj):
 uK Pt (runN T G (k+11) (.m "Tree" "shared") [.o n,.p (.int i),.p (.int j)] h) (.p (.int (shN t (li.reverse++lj.reverse) L.en J.en))) n t ro rb:=by
 obtain⟨bs,V⟩:=id A;have l1:=O.l1;have I:=nI P Q O V (k+7) (dB hi) Z;have H:=nI P Q O V (k+7) (dB b) Y;obtain⟨h1,e1,⟨bs1,y⟩⟩:=nH P O V k hi;obtain⟨w,e2,A2⟩:=nH P O y k b;have N:=Z.len O;have M:=Y.len O;have il:=dB hi;have R:=dB b;have ad:jK .add (.aD (cY li.reverse)) (.aD (cY lj.reverse))=aa (.aD (cY (li.reverse++lj.reverse))):=by rw[dW,bM (by show _<=100000;simp[cY];lia)];simp[cY]
 generalize W:li.reverse++lj.reverse=rs at ad;have rl:rs.length<=1000:=by rw[←W];simp;lia
 have F:∀x∈rs,x<t.ds.length:=λx s=>by
  rw[←W]at s;rcases List.mem_append.mp s with z|z
  exact Z.mem O il x (by simpa using z);exact Y.mem O R x (by simpa using z)
 obtain ⟨U,c1,A3⟩:=MK (fD (evs (runN T G (k+10)) G (.cons shC .nil)) (aN (runN T G (k+10)) G shE) [aa (.o n),aa (.p (.aD (cY rs)))]) (λ(r:Nat)=>D.int (r:Int)) (λr=>decide (rs.count r=1)) (λr=>D.int (fiN t r:Int)) (λg=>g=h) rs (λr hr g hg=>by
  subst hg;obtain⟨d,u⟩:=fj (l:=t.ds) (F r hr);have f:=gT P O V (k+9) u;refine⟨g,?_,rfl⟩;rw[kY u];have E:([D.int (r:Int)].map fB++[aa (.o n),aa (.p (.aD (cY rs)))]:Sl)=[aa (.p (.int (r:Int))),aa (.o n),aa (.p (.aD (cY rs)))]:=rfl;have c:aN (runN T G (k+10)) G shC [aa (.p (.int (r:Int))),aa (.o n),aa (.p (.aD (cY rs)))] g=aa (.p (.bl (decide (rs.count r=1))),g):=by
   have cn:=ML rs r;have cq:(((rs.count r:Nat):Int)==1)=decide (rs.count r=1):=by
    by_cases z:rs.count r=1
    rw[z];rfl
    ·have:¬((rs.count r:Nat):Int)=1:=by lia
     simp[z,this]
   simp[shC,kMe,lO,dS,cn,rd,cq]
  unfold fD;rw[E];cases z:decide (rs.count r=1)with
  |true=>rw[z]at c;simp[evs,c,shE,V.ob,f]
  | false=>rw[z] at c;simp[evs,c]) h rfl
 subst A3;have q:cY rs=rs.map λ(r:Nat)=>D.int (r:Int):=rfl;have ce:aN (runN T G (k+10)) G shM [aa (.o n),aa (.p (.int i)),aa (.p (.int j)),aa (.p (.aD (cY rs))),af] U=aa (.p (.aD (cY (alone t rs))),U):=by
  have e0:cY (alone t rs)=(rs.filter λr=>decide (rs.count r=1)).map λr=>D.int (fiN t r:Int):=by unfold cY alone;rw[W6];rfl
  rw[e0];refine nE (ws:=[.p (.aD (cY rs))]) (h1:=U) rfl rfl rfl rfl c1 ?_;rw[Vx];have:=Y3 (λr=>decide (rs.count r=1)) rs;lia
 have al:(alone t rs).length<=1000:=by unfold alone;rw[Vx];have:=Y3 (λr=>decide (rs.count r=1)) rs;lia
 have K:biD .min1 [.aD (.int ((L.en:Int)+1)::.int ((J.en:Int)+1)::cY (alone t rs))]=aa (.int (shN t rs L.en J.en)):=by
  have X:intsOf (.int ((L.en:Int)+1)::.int ((J.en:Int)+1)::cY (alone t rs))=aa (((L.en:Int)+1)::((J.en:Int)+1)::(alone t rs).map λ(x:Nat)=>(x:Int)):=by
   have:∀l:List Nat,intsOf (cY l)=aa (l.map λ(x:Nat)=>(x:Int)):=λl=>by
    induction l with
    |nil=>rfl
    |cons a r ih =>
     have e:cY (a::r)=.int (a:Int)::cY r:=rfl;rw[e,intsOf,ih];rfl
   rw[intsOf,intsOf,this];rfl
  rw[vF,X,VV];show(aa (ZG min ((L.en:Int)+1) (((J.en:Int)+1)::_))).map D.int=_;rw[WU,show min ((L.en:Int)+1) ((J.en:Int)+1)=((min (L.en+1) (J.en+1):Nat):Int) by lia,kZ];rfl
 obtain⟨h4,f1,f2⟩:=kh U (.int (shN t rs L.en J.en)) w;refine⟨h4,?_,?_⟩
 ·rw[run_eq S.shared rfl];have C:aN (runN T G (k+10)) G (.bin .add (.aH (.v 0) "path" (.cons (.v 1) .nil)) (.aH (.v 0) "path" (.cons (.v 2) .nil))) [aa (.o n),aa (.p (.int i)),aa (.p (.int j)),af,af] U=aa (.p (.aD (cY rs)),U):=by simp[-dW,V.ob,I,H,rd,ad]
  have B:aN (runN T G (k+10)) G shR [aa (.o n),aa (.p (.int i)),aa (.p (.int j)),aa (.p (.aD (cY rs))),aa (.p (.aD (cY (alone t rs))))] U=aa (.p (.int (shN t rs L.en J.en)),w):=by
   have a2:jK .add (.aD [.int ((L.en:Int)+1),.int ((J.en:Int)+1)]) (.aD (cY (alone t rs)))=aa (.aD (.int ((L.en:Int)+1)::.int ((J.en:Int)+1)::cY (alone t rs))):=by rw[dW,bM (by show _<=100000;simp[cY];lia)];rfl
   simp[-dW,shR,V.ob,e1,y.ob,e2,rd,rds,dS,a2,K]
  show i8 (evS (runN T G (k+10)) G (.seq (.set 3 _) (.seq (.set 4 shM) (.ret shR))) [aa (.o n),aa (.p (.int i)),aa (.p (.int j)),af,af] U) (fin U)=_;rw[(fC C).trans ((fC ce).trans (kW B)),jO,f1]
 ·rcases f2 with z|z
  rw[z];exact A2;rw[z];exact A
end
def trB:S:=(.seq (.set 7 (.call "_law_drawn" (cU (.v 0) (.bin .add (.bin .add (.v 1) (.j (.int 1))) (.bin .mul (.j (.int 5)) (.v 6))) (.bin .add (.v 6) (.j (.int 1)))))) (.seq (.set 8 (.call "_law_drawn" (cU (.v 0) (.bin .add (.bin .add (.v 1) (.j (.int 2))) (.bin .mul (.j (.int 5)) (.v 6))) (.bin .add (.aH (.v 5) "end" (cW (.v 7))) (.j (.int 1)))))) (.seq (.set 9 (.y (.aD ak (cT (.j (.int 0)) (.j (.int 1)) (.j (.int 7)) (.j (.int 10006)))) (.call "_law_drawn" (cU (.v 0) (.bin .add (.bin .add (.v 1) (.j (.int 3))) (.bin .mul (.j (.int 5)) (.v 6))) (.j (.int 4)))))) (.ex (.aH (.v 5) "part" (cT (.v 7) (.v 8) (.call "_law_thing" (cV (.v 0) (.bin .add (.bin .add (.v 1) (.j (.int 4))) (.bin .mul (.j (.int 5)) (.v 6))))) (.v 9)))))))
def jo:Fn:=⟨["_law_script","_law_at","_law_program_here","_law_asked_here","_law_most"],["_law_script","_law_at","_law_program_here","_law_asked_here","_law_most","_law_tree_here","_law_k","_law_run","_law_moment","_law_worth"], (.seq (.set 5 (.make "Tree" (cU (.v 2) (.v 3) (.v 4)))) (.seq (.for [(6,"_law_k")] .rng1 (cW (.call "_law_drawn" (cU (.v 0) (.v 1) (.j (.int 5))))) trB) (.ret (.v 5))))⟩
def alE:E:=(.aH (.v 1) "at" (cV (.v 2) (.v 0)))
def alC:E:=(.comp ak .rng1 (cW (.bin .add (.aH (.v 0) "end" (cW (.v 1))) (.j (.int 1)))) ["_law_moment"] [(0,"_law_tree_here"),(1,"_law_run")] .nil alE)
def kj:Fn:=⟨["_law_tree_here","_law_run"],["_law_tree_here","_law_run"], (.ret alC)⟩
def ko(d:Nd):List St:=(VM (d.en+1)).map d.f
def gk(d:Nd):D:=.aD ((ko d).map St.enc)
structure LwT(T:FK->Option Fn):Prop where
 lw:Lw T
 thing:T "_law_thing"=aa gG
 tree:T "_law_tree"=aa jo
 all:T "_law_all"=aa kj
section
variable{T:FK->Option Fn}{G:aA->Option W}{Pt:Pts}{h:HH}{n:Nat}{t:Tr}{ro rb:Nat}
def uQ(d:Nd):(ko d).length=d.en+1:=by simp[ko]
def Ft(d:Nd){m:Nat}(h:m<=d.en):(ko d)[m]?=aa (d.f m):=by rw[ko,VF,Yh (by lia)];rfl
def Fv(d:Nd){m:Nat}(h:m<=d.en):dZ (gk d) (.int m)=aa (d.f m).enc:=by unfold gk;rw[dP,j6,VF,Ft d h];rfl
def Af(P:TrP T G)(l:T "_law_all"=aa kj)(J:Wf t)(A:fJ Pt h n t ro rb)(k:Nat){i:Nat}{d:Nd}(L:t.ds[i]?=aa d):
 uK Pt (runN T G (k+13) "_law_all" [.o n,.p (.int i)] h) (.p (gk d)) n t ro rb:=by
 obtain⟨bs,V⟩:=id A;obtain⟨h1,x,B⟩:=nH P J V (k+2) L;have en:=J.wO L;have m1:=J.m1;have Z:gy .rng1 [.int ((d.en:Int)+1)]=aa (upto 0 (d.en+1)):=by
  rw[iM];have c:((-100000<=((d.en:Int)+1):Bool)&&(((d.en:Int)+1)<=100000:Bool))=ah:=by simp only[Vg,bP];lia
  rw[bM c];congr 2
 have w:(ko d).map St.enc=(VM (d.en+1)).filterMap λm=>aa (d.f m).enc:=by
  unfold ko
  induction VM (d.en+1)with
  |nil=>rfl|cons a r j=>rw[VA,VA,VT,j]
 obtain ⟨O,U,y⟩:=Fe (fD (evs (runN T G (k+12)) G .nil) (aN (runN T G (k+12)) G alE) [aa (.o n),aa (.p (.int i))]) (λ(m:Nat)=>D.int (0+(m:Int))) (λm=>aa (d.f m).enc) (λh=>fJ Pt h n t ro rb) (VM (d.en+1)) (λm hm g ⟨bs2,Ag⟩=>by
  have C:=List.mem_range.mp hm;obtain⟨s,e,b⟩:=uO P J Ag k L (m:=m) (by lia);refine⟨s,?_,b⟩;have Y:([D.int ((0:Int)+(m:Int))].map fB++[aa (.o n),aa (.p (.int i))]:Sl)=[aa (.p (.int (m:Int))),aa (.o n),aa (.p (.int i))]:=by rw[Int.zero_add];rfl
  unfold fD;rw[Y];simp[evs,alE,Ag.ob,e]) h1 B
 rw[←w]at U;have ce:aN (runN T G (k+12)) G alC [aa (.o n),aa (.p (.int i))] h=aa (.p (gk d),O):=by refine nE (ws:=[.p (.int ((d.en:Int)+1))]) (h1:=h1) ?_ ?_ rfl rfl U ?_;simp[V.ob,x];rw[show rds [W.p (D.int ((d.en:Int)+1))] h1=aa [D.int ((d.en:Int)+1)] from rfl,VV,Z];rfl;rw[Vx,uQ];lia
 obtain⟨q,v,u⟩:=kh h (gk d) O;refine⟨q,?_,?_⟩
 ·rw[run_eq l rfl];show i8 (evS (runN T G (k+12)) G (.ret alC) [aa (.o n),aa (.p (.int i))] h) (fin h)=_;rw[kW ce,jO,v]
 ·rcases u with z|z
  rw[z];exact y;rw[z];exact A
end
structure SmT(t t':Tr):Prop where
 p:t'.p=t.p
 aI:t'.aI=t.aI
 most:t'.most=t.most
def SmT.refl(t:Tr):SmT t t:=⟨rfl,rfl,rfl⟩
def SmT.trans{t u v:Tr}(x:SmT t u)(y:SmT u v):SmT t v:=⟨y.p.trans x.p,y.aI.trans x.aI,y.most.trans x.most⟩
def BZ(z:Nat)(h:z<4):∃v:Int,Wth v/\dZ (.aD [.int 0,.int 1,.int 7,.int 10006]) (.int (z:Int))=aa (.int v):=by
 have:z=0\/z=1\/z=2\/z=3:=by omega
 rcases this with rfl|rfl|rfl|rfl
 exact⟨0,by simp[Wth],rfl⟩;exact⟨1,by simp[Wth],rfl⟩;exact⟨7,by simp[Wth],rfl⟩;exact⟨10006,by simp[Wth],rfl⟩
def T7:big 5=ah:=by unfold big;decide
section
variable{T:FK->Option Fn}{G:aA->Option W}{Pt:Pts}{n:Nat}{ro rb:Nat}
def slT(ns:List Int)(q:Int)(Z Y V:W)(n:Nat)(U O L J:Option W):Sl:=[aa (.p (.aD (cZ ns))),aa (.p (.int q)),aa Z,aa Y,aa V,aa (.o n),U,O,L,J]
def IE(P:TrP T G)(L:LwT T)(ns:List Int)(O:ns.length<=1000)(q:Int)(c b a:W)(k:Nat){h:HH}{t:Tr}(V:Wf t)(A:fJ Pt h n t ro rb)(j:Nat)(Q:t.ds.length=j+1)(X:j<5)(B y x:Option W):
 ∃h' t' w u s,evS (runN T G (k+13)) G trB (slT ns q c b a n (aa (.p (.int (j:Int)))) B y x) h=aa (.nx (slT ns q c b a n (aa (.p (.int (j:Int)))) w u s) h')/\Wf t'/\fJ Pt h' n t' ro rb/\SmT t t'/\t'.ds.length=j+2:=by
 obtain⟨i,S,Z⟩:=gu (G:=G) L.lw ns O (q+1+5*(j:Int)) ((j:Int)+1) (by lia);obtain⟨d,U⟩:=fj (l:=t.ds) (i:=i) (by lia);obtain⟨bs,r⟩:=A;obtain⟨h1,F,⟨D,o⟩⟩:=nH P V r (k+3) U;obtain⟨m,N,dm⟩:=gu (G:=G) L.lw ns O (q+2+5*(j:Int)) ((d.en:Int)+1) (by lia);obtain⟨z,M,Y⟩:=gu (G:=G) L.lw ns O (q+3+5*(j:Int)) 4 (by lia);obtain⟨v,g,ev⟩:=BZ z (by lia);obtain⟨th,rt⟩:=BQ (G:=G) L.lw L.thing ns O (q+4+5*(j:Int));obtain⟨e,R,_⟩:=zX (th.put (d.f m) v) t.p t.aI (t.most-m);have J:m<=d.en:=by lia
 obtain⟨C,E,K⟩:=Fp P V o k U J th g R;have H:=(V.at_ U J).put g th;have I:=MI V U J H R (by lia) rfl;refine⟨C,_,aa (.p (.int i)),aa (.p (.int m)),aa (.p (.int v)),?_,I,K,⟨rfl,rfl,rfl⟩,by simp[Tr.add];lia⟩;have Z:=Z (k+11);have dm:=dm (k+11);have Y:=Y (k+11);have rt:=rt (k+10);rw[trB,slT,slT];simp[-dP,T7,Z,r.ob,F,dm,Y,ev,o.ob,rt,E]
def Ah(j r:Nat):upto (j:Int) (r+1)=.int (j:Int)::upto ((j+1:Nat):Int) r:=by unfold upto;rw[YS,VA,W6];simp only[Int.natCast_zero,Int.add_zero,XX,true_and];apply Xs;intro i _;simp;lia
theorem Ai(P:TrP T G)(L:LwT T)(ns:List Int)(e:ns.length<=1000)(q:Int)(Z Y V:W)(k:Nat):∀(r j:Nat)(h:HH)(t:Tr)(a U O J:Option W),Wf t->fJ Pt h n t ro rb->t.ds.length=j+1->j+r<=5 →
 ∃h' t' o d c b,fc (evS (runN T G (k+13)) G trB) [(6,"_law_k")] (upto (j:Int) r) (slT ns q Z Y V n a U O J) h=aa (.nx (slT ns q Z Y V n o d c b) h')/\Wf t'/\fJ Pt h' n t' ro rb/\SmT t t'/\t'.ds.length=j+r+1
 |0,j,h,t,a,U,O,J,Wt,A,hj,_=>⟨h,t,a,U,O,J,rfl,Wt,A,.refl t,hj⟩
 |r+1,j,h,t,a,U,O,J,Wt,A,hj,h5=>by obtain⟨z,u,d,c,b,C,E,H,w,x⟩:=IE P L ns e q Z Y V k Wt A j hj (by lia) U O J;obtain⟨y,s,m,i,g,f,B,D,F,v,I⟩:=Ai P L ns e q Z Y V k r (j+1) z u (aa (.p (.int (j:Int)))) d c b E H x (by lia);refine⟨y,s,m,i,g,f,?_,D,F,w.trans v,by lia⟩;rw[Ah];have st:∀l,fc (evS (runN T G (k+13)) G trB) [(6,"_law_k")] (.int (j:Int)::l) (slT ns q Z Y V n a U O J) h=ku (evS (runN T G (k+13)) G trB (slT ns q Z Y V n (aa (.p (.int (j:Int)))) U O J) h) (fc (evS (runN T G (k+13)) G trB) [(6,"_law_k")] l):=λl=>rfl;rw[st,C,gC,B]
def uR(P:TrP T G)(L:LwT T)(ns:List Int)(Z:ns.length<=1000)(q:Int)(k:Nat){p:Pg}(W:Pg.ok p)(a:Ask aI)(Y:most<=100)(h:HH)(D:∀i c,Pt i=aa c->h[i]?=aa c):
 ∃h' t,runN T G (k+14) "_law_tree" [.p (.aD (cZ ns)),.p (.int q),.p (eW p),.p (.aD (cZ aI)),.p (.int most)] h=aa (.o h.length,h')/\Wf t/\fJ Pt h' h.length t (h.length+1) (h.length+5)/\t.p=p/\t.aI=aI/\t.most=most/\t.ds.length<=5:=by
 obtain⟨e,R,_⟩:=zX St.zero p aI most;have F:=Fk P (k+9) p aI most e h;have K:=Fo W a Y R D;have I:=MH W a Y R;obtain⟨z,N,U⟩:=gu (G:=G) L.lw ns Z q 5 (by lia);obtain⟨J,B,u,s,r,n,V,H,m,O,M⟩:=Ai P L ns Z q (.p (eW p)) (.p (.aD (cZ aI))) (.p (.int most)) k z 0 _ _ af af af af I K rfl (by lia);refine⟨J,B,?_,H,m,O.p,O.aI,O.most,by lia⟩;obtain⟨E,Q⟩:=id m;have f:fin h (.o h.length) J=aa (.o h.length,J):=by
  unfold fin
  by_cases c:J.length=h.length
  rw[bM c]
  ·rw[bN c]
   by_cases d:J.take h.length=h
   rw[bM d];exact bN (V5 _);rw[bN d]
 have U:=U (k+11);have C:gy .rng1 [.int (z:Int)]=aa (upto 0 z):=by
  rw[iM];have c:((-100000<=(z:Int):Bool)&&((z:Int)<=100000:Bool))=ah:=by simp only[Vg,bP];lia
  rw[bM c];congr 2
 rw[slT]at V
 change fc _ _ (upto 0 z) _ _=_ at V
 rw[run_eq L.tree rfl,jo];simp only[d8,VA,Wb,Vv,VY];have A:aN (runN T G (k+13)) G (.make "Tree" (.cons (.v 2) (.cons (.v 3) (.cons (.v 4) .nil)))) [aa (.p (.aD (cZ ns))),aa (.p (.int q)),aa (.p (eW p)),aa (.p (.aD (cZ aI))),aa (.p (.int most)),af,af,af,af,af] h=aa (.o h.length,h++[.o "Tree" (tfs (Tr.new p aI most e) (h.length+1) (h.length+5)),.l [.aF],.o "Branch" ((Tp.new p aI St.zero most).fs (h.length+4)),.l [St.zero.enc],.l [St.zero.enc],.b [h.length+2]]):=by simp[F]
 have y:evS (runN T G (k+13)) G (.for [(6,"_law_k")] .rng1 (.cons (.call "_law_drawn" (.cons (.v 0) (.cons (.v 1) (.cons (.j (.int 5)) .nil)))) .nil) trB) [aa (.p (.aD (cZ ns))),aa (.p (.int q)),aa (.p (eW p)),aa (.p (.aD (cZ aI))),aa (.p (.int most)),aa (.o h.length),af,af,af,af] (h++[.o "Tree" (tfs (Tr.new p aI most e) (h.length+1) (h.length+5)),.l [.aF],.o "Branch" ((Tp.new p aI St.zero most).fs (h.length+4)),.l [St.zero.enc],.l [St.zero.enc],.b [h.length+2]])=aa (.nx (slT ns q (.p (eW p)) (.p (.aD (cZ aI))) (.p (.int most)) h.length u s r n) J):=by simp[-iM,-fc,U,rds,rd,C,iB,V]
 show i8 (evS (runN T G (k+13)) G (.seq (.set 5 _) (.seq _ (.ret (.v 5)))) [aa (.p (.aD (cZ ns))),aa (.p (.int q)),aa (.p (eW p)),aa (.p (.aD (cZ aI))),aa (.p (.int most)),af,af,af,af,af] h) (fin h)=_;rw[fC A];have x:=kU (b:=.ret (.v 5)) y;show i8 (evS (runN T G (k+13)) G (.seq _ (.ret (.v 5))) [aa (.p (.aD (cZ ns))),aa (.p (.int q)),aa (.p (eW p)),aa (.p (.aD (cZ aI))),aa (.p (.int most)),aa (.o h.length),af,af,af,af] _) (fin h)=_;rw[x,kW (w:=.o h.length) (g:=J) rfl,jO,f]
end
def IF(d:Nd):dok 100 (gk d)=ah:=ny (ko d)
section
variable{T:FK->Option Fn}{G:aA->Option W}{Pt:Pts}{n:Nat}{ro rb:Nat}
def sW{F:FK->List W->HH->Option (W×HH)}{c:E}{a:S}{s:Sl}{h g:HH}(h1:aN F G c s h=aa (.p (.bl ak),g)):evS F G (.v c a .nil) s h=aa (.nx s g):=by simp[h1]
def Qu{F:FK->List W->HH->Option (W×HH)}{c:E}{a b:S}{s:Sl}{h g:HH}(h1:aN F G c s h=aa (.p (.bl ah),g)):evS F G (.v c a b) s h=evS F G a s g:=by simp[h1]
end
section
variable{T:FK->Option Fn}{G:aA->Option W}{Pt:Pts}{n:Nat}{ro rb:Nat}{t:Tr}
end
structure Bf(t:Tr)(a:Nat)(rs:List Nat):Prop where
 nd:rs.Nodup
 lt:∀x∈rs,x<t.ds.length
 z:rs[0]?=aa 0
 le:a<=rs.length
 up:∀x∈rs,x=0\/∃d,t.ds[x]?=aa d/\d.par∈rs.take a
 dn:∀x∈rs.take a,∀c∈kids t x,c∈rs
def IG(t:Tr)(i:Nat):(kids t i).Nodup:=by unfold kids;refine List.Nodup.sublist List.filter_sublist ?_;exact List.Pairwise.map _ (λa b h=>by intro z;exact h (by lia)) List.nodup_range
def Aj{t:Tr}{c:Nat}{d:Nd}(J:t.ds[c]?=aa d)(L:0<c):c∈kids t d.par:=by unfold kids;refine List.mem_filter.mpr ⟨List.mem_map.mpr ⟨c-1,List.mem_range.mpr (by have:=dB J;lia),by lia⟩,?_⟩;simp[J]
def Bf.zero{t:Tr}(L:Wf t):Bf t 0 [0] :=
 ⟨by simp,λx J=>by simp at J;subst J;exact List.length_pos_iff.mpr L.l0,rfl,Wg _,λx J=>by simp at J;exact .inl J,λx J=>by simp at J⟩
def Bf.len{t:Tr}{a:Nat}(B:Bf t a rs):rs.length<=t.ds.length:=by
 have:=List.Nodup.length_le_of_subset B.nd (l₂:=VM t.ds.length) λx J=>List.mem_range.mpr (B.lt x J)
 rwa [YA]at this
def Ak{J:Type}{rs:List J}{a:Nat}{x:J}(h:rs[a]?=aa x):rs.take (a+1)=rs.take a++[x]:=by rw[List.take_succ,h];rfl
def Bf.step{t:Tr}(U:Wf t){a x:Nat}{rs:List Nat}(B:Bf t a rs)(h:rs[a]?=aa x):Bf t (a+1) (rs++kids t x):=by
 have Z:=dB h;have V:(rs++kids t x).take (a+1)=rs.take a++[x]:=by rw[List.take_append_of_le_length (by lia),Ak h]
 have nx:x∉rs.take a:=λz=>by have n:=B.nd;rw[←aa6 (a+1) rs,Ak h]at n;have:=(List.nodup_append.mp (List.nodup_append.mp n).1).2.2 x z x (by simp);exact this rfl
 refine⟨List.nodup_append.mpr ⟨B.nd,IG t x,λp J q W e=>?_⟩,λp J=>?_,?_,by simp;lia,λp J=>?_,λp J c hc=>?_⟩
 ·subst e;obtain⟨Y,d,L,O⟩:=uP U W;rcases B.up p J with z|⟨d',hd',z⟩
  lia
  ·rw[L]at hd';cases hd';rw[O]at z;exact nx z
 ·rcases List.mem_append.mp J with z|z
  exact B.lt p z
  ·obtain⟨_,d,L,_⟩:=uP U z;exact dB L
 rw[Vi (by have:=dB B.z;exact this)];exact B.z
 ·rw[V];rcases List.mem_append.mp J with z|z
  ·rcases B.up p z with q|⟨d,L,q⟩
   exact .inl q;exact .inr ⟨d,L,List.mem_append.mpr (.inl q)⟩
  ·obtain⟨_,d,L,O⟩:=uP U z;exact .inr ⟨d,L,List.mem_append.mpr (.inr (by rw[O];simp))⟩
 ·rw[V]at J;rcases List.mem_append.mp J with z|z
  exact List.mem_append.mpr (.inl (B.dn p z c hc))
  ·simp at z;subst z;exact List.mem_append.mpr (.inr hc)
theorem Bf.all{t:Tr}(L:Wf t){rs:List Nat}(B:Bf t rs.length rs):∀(n i:Nat),i<=n->i<t.ds.length->i∈rs
 |n,i,hn,hi=>by
  rcases WO i with z|z
  subst z;exact Vz B.z
  ·obtain⟨d,J⟩:=fj hi;obtain⟨q,O,U,_⟩:=(L.each i d J).par z;cases n with
   |zero=>lia
   |succ n =>
    have m:=Bf.all L B n d.par (by lia) (dB O);exact B.dn d.par (by rw[List.take_length];exact m) i (Aj J z)
def Bf.perm{t:Tr}(J:Wf t)(B:Bf t rs.length rs):rs.Perm (VM t.ds.length) :=
 (List.perm_ext_iff_of_nodup B.nd List.nodup_range).mpr λa=>⟨λh=>List.mem_range.mpr (B.lt a h),λh=>B.all J a a (Vo _) (List.mem_range.mp h)⟩
noncomputable def jH(xs:List Nat):List Int:=xs.map λ(n:Nat)=>(n:Int)
def qV(xs:List Nat):cY xs=cZ (jH xs):=by unfold cY cZ jH;rw[W6];rfl
theorem oq:∀(xs:List Int),intsOf (cZ xs)=aa xs
 |[]=>rfl
 |x::xs=>by show(intsOf (cZ xs)).map (x :: ·)=_;rw[oq xs];rfl
def Pth.last{t:Tr}{i:Nat}{l:List Nat}(a:Pth t i l):l.getLast?=aa 0:=by
 induction a with
 |zero=>rfl|step O L r J=>rw[List.getLast?_cons,J];rfl
def Pth.head{t:Tr}{i:Nat}{l:List Nat}(a:Pth t i l):∃J,l=i::J:=by
 cases a with
 |_=>exact⟨_,rfl⟩
def Fw(xs:List Int)(v:Int):ded (xs++[v])=if(ded xs).any (·==v)then ded xs else ded xs++[v]:=by unfold ded;rw[List.foldl_append];rfl
def MM(xs:List Int):(ded xs).Nodup/\∀x,x∈ded xs↔x∈xs:=by
 suffices h:∀(n:Nat)(xs:List Int),xs.length=n->(ded xs).Nodup/\∀x,x∈ded xs↔x∈xs from h _ xs rfl
 intro n
 induction n with
 |zero =>
  intro xs J;have:xs=[]:=List.length_eq_zero_iff.mp J;subst this;exact⟨Ze,λx=>Iff.rfl⟩
 |succ n V =>
  intro xs J;rcases List.eq_nil_or_concat xs with z|⟨ys,v,z⟩
  rw[z]at J;simp at J
  ·have U:xs=ys++[v]:=by simpa using z
   subst U;obtain⟨a,b⟩:=V ys (by simp at J;exact J);rw[Fw]
   by_cases c:(ded ys).any (·==v)=ah
   ·rw[bM c];have L:v∈ded ys:=by simpa using c
    refine⟨a,λx=>?_⟩;rw[b x,aak];exact⟨.inl,λq=>q.elim id λq=>by simp at q;subst q;exact(b _).mp L⟩
   ·rw[bN c];have L:v∉ded ys:=by simpa using c
    refine⟨List.nodup_append.mpr ⟨a,by simp,λp W q O e=>?_⟩,λx=>?_⟩;simp at O;subst O;subst e;exact L W;rw[aak,aak,b x]
noncomputable def pt0:Pts:=λ_=>af
def apE:E:=(.aH (.v 1) "first" (cW (.v 0)))
def apM:E:=(.comp ak .seq (cW (.bin .add (.aH (.v 0) "path" (cW (.v 1))) (.aH (.v 0) "path" (cW (.v 2))))) ["run"] [(0,"self")] .nil apE)
def apC:E:=(.z .ne (.aH (.v 0) "found" (cV (.v 1) (.v 4))) (.aH (.v 0) "found" (cV (.v 2) (.v 4))))
def apB:S:=(.v apC (.ret (.v 4)) .nil)
def gY:Fn:=⟨["self","one","other"],["self","one","other","partings","moment"], (.seq (.set 3 apM) (.seq (.for [(4,"moment")] .seq (cW (.bi .sset ak (cW (.v 3)))) apB) (.ret (.j .aF))))⟩
def dJ:Fn:=⟨["self","run","moment"],["self","run","moment"], (.ret (.aH (.v 0) "at" (cV (.v 1) (.v 2))))⟩
def fnd(d:Nd)(m:Nat):D:=if m<=d.en then(d.f m).enc else .aF
def II(d:Nd)(m:Nat):dok 100 (fnd d m)=ah:=by unfold fnd;split;exact uH 98 _;rfl
def dfr(a b:Nd)(m:Nat):Bool:=!eqv (fnd a m) (fnd b m)
noncomputable def apD:Option Nat->D
 |some m=>.int (m:Int)|none=>.aF
def IJ(l:List Nat)(d:l.length<64):∃L:List Nat,biD .sset [.aD (cY l)]=aa (.aD (cY L))/\(∀x,x∈L↔x∈l)/\L.Pairwise (· < ·):=by
 obtain⟨nd,c⟩:=MM (jH l);have W:=sortI_perm (ded (jH l));have Z:=qf (ded (jH l));have Y:=W.nodup_iff.mpr nd;have mem:∀x,x∈sortI (ded (jH l))↔x∈jH l:=λx=>(W.mem_iff).trans (c x);have J:∀x∈sortI (ded (jH l)),((x.toNat:Nat):Int)=x:=λx O=>by obtain⟨a,_,rfl⟩:=List.mem_map.mp ((mem x).mp O);rfl
 have e:jH ((sortI (ded (jH l))).map Int.toNat)=sortI (ded (jH l)):=by
  generalize sortI (ded (jH l))=q at J;unfold jH;rw[W6]
  conv=>rhs;rw[←List.map_id q]
  exact Xs λx O=>J x O
 refine⟨(sortI (ded (jH l))).map Int.toNat,?_,λx=>?_,?_⟩
 ·rw[qV,qV,e,vE,oq,VV,bM (by unfold jH;rw[Vx];exact d)];rfl
 ·constructor
  ·intro h;obtain⟨a,V,rfl⟩:=List.mem_map.mp h;obtain⟨b,U,rfl⟩:=List.mem_map.mp ((mem a).mp V);exact U
  ·intro h;exact List.mem_map.mpr ⟨(x:Int),(mem _).mpr (List.mem_map.mpr ⟨x,h,rfl⟩),rfl⟩
 ·have lt:(sortI (ded (jH l))).Pairwise (· < ·):=by refine List.Pairwise.imp₂ (λa b g f=>?_) Z Y;exact Int.lt_iff_le_and_ne.mpr ⟨g,f⟩
  rw[List.pairwise_map];refine List.Pairwise.imp_of_mem (λ{a b} V U h=>?_) lt;have:=J a V;have:=J b U;lia
section
variable{T:FK->Option Fn}{G:aA->Option W}{Pt:Pts}{n:Nat}{t:Tr}{ro rb:Nat}
@[simp]theorem qW(t:Tr)(ro rb:Nat):dR "apart" (tfs t ro rb)=af:=fP t ro rb rfl
@[simp]theorem Qv(t:Tr)(ro rb:Nat):dR "found" (tfs t ro rb)=af:=fP t ro rb rfl
def Fnd(Pt:Pts)(F:FK->List W->HH->Option (W×HH))(n:Nat)(t:Tr)(ro rb:Nat)(M:Nat->Nd->Prop):Prop :=
 ∀(i:Nat)(d:Nd)(m:Nat)(g:HH),t.ds[i]?=aa d->M m d->fJ Pt g n t ro rb->uK Pt (F (.m "Tree" "found") [.o n,.p (.int i),.p (.int m)] g) (.p (fnd d m)) n t ro rb
def IK{F:FK->List W->HH->Option (W×HH)}{M:Nat->Nd->Prop}(U:Fnd Pt F n t ro rb M){i j m:Nat}{L J:Nd}(hi:t.ds[i]?=aa L)(b:t.ds[j]?=aa J)(a:M m L)(Z:M m J)(Y:Option W){h:HH}(A:fJ Pt h n t ro rb):
 ∃g,aN F G apC [aa (.o n),aa (.p (.int i)),aa (.p (.int j)),Y,aa (.p (.int m))] h=aa (.p (.bl (dfr L J m)),g)/\fJ Pt g n t ro rb:=by
 obtain⟨e,k,V⟩:=U i L m h hi a A;obtain⟨d,f,l⟩:=U j J m e b Z V;obtain⟨_,q⟩:=A;obtain⟨_,O⟩:=V;refine⟨d,?_,l⟩;have c:gR .ne (fnd L m) (fnd J m)=aa (dfr L J m):=by rw[o9,bM (iP (II J m))];rfl
 simp[-o9,apC,q.ob,k,O.ob,f,rd,c]
inductive ApL(Pt:Pts)(n:Nat)(t:Tr)(ro rb:Nat)(x:Option Fl)(i j:Nat)(x3:Option W):Option Nat->Prop
 |rt(m:Nat)(g:HH)(e:x=aa (.rt (.p (.int (m:Int))) g))(A:fJ Pt g n t ro rb):ApL Pt n t ro rb x i j x3 (aa m)
 |nx(J:Option W)(g:HH)(e:x=aa (.nx [aa (.o n),aa (.p (.int i)),aa (.p (.int j)),x3,J] g))(A:fJ Pt g n t ro rb):ApL Pt n t ro rb x i j x3 af
theorem Al{F:FK->List W->HH->Option (W×HH)}{M:Nat->Nd->Prop}(b:Fnd Pt F n t ro rb M){i j:Nat}{Y V:Nd}(hi:t.ds[i]?=aa Y)(a:t.ds[j]?=aa V)(J:Option W):∀(L:List Nat)(O:Option W)(h:HH),(∀m∈L,M m Y/\M m V)->fJ Pt h n t ro rb →
 ApL Pt n t ro rb (fc (evS F G apB) [(4,"moment")] (cY L) [aa (.o n),aa (.p (.int i)),aa (.p (.int j)),J,O] h) i j J (L.find? (dfr Y V))
 |[],O,h,_,A=>.nx O h rfl A
 |m::L,O,h,hm,A=>by
  obtain⟨U,Z,d⟩:=IK (G:=G) b hi a (hm m (Vt ..)).1 (hm m (Vt ..)).2 J A;have f:fc (evS F G apB) [(4,"moment")] (cY (m::L)) [aa (.o n),aa (.p (.int i)),aa (.p (.int j)),J,O] h=ku (evS F G apB [aa (.o n),aa (.p (.int i)),aa (.p (.int j)),J,aa (.p (.int m))] h) (fc (evS F G apB) [(4,"moment")] (cY L)):=rfl;rw[f,W7];cases c:dfr Y V m with
  |true =>
   rw[c]at Z;refine .rt m U ?_ d;rw[show evS F G apB [aa (.o n),aa (.p (.int i)),aa (.p (.int j)),J,aa (.p (.int m))] h=aa (.rt (.p (.int m)) U) from(Qu Z).trans (kW rfl)];rfl
  |false =>
   rw[c]at Z;rw[show evS F G apB [aa (.o n),aa (.p (.int i)),aa (.p (.int j)),J,aa (.p (.int m))] h=aa (.nx [aa (.o n),aa (.p (.int i)),aa (.p (.int j)),J,aa (.p (.int m))] U) from sW Z,gC];exact Al b hi a J L _ U (λz e=>hm z (Vn _ e)) d
def IL(s:Wf t){h:HH}(A:fJ Pt h n t ro rb){F:FK->List W->HH->Option (W×HH)}(E:∀{i:Nat}{l:List Nat},i<t.ds.length->Pth t i l->F (.m "Tree" "path") [.o n,.p (.int i)] h=aa (.p (.aD (cY l.reverse)),h))(hF:∀{i:Nat}{d:Nd},t.ds[i]?=aa d->F (.m "Tree" "first") [.o n,.p (.int i)] h=aa (.p (.int d.fi),h)){M:Nat->Nd->Prop}(hf:Fnd Pt F n t ro rb M){i j:Nat}{V U:Nd}(hi:t.ds[i]?=aa V)(b:t.ds[j]?=aa U)(B:Pth t i li)(w:Pth t j lj)(X:li.length+lj.length<64)
(hM:∀x∈li++lj,M (fiN t x) V/\M (fiN t x) U):
 ∃J:List Nat,(∀m,m∈J↔m∈(li++lj).map (fiN t))/\J.Pairwise (· < ·)/\uK Pt (i8 (evS F G gY.body [aa (.o n),aa (.p (.int i)),aa (.p (.int j)),af,af] h) (fin h)) (.p (apD (J.find? (dfr V U)))) n t ro rb:=by
 obtain⟨bs,H⟩:=id A;have l1:=s.l1;have T:=E (dB hi) B;have S:=E (dB b) w;have il:=dB hi;have jl:=dB b;have ad:jK .add (.aD (cY li.reverse)) (.aD (cY lj.reverse))=aa (.aD (cY (li.reverse++lj.reverse))):=by rw[dW,bM (by show _<=100000;simp[cY];lia)];simp[cY]
 generalize O:li.reverse++lj.reverse=rs at ad;have R:rs.length<64:=by rw[←O];simp;lia
 have Y:∀x,x∈rs↔x∈li++lj:=λx=>by rw[←O];simp
 have Q:∀x∈rs,x<t.ds.length:=λx hx=>by
  rcases List.mem_append.mp ((Y x).mp hx)with z|z
  exact B.mem s il x z;exact w.mem s jl x z
 obtain⟨J,P,N,K⟩:=IJ (rs.map (fiN t)) (by rw[Vx];exact R);have L:∀m,m∈J↔m∈(li++lj).map (fiN t):=λm=>by rw[N m,List.mem_map,List.mem_map];exact⟨λ⟨a,h1,h2⟩=>⟨a,(Y a).mp h1,h2⟩,λ⟨a,h1,h2⟩=>⟨a,(Y a).mpr h1,h2⟩⟩
 refine⟨J,L,K,?_⟩;have cm:eH (fD (evs (F) G .nil) (aN (F) G apE) [aa (.o n)]) 1 (cY rs) h=aa (cY (rs.map (fiN t)),h):=by
  have e0:cY (rs.map (fiN t))=rs.filterMap λr=>aa (D.int (fiN t r:Int)):=by unfold cY;rw[W6,aa2];rfl
  rw[e0];refine yj _ (λ(r:Nat)=>D.int (r:Int)) _ h rs λr hr=>?_;obtain⟨d,C⟩:=fj (l:=t.ds) (Q r hr);have f:=hF C;have I:([D.int (r:Int)].map fB++[aa (.o n)]:Sl)=[aa (.p (.int (r:Int))),aa (.o n)]:=rfl;unfold fD;rw[I,kY C];simp[evs,apE,H.ob,f]
 have ce:aN (F) G apM [aa (.o n),aa (.p (.int i)),aa (.p (.int j)),af,af] h=aa (.p (.aD (cY (rs.map (fiN t)))),h):=by refine nE (ws:=[.p (.aD (cY rs))]) (h1:=h) ?_ rfl rfl rfl cm ?_;simp[-dW,evs,H.ob,T,S,rd,ad];simp[cY];lia
 have Z:=Al (G:=G) hf hi b (aa (.p (.aD (cY (rs.map (fiN t)))))) J af h (λm hm=>by obtain⟨a,h1,rfl⟩:=List.mem_map.mp ((L m).mp hm);exact hM a h1) A
 have fr:evS (F) G (.for [(4,"moment")] .seq (.cons (.bi .sset ak (.cons (.v 3) .nil)) .nil) apB) [aa (.o n),aa (.p (.int i)),aa (.p (.int j)),aa (.p (.aD (cY (rs.map (fiN t))))),af] h=fc (evS (F) G apB) [(4,"moment")] (cY J) [aa (.o n),aa (.p (.int i)),aa (.p (.int j)),aa (.p (.aD (cY (rs.map (fiN t))))),af] h:=by have ap:iB [W.p (D.aD (cY J))]=ah:=rfl;simp[rd,rds,P,ap]
 have top:∀y,evS (F) G (.seq (.for [(4,"moment")] .seq (.cons (.bi .sset ak (.cons (.v 3) .nil)) .nil) apB) (.ret (.j .aF))) [aa (.o n),aa (.p (.int i)),aa (.p (.int j)),aa (.p (.aD (cY (rs.map (fiN t))))),af] h=y →
  i8 (evS F G gY.body [aa (.o n),aa (.p (.int i)),aa (.p (.int j)),af,af] h) (fin h)=i8 y (fin h):=λy hy=>by
  show i8 (evS (F) G (.seq (.set 3 apM) _) [aa (.o n),aa (.p (.int i)),aa (.p (.int j)),af,af] h) (fin h)=_;rw[fC ce,←hy];rfl
 revert Z
 rw[←fr];generalize J.find? (dfr V U)=o;intro Z;cases Z with
 |rt m g e u =>
  obtain⟨c,q,k⟩:=kh h (.int (m:Int)) g;refine⟨c,?_,?_⟩;rw[top (aa (.rt (.p (.int m)) g)) (by show oH _ _=_;rw[e];rfl),jO,q];rfl
  ·rcases k with z|z
   rw[z];exact u;rw[z];exact A
 |nx y4 g e u =>
  obtain⟨c,q,k⟩:=kh h .aF g;refine⟨c,?_,?_⟩;rw[top (aa (.rt (.p .aF) g)) ((kU e).trans (kW rfl)),jO,q];rfl
  ·rcases k with z|z
   rw[z];exact u;rw[z];exact A
end
def fo(d:Nd)(m:Nat):Option St:=if m<=d.en then aa (d.f m)else af
def lW{d:Nd}{m:Nat}(h:m<=d.en):fo d m=aa (d.f m):=bM h
def sX{d:Nd}{m:Nat}(h:d.en<m):fo d m=af:=bN (by lia)
def Fx(a b:Nd)(m:Nat):dfr a b m=ak↔fo a m=fo b m:=by
 unfold dfr fnd fo
 by_cases L:m<=a.en<;>by_cases J:m<=b.en
 ·rw[bM L,bM J,bM L,bM J];constructor
  ·intro h;have h:eqv (a.f m).enc (b.f m).enc=ah:=by simpa using h
   rw[uG h]
  ·intro h;rw[Vp h,iZ];rfl
 ·rw[bM L,bN J,bM L,bN J];constructor;intro h;exact d7 h.symm;intro h;exact fU h.symm
 ·rw[bN L,bM J,bN L,bM J];constructor;intro h;exact d7 h.symm;intro h;exact fU h
 ·rw[bN L,bN J,bN L,bN J];exact⟨λ_=>rfl,λ_=>rfl⟩
section
variable{t:Tr}
def Wf.goes(W:Wf t){i:Nat}{l:List Nat}(p:Pth t i l):∀(d:Nd),t.ds[i]?=aa d->∀q,q+1<=d.en->(∀x∈l,fiN t x≠q+1)->d.f (q+1)=step t.p t.aI (d.f q)/\over t.p (d.f q)=ak/\q<t.most:=by
 have own:∀(i:Nat)(d:Nd),t.ds[i]?=aa d->∀q,q+1<=d.en->d.fi<=q->d.f (q+1)=step t.p t.aI (d.f q)/\over t.p (d.f q)=ak/\q<t.most:=λi d L q U c=>by have O:=W.each i d L;unfold Nd.en at U;have e1:=O.own (q-d.fi) (by lia);have e2:=O.own (q-d.fi+1) (by lia);rw[show d.fi+(q-d.fi)=q by lia]at e1;rw[show d.fi+(q-d.fi+1)=q+1 by lia]at e2;have o:=O.run.on (q-d.fi) (by lia);have:=O.run.le;have:=O.le;refine⟨?_,?_,by lia⟩;rw[e2,e1];rfl;rw[e1];exact o
 induction p with
 |zero =>
  intro d L q U _;exact own 0 d L q U (by have:=((W.each 0 d L).zero rfl).1;lia)
 |@step i V l J e r Z =>
  intro d L q U hn;rw[J]at L;cases L;have g:V.fi≠q+1:=by have:=hn i (Vt ..);rw[kY J]at this;exact this
  by_cases c:V.fi<=q
  exact own i V J q U c
  ·obtain⟨u,b,j,h,Y⟩:=(W.each i V J).par e;rw[Y q (by lia),Y (q+1) (by lia)];exact Z u b q (by lia) λx a=>hn x (Vn _ a)
def Wf.ends(W:Wf t){i:Nat}{d:Nd}(J:t.ds[i]?=aa d):d.en=t.most\/over t.p (d.f d.en)=ah:=by
 have O:=W.each i d J;have e1:=O.own d.e (Vo _);have:=O.le;rcases O.run.last with z|z
 left;unfold Nd.en;lia
 ·right;rw[show d.f d.en=d.f (d.fi+d.e) from rfl,e1];exact z
def Wf.Am(W:Wf t){i j:Nat}{L J:Nd}(hi:t.ds[i]?=aa L)(V:t.ds[j]?=aa J)(g:Pth t i li)(Y:Pth t j lj){q:Nat}(e:fo L q=fo J q)(hn:∀x∈li++lj,fiN t x≠q+1):fo L (q+1)=fo J (q+1):=by
 have h:∀x∈li,fiN t x≠q+1:=λx U=>hn x (List.mem_append.mpr (.inl U));have Z:∀x∈lj,fiN t x≠q+1:=λx U=>hn x (List.mem_append.mpr (.inr U))
 by_cases c:q<=L.en
 ·have b:q<=J.en:=by
   rcases VD J.en q with z|z
   rw[lW c,sX z]at e;exact fU e.symm;exact z
  rw[lW c,lW b]at e;have e:=Vp e
  by_cases a:q+1<=L.en
  ·obtain⟨m,l,n⟩:=W.goes g L hi q a h
   by_cases O:q+1<=J.en
   ·obtain⟨f,d,k⟩:=W.goes Y J V q O Z;rw[lW a,lW O,m,f,e]
   ·have eq:q=J.en:=by lia
    rcases W.ends V with z|z
    lia;rw[←eq,←e,l]at z;exact d7 z
  ·have eq:q=L.en:=by lia
   by_cases O:q+1<=J.en
   ·obtain⟨f,d,k⟩:=W.goes Y J V q O Z;rcases W.ends hi with z|z
    lia;rw[←eq,e,d]at z;exact d7 z
   rw[sX (by lia),sX (by lia)]
 ·have b:¬q<=J.en:=λz=>by rw[sX (by lia),lW z]at e;exact fU e
  rw[sX (by lia),sX (by lia)]
theorem Wf.JS(W:Wf t){i j:Nat}{O L:Nd}(hi:t.ds[i]?=aa O)(Y:t.ds[j]?=aa L){li lj:List Nat}(V:Pth t i li)(U:Pth t j lj){q:Nat}(e:fo O q=fo L q):∀r,(∀x∈li++lj,fiN t x<=q\/q+r<fiN t x)->fo O (q+r)=fo L (q+r)
 |0,_=>e
 |r+1,hn=>W.Am hi Y V U (W.JS hi Y V U e r λx J=>by have:=hn x J;lia) λx J=>by have:=hn x J;lia
def Pth.Qw{i:Nat}{l:List Nat}(p:Pth t i l):0∈l:=by
 induction p with
 |zero=>simp|step _ _ _ J=>exact Vn _ J
def Wf.fi0(W:Wf t):fiN t 0=0:=by obtain⟨d,J⟩:=fj (l:=t.ds) (i:=0) (List.length_pos_iff.mpr W.l0);rw[kY J];exact((W.each 0 d J).zero rfl).1
theorem Wf.yp(W:Wf t){i j:Nat}{U O:Nd}(hi:t.ds[i]?=aa U)(Y:t.ds[j]?=aa O){li lj:List Nat}(L:Pth t i li)(V:Pth t j lj):∀q,(∀x∈li++lj,fiN t x<=q->fo U (fiN t x)=fo O (fiN t x))->fo U q=fo O q
 |0,h=>by have:=h 0 (List.mem_append.mpr (.inl L.Qw)) (by rw[W.fi0];exact Vo _);rw[W.fi0]at this;exact this
 |q+1,h=>by
  by_cases c:∃x∈li++lj,fiN t x=q+1
  ·obtain⟨x,J,e⟩:=c;have:=h x J (by lia);rw[e]at this;exact this
  exact W.Am hi Y L V (W.yp hi Y L V q λx J Z=>h x J (by lia)) λx J e=>c ⟨x,J,e⟩
inductive qX(di dj:Nd):Option Nat->Prop
 |no(h:∀m,fo di m=fo dj m):qX di dj af
 |at_(p:Nat)(h:fo di p≠fo dj p)(b:∀m,m<p->fo di m=fo dj m):qX di dj (aa p)
def Wf.first(W:Wf t){i j:Nat}{L J:Nd}(hi:t.ds[i]?=aa L)(d:t.ds[j]?=aa J)(Y:Pth t i li)(V:Pth t j lj){O:List Nat}(b:∀m,m∈O↔m∈(li++lj).map (fiN t))(a:O.Pairwise (· < ·)):qX L J (O.find? (dfr L J)):=by
 have Z:∀m,dfr L J m=ah↔fo L m≠fo J m:=λm=>by
  have:=Fx L J m;cases c:dfr L J m with
  |false=>simp[this.mp c]
  |true =>
   simp only[true_iff];intro z;rw[this.mpr z]at c;exact d7 c
 cases o:O.find? (dfr L J)with
 |none =>
  refine .no λm=>W.yp hi d Y V m λx U _=>?_;have:=List.find?_eq_none.mp o (fiN t x) ((b _).mpr (List.mem_map.mpr ⟨x,U,rfl⟩));rw[Z]at this;exact Classical.byContradiction this
 |some p =>
  have f:=List.find?_some o;refine .at_ p ((Z p).mp f) λm g=>W.yp hi d Y V m λx U k=>?_;have mem:=(b _).mpr (List.mem_map.mpr ⟨x,U,rfl⟩);have lt:fiN t x<p:=by lia
  obtain⟨_,l,bs,e,h⟩:=List.find?_eq_some_iff_append.mp o;rw[e]at mem a;rcases List.mem_append.mp mem with z|z
  ·have:=h _ z;have:dfr L J (fiN t x)=ak:=by simpa using this
   exact(Fx _ _ _).mp this
  ·rcases List.mem_cons.mp z with z|z
   lia
   ·have:=(List.pairwise_cons.mp (List.pairwise_append.mp a).2.1).1 _ z;lia
def qX.uniq{a b U O:Nd}{o o':Option Nat}(x:qX a b o)(y:qX U O o')(h:∀m,(fo a m=fo b m↔fo U m=fo O m)):o=o':=by
 cases x with
 |no L =>
  cases y with
  |no=>rfl|at_ p J _=>exact bO ((h p).mp (L p)) J
 |at_ p L W =>
  cases y with
  |no J=>exact bO ((h p).mpr (J p)) L
  |at_ q J V =>
   rcases ZQ p q with z|z|z
   exact bO ((h p).mpr (V p z)) L;rw[z];exact bO ((h q).mp (W q z)) J
end
noncomputable def Fy:S:=(.rai2 "NoMoment" (.v 1) (.v 2))
def qY:E:=(.aH (.v 4) "has" (cW (.v 5)))
def gw:Fn:=⟨["self","run","moment"],["self","run","moment","holder","branch","number"], (.seq (.ex (.aH (.v 0) "check_run" (cW (.v 1)))) (.seq (.set 3 (.aH (.v 0) "holder" (cV (.v 1) (.v 2)))) (.seq (.set 4 (.obi (.i (.v 0) "branches") (.v 3))) (.seq (.set 5 (.bin .sub (.v 2) (.aH (.v 0) "first" (cW (.v 3))))) (.seq (.v (.not qY) Fy .nil) .bad)))))⟩
section
variable{T TX:FK->Option Fn}{G:aA->Option W}{Pt:Pts}{h:HH}{n:Nat}{t:Tr}{ro rb:Nat}{bs:List Bx}
def yq{c:aA}{s0:St}(P:TpP c T G)(k:Nat){n r:Nat}{t:Tp}{h:HH}(a:TAt c h n r t)(m:Nat)(O:t.most<m):
 runN T G (k+9) (.m c "has") [.o n,.p (.int m)] h=aa (.p (.bl ak),h):=by
 rw[run_eq P.has rfl];have w:=iI P (k+7) m;have L:¬((m:Int)<0):=by lia
 have J:(t.most:Int)<(m:Int):=by lia
 simp[iw,w,L,a.ob,J,c6]
def kD(P:TrP T G)(W:Wf t)(A:iL Pt h n t ro rb bs)(k m:Nat){i:Nat}{d:Nd}(J:t.ds[i]?=aa d)(L:d.fi<=m):
 runN T G (k+2) (.m "Tree" "holder") [.o n,.p (.int i),.p (.int m)] h=aa (.p (.int i),h):=by
 have q:=uM P W A k (m:=m) J;rw[bQ (by lia)]at q;have e1:fz (aN (runN T G (k+1)) G hdC) (evS (runN T G (k+1)) G hdB) (99999+1) [aa (.o n),aa (.p (.int i)),aa (.p (.int m))] h=aa (.nx [aa (.o n),aa (.p (.int i)),aa (.p (.int m))] h):=by rw[fz,q,jr,nS]
 rw[run_eq P.holder rfl];simp[fO,turns,e1,c6]
def Fz(P:TrP T G)(W:Wf t)(A:iL Pt h n t ro rb bs)(k:Nat){i m:Nat}{d:Nd}(J:t.ds[i]?=aa d)(Z:d.en<m):
 ∃(b:Bx) (h1:HH),bs[i]?=aa b/\fJ Pt h1 n t ro rb ∧
  aN (runN T G (k+11)) G qY [aa (.o n),aa (.p (.int i)),aa (.p (.int m)),aa (.p (.int i)),aa (.o b.1),aa (.p (.int ((m-d.fi:Nat):Int)))] h=aa (.p (.bl ak),h1) ∧
  ∀ x:S,evS (runN T G (k+11)) G (.seq (.ex (.aH (.v 0) "check_run" (.cons (.v 1) .nil)))
   (.seq (.set 3 (.aH (.v 0) "holder" (.cons (.v 1) (.cons (.v 2) .nil))))
   (.seq (.set 4 (.obi (.i (.v 0) "branches") (.v 3)))
   (.seq (.set 5 (.bin .sub (.v 2) (.aH (.v 0) "first" (.cons (.v 3) .nil)))) x)))) [aa (.o n),aa (.p (.int i)),aa (.p (.int m)),af,af,af] h=evS (runN T G (k+11)) G x [aa (.o n),aa (.p (.int i)),aa (.p (.int m)),aa (.p (.int i)),aa (.o b.1),aa (.p (.int ((m - d.fi:Nat):Int)))] h:=by
 have Y:=dB J;have w:d.fi<=m:=by unfold Nd.en at Z;lia
 have e1:=kD P W A (k+9) m J w;have B:=fm P W A (k+9) Y;obtain⟨b,L⟩:=fj (l:=bs) (by rw[A.len];exact Y);obtain⟨U,q,tp,E⟩:=A.tp i b d L J;have y:=gT P W A (k+10) J;have s:d.e<m-d.fi:=by unfold Nd.en at Z;lia
 have V:∃h1,runN T G (k+11) (.m "Branch" "has") [.o b.1,.p (.int ((m-d.fi:Nat):Int))] h=aa (.p (.bl ak),h1)/\fJ Pt h1 n t ro rb:=by
  by_cases c:m-d.fi<=b.2.2.most
  ·obtain⟨h1,H,F,O,u,C,r,_⟩:=uJ P.tp (k+2) U q (m-d.fi) c;rw[bQ (by lia)]at O;exact⟨h1,O,_,A.step L J u C r⟩
  exact⟨h,yq (s0:=d.s0) P.tp (k+2) U (m-d.fi) (by lia),_,A⟩
 obtain⟨h1,O,D⟩:=V;have z:(m:Int)-(d.fi:Int)=((m-d.fi:Nat):Int):=by lia
 have ix:=uN A L;refine⟨b,h1,L,D,?_,λx=>?_⟩;simp[qY,U.ob,Fc,O]
 ·have j:evS (runN T G (k+11)) G (.ex (.aH (.v 0) "check_run" (.cons (.v 1) .nil))) [aa (.o n),aa (.p (.int i)),aa (.p (.int m)),af,af,af] h=aa (.nx [aa (.o n),aa (.p (.int i)),aa (.p (.int m)),af,af,af] h):=by simp[A.ob,B]
  have g:aN (runN T G (k+11)) G (.aH (.v 0) "holder" (.cons (.v 1) (.cons (.v 2) .nil))) [aa (.o n),aa (.p (.int i)),aa (.p (.int m)),af,af,af] h=aa (.p (.int i),h):=by simp[A.ob,e1]
  have f:aN (runN T G (k+11)) G (.obi (.i (.v 0) "branches") (.v 3)) [aa (.o n),aa (.p (.int i)),aa (.p (.int m)),aa (.p (.int i)),af,af] h=aa (.o b.1,h):=by simp[-atP,A.ob,A.br,ix]
  have a:aN (runN T G (k+11)) G (.bin .sub (.v 2) (.aH (.v 0) "first" (.cons (.v 3) .nil))) [aa (.o n),aa (.p (.int i)),aa (.p (.int m)),aa (.p (.int i)),aa (.o b.1),af] h=aa (.p (.int ((m-d.fi:Nat):Int)),h):=by simp[A.ob,y,rd,z]
  exact(kU j).trans ((fC g).trans ((fC f).trans (fC a)))
def IM(P:TrP T G)(W:Wf t)(A:iL Pt h n t ro rb bs)(k:Nat){i m:Nat}{d:Nd}(L:t.ds[i]?=aa d)(J:d.en<m):
 runN T G (k+12) (.m "Tree" "at") [.o n,.p (.int i),.p (.int m)] h=af:=by
 obtain⟨b,U,O,V,e1,e2⟩:=Fz P W A k L J;rw[run_eq P.at_ rfl];have:=e2 (.seq (.v (.not qY) .bad .nil) (.ret (.aH (.v 4) "at" (.cons (.v 5) .nil))));show i8 (evS (runN T G (k+11)) G (.seq _ _) [aa (.o n),aa (.p (.int i)),aa (.p (.int m)),af,af,af] h) (fin h)=af;refine(bU (λx=>i8 x (fin h)) this).trans ?_;simp[e1]
def FA{F:FK->List W->HH->Option (W×HH)}{R:XF}{D:aA->Bool}{a b:S}{s s':Sl}{h g:HH}(e:evS F G a s h=aa (.nx s' g)):rsS F R D G (.seq a b) s h=rsS F R D G b s' g:=by rw[xs2,e]
def yr{F:FK->List W->HH->Option (W×HH)}{R:XF}{D:aA->Bool}{e:E}{b:S}{i:Nat}{s:Sl}{h g:HH}{w:W}(e1:aN F G e s h=aa (w,g)):rsS F R D G (.seq (.set i e) b) s h=rsS F R D G b (s.set i (aa w)) g:=FA (by simp[e1])
def FD(P:TrP T G)(l:TX (.m "Tree" "at")=aa gw)(W:Wf t)(A:iL Pt h n t ro rb bs)(k:Nat){i m:Nat}{d:Nd}(J:t.ds[i]?=aa d)(O:d.en<m)(E:m<=1000):
 ∃h1,gP T TX G (k+12) (.m "Tree" "at") [.o n,.p (.int i),.p (.int m)] h=aa (Vu "NoMoment",h1)/\fJ Pt h1 n t ro rb:=by
 have j:=dB J;have l1:=W.l1;have q:d.fi<=m:=by unfold Nd.en at O;lia
 have e1:=kD P W A (k+9) m J q;have u:=fm P W A (k+9) j;obtain⟨b,h1,L,y,e2,_⟩:=Fz P W A k J O;obtain⟨C,B,tp,z⟩:=A.tp i b d L J;have r:=gT P W A (k+10) J;have s:(m:Int)-(d.fi:Int)=((m-d.fi:Nat):Int):=by lia
 have ix:=uN A L;refine⟨h1,?_,y⟩;rw[HL l rfl];show rsS (runN T G (k+11)) (gP T TX G (k+11)) (dk T) G (.seq _ _) [aa (.o n),aa (.p (.int i)),aa (.p (.int m)),af,af,af] h=_;have f:evS (runN T G (k+11)) G (.ex (.aH (.v 0) "check_run" (.cons (.v 1) .nil))) [aa (.o n),aa (.p (.int i)),aa (.p (.int m)),af,af,af] h=aa (.nx [aa (.o n),aa (.p (.int i)),aa (.p (.int m)),af,af,af] h):=by simp[A.ob,u]
 have e:aN (runN T G (k+11)) G (.aH (.v 0) "holder" (.cons (.v 1) (.cons (.v 2) .nil))) [aa (.o n),aa (.p (.int i)),aa (.p (.int m)),af,af,af] h=aa (.p (.int i),h):=by simp[A.ob,e1]
 have c:aN (runN T G (k+11)) G (.obi (.i (.v 0) "branches") (.v 3)) [aa (.o n),aa (.p (.int i)),aa (.p (.int m)),aa (.p (.int i)),af,af] h=aa (.o b.1,h):=by simp[-atP,A.ob,A.br,ix]
 have Z:aN (runN T G (k+11)) G (.bin .sub (.v 2) (.aH (.v 0) "first" (.cons (.v 3) .nil))) [aa (.o n),aa (.p (.int i)),aa (.p (.int m)),aa (.p (.int i)),aa (.o b.1),af] h=aa (.p (.int ((m-d.fi:Nat):Int)),h):=by simp[A.ob,r,rd,s]
 have x:big (i:Int)=ah:=by unfold big;exact bR (by lia)
 have w:big (m:Int)=ah:=by unfold big;exact bR (by lia)
 have Y:aN (runN T G (k+11)) G (.not qY) [aa (.o n),aa (.p (.int i)),aa (.p (.int m)),aa (.p (.int i)),aa (.o b.1),aa (.p (.int ((m-d.fi:Nat):Int)))] h=aa (.p (.bl ah),h1):=by simp[e2]
 have V:rsS (runN T G (k+11)) (gP T TX G (k+11)) (dk T) G (.v (.not qY) Fy .nil) [aa (.o n),aa (.p (.int i)),aa (.p (.int m)),aa (.p (.int i)),aa (.o b.1),aa (.p (.int ((m-d.fi:Nat):Int)))] h=aa (Vu "NoMoment",h1):=by have g:∀a b,rsI (aa (aP.p (D.bl ah),h1)) a b=a h1:=λ_ _=>rfl;rw[xs3,Y,g];unfold Fy;rw[xsR];simp[x,w]
 rw[FA f,yr e];show rsS _ _ _ G (.seq (.set 4 _) _) [aa (.o n),aa (.p (.int i)),aa (.p (.int m)),aa (.p (.int i)),af,af] h=_;rw[yr c];show rsS _ _ _ G (.seq (.set 5 _) _) [aa (.o n),aa (.p (.int i)),aa (.p (.int m)),aa (.p (.int i)),aa (.o b.1),af] h=_;rw[yr Z];show rsS _ _ _ G (.seq _ .bad) [aa (.o n),aa (.p (.int i)),aa (.p (.int m)),aa (.p (.int i)),aa (.o b.1),aa (.p (.int ((m-d.fi:Nat):Int)))] h=_;have U:evS (runN T G (k+11)) G (.v (.not qY) Fy .nil) [aa (.o n),aa (.p (.int i)),aa (.p (.int m)),aa (.p (.int i)),aa (.o b.1),aa (.p (.int ((m-d.fi:Nat):Int)))] h=af:=by simp[e2,Fy]
 rw[xs2,U];exact V
def yt(P:TrP T G)(q:TX (.m "Tree" "at")=aa gw)(a:Wf t)(k:Nat){F:FK->List W->HH->Option (W×HH)}(r:F (.m "Tree" "found")=BS.oJ (runN T G (k+12)) (gP T TX G (k+12)) (dk T) G dJ "NoMoment"):Fnd Pt F n t ro rb (λm _=>m<=1000):=by
 intro i d m g O l ⟨bs,A⟩;rw[r]
 by_cases c:m<=d.en
 ·obtain⟨J,Z,b⟩:=uO P a A k O c;obtain⟨U,Y,V⟩:=kh g (d.f m).enc J;refine⟨U,?_,?_⟩
  ·have x:aN (runN T G (k+12)) G (.aH (.v 0) "at" (.cons (.v 1) (.cons (.v 2) .nil))) [aa (.o n),aa (.p (.int i)),aa (.p (.int m))] g=aa (.p (d.f m).enc,J):=by simp[A.ob,Z]
   have L:evS (runN T G (k+12)) G dJ.body (d8 dJ.ns.length [.o n,.p (.int i),.p (.int m)]) g=aa (.rt (.p (d.f m).enc) J):=kW x;unfold BS.oJ;rw[bM (show [W.o n,W.p (D.int (i:Int)),W.p (D.int (m:Int))].length=dJ.ps.length from rfl),L];unfold fnd;rw[bM c];exact Y
  ·rcases V with z|z
   rw[z];exact b;rw[z];exact⟨_,A⟩
 ·have h:=IM P a A k O (m:=m) (by lia);obtain⟨J,Z,b⟩:=FD P q a A k O (m:=m) (by lia) l;obtain⟨U,Y,V⟩:=kh g .aF J;refine⟨U,?_,?_⟩
  ·have x:aN (runN T G (k+12)) G (.aH (.v 0) "at" (.cons (.v 1) (.cons (.v 2) .nil))) [aa (.o n),aa (.p (.int i)),aa (.p (.int m))] g=af:=by simp[A.ob,h]
   have L:evS (runN T G (k+12)) G dJ.body (d8 dJ.ns.length [.o n,.p (.int i),.p (.int m)]) g=af:=by show evS (runN T G (k+12)) G (.ret _) [aa (.o n),aa (.p (.int i)),aa (.p (.int m))] g=af;generalize E.aH _ _ _=e at x;simp[x]
   have j:rsS (runN T G (k+12)) (gP T TX G (k+12)) (dk T) G dJ.body (d8 dJ.ns.length [.o n,.p (.int i),.p (.int m)]) g=aa (Vu "NoMoment",J):=by show rsS _ _ _ G (.ret _) [aa (.o n),aa (.p (.int i)),aa (.p (.int m))] g=_;rw[xs5,xe1];simp[rsM,A.ob,Z]
   unfold BS.oJ;rw[bM (show [W.o n,W.p (D.int (i:Int)),W.p (D.int (m:Int))].length=dJ.ps.length from rfl),L];show(match rsS _ _ _ G _ _ g with|some (c,h')=>if c=Vu "NoMoment" then fin g (.p .aF) h' else af|none=>af)=_;rw[j];show(if(Vu "NoMoment")=Vu "NoMoment" then fin g (.p .aF) J else af)=_;rw[bM rfl,Y];unfold fnd;rw[bN c]
  ·rcases V with z|z
   rw[z];exact b;rw[z];exact⟨_,A⟩
end
section
variable{T:FK->Option Fn}{G:aA->Option W}{Pt:Pts}{n:Nat}{ro rb:Nat}{t:Tr}
def eV{F:FK->List W->HH->Option (W×HH)}{o:Cm}{a b:E}{s:Sl}{h g:HH}{x y:D}{v:Bool}(h1:aN F G a s h=aa (.p x,g))(h2:aN F G b s g=aa (.p y,g2))(hc:gR o x y=aa v):aN F G (.z o a b) s h=aa (.p (.bl v),g2):=by simp[h1,h2,rd,hc]
def An{a x:Nat}(h:rs[a]?=aa x):dZ (.aD (cY rs)) (.int (a:Int))=aa (.int (x:Int)):=by rw[dP,j6,cY,VF,h];rfl
end
def JT(a b:Nat):eqv (.int (a:Int)) (.int (b:Int))=decide (a=b):=by
 by_cases z:a=b
 subst z;rw[iZ];simp
 ·have:¬(a:Int)=(b:Int):=by lia
  simp[z,this]
def MN(x:Nat)(ks:List Nat):(cY ks).any (λy=>eqv y (.int (x:Int)))=decide (x∈ks):=by
 unfold cY;rw[List.any_map]
 by_cases z:x∈ks
 ·rw[bR z];exact List.any_eq_true.mpr ⟨x,z,by show eqv _ _=ah;rw[JT];simp⟩
 ·rw[bQ z];refine List.any_eq_false.mpr λy J=>?_;show ¬eqv _ _=ah;rw[JT];intro e;exact z (by rw[←bS e];exact J)
def Qx(x:Nat)(ks:List Nat):((cY ks).all λy=>fk y (.int (x:Int)))=ah:=List.all_eq_true.mpr λy _=>iP (o7 _ _)
def JU(x:Nat)(ks:List Nat):gR .nmem (.int (x:Int)) (.aD (cY ks))=aa (!decide (x∈ks)):=by rw[g7,bM (Qx x ks),MN]
section
variable{T:FK->Option Fn}{G:aA->Option W}{Pt:Pts}{n:Nat}{ro rb:Nat}{t:Tr}
def sY{F:FK->List W->HH->Option (W×HH)}{a b:E}{s:Sl}{h g:HH}{v:Bool}(h1:aN F G a s h=aa (.p (.bl ak),g))(h2:aN F G b s g=aa (.p (.bl v),g2)):aN F G (.or a b) s h=aa (.p (.bl v),g2):=by simp[h1,h2]
def yu{F:FK->List W->HH->Option (W×HH)}{a b:E}{s:Sl}{h g:HH}(h1:aN F G a s h=aa (.p (.bl ak),g)):aN F G (.and a b) s h=aa (.p (.bl ak),g):=by simp[h1]
def uS{F:FK->List W->HH->Option (W×HH)}{a b:E}{s:Sl}{h g:HH}{v:Bool}(h1:aN F G a s h=aa (.p (.bl ah),g))(h2:aN F G b s g=aa (.p (.bl v),g2)):aN F G (.and a b) s h=aa (.p (.bl v),g2):=by simp[h1,h2]
def pJ{F:FK->List W->HH->Option (W×HH)}{a b:E}{s:Sl}{h g:HH}{x y z:D}(h1:aN F G a s h=aa (.p x,g))(h2:aN F G b s g=aa (.p y,g2))(hc:dZ x y=aa z):aN F G (.y a b) s h=aa (.p z,g2):=by simp[-dP,-jL,h1,h2,rd,hc]
end
section
variable{t:Tr}
def Pth.gt(W:Wf t){i:Nat}{l:List Nat}(a:Pth t i l):l.Pairwise (λx y=>y<x)/\∀x∈l,x<=i:=by
 induction a with
 |zero=>exact⟨by simp,by simp⟩
 |step O U r J =>
  obtain⟨q,V,Y,_⟩:=(W.each _ _ O).par U;refine⟨List.pairwise_cons.mpr ⟨λx L=>by have:=J.2 x L;lia,J.1⟩,λx L=>?_⟩;rcases List.mem_cons.mp L with z|z
  lia;have:=J.2 x z;lia
def Pth.nd(W:Wf t){i:Nat}{l:List Nat}(a:Pth t i l):l.Nodup:=(a.gt W).1.imp λh=>by lia
inductive Lca(t:Tr)(li lj:List Nat):Prop
 |mk(J L:List Nat)(c:Nat)(C:List Nat)(h1:li=J++C)(h2:lj=L++C)(O:Pth t c C)(U:∀x∈J,x∉lj)(V:∀x∈L,x∉li):Lca t li lj
def Lca.symm(x:Lca t li lj):Lca t lj li:=by obtain⟨Y,W,c,C,O,L,J,V,U⟩:=x;exact⟨W,Y,c,C,L,O,J,U,V⟩
def Wf.lca(W:Wf t):∀(n i j:Nat)(li lj:List Nat),i+j<=n->Pth t i li->Pth t j lj->Lca t li lj:=by
 have V:∀(i j:Nat)(li lj:List Nat),j<i->Pth t i li->Pth t j lj->(∀Z L,Z<i->Pth t Z L->Lca t L lj)->Lca t li lj:=λi j li lj m O J Y=>by
  cases O with
  |zero=>lia
  |step s v r =>
   rename_i d l;obtain⟨q,D,u,_⟩:=(W.each _ _ s).par v;obtain⟨B,A,c,C,e1,e2,g,y,w⟩:=Y d.par l u r;have U:i∉lj:=λz=>by have:=(J.gt W).2 i z;lia
   refine⟨i::B,A,c,C,by rw[e1];rfl,e2,g,λx a=>?_,λx a k=>?_⟩
   ·rcases List.mem_cons.mp a with z|z
    rw[z];exact U;exact y x z
   ·rcases List.mem_cons.mp k with z|z
    exact U (by rw[←z,e2];exact List.mem_append.mpr (.inl a));exact w x a z
 intro n
 induction n with
 |zero =>
  intro i j li lj hn O J;have:i=j:=by lia
  subst this;rw[O.inj J];exact⟨[],[],i,lj,rfl,rfl,J,by simp,by simp⟩
 |succ n Y =>
  intro i j li lj hn O J;rcases ZQ i j with z|z|z
  exact(V j i lj li z J O λh f o b=>(Y i h li f (by lia) O b).symm).symm
  ·subst z;rw[O.inj J];exact⟨[],[],i,lj,rfl,rfl,J,by simp,by simp⟩
  exact V i j li lj z O J λZ L p e=>Y Z j L lj (by lia) e J
def Pth.inv{i x:Nat}{l:List Nat}(p:Pth t i (x::l))(J:l≠[]):∃d,t.ds[i]?=aa d/\0<i/\Pth t d.par l:=by
 generalize e:x::l=l0 at p;cases p with
 |zero=>exact bO (aad e).2 J|step L O r=>rw[(aad e).2];exact⟨_,L,O,r⟩
theorem Wf.up(W:Wf t){c:Nat}{C:List Nat}(O:Pth t c C){V:Nd}(hc:t.ds[c]?=aa V){m:Nat}:∀(L:List Nat)(i:Nat)(d:Nd),Pth t i (L++C)->t.ds[i]?=aa d->(∀x∈L,m<fiN t x)->d.f m=V.f m
 |[],i,d,p,hd,_=>by obtain⟨Z,e⟩:=O.head;obtain⟨Y,e2⟩:=(show Pth t i C from p).head;rw[e]at e2;cases e2;rw[hd]at hc;cases hc;rfl
 |a::L,i,d,p,hd,h=>by
  obtain⟨Y,e2⟩:=p.head;have l:a=i:=by rw[Z1]at e2;exact(aad e2).1
  obtain⟨s,J,k,r⟩:=(show Pth t i (a::(L++C)) from p).inv (λz=>by obtain⟨Z,e⟩:=O.head;rw[e]at z;simp at z)
  rw[hd]at J;cases J;obtain⟨q,g,o,n,j⟩:=(W.each _ _ hd).par k;have U:=h i (by rw[l];exact Vt ..);rw[kY hd]at U;rw[j m U];exact W.up O hc L d.par q r g λx b=>h x (Vn _ b)
theorem nK:∀(l:List Nat)(a:Nat),l.foldl min a<=a/\∀x∈l,l.foldl min a<=x
 |[],a=>⟨Vo _,by simp⟩
 |y::l,a=>by
  obtain⟨O,L⟩:=nK l (min a y);rw[WU];refine⟨by lia,λx J=>?_⟩;rcases List.mem_cons.mp J with z|z
  subst z;lia;exact L x z
def sZ{a b r:Nat}(J:r∈rs)(hc:rs.count r=1):shN t rs a b<=fiN t r :=
 (nK _ _).2 _ (List.mem_map.mpr ⟨r,List.mem_filter.mpr ⟨J,bR hc⟩,rfl⟩)
def Wf.shared(W:Wf t){i j:Nat}{L J:Nd}(hi:t.ds[i]?=aa L)(o:t.ds[j]?=aa J)(U:Pth t i li)(V:Pth t j lj){m:Nat}(y:m<shN t (li.reverse++lj.reverse) L.en J.en):fo L m=fo J m:=by
 obtain⟨k,h,c,C,Z,g,Y,q,p⟩:=W.lca (i+j) i j li lj (Vo _) U V;have v:=Fq t (li.reverse++lj.reverse) L.en J.en;have n:=U.nd W;have l:=V.nd W;have u:∀x∈k,m<fiN t x:=λx O=>by
  have f:x∈li:=by rw[Z];exact List.mem_append.mpr (.inl O)
  have:=sZ (t:=t) (rs:=li.reverse++lj.reverse) (a:=L.en) (b:=J.en) (r:=x) (by simp[f]) (by rw[YC,WN,WN,List.count_eq_zero.mpr (q x O),n.count,bM f]);lia
 have s:∀x∈h,m<fiN t x:=λx O=>by
  have d:x∈lj:=by rw[g];exact List.mem_append.mpr (.inl O)
  have:=sZ (t:=t) (rs:=li.reverse++lj.reverse) (a:=L.en) (b:=J.en) (r:=x) (by simp[d]) (by rw[YC,WN,WN,List.count_eq_zero.mpr (p x O),l.count,bM d]);lia
 have cl:c<t.ds.length:=by obtain⟨w,e⟩:=Y.head;exact U.mem W (dB hi) c (by rw[Z,e];simp)
 obtain⟨z,hc⟩:=fj cl;rw[lW (by lia),lW (by lia),W.up Y hc k i L (by rw[←Z];exact U) hi u,W.up Y hc h j J (by rw[←g];exact V) o s]
def filter_none{l:List Nat}{p:Nat->Bool}(h:∀x∈l,p x=ak):l.filter p=[]:=List.filter_eq_nil_iff.mpr λx J=>by rw[h x J];decide
def FE(W:Wf t){i:Nat}(L:Pth t i li)(e:Nat):shN t (li.reverse++li.reverse) e e=e+1:=by
 have:alone t (li.reverse++li.reverse)=[]:=by
  unfold alone;rw[filter_none λx O=>?_];rfl
  ·have J:x∈li:=by simpa using O
   rw[YC,WN,(L.nd W).count,bM J];rfl
 unfold shN;rw[this];show min (e+1) (e+1)=e+1;lia
def IP(W:Wf t){i:Nat}{d q:Nd}{l:List Nat}(U:t.ds[i]?=aa d)(Y:0<i)(b:t.ds[d.par]?=aa q)(pl:Pth t d.par l):shN t ((i::l).reverse++l.reverse) d.en q.en=d.fi:=by
 have Z:Pth t i (i::l):=.step U Y pl;have nd:=Z.nd W;have O:i∉l:=(List.nodup_cons.mp nd).1;have a:=(List.nodup_cons.mp nd).2;have V:((i::l).reverse++l.reverse).filter (λr=>decide (((i::l).reverse++l.reverse).count r=1))=[i]:=by
  have ct:∀x,((i::l).reverse++l.reverse).count x=(i::l).count x+l.count x:=λx=>by rw[YC,WN,WN]
  have two:∀x∈l,(λr=>decide (((i::l).reverse++l.reverse).count r=1)) x=ak:=λx L=>by show decide (_=1)=ak;rw[ct,nd.count,a.count,bM (Vn _ L),bM L];rfl
  have one:(λr=>decide (((i::l).reverse++l.reverse).count r=1)) i=ah:=by show decide (_=1)=ah;rw[ct,nd.count,bM (Vt ..),List.count_eq_zero.mpr O];rfl
  generalize (λr=>decide (((i::l).reverse++l.reverse).count r=1))=p at two one⊢;rw[ZF,abN,abN,filter_none (λx L=>two x (by simpa using L)),ZZ,bM one];rfl
 obtain⟨c,J,f,e,_⟩:=(W.each _ _ U).par Y;rw[b]at J;cases J;unfold shN alone;rw[V];show min (min (d.en+1) (q.en+1)) (fiN t i)=d.fi;rw[kY U];have:d.fi<=d.en:=by unfold Nd.en;lia
 lia
end
def k8(d:Nd)(q:Nat):(ko d)[q]?=fo d q:=by
 unfold fo
 by_cases c:q<=d.en
 rw[bM c];exact Ft d c;rw[bN c];exact Vs (by rw[uQ];lia)
def Ao{a b:Nd}{m:Nat}(h:∀q,q<m->fo a q=fo b q):(ko a).take m=(ko b).take m:=by
 refine YB λq=>?_
 by_cases c:q<m
 rw[Wu c,Wu c,k8,k8];exact h q c;rw[Vs (by rw[Xq];lia),Vs (by rw[Xq];lia)]
def IQ{a b:Nd}{m:Nat}(h:∀r,fo a (m+r)=fo b (m+r)):(ko a).drop m=(ko b).drop m:=by refine YB λq=>?_;rw[abM,abM,k8,k8];exact h q
def IR{a b:Nd}(h:∀q,fo a q=fo b q):ko a=ko b:=YB λq=>by rw[k8,k8];exact h q
theorem wR:∀(L M:List St),kH (L.map St.enc) (M.map St.enc)=ah->L=M
 |[],[],_=>rfl
 |[],_::_,h=>by simp[kH]at h
 |_::_,[],h=>by simp[kH]at h
 |a::L,b::M,h=>by simp only[VA,kH,Vg]at h;rw[uG h.1,wR L M h.2]
def wU(a b:Nd):eqv (gk a) (gk b)=ah↔∀q,fo a q=fo b q:=by
 constructor
 ·intro h q;have:ko a=ko b:=wR _ _ (by simpa [gk,eqv]using h);rw[←k8,←k8,this]
 ·intro h;unfold gk;rw[IR h];exact iZ _
def wV(n d m:Nat):clip n d (aa (m:Int))=min m n:=by
 have:¬((m:Int)<0):=by lia
 simp[clip,this];split<;>lia
def MO(xs:List D)(m:Nat):cut xs af (aa (m:Int))=xs.take m:=by unfold cut;rw[wV];show(xs.drop 0).take (min m xs.length-0)=_;rw[Ys,Nat.sub_zero,List.take_eq_take_iff];lia
def FF(xs:List D)(m:Nat):cut xs (aa (m:Int)) af=xs.drop m:=by
 unfold cut;rw[wV];show(xs.drop (min m xs.length)).take (xs.length-min m xs.length)=_;rw[aa1 (by rw[ZV];lia)];rcases Nat.le_total m xs.length with z|z
 rw[Nat.min_eq_left z];rw[Nat.min_eq_right z,XZ,List.drop_eq_nil_iff.mpr z]
def uT(d:Nd)(m:Nat):oO (gk d) af (aa (m:Int))=aa (.aD (((ko d).take m).map St.enc)):=by unfold gk;rw[qe,MO,List.map_take]
def FG(d:Nd)(m:Nat):oO (gk d) (aa (m:Int)) af=aa (.aD (((ko d).drop m).map St.enc)):=by unfold gk;rw[qe,FF,List.map_drop]
section
variable{G:aA->Option W}{F:FK->List W->HH->Option (W×HH)}{s:Sl}{h g:HH}
def vr{i:Nat}{w:W}(h1:s[i]?=aa (aa w)):aN F G (.v i) s h=aa (w,h):=by simp[h1]
def Aq{a b:E}{x y:D}{m:Int}(L:aN F G a s h=aa (.p x,h))(J:aN F G b s h=aa (.p (.int m),h))(hc:oO x af (aa m)=aa y):aN F G (.n a .nil (.cons b .nil)) s h=aa (.p y,h):=by simp[-qe,-tQ,L,J,rd,hc]
def wW{a b:E}{x y:D}{m:Int}(L:aN F G a s h=aa (.p x,h))(J:aN F G b s h=aa (.p (.int m),h))(hc:oO x (aa m) af=aa y):aN F G (.n a (.cons b .nil) .nil) s h=aa (.p y,h):=by simp[-qe,-tQ,L,J,rd,hc]
def Qz{e:E}{ds:List D}{tg:List (Nat×aA)}{b:S}(J:aN F G e s h=aa (.p (.aD ds),g)):evS F G (.for tg .seq (.cons e .nil) b) s h=fc (evS F G b) tg ds s g:=by have L:iB [W.p (D.aD ds)]=ah:=rfl;simp[J,rd,rds,L]
def MP{a b:E}{x y:Nat}{tg:List (Nat×aA)}{c:S}(O:aN F G a s h=aa (.p (.int x),h))(L:aN F G b s h=aa (.p (.int y),h))(Y:x<=1000)(V:y<=1000):evS F G (.for tg .rng2 (.cons a (.cons b .nil)) c) s h=fc (evS F G c) tg (upto (x:Int) (y-x)) s h:=by
 have J:gy .rng2 [.int (x:Int),.int (y:Int)]=aa (upto (x:Int) (y-x)):=by
  rw[jB];have c:((-100000<=(x:Int):Bool)&&((x:Int)<=100000:Bool)&&((-100000<=(y:Int):Bool))&&(((y:Int)<=100000:Bool)))=ah:=by simp only[Vg,bP];lia
  rw[bM c];congr 2;lia
 have U:iB [W.p (D.int (x:Int)),W.p (D.int (y:Int))]=ah:=rfl;simp[-jB,O,L,rd,rds,J,U]
end
def IS:E:=(.z .lt (.v 5) (.bi .len ak (cW (.v 4))))
def IT:S:=(.seq (.set 4 (.bin .add (.v 4) (.aH (.v 3) "children" (cW (.y (.v 4) (.v 5)))))) (.set 5 (.bin .add (.v 5) (.j (.int 1)))))
def MQ:E:=(.y (.v 4) (.call "_law_drawn" (cU (.v 0) (.j (.int 700)) (.bi .len ak (cW (.v 4))))))
def MR:E:=(.y (.v 4) (.call "_law_drawn" (cU (.v 0) (.j (.int 701)) (.bi .len ak (cW (.v 4))))))
def QA:E:=(.or (.z .ne (.z .isN (.v 10) (.j .aF)) (.z .eq (.v 8) (.v 9))) (.or (.z .ne (.aH (.v 3) "apart" (cV (.v 7) (.v 6))) (.v 10)) (.z .notN (.aH (.v 3) "apart" (cV (.v 6) (.v 6))) (.j .aF))))
def QB:E:=(.or (.z .ne (.n (.v 8) .nil (cW (.v 11))) (.n (.v 9) .nil (cW (.v 11)))) (.and (.z .notN (.v 10) (.j .aF)) (.or (.z .lt (.v 10) (.v 11)) (.z .ne (.n (.v 8) .nil (cW (.v 10))) (.n (.v 9) .nil (cW (.v 10)))))))
def QC:E:=(.z .ne (.aH (.v 3) "shared" (cV (.v 6) (.v 6))) (.bi .len ak (cW (.v 8))))
def QD:E:=(.or (.z .ne (.aH (.v 3) "shared" (cV (.v 12) (.v 13))) (.v 14)) (.or (.z .nmem (.v 13) (.aH (.v 3) "path" (cW (.v 6)))) (.z .nmem (.v 12) (.aH (.v 3) "children" (cW (.v 13))))))
def yv:S:=(.seq (.unp [(13,"_law_older"),(14,"_law_moment")] (.aH (.v 3) "parent" (cW (.v 12)))) (.v QD (.ret (.j (.bl ak))) .nil))
def T8:E:=(.n (.aH (.v 3) "path" (cW (.v 6))) (cW (.j (.int 1))) .nil)
def MS:E:=(.y (.aH (.v 1) "parent" (cW (.v 0))) (.j (.int 1)))
def QE:E:=(.comp ak .seq (cW (.bin .add (.n (.aH (.v 3) "path" (cW (.v 6))) (cW (.j (.int 1))) .nil) (.n (.aH (.v 3) "path" (cW (.v 7))) (cW (.j (.int 1))) .nil))) ["_law_run"] [(3,"_law_tree_here")] .nil MS)
def T9:E:=(.and (.z .eq (.y (.v 8) (.v 15)) (.y (.v 9) (.v 15))) (.and (.z .ge (.v 15) (.bi .max1 ak (cW (.bin .add (.v 16) (.aD ak (cW (.j (.int 0)))))))) (.z .ne (.n (.v 8) (cW (.v 15)) .nil) (.n (.v 9) (cW (.v 15)) .nil))))
def yw:S:=(.seq (.set 16 QE) (.v T9 (.ret (.j (.bl ak))) .nil))
def MT:E:=(.bi .min2 ak (cV (.bi .len ak (cW (.v 8))) (.bi .len ak (cW (.v 9)))))
def QF:E:=(.and (.z .isN (.aH (.v 3) "parent" (cW (.y (.aH (.v 3) "path" (cW (.v 6))) (.j (.int 0))))) (.j .aF)) (.z .eq (.y (.aH (.v 3) "path" (cW (.v 6))) (.neg (.j (.int 1)))) (.v 6)))
def iz:Fn:=⟨["_law_script"],["_law_script","_law_program_here","_law_asked_here","_law_tree_here","_law_runs","_law_at","_law_one","_law_other","_law_mine","_law_yours","_law_place","_law_shared","_law_run","_law_older","_law_moment","_law_k","_law_last"], (.seq (.set 1 (.call "_law_program" (cV (.v 0) (.j (.int 20))))) (.seq (.set 2 (.call "_law_asked" (cV (.v 0) (.j (.int 450))))) (.seq (.set 3 (.call "_law_tree" (cS (.v 0) (.j (.int 600)) (.v 1) (.v 2) (.call "_law_drawn" (cU (.v 0) (.j (.int 440)) (.j (.int 17))))))) (.seq (.set 4 (.aD ak (cW (.j (.int 0))))) (.seq (.set 5 (.j (.int 0))) (.seq (.j IS IT) (.seq (.set 6 MQ) (.seq (.set 7 MR) (.seq (.set 8 (.call "_law_all" (cV (.v 3) (.v 6)))) (.seq (.set 9 (.call "_law_all" (cV (.v 3) (.v 7)))) (.seq (.set 10 (.aH (.v 3) "apart" (cV (.v 6) (.v 7)))) (.seq (.v QA (.ret (.j (.bl ak))) .nil) (.seq (.set 11 (.aH (.v 3) "shared" (cV (.v 6) (.v 7)))) (.seq (.v QB (.ret (.j (.bl ak))) .nil) (.seq (.v QC (.ret (.j (.bl ak))) .nil) (.seq (.for [(12,"_law_run")] .seq (cW T8) yv) (.seq (.for [(15,"_law_k")] .rng2 (cV (.v 11) MT) yw) (.ret QF))))))))))))))))))⟩
structure nL(T TX:FK->Option Fn):Prop where
 lt:LwT T
 program:T "_law_program"=aa fM
 q:TrQ T
 s:TrS T
 x:TX (.m "Tree" "at")=aa gw
def fR(T TX:FK->Option Fn)(G:aA->Option W)(k:Nat):List W->HH->Option (W×HH):=BS.oJ (runN T G (k+12)) (gP T TX G (k+12)) (dk T) G dJ "NoMoment"
def aR(T TX:FK->Option Fn)(G:aA->Option W)(k:Nat):List W->HH->Option (W×HH):=BS.rK (BS.jG "Tree" "found" (fR T TX G k) (runN T G (k+13))) G gY
structure F63(T TX:FK->Option Fn)(G:aA->Option W)(k:Nat)(F:FK->List W->HH->Option (W×HH)):Prop where
 fn:∀x:aA,F (.f x)=runN T G (k+14) (.f x)
 me:∀m:aA,¬m="apart"->F (.m "Tree" m)=runN T G (k+14) (.m "Tree" m)
 ap:F (.m "Tree" "apart")=aR T TX G k
def MU(o:Option Nat):kr (apD o)=o.isNone:=by cases o<;>rfl
def MV(o:Option Nat):dok 100 (apD o)=ah:=by cases o<;>rfl
def qX.row{L J:Nd}{o:Option Nat}(x:qX L J o):eqv (gk L) (gk J)=o.isNone:=by
 cases x with
 |no h=>exact(wU L J).mpr h
 |at_ p h _ =>
  cases c:eqv (gk L) (gk J)with
  |false=>rfl|true=>exact bO ((wU L J).mp c p) h
def Pth.IU{t:Tr}{i:Nat}{l:List Nat}(p:Pth t i l):∀x∈l,0<x->∀d,t.ds[x]?=aa d->d.par∈l:=by
 induction p with
 |zero=>intro x O W;simp at O;lia
 |step V W r U =>
  intro x O L Y J;rcases List.mem_cons.mp O with z|z
  ·subst z;rw[V]at J;cases J;obtain⟨Z,e⟩:=r.head;rw[e];simp
  exact Vn _ (U x z L Y J)
def Pth.rev{t:Tr}{i:Nat}{l:List Nat}(W:Wf t)(p:Pth t i l):∃r,l.reverse=0::r/\(∀x∈r,x∈l/\0<x)/\∀x∈l,x=0\/x∈r:=by
 have aD:=p.last;have gt:=(p.gt W).1;rw[←List.head?_reverse]at aD;cases e:l.reverse with
 |nil=>rw[e]at aD;exact fU aD
 |cons a r =>
  rw[e]at aD;have:a=0:=by simpa using aD
  subst this;have L:(0::r).Pairwise (· < ·):=by rw[←e];exact List.pairwise_reverse.mpr gt
  refine⟨r,rfl,λx J=>⟨?_,(List.pairwise_cons.mp L).1 x J⟩,λx J=>?_⟩
  ·have:x∈l.reverse:=by rw[e];exact Vn _ J
   simpa using this
  ·have:x∈l.reverse:=by simpa using J
   rw[e]at this;exact List.mem_cons.mp this
section
variable{T TX:FK->Option Fn}{G:aA->Option W}{Pt:Pts}{n:Nat}{ro rb:Nat}{t:Tr}{F:FK->List W->HH->Option (W×HH)}{s:Sl}{h g:HH}
def wX(U:s[3]?=aa (aa (.o n)))(ob:oat h n=aa (Vu "Tree",tfs t ro rb)){m:aA}(J:dR m (tfs t ro rb)=af){a:E}{x y:W}(L:aN F G a s h=aa (x,h))(O:F (.m "Tree" m) [.o n,x] h=aa (y,g)):aN F G (.aH (.v 3) m (.cons a .nil)) s h=aa (y,g):=by simp[U,ob,J,L,O]
def B0(V:s[3]?=aa (aa (.o n)))(ob:oat h n=aa (Vu "Tree",tfs t ro rb)){m:aA}(J:dR m (tfs t ro rb)=af){a b:E}{x y z:W}(O:aN F G a s h=aa (x,h))(L:aN F G b s h=aa (z,h))(U:F (.m "Tree" m) [.o n,x,z] h=aa (y,g)):aN F G (.aH (.v 3) m (.cons a (.cons b .nil))) s h=aa (y,g):=by simp[V,ob,J,O,L,U]
def MW(l:Wf t)(c:Sl->HH->Option (W×HH))(b:Sl->HH->Option Fl)(L:List Nat->Nat->Sl)(h:HH)(tst:∀a rs,c (L rs a) h=aa (.p (.bl (decide (a<rs.length))),h))
(j:∀(a x:Nat)(rs:List Nat),rs[a]?=aa x->x<t.ds.length->rs.length+(kids t x).length<=t.ds.length->b (L rs a) h=aa (.nx (L (rs++kids t x) (a+1)) h)):∀(f a:Nat)(rs:List Nat),Bf t a rs->t.ds.length-a<=f →
 ∃J:List Nat,fz c b (f+1) (L rs a) h=aa (.nx (L J J.length) h)/\Bf t J.length J:=by
 intro f
 induction f with
 |zero =>
  intro a rs B i;have q:=tst a rs;have e:=B.len;have le:=B.le;have O:a=rs.length:=by lia
  rw[bQ (by lia)]at q;refine⟨rs,?_,by rw[←O];exact B⟩;rw[fz,q,O];rfl
 |succ f g =>
  intro a rs B i;have q:=tst a rs;have e:=B.len;have le:=B.le
  by_cases V:a<rs.length
  ·obtain⟨x,U⟩:=fj V;have d:=B.lt x (Vz U);have Z:=B.step l U;obtain⟨J,k,m⟩:=g (a+1) (rs++kids t x) Z (by lia);refine⟨J,?_,m⟩;rw[bR V]at q;have Y:=Z.len;rw[VN]at Y;rw[fz,q,jr,nR,j a x rs U d Y,gC,k]
  ·have O:a=rs.length:=by lia
   rw[bQ V]at q;refine⟨rs,?_,by rw[←O];exact B⟩;rw[fz,q,O];rfl
def Pth.IV(L:Wf t)(O:t.ds.length<=5){i:Nat}{l:List Nat}{d:Nd}(p:Pth t i l)(J:t.ds[i]?=aa d):l.length<=5:=by have:=p.len L;have:=dB J;lia
def MY(P:TrP T G)(L:nL T TX){k:Nat}(Y:F63 T TX G k F)(J:Wf t)(b:t.ds.length<=5)(A:fJ Pt h n t ro rb){i j:Nat}{a Z:Nd}(hi:t.ds[i]?=aa a)(U:t.ds[j]?=aa Z):
 ∃o,qX a Z o/\uK Pt (F (.m "Tree" "apart") [.o n,.p (.int i),.p (.int j)] h) (.p (apD o)) n t ro rb:=by
 obtain ⟨y,O⟩:=J.pth i i a (Vo _) hi;obtain ⟨w,V⟩:=J.pth j j Z (Vo _) U;have C:=O.IV J b hi;have B:=V.IV J b U;obtain ⟨bs,e⟩:=id A;have u:BS.jG "Tree" "found" (fR T TX G k) (runN T G (k+13)) (.m "Tree" "found")=fR T TX G k:=BS.n9;have c:∀ m:aA,¬ m="found"->BS.jG "Tree" "found" (fR T TX G k) (runN T G (k+13)) (.m "Tree" m)=runN T G (k+13) (.m "Tree" m):=λm s=>BS.nq λz=>s z.2;obtain ⟨v,m1,l,g⟩:=IL (G:=G) (F:=BS.jG "Tree" "found" (fR T TX G k) (runN T G (k+13))) J A (λhi O=>by rw[c _ (by decide)];exact sV P L.q.path J e (k+10) hi O) (λW=>by rw[c _ (by decide)];exact gT P J e (k+12) W) (yt P L.x J k u) hi U O V (by lia) (λx r=>by
  have f:x<t.ds.length:=by
   rcases List.mem_append.mp r with z|z
   exact O.mem J (dB hi) x z;exact V.mem J (dB U) x z
  obtain ⟨d,W⟩:=fj f;have:=(J.each x d W).le;have:=J.m1;rw[kY W];exact ⟨by lia,by lia⟩)
 refine⟨_,J.first hi U O V m1 l,?_⟩;rw[Y.ap];exact g
def MZ(P:TrP T G)(L:nL T TX){k:Nat}(Y:F63 T TX G k F)(Z:Wf t)(A:fJ Pt h n t ro rb){i j:Nat}{O J:Nd}(hi:t.ds[i]?=aa O)(W:t.ds[j]?=aa J)(V:Pth t i li)(U:Pth t j lj):
 uK Pt (F (.m "Tree" "shared") [.o n,.p (.int i),.p (.int j)] h) (.p (.int (shN t (li.reverse++lj.reverse) O.en J.en))) n t ro rb:=by
 rw[Y.me _ (by decide)];exact yo P L.q L.s Z A (k+3) hi W V U
structure S63(s:Sl)(n i j:Nat)(di dj:Nd):Prop where
 h3:s[3]?=aa (aa (.o n))
 h6:s[6]?=aa (aa (.p (.int i)))
 h7:s[7]?=aa (aa (.p (.int j)))
 h8:s[8]?=aa (aa (.p (gk di)))
 h9:s[9]?=aa (aa (.p (gk dj)))
def S63.set{i j:Nat}{L J:Nd}(S:S63 s n i j L J)(q:Nat)(w:Option W)(O:9<q):S63 (s.set q w) n i j L J :=
 ⟨by rw[Vr (by lia)];exact S.h3,by rw[Vr (by lia)];exact S.h6,by rw[Vr (by lia)];exact S.h7,by rw[Vr (by lia)];exact S.h8,by rw[Vr (by lia)];exact S.h9⟩
def a63(P:TrP T G)(L:nL T TX){k:Nat}(Y:F63 T TX G k F)(a:Wf t)(Z:t.ds.length<=5)(A:fJ Pt h n t ro rb){i j:Nat}{V U:Nd}(hi:t.ds[i]?=aa V)(e:t.ds[j]?=aa U)(S:S63 s n i j V U){o:Option Nat}(O:qX V U o)(J:s[10]?=aa (aa (.p (apD o)))):
 ∃g,aN F G QA s h=aa (.p (.bl ak),g)/\fJ Pt g n t ro rb:=by
 obtain⟨d,r,l,z,b⟩:=MY P L Y a Z A e hi;obtain⟨c,q,f,w,B⟩:=MY P L Y a Z b hi hi;obtain⟨_,C⟩:=id A;obtain⟨_,W⟩:=id b;have e2:d=o:=r.uniq O λm=>⟨Eq.symm,Eq.symm⟩;have u:c=af:=by
  cases q with
  |no _=>rfl|at_ p h _=>exact bO rfl h
 subst e2 u;refine⟨f,sY (g:=h) ?_ (sY (g:=l) ?_ ?_),B⟩
 ·refine eV (eV (vr J) rfl (kK ..)) (eV (vr S.h8) (vr S.h9) (v:=eqv (gk V) (gk U)) ?_) (x:=.bl _) (y:=.bl _) ?_;rw[o8,bM (iP (IF U))]
  ·rw[MU,O.row];exact ne_self rfl
 exact eV (B0 S.h3 C.ob (qW t ro rb) (vr S.h7) (vr S.h6) z) (vr J) (ne_self (MV _));exact eV (B0 S.h3 W.ob (qW t ro rb) (vr S.h6) (vr S.h6) w) rfl rfl
def b63(e:Wf t){i j:Nat}{U O:Nd}(hi:t.ds[i]?=aa U)(d:t.ds[j]?=aa O)(Z:Pth t i li)(Y:Pth t j lj)(S:S63 s n i j U O){o:Option Nat}(V:qX U O o)(J:s[10]?=aa (aa (.p (apD o))))(L:s[11]?=aa (aa (.p (.int (shN t (li.reverse++lj.reverse) U.en O.en:Nat))))):
 aN F G QB s h=aa (.p (.bl ak),h):=by
 have W:∀q,q<shN t (li.reverse++lj.reverse) U.en O.en->fo U q=fo O q:=λq a=>e.shared hi d Z Y a;refine sY (g:=h) (eV (Aq (vr S.h8) (vr L) (uT ..)) (Aq (vr S.h9) (vr L) (uT ..)) ?_) ?_;rw[Ao W];exact ne_self (ny _)
 ·cases V with
  |no _=>exact yu (eV (vr J) rfl rfl)
  |at_ p c b =>
   refine uS (g:=h) (eV (vr J) rfl rfl) (sY (g:=h) (eV (vr J) (vr L) ?_) (eV (Aq (vr S.h8) (vr J) (uT ..)) (Aq (vr S.h9) (vr J) (uT ..)) ?_))
   ·show gR .lt (.int (p:Int)) _=_;rw[mS,bQ];intro z;exact c (W p (by lia))
   rw[Ao b];exact ne_self (ny _)
def qZ(d:Nd):biD .len [gk d]=aa (.int ((d.en+1:Nat):Int)):=by unfold gk;rw[AS,Vx,uQ]
def c63(P:TrP T G)(L:nL T TX){k:Nat}(Y:F63 T TX G k F)(U:Wf t)(A:fJ Pt h n t ro rb){i j:Nat}{J V:Nd}(hi:t.ds[i]?=aa J)(O:Pth t i li)(S:S63 s n i j J V):
 ∃g,aN F G QC s h=aa (.p (.bl ak),g)/\fJ Pt g n t ro rb:=by
 obtain⟨g,b,W⟩:=MZ P L Y U A hi hi O O;obtain⟨_,Z⟩:=id A;refine⟨g,eV (B0 S.h3 Z.ob (om t ro rb) (vr S.h6) (vr S.h6) b) (y:=.int ((J.en+1:Nat):Int)) (g2:=g) ?_ ?_,W⟩
 ·have:=qZ J;simp[S.h8,rds,rd,this]
 rw[FE U O];exact ne_self (o7 _ _)
def d63(P:TrP T G)(L:nL T TX){k:Nat}(Y:F63 T TX G k F)(O:Wf t)(A:fJ Pt h n t ro rb){i j:Nat}{z D:Nd}(hi:t.ds[i]?=aa z)(w:Pth t i li)(S:S63 s n i j z D)(Q:s.length=17){x:Nat}(C:x∈li)(W:0<x):
 ∃s' g,evS F G yv (s.set 12 (aa (.p (.int x)))) h=aa (.nx s' g)/\fJ Pt g n t ro rb/\S63 s' n i j z D/\s'.length=17/\s'[11]?=s[11]?:=by
 obtain⟨d,U⟩:=fj (w.mem O (dB hi) x C);obtain⟨q,b,X,_⟩:=(O.each x d U).par W;obtain⟨lo,u⟩:=O.pth d.par d.par q (Vo _) b;obtain⟨_,B⟩:=id A;have R:=qU P L.q O B (k+11) U;have K:=(S.set 12 (aa (.p (.int x))) (by decide));have I:aN F G (.aH (.v 3) "parent" (.cons (.v 12) .nil)) (s.set 12 (aa (.p (.int x)))) h=aa (.p d.org,h):=by refine wX K.h3 B.ob (sU t ro rb) (vr (VH (by lia))) ?_;rw[Y.me _ (by decide),show runN T G (k+14) (.m "Tree" "parent") [.o n,.p (.int x)] h=_ from R];unfold BW;rw[bN (by lia)]
 obtain⟨f,H,M⟩:=MZ P L Y O A U b (.step U W u) u;rw[IP O U W b u]at H;obtain⟨_,J⟩:=id M;have l:=nI P L.q O J (k+11) (dB hi) w;have r:=nJ P L.q O J (k+11) (dB b);have a:=(K.set 13 (aa (.p (.int d.par))) (by decide)).set 14 (aa (.p (.int d.fi))) (by decide);have Z:(((s.set 12 (aa (.p (.int x)))).set 13 (aa (.p (.int d.par)))).set 14 (aa (.p (.int d.fi))))[12]?=aa (aa (.p (.int x))):=by rw[Vr (by decide),Vr (by decide),VH (by lia)]
 have V:(((s.set 12 (aa (.p (.int x)))).set 13 (aa (.p (.int d.par)))).set 14 (aa (.p (.int d.fi))))[13]?=aa (aa (.p (.int d.par))):=by rw[Vr (by decide),VH (by rw[VX];lia)]
 have y:(((s.set 12 (aa (.p (.int x)))).set 13 (aa (.p (.int d.par)))).set 14 (aa (.p (.int d.fi))))[14]?=aa (aa (.p (.int d.fi))):=by rw[VH (by rw[VX,VX];lia)]
 have N:evS F G (.unp [(13,"_law_older"),(14,"_law_moment")] (.aH (.v 3) "parent" (.cons (.v 12) .nil))) (s.set 12 (aa (.p (.int x)))) h=aa (.nx (((s.set 12 (aa (.p (.int x)))).set 13 (aa (.p (.int d.par)))).set 14 (aa (.p (.int d.fi)))) h):=by generalize E.aH _ _ _=e at I;simp[I,Nd.org]
 have c:aN F G QD (((s.set 12 (aa (.p (.int x)))).set 13 (aa (.p (.int d.par)))).set 14 (aa (.p (.int d.fi)))) h=aa (.p (.bl ak),f):=by
  refine sY (g:=f) (eV (B0 a.h3 B.ob (om t ro rb) (vr Z) (vr V) H) (vr y) (ne_self (o7 _ _))) (sY (g:=f) ?_ ?_)
  ·refine eV (vr V) (wX a.h3 J.ob (nG t ro rb) (vr a.h6) (by rw[Y.me _ (by decide)];exact l)) ?_;rw[JU,bR (by simpa using w.IU x C W d U)];rfl
  ·refine eV (vr Z) (wX a.h3 J.ob (wQ t ro rb) (vr V) (by rw[Y.me _ (by decide)];exact r)) ?_;rw[JU,bR (Aj U W)];rfl
 refine⟨_,f,(kU N).trans (sW c),M,a,by simp[Q],?_⟩;rw[Vr (by decide),Vr (by decide),Vr (by decide)]
theorem QG(P:TrP T G)(L:nL T TX){k:Nat}(Y:F63 T TX G k F)(b:Wf t){i j:Nat}{W a:Nd}(hi:t.ds[i]?=aa W){li:List Nat}(Z:Pth t i li):∀(xs:List Nat)(s:Sl)(h:HH),(∀x∈xs,x∈li/\0<x)->fJ Pt h n t ro rb->S63 s n i j W a->s.length=17 →
 ∃s' g,fc (evS F G yv) [(12,"_law_run")] (cY xs) s h=aa (.nx s' g)/\fJ Pt g n t ro rb/\S63 s' n i j W a/\s'.length=17/\s'[11]?=s[11]?
 |[],s,h,_,A,S,sl=>⟨s,h,rfl,A,S,sl,rfl⟩
 |x::xs,s,h,hx,A,S,sl=>by obtain⟨V,U⟩:=hx x (Vt ..);obtain⟨d,l,q,w,u,O,e1⟩:=d63 P L Y b A hi Z S sl V U;obtain⟨c,f,o,v,r,J,e2⟩:=QG P L Y b hi Z xs d l (λz e=>hx z (Vn _ e)) w u O;refine⟨c,f,?_,v,r,J,e2.trans e1⟩;have m:fc (evS F G yv) [(12,"_law_run")] (cY (x::xs)) s h=ku (evS F G yv (s.set 12 (aa (.p (.int x)))) h) (fc (evS F G yv) [(12,"_law_run")] (cY xs)):=rfl;rw[m,q,gC,o]
end
section
variable{T TX:FK->Option Fn}{G:aA->Option W}{Pt:Pts}{n:Nat}{ro rb:Nat}{t:Tr}{F:FK->List W->HH->Option (W×HH)}{s:Sl}{h g:HH}
def FH(r:List Nat):oO (.aD (cY (0::r))) (aa 1) af=aa (.aD (cY r)):=by rw[qe];have:=FF (cY (0::r)) 1;have e:cut (cY (0::r)) (aa 1) af=(cY (0::r)).drop 1:=this;rw[e];rfl
def uU(P:TrP T G)(L:nL T TX){k:Nat}(Y:F63 T TX G k F)(U:Wf t)(A:fJ Pt h n t ro rb){i:Nat}{O:Nd}(hi:t.ds[i]?=aa O)(J:Pth t i li):F (.m "Tree" "path") [.o n,.p (.int i)] h=aa (.p (.aD (cY li.reverse)),h):=by obtain⟨_,V⟩:=id A;rw[Y.me _ (by decide)];exact nI P L.q U V (k+11) (dB hi) J
def wY(P:TrP T G)(L:nL T TX){k:Nat}(Y:F63 T TX G k F)(O:Wf t)(A:fJ Pt h n t ro rb){i:Nat}{d:Nd}(J:t.ds[i]?=aa d):F (.m "Tree" "parent") [.o n,.p (.int i)] h=aa (.p (BW i d),h):=by obtain⟨_,U⟩:=id A;rw[Y.me _ (by decide)];exact qU P L.q O U (k+11) J
def l63(P:TrP T G)(L:nL T TX){k:Nat}(Y:F63 T TX G k F)(O:Wf t)(A:fJ Pt h n t ro rb){i j:Nat}{m l:Nd}(hi:t.ds[i]?=aa m)(e:t.ds[j]?=aa l){J:List Nat}(W:Pth t i li)(V:Pth t j lj)(B:li.reverse=0::ri)(y:lj.reverse=0::J)(c:∀x∈ri,x∈li/\0<x)(Z:∀x∈J,x∈lj/\0<x)(K:ri.length+J.length<=50)(S:S63 s n i j m l):
 aN F G QE s h=aa (.p (.aD (cY ((ri++J).map (fiN t)))),h):=by
 obtain⟨_,U⟩:=id A;have e1:aN F G (.n (.aH (.v 3) "path" (.cons (.v 6) .nil)) (.cons (.j (.int 1)) .nil) .nil) s h=aa (.p (.aD (cY ri)),h):=by refine wW (wX S.h3 U.ob (nG t ro rb) (vr S.h6) (uU P L Y O A hi W)) rfl ?_;rw[B];exact FH ri
 have e2:aN F G (.n (.aH (.v 3) "path" (.cons (.v 7) .nil)) (.cons (.j (.int 1)) .nil) .nil) s h=aa (.p (.aD (cY J)),h):=by refine wW (wX S.h3 U.ob (nG t ro rb) (vr S.h7) (uU P L Y O A e V)) rfl ?_;rw[y];exact FH J
 have ad:jK .add (.aD (cY ri)) (.aD (cY J))=aa (.aD (cY (ri++J))):=by rw[dW,bM (by show _<=100000;simp[cY];lia)];simp[cY]
 have C:evs F G (.cons (.bin .add (.n (.aH (.v 3) "path" (.cons (.v 6) .nil)) (.cons (.j (.int 1)) .nil) .nil) (.n (.aH (.v 3) "path" (.cons (.v 7) .nil)) (.cons (.j (.int 1)) .nil) .nil)) .nil) s h=aa ([.p (.aD (cY (ri++J)))],h):=by generalize E.n (.aH (.v 3) "path" (.cons (.v 6) .nil)) (.cons (.j (.int 1)) .nil) .nil=a at e1;generalize E.n (.aH (.v 3) "path" (.cons (.v 7) .nil)) (.cons (.j (.int 1)) .nil) .nil=b at e2;simp[-dW,e1,e2,rd,ad]
 have I:eH (fD (evs F G .nil) (aN F G MS) [aa (.o n)]) 1 (cY (ri++J)) h=aa (cY ((ri++J).map (fiN t)),h):=by
  have H:cY ((ri++J).map (fiN t))=(ri++J).filterMap λr=>aa (D.int (fiN t r:Int)):=by unfold cY;rw[W6,aa2];rfl
  rw[H];refine yj _ (λ(r:Nat)=>D.int (r:Int)) _ h (ri++J) λr w=>?_;have u:r<t.ds.length/\0<r:=by
   rcases List.mem_append.mp w with z|z
   exact⟨W.mem O (dB hi) r (c r z).1,(c r z).2⟩;exact⟨V.mem O (dB e) r (Z r z).1,(Z r z).2⟩
  obtain⟨d,g⟩:=fj u.1;have f:=wY P L Y O A g;unfold BW at f;rw[bN (by lia)]at f;have q:([D.int (r:Int)].map fB++[aa (.o n)]:Sl)=[aa (.p (.int (r:Int))),aa (.o n)]:=rfl;have ix:dZ d.org (.int 1)=aa (.int d.fi):=rfl;unfold fD;rw[q,kY g];simp[-jL,evs,MS,U.ob,f,rd,ix]
 have l1:=O.l1;refine nE (ws:=[.p (.aD (cY (ri++J)))]) (h1:=h) (fs:=[aa (.o n)]) C rfl ?_ rfl I ?_;simp[S.h3];simp[cY];lia
def g63(P:TrP T G)(L:nL T TX){k:Nat}(Y:F63 T TX G k F)(m:Wf t)(A:fJ Pt h n t ro rb){i j:Nat}{V U:Nd}(hi:t.ds[i]?=aa V)(D:t.ds[j]?=aa U){J:List Nat}(C:Pth t i li)(B:Pth t j lj)(ei:li.reverse=0::ri)(ej:lj.reverse=0::J)(mi:∀x∈ri,x∈li/\0<x)(mj:∀x∈J,x∈lj/\0<x)(R:∀x∈li,x=0\/x∈ri)(Q:∀x∈lj,x=0\/x∈J)(ll:ri.length+J.length<=50)(S:S63 s n i j V U)(N:s.length=17){q:Nat}(u:q<=V.en)(o:q<=U.en):
 ∃s',evS F G yw (s.set 15 (aa (.p (.int q)))) h=aa (.nx s' h)/\S63 s' n i j V U/\s'.length=17:=by
 have H:=S.set 15 (aa (.p (.int q))) (by decide);have Z:=H.set 16 (aa (.p (.aD (cY ((ri++J).map (fiN t)))))) (by decide);have b1:=l63 P L Y m A hi D C B ei ej mi mj ll H;have O:((s.set 15 (aa (.p (.int q)))).set 16 (aa (.p (.aD (cY ((ri++J).map (fiN t)))))))[15]?=aa (aa (.p (.int q))):=by rw[Vr (by decide),VH (by lia)]
 have l:((s.set 15 (aa (.p (.int q)))).set 16 (aa (.p (.aD (cY ((ri++J).map (fiN t)))))))[16]?=aa (aa (.p (.aD (cY ((ri++J).map (fiN t)))))):=by rw[VH (by rw[VX];lia)]
 refine⟨_,(fC b1).trans (sW (g:=h) ?_),Z,by simp[N]⟩;have e:aN F G (.z .eq (.y (.v 8) (.v 15)) (.y (.v 9) (.v 15))) ((s.set 15 (aa (.p (.int q)))).set 16 (aa (.p (.aD (cY ((ri++J).map (fiN t))))))) h=aa (.p (.bl (eqv (V.f q).enc (U.f q).enc)),h) :=
  eV (pJ (vr Z.h8) (vr O) (Fv V u)) (pJ (vr Z.h9) (vr O) (Fv U o)) (by rw[o8,bM (iP (uH 98 _))])
 cases c:eqv (V.f q).enc (U.f q).enc with
 |false=>rw[c]at e;exact yu e
 |true =>
  rw[c]at e;have fe:fo V q=fo U q:=by rw[lW u,lW o,uG c]
  have ad:jK .add (.aD (cY ((ri++J).map (fiN t)))) (.aD [.int 0])=aa (.aD (cY ((ri++J).map (fiN t)++[0]))):=by rw[dW,bM (by show _<=100000;simp[cY];lia)];simp[cY]
  obtain⟨M,hM⟩:∃M,Dc (jH ((ri++J).map (fiN t)++[0]))=aa M:=by
   cases z:Dc (jH ((ri++J).map (fiN t)++[0]))with
   |none =>
    exfalso;cases y:jH ((ri++J).map (fiN t)++[0])with
    |nil=>simp[jH]at y|cons a b=>rw[y]at z;exact fU z.symm
   |some M=>exact⟨M,rfl⟩
  obtain⟨_,X⟩:=r9 hM;have bm:biD .max1 [.aD (cY ((ri++J).map (fiN t)++[0]))]=aa (.int M):=by rw[qV,vG,oq,VV,hM];rfl
  have I:aN F G (.bi .max1 ak (.cons (.bin .add (.v 16) (.aD ak (.cons (.j (.int 0)) .nil))) .nil)) ((s.set 15 (aa (.p (.int q)))).set 16 (aa (.p (.aD (cY ((ri++J).map (fiN t))))))) h=aa (.p (.int M),h):=by have W:=vr (F:=F) (G:=G) (h:=h) l;generalize E.v 16=a at W;simp[-dW,-Yg,W,rds,rd,dS,ad,bm]
  have d:aN F G (.z .ge (.v 15) (.bi .max1 ak (.cons (.bin .add (.v 16) (.aD ak (.cons (.j (.int 0)) .nil))) .nil))) ((s.set 15 (aa (.p (.int q)))).set 16 (aa (.p (.aD (cY ((ri++J).map (fiN t))))))) h=aa (.p (.bl (decide (M<=(q:Int)))),h):=eV (vr O) I (mT ..);refine uS e ?_
  by_cases z:M<=(q:Int)
  ·rw[bR z]at d;refine uS d (eV (wW (vr Z.h8) (vr O) (FG ..)) (wW (vr Z.h9) (vr O) (FG ..)) ?_);rw[IQ λr=>m.JS hi D C B fe r λx hx=>.inl ?_];exact ne_self (ny _)
   ·have K:x=0\/x∈ri++J:=by
     rcases List.mem_append.mp hx with y|y
     exact(R x y).imp id λw=>List.mem_append.mpr (.inl w);exact(Q x y).imp id λw=>List.mem_append.mpr (.inr w)
    rcases K with y|y
    rw[y,m.fi0];exact Wg _
    ·have:=X (fiN t x:Int) (List.mem_map.mpr ⟨fiN t x,List.mem_append.mpr (.inl (List.mem_map.mpr ⟨x,y,rfl⟩)),rfl⟩);lia
  ·rw[bQ z]at d;exact yu d
theorem QH(P:TrP T G)(L:nL T TX){k:Nat}(Y:F63 T TX G k F)(m:Wf t)(A:fJ Pt h n t ro rb){i j:Nat}{U O:Nd}(hi:t.ds[i]?=aa U)(f:t.ds[j]?=aa O){li lj ri J:List Nat}(Z:Pth t i li)(W:Pth t j lj)(l:li.reverse=0::ri)(g:lj.reverse=0::J)(d:∀x∈ri,x∈li/\0<x)(c:∀x∈J,x∈lj/\0<x)(b:∀x∈li,x=0\/x∈ri)(a:∀x∈lj,x=0\/x∈J)(e:ri.length+J.length<=50):∀(r q:Nat)(s:Sl),S63 s n i j U O->s.length=17->(r=0\/(q+r<=U.en+1/\q+r<=O.en+1)) →
 ∃s',fc (evS F G yw) [(15,"_law_k")] (upto (q:Int) r) s h=aa (.nx s' h)/\S63 s' n i j U O
 |0,q,s,S,sl,_=>⟨s,rfl,S⟩
 |r+1,q,s,S,sl,hq=>by obtain⟨u,y,B,V⟩:=g63 P L Y m A hi f Z W l g d c b a e S sl (q:=q) (by lia) (by lia);obtain⟨o,w,z⟩:=QH P L Y m A hi f Z W l g d c b a e r (q+1) u B V (by lia);refine⟨o,?_,z⟩;rw[Ah];have v:fc (evS F G yw) [(15,"_law_k")] (.int (q:Int)::upto ((q+1:Nat):Int) r) s h=ku (evS F G yw (s.set 15 (aa (.p (.int q)))) h) (fc (evS F G yw) [(15,"_law_k")] (upto ((q+1:Nat):Int) r)):=rfl;rw[v,y,gC,w]
def z63(P:TrP T G)(L:nL T TX){k:Nat}(Y:F63 T TX G k F)(O:Wf t)(A:fJ Pt h n t ro rb){i j:Nat}{W d:Nd}(hi:t.ds[i]?=aa W)(U:Pth t i li)(c:li.reverse=0::ri)(S:S63 s n i j W d):aN F G QF s h=aa (.p (.bl ah),h):=by
 obtain⟨_,Z⟩:=id A;obtain⟨f,J⟩:=fj (l:=t.ds) (i:=0) (List.length_pos_iff.mpr O.l0);have b:=uU P L Y O A hi U;have e1:=wX (F:=F) (G:=G) (a:=.v 6) S.h3 Z.ob (nG t ro rb) (vr S.h6) b;have e2:aN F G (.y (.aH (.v 3) "path" (.cons (.v 6) .nil)) (.j (.int 0))) s h=aa (.p (.int 0),h):=pJ e1 rfl (by rw[c];exact An (rs:=0::ri) (a:=0) (x:=0) rfl);refine uS (eV (wX S.h3 Z.ob (sU t ro rb) e2 (wY (i:=0) P L Y O A J)) rfl rfl) (eV (pJ (y:=.int (-1)) e1 rfl (z:=.int i) ?_) (vr S.h6) ?_)
 ·obtain⟨V,rfl⟩:=U.head;have e:cY (i::V).reverse=cY V.reverse++[.int i]:=by simp[cY]
  rw[e];exact pI _ _
 rw[o8,bM (iP (o7 _ _)),iZ]
def B3(P:TrP T G)(L:nL T TX){k:Nat}(Y:F63 T TX G k F)(ns:List Int)(g:ns.length<=1000):∃h',BS.rK F G iz [.p (.aD (cZ ns))] []=aa (.p (.bl ah),h'):=by
 obtain ⟨pg,dp,rp⟩:=wH (G:=G) L.lt.lw L.program ns g 20;obtain ⟨aI,ha,_,ra⟩:=BK (G:=G) L.lt.lw ns g 450;obtain ⟨most,hm,dm⟩:=gu (G:=G) L.lt.lw ns g 440 17 (by lia);obtain ⟨U,t,b1,O,A1,rfl,rfl,rfl,K⟩:=uR (Pt:=pt0) P L.lt ns g 600 k dp.ok ha (most:=most) (by lia) [] (λi c z=>fU z);obtain ⟨_,I⟩:=id A1;have l1:=O.l1;obtain ⟨J,b2,B⟩:=MW O (aN F G IS) (evS F G IT) (λJ a=>[aa (.p (.aD (cZ ns))),aa (.p (eW t.p)),aa (.p (.aD (cZ t.aI))),aa (.o 0),aa (.p (.aD (cY J))),aa (.p (.int (a:Int))),af,af,af,af,af,af,af,af,af,af,af]) U (λa J=>by
  have:(cY J).length=J.length:=by simp[cY]
  simp[IS,rd,rds,this]) (λa x J hx xl hle=>by
  have ch':F (.m "Tree" "children") [.o 0,.p (.int x)] U=aa (.p (.aD (cY (kids t x))),U):=by rw[Y.me _ (by decide)];exact nJ P L.q O I (k+11) xl
  have ad:jK .add (.aD (cY J)) (.aD (cY (kids t x)))=aa (.aD (cY (J++kids t x))):=by rw[dW,bM (by show _<=100000;simp[cY];lia)];simp[cY]
  have ix:=An hx;have ob:oat U 0=aa (Vu "Tree",tfs t 1 5):=I.ob;simp[-dP,-dW,IT,ob,ix,ch',rd,ad]) 99999 0 [0] (Bf.zero O) (by lia)
 have pm:=B.perm O;have rl:=pm.length_eq;rw[YA]at rl;have rpos:0<J.length:=by rw[rl];exact List.length_pos_iff.mpr O.l0
 obtain⟨zi,hzi,dzi⟩:=gu (G:=G) L.lt.lw ns g 700 (J.length:Int) (by lia);obtain⟨zj,hzj,dzj⟩:=gu (G:=G) L.lt.lw ns g 701 (J.length:Int) (by lia);obtain⟨i,y⟩:=fj (l:=J) (i:=zi) (by lia);obtain⟨j,w⟩:=fj (l:=J) (i:=zj) (by lia);obtain⟨V,d⟩:=fj (B.lt i (Vz y));obtain⟨Z,f⟩:=fj (B.lt j (Vz w));obtain⟨s,e⟩:=O.pth i i V (Vo _) d;obtain⟨r,n⟩:=O.pth j j Z (Vo _) f;obtain⟨ri,N,mi,ni⟩:=e.rev O;obtain⟨rj,ej,mj,nj⟩:=n.rev O;have ll:ri.length+rj.length<=50:=by have a1:=e.IV O K d;have a2:=n.IV O K f;have e1:=bU YG N;have e2:=bU YG ej;rw[List.length_reverse,Vv]at e1 e2;lia
 obtain⟨M,b3,A2⟩:=Af P L.lt.all O A1 (k+1) d;obtain⟨h3,b4,A3⟩:=Af P L.lt.all O A2 (k+1) f;obtain⟨o,A,h4,b5,A4⟩:=MY P L Y O K A3 d f;have ln:(cY J).length=J.length:=by simp[cY]
 have z1:∀x,aN F G (.call "_law_program" (.cons (.v 0) (.cons (.j (.int 20)) .nil))) (aa (.p (.aD (cZ ns)))::x) []=aa (.p (eW t.p),[]):=λx=>by
  have:F "_law_program" [.p (.aD (cZ ns)),.p (.int 20)] []=aa (.p (eW t.p),[]):=by rw[Y.fn];exact rp (k+7) []
  simp[this]
 have z2:∀x,aN F G (.call "_law_asked" (.cons (.v 0) (.cons (.j (.int 450)) .nil))) (aa (.p (.aD (cZ ns)))::x) []=aa (.p (.aD (cZ t.aI)),[]):=λx=>by
  have:F "_law_asked" [.p (.aD (cZ ns)),.p (.int 450)] []=aa (.p (.aD (cZ t.aI)),[]):=by rw[Y.fn];exact ra (k+11) []
  simp[this]
 have z3:∀x,aN F G (.call "_law_tree" (.cons (.v 0) (.cons (.j (.int 600)) (.cons (.v 1) (.cons (.v 2) (.cons (.call "_law_drawn" (.cons (.v 0) (.cons (.j (.int 440)) (.cons (.j (.int 17)) .nil)))) .nil)))))) (aa (.p (.aD (cZ ns)))::aa (.p (eW t.p))::aa (.p (.aD (cZ t.aI)))::x) []=aa (.o 0,U):=λx=>by
  have C:F "_law_drawn" [.p (.aD (cZ ns)),.p (.int 440),.p (.int 17)] []=aa (.p (.int t.most),[]):=by rw[Y.fn];exact dm (k+12) []
  have b1':F "_law_tree" [.p (.aD (cZ ns)),.p (.int 600),.p (eW t.p),.p (.aD (cZ t.aI)),.p (.int t.most)] []=aa (.o 0,U):=by rw[Y.fn];exact b1
  simp[C,b1']
 have z4:evS F G (.j IS IT) [aa (.p (.aD (cZ ns))),aa (.p (eW t.p)),aa (.p (.aD (cZ t.aI))),aa (.o 0),aa (.p (.aD (cY [0]))),aa (.p (.int 0)),af,af,af,af,af,af,af,af,af,af,af] U=aa (.nx [aa (.p (.aD (cZ ns))),aa (.p (eW t.p)),aa (.p (.aD (cZ t.aI))),aa (.o 0),aa (.p (.aD (cY J))),aa (.p (.int J.length)),af,af,af,af,af,af,af,af,af,af,af] U):=b2;have z5:aN F G MQ [aa (.p (.aD (cZ ns))),aa (.p (eW t.p)),aa (.p (.aD (cZ t.aI))),aa (.o 0),aa (.p (.aD (cY J))),aa (.p (.int J.length)),af,af,af,af,af,af,af,af,af,af,af] U=aa (.p (.int i),U):=by
  have C:F "_law_drawn" [.p (.aD (cZ ns)),.p (.int 700),.p (.int J.length)] U=aa (.p (.int zi),U):=by rw[Y.fn];exact dzi (k+12) U
  have ix:=An y;simp[-dP,MQ,rds,rd,ln,C,ix]
 have z6:aN F G MR [aa (.p (.aD (cZ ns))),aa (.p (eW t.p)),aa (.p (.aD (cZ t.aI))),aa (.o 0),aa (.p (.aD (cY J))),aa (.p (.int J.length)),aa (.p (.int i)),af,af,af,af,af,af,af,af,af,af] U=aa (.p (.int j),U):=by
  have C:F "_law_drawn" [.p (.aD (cZ ns)),.p (.int 701),.p (.int J.length)] U=aa (.p (.int zj),U):=by rw[Y.fn];exact dzj (k+12) U
  have ix:=An w;simp[-dP,MR,rds,rd,ln,C,ix]
 have z7:aN F G (.call "_law_all" (.cons (.v 3) (.cons (.v 6) .nil))) [aa (.p (.aD (cZ ns))),aa (.p (eW t.p)),aa (.p (.aD (cZ t.aI))),aa (.o 0),aa (.p (.aD (cY J))),aa (.p (.int J.length)),aa (.p (.int i)),aa (.p (.int j)),af,af,af,af,af,af,af,af,af] U=aa (.p (gk V),M):=by
  have b3':F "_law_all" [.o 0,.p (.int i)] U=aa (.p (gk V),M):=by rw[Y.fn];exact b3
  simp[b3']
 have z8:aN F G (.call "_law_all" (.cons (.v 3) (.cons (.v 7) .nil))) [aa (.p (.aD (cZ ns))),aa (.p (eW t.p)),aa (.p (.aD (cZ t.aI))),aa (.o 0),aa (.p (.aD (cY J))),aa (.p (.int J.length)),aa (.p (.int i)),aa (.p (.int j)),aa (.p (gk V)),af,af,af,af,af,af,af,af] M=aa (.p (gk Z),h3):=by
  have b4':F "_law_all" [.o 0,.p (.int j)] M=aa (.p (gk Z),h3):=by rw[Y.fn];exact b4
  simp[b4']
 have Q:S63 [aa (.p (.aD (cZ ns))),aa (.p (eW t.p)),aa (.p (.aD (cZ t.aI))),aa (.o 0),aa (.p (.aD (cY J))),aa (.p (.int J.length)),aa (.p (.int i)),aa (.p (.int j)),aa (.p (gk V)),aa (.p (gk Z)),af,af,af,af,af,af,af] 0 i j V Z:=⟨rfl,rfl,rfl,rfl,rfl⟩;obtain⟨_,A30⟩:=id A3;have z9:=B0 (F:=F) (G:=G) (a:=.v 6) (b:=.v 7) Q.h3 A30.ob (qW t 1 5) (vr Q.h6) (vr Q.h7) b5;have H:=Q.set 10 (aa (.p (apD o))) (by decide);obtain⟨h5,b6,A5⟩:=a63 P L Y O K A4 d f H A rfl;obtain⟨h6,b7,A6⟩:=MZ P L Y O A5 d f e n;obtain⟨_,A50⟩:=id A5;have y1:=B0 (F:=F) (G:=G) (a:=.v 6) (b:=.v 7) H.h3 A50.ob (om t 1 5) (vr H.h6) (vr H.h7) b7;have E:=H.set 11 (aa (.p (.int (shN t (s.reverse++r.reverse) V.en Z.en:Nat)))) (by decide);have y2:=b63 (F:=F) (G:=G) (h:=h6) O d f e n E A rfl rfl;obtain⟨h7,y3,A7⟩:=c63 P L Y O A6 d e E;obtain⟨_,A70⟩:=id A7;obtain⟨X,h8,y4,A8,S3,S,e3⟩:=QG P L Y O d e ri _ h7 mi A7 E rfl;have y5:=wW (F:=F) (G:=G) (wX (F:=F) (G:=G) (a:=.v 6) E.h3 A70.ob (nG t 1 5) (vr E.h6) (uU P L Y O A7 d e)) (b:=.j (.int 1)) rfl (by rw[N];exact FH ri);have y6:=(Qz (tg:=[(12,"_law_run")]) (b:=yv) y5).trans y4;have le:=Fq t (s.reverse++r.reverse) V.en Z.en;have eni:=O.wO d;have enj:=O.wO f;have m1:=O.m1;obtain⟨s2,y7,S4⟩:=QH P L Y O A8 d f e n N ej mi mj ni nj ll (min (V.en+1) (Z.en+1)-shN t (s.reverse++r.reverse) V.en Z.en) (shN t (s.reverse++r.reverse) V.en Z.en) X S3 S (by lia);have h11:X[11]?=aa (aa (.p (.int (shN t (s.reverse++r.reverse) V.en Z.en:Nat)))):=e3.trans rfl;have y8:aN F G MT X h8=aa (.p (.int ((min (V.en+1) (Z.en+1):Nat):Int)),h8):=by
  have r1:=qZ V;have r2:=qZ Z;have mn:(if((Z.en+1:Nat):Int)<((V.en+1:Nat):Int)then((Z.en+1:Nat):Int)else((V.en+1:Nat):Int))=((min (V.en+1) (Z.en+1):Nat):Int):=by split<;>lia
  have mb:biD .min2 [.int ((V.en+1:Nat):Int),.int ((Z.en+1:Nat):Int)]=aa (.int ((min (V.en+1) (Z.en+1):Nat):Int)):=by rw[yV,mn]
  generalize ((V.en+1:Nat):Int)=u at r1 mb;generalize ((Z.en+1:Nat):Int)=v at r2 mb;simp[-yV,MT,S3.h8,S3.h9,rds,rd,r1,r2,mb]
 have y9:=(MP (tg:=[(15,"_law_k")]) (c:=yw) (vr (F:=F) (G:=G) (h:=h8) h11) y8 (by lia) (by lia)).trans y7;have R:=z63 P L Y O A8 d e N S4;have bd:evS F G iz.body (d8 iz.ns.length [.p (.aD (cZ ns))]) []=aa (.rt (.p (.bl ah)) h8) :=
  (fC (z1 _)).trans ((fC (z2 _)).trans ((fC (z3 _)).trans ((fC rfl).trans ((fC rfl).trans ((kU z4).trans ((fC z5).trans ((fC z6).trans ((fC z7).trans ((fC z8).trans ((fC z9).trans ((kU (sW b6)).trans ((fC y1).trans ((kU (sW y2)).trans ((kU (sW y3)).trans ((kU y6).trans ((kU y9).trans (kW R)))))))))))))))))
 obtain⟨h9,f9,_⟩:=kh [] (.bl ah) h8;refine⟨h9,?_⟩;unfold BS.rK;rw[bM (show [W.p (D.aD (cZ ns))].length=iz.ps.length from rfl),bd,jO,f9]
end
end BT
end
section
namespace BF
open PySem PySem.Spec PyProof.Rows L2 BS
variable{K:Ve}
def yx(P:Vy)(w:VQ)(K:Ve)(mg:aA->Option aC)(x:aA)(z:aP):Prop:=∃u v,mg x=aa u/\RelV v u/\∀m H,RW P w K m H v z
def FI(X:K.In h)(G:h.Ns VB mg)(a:V4 K VB x=aa (aa (.int n t))):yx P w K mg x (.p (.int n)) :=
 ⟨_,.int n,Ww X G a,⟨t,rfl⟩,λ_ _=>.p (.int n)⟩
inductive gM:List aA->List aC->Prop
 |nil:gM [] []
 |cons{x:aA}{xs:List aA}{t:Tok}{vs:List aC}(h:PyData.strOk x=ah)(r:gM xs vs):gM (x::xs) (.str x t::vs)
theorem gM.vals:∀{xs:List aA}{vs:List aC},gM xs vs->dD (xs.map V.str) vs
 |_,_,.nil=>.nil|_,_,.cons _ r=>.cons ⟨_,rfl⟩ r.vals
theorem gM.rds{K:Ve}:∀{xs:List aA}{vs:List aC},gM xs vs->RDs K m H (xs.map V.str) (xs.map aQ.str)
 |_,_,.nil=>.nil|_,_,.cons h r=>.cons (.str _ h) r.rds
theorem gM.len:∀{xs:List aA}{vs:List aC},gM xs vs->vs.length=xs.length
 |_,_,.nil=>rfl
 |_,_,.cons _ r=>by simp[r.len]
def FJ(X:K.In h)(G:h.Ns VB mg)(a:V4 K VB x=aa (aa (.ref f)))
(l:K.lookup f=aa ⟨.type "tuple",af,.seq its n,sl⟩)(J:xs.length<=1000)(r:gM xs its.toList):yx P w K mg x (.p (.aE (xs.map aQ.str))):=by
 refine⟨_,.ref f,Ww X G a,rfl,λm H=>.p (.aE (.inr ⟨_,its,n,⟨l,rfl,rfl,?_,r.vals⟩,rfl⟩) r.rds)⟩;have:=r.len;have e:its.size=xs.length:=by rw[←this];simp
 rw[e];exact Xa (AL J)
inductive jq(w:VQ):List (aA×Int)->List aag->Prop
 |nil:jq w [] []
 |cons{x:aA}{n:Int}{kvs:List (aA×Int)}{t u:Tok}{es:List aag}(r:jq w kvs es):jq w ((x,n)::kvs) (⟨PyData.keyHash w.params x,.str x t,.int n u⟩::es)
theorem jq.ex:∀{kvs:List (aA×Int)}{es:List aag},jq w kvs es->∃vs:List (Key×aC),KV ((kvs.map λq=>(q.1,V.int q.2)).map λq=>((Sum.inr q.1:Key),q.2)) vs/\Pairs (dO P w) es vs/\vs.map (·.1)=kvs.map (λq=>(Sum.inr q.1:Key))/\(∀e∈es,∃k,(dO P w).is k e.key=ah/\e.hash=(dO P w).hash k)
 |_,_,.nil=>⟨[],.nil,.nil,rfl,λe J=>nomatch J⟩
 |_,_,@jq.cons _ x n kvs t u es r=>by
  obtain⟨vs,W,U,O,L⟩:=r.ex (P:=P);have is:(dO P w).is (Sum.inr x) (.str x t)=ah:=by show Zp x (.str x t)=ah;simp[Zp]
  refine⟨(Sum.inr x,.int n u)::vs,.cons ⟨rfl,u,rfl⟩ W,.cons is rfl U,by simp[O],λe J=>?_⟩;rcases List.mem_cons.mp J with rfl|J
  exact⟨Sum.inr x,is,rfl⟩;exact L e J
def B4{P:Vy}{w:VQ}{h:av}{mg:aA->Option aC}(X:K.In h)(G:h.Ns VB mg){x:aA}{f:aB}{es:Array aag}{n:Nat}{kvs:List (aA×Int)}(a:V4 K VB x=aa (aa (.ref f)))
(l:K.lookup f=aa {cls:=.type "dict",data:=.dict es n})(Z:(f==X3)=ak)(r:jq w kvs es.toList)(nd:(kvs.map (·.1)).Nodup):yx P w K mg x (.k (.t (kvs.map λq=>(q.1,aQ.int q.2)))):=by
 obtain⟨W,U,O,L,J⟩:=r.ex (P:=P);refine⟨_,.ref f,Ww X G a,rfl,λm H=>.k (es:=kvs.map λq=>(q.1,V.int q.2)) ⟨Z,W,U,λd c=>⟨_,es,n,c _ _ l,⟨rfl,rfl,rfl⟩,rfl,λe b=>J e (by simpa using b),O,?_⟩⟩ ?_⟩
 ·rw[L];have e:(kvs.map λq=>(Sum.inr q.1:Key))=(kvs.map (·.1)).map Sum.inr:=by simp
  rw[e];exact List.pairwise_map.mpr (nd.imp λh z=>h (Sum.inr.inj z))
 ·clear r nd U O L J l
  induction kvs with
  |nil=>exact .nil|cons q kvs Y=>exact .cons (λ_ _=>.int _) Y
noncomputable def look{κ J:Type}[DecidableEq κ](l:List (κ×J))(x:κ):Option J:=match l with
 |[]=>af
 |(y,a)::r=>if y=x then aa a else look r x
theorem i7{κ J:Type}[DecidableEq κ]{Q:κ->J->Prop}:∀{l:List (κ×J)} (_:∀p∈l,Q p.1 p.2) {x:κ}{a:J},look l x=aa a->Q x a
 |[],_,_,_,e=>by exact bK e
 |(y,b)::r,h,x,a,e=>by
  rw[look]at e;split at e
  ·rename_i z;cases e;subst z;exact h (y,b) Vt
  exact i7 (λp L=>h p (Vn _ L)) e
theorem g9{K:Ve}:∀ns:List Int,RDs K m H (ns.map V.int) (BT.cZ ns)
 |[]=>.nil|n::r=>.cons (.int n) (g9 r)
def FL(tb:TB K H)(J:LL K H a (ns.map V.int))(e:∃h',g [.p (.aD (BT.cZ ns))] []=aa (.p (.bl ah),h')):spF P w K g [.ref a] H (λv _=>v=.bl ah) λ_ _ _=>False:=by obtain⟨h',e⟩:=e;refine⟨[],_,[],_,h',⟨Ze,rfl,λi a L z=>by simp at z,tb⟩,.cons (.p (.aD (J.elim (λq=>.inl ⟨q,by simp⟩) .inr) (g9 ns))) .nil,e,λv U O _ _ r=>nV r⟩
end BF
end
section
namespace BG
open PySem PySem.Spec PySem.Calls PyProof.Rows L2 BS BF
variable{K:Ve}{st:ZA}
def IW(H:∀p∈K,h.get? p.1=aa p.2):K.In h:=by
 intro a o e;obtain⟨p,L,J⟩:∃p∈K,p.1=a/\p.2=o:=by
  clear H
  induction K with
  |nil=>exact bK e
  |cons q r O =>
   rw[Xp]at e;split at e
   ·rename_i c;cases e;exact⟨q,Vt,(bT c).symm,rfl⟩
   ·obtain⟨p,L,J⟩:=O e;exact⟨p,Vn _ L,J⟩
 rw[←J.1,←J.2];exact H p L
inductive QI(K:Ve)(x qual:aA)(st:ZA)(f:aB):Prop
 |mk(fd:Wp)(F:Fun K x qual st f fd)(kV doc pm:aC)(an:Option aB)(cdv ct:aC)(e:fd=Wz x qual (f7 st) (dF st) (c5 st) .none kV doc pm an cdv ct):QI K x qual st f
def rf(e:F3 K f=aa (yC x qual st)):QI K x qual st f:=by
 unfold F3 at e;split at e
 ·rename_i c b W Y l;have J:=Vp e;unfold yC at J;obtain⟨nm,V,a,i,Z,d,cl,g,L,O,pm,an,U,ct,h⟩:=W;simp only[FS.mk.injEq]at J;obtain⟨rfl,rfl,rfl,rfl,rfl,rfl,rfl,rfl,rfl,hc⟩:=J;have F:=KG (K:=K) (x:=nm) (qual:=V) (st:=st) (f:=f) (kV:=L) (doc:=O) (pm:=pm) (an:=an) (cdv:=U) (ct:=ct) l hc (by simp only[We,l]);exact⟨_,F,L,O,pm,an,U,ct,rfl⟩
 exact bK e
def nth{J:Type}{l:List J}{a:J}(i:Nat)(h:l[i]?=aa a):a∈l:=Vz h
noncomputable def oK(ns:List aA):Bool:=ns.all λn=>!(n.cps[0]?==aa 60)
def QJ(y:aA):(BT.jt y).cps[0]?=aa 60:=by show(((#[60]:Array Nat)++y.cps)++#[62])[0]?=aa 60;rw[←aa3];simp
def wZ(h:oK ns=ah)(y:aA):ns.contains (BT.jt y)=ak:=by
 cases e:ns.contains (BT.jt y)with
 |false=>rfl
 |true =>
  have:=List.all_eq_true.mp h _ (List.contains_iff_mem.mp e);rw[QJ]at this;exact aU this
def uV(h:oK fn.ns=ah):kC K q fd fn:=λy J=>by rw[wZ h y]at J;exact aU J
section
variable{K:Ve}
def uW(e:refOf o=aa f):o=aa (aa (.ref f)):=by unfold refOf at e;split at e;cases e;rfl;exact bK e
def M0(X:K.In h)(G:h.Ns VB mg)(e:eX K (.fn x f st)=eY w (.fn x f st))
(sc:eN fn.ns fn.ps (c5 st))(V:∀(kV doc pm:aC)(an:Option aB)(cdv ct:aC)(us:List aC),us.length=fn.ps.length->abE (Wz x x (f7 st) (dF st) (c5 st) .none kV doc pm an cdv ct) ⟨us,[]⟩=pure (fn.ps.zip us))
(W:CSs (c5 st) fn.ns fn.body (dF st))(tg:∀fd,V4 K VB x=aa (aa (.ref f))->(∃L J O,K.lookup f=aa ⟨L,J,.func fd,O⟩)->kC K x fd fn):Def K mg x fn:=by
 simp only[eX,eY,Ov.fn.injEq]at e;obtain⟨fd,F,kV,doc,pm,an,cdv,ct,rfl⟩:=rf e.2;refine⟨f,_,st,Ww X G (uW e.1),F,sc,F.binds V,W,tg _ (uW e.1) ?_⟩;obtain⟨L,J,kV,doc,pm,an,cdv,ct,osl,e1,U,_⟩:=F.ex;exact⟨L,J,osl,U⟩
def nM(e:eX K (.cls c C)=eY w (.cls c C)):lR K c C:=by simp only[eX,eY,Ov.b.injEq,NO,Vg,bP]at e;obtain⟨⟨⟨⟨⟨⟨a,Z⟩,Y⟩,W⟩,V⟩,U⟩,O⟩:=e;refine⟨a,⟨Z,Y,W,V⟩,λf L=>?_,O⟩;have J:f∈attrs:=List.contains_iff_mem.mp L;exact bS (p:=VO K (.ref C) f=aa af) (List.all_eq_true.mp U f J)
def IX(X:K.In h)(G:h.Ns VB mg)(V:eX K (.cls c C)=eY w (.cls c C))(L:eX K (.mk C)=eY w (.mk C))(e:eX K (.me C m x qual f st)=eY w (.me C m x qual f st))
(sc:eN fn.ns fn.ps (c5 st))(U:∀(kV doc pm:aC)(an:Option aB)(cdv ct:aC)(us:List aC),us.length=fn.ps.length->abE (Wz x qual (f7 st) (dF st) (c5 st) .none kV doc pm an cdv ct) ⟨us,[]⟩=pure (fn.ps.zip us))
(W:CSs (c5 st) fn.ns fn.body (dF st))(tg:oK fn.ns=ah):EB K mg c m fn:=by
 have O:=nM V;simp only[eX,eY,Ov.fn.injEq]at e;obtain⟨e1,e2⟩:=e;obtain⟨Y,F,kV,doc,pm,an,cdv,ct,rfl⟩:=rf e2;have J:meB K C m f=ah:=by
  cases q:meB K C m f with
  |true=>rfl|false=>rw[q]at e1;exact bK e1
 simp only[meB,Vg,bP]at J;simp only[eX,eY,Ov.b.injEq,mkB,Vg]at L;refine⟨C,f,_,x,qual,st,O,Ww X G O.cn,⟨J.1,J.2,F.kp⟩,λz=>?_,F,sc,F.binds U,W,uV tg⟩;subst z;exact⟨L.1,J.1,J.2,L.2⟩
def none_of(X:K.In h)(G:h.Ns VB mg)(e:eX K (.no x)=eY w (.no x)):mg x=af:=by simp only[eX,eY,Ov.b.injEq,bP]at e;exact PySem.W.mg_none_of X G e
def FM(h:intOf v=aa x):∃t,v=.int x t:=by cases v<;>simp[intOf]at h;exact⟨_,by rw[h]⟩
def FN(h:strOf v=aa x):∃t,v=.str x t:=by cases v<;>simp[strOf]at h;exact⟨_,by rw[h]⟩
def f6(X:K.In h)(G:h.Ns VB mg)(e:eX K (.int x n)=eY w (.int x n)):yx P w K mg x (.p (.int n)):=by
 simp only[eX,eY,Ov.int.injEq]at e;split at e
 ·rename_i v J;obtain⟨t,rfl⟩:=FM e;exact FI X G J
 exact bK e
theorem Ar:∀{xs:List aA}{vs:List aC},xs.all PyData.strOk=ah->vs.map strOf=xs.map aa->gM xs vs
 |[],[],_,_=>.nil
 |[],_::_,_,h=>by simp at h
 |_::_,[],_,h=>by simp at h
 |x::xs,v::vs,k,h=>by simp only[VA,XX]at h;simp only[List.all_cons,Vg]at k;obtain⟨t,rfl⟩:=FN h.1;exact .cons k.1 (Ar k.2 h.2)
theorem As:∀{kvs:List (aA×Int)}{es:List aag},es.map (λe=>(e.hash,strOf e.key,intOf e.val))=kvs.map (λq=>(PyData.keyHash w.params q.1,aa q.1,aa q.2))->jq w kvs es
 |[],[],_=>.nil
 |[],_::_,h=>by simp at h
 |_::_,[],h=>by simp at h
 |(x,n)::kvs,⟨ha,k,v⟩::es,h=>by simp only[VA,XX,aay]at h;obtain⟨⟨rfl,O,L⟩,J⟩:=h;obtain⟨t,rfl⟩:=FN O;obtain⟨u,rfl⟩:=FM L;exact .cons (As J)
def FO(X:K.In h)(G:h.Ns VB mg)(e:eX K (.aE x f xs)=eY w (.aE x f xs))(V:xs.length<=1000)(U:xs.all PyData.strOk=ah):yx P w K mg x (.p (.aE (xs.map aQ.str))):=by simp only[eX,eY,Ov.seq.injEq]at e;obtain⟨e1,e2,J⟩:=e;obtain⟨o,l,L⟩:=Option.map_eq_some_iff.mp e2;rw[l]at J;obtain⟨cl,Z,Y,O⟩:=o;simp only[shp,aay]at L;obtain⟨rfl,rfl,W⟩:=L;have:O=#[]:=ZI W;subst this;simp only[VV,Ca]at J;cases Y<;>simp only[Yd,reduceCtorEq]at J;exact FJ X G (uW e1) l V (Ar U J)
def FP(X:K.In h)(G:h.Ns VB mg){x:aA}{f:aB}{kvs:List (aA×Int)}(e:eX K (.dct x f kvs)=eY w (.dct x f kvs))(U:(f==X3)=ak)(nd:(kvs.map (·.1)).Nodup):yx P w K mg x (.k (.t (kvs.map λq=>(q.1,aQ.int q.2)))):=by simp only[eX,eY,Ov.dct.injEq]at e;obtain⟨e1,e2,J⟩:=e;obtain⟨o,l,L⟩:=Option.map_eq_some_iff.mp e2;rw[l]at J;obtain⟨cl,Y,W,O⟩:=o;simp only[shp,aay]at L;obtain⟨rfl,rfl,V⟩:=L;have:O=#[]:=ZI V;subst this;simp only[VV,Jm]at J;cases W<;>simp only[Yd,reduceCtorEq]at J;exact B4 X G (uW e1) l U (As J) nd
end
def B5{J:Type}{us:List J}{n:Nat}(h:us.length=n+1):∃a r,us=a::r/\r.length=n:=by
 cases us with
 |nil=>simp at h|cons a r=>exact⟨a,r,rfl,by simpa using h⟩
def len0{J:Type}{us:List J}(h:us.length=0):us=[]:=Z0 h
def M1{L:Type}{us:List L}(h:us.length=1):∃J,us=[J]:=by obtain⟨J,r,rfl,g⟩:=B5 h;exact⟨J,by rw[len0 g]⟩
def IY{O:Type}{us:List O}(h:us.length=2):∃L J,us=[L,J]:=by obtain⟨L,r,rfl,g⟩:=B5 h;obtain⟨J,rfl⟩:=M1 g;exact⟨L,J,rfl⟩
def IZ{U:Type}{us:List U}(h:us.length=3):∃O L J,us=[O,L,J]:=by obtain⟨O,r,rfl,g⟩:=B5 h;obtain⟨L,J,rfl⟩:=IY g;exact⟨O,L,J,rfl⟩
def Ja{V:Type}{us:List V}(h:us.length=4):∃U O L J,us=[U,O,L,J]:=by obtain⟨U,r,rfl,g⟩:=B5 h;obtain⟨O,L,J,rfl⟩:=IZ g;exact⟨U,O,L,J,rfl⟩
def QK{W:Type}{us:List W}(h:us.length=5):∃V U O L J,us=[V,U,O,L,J]:=by obtain⟨V,r,rfl,g⟩:=B5 h;obtain⟨U,O,L,J,rfl⟩:=Ja g;exact⟨V,U,O,L,J,rfl⟩
def Ua{Y:Type}{us:List Y}(h:us.length=6):∃W V U O L J,us=[W,V,U,O,L,J]:=by obtain⟨W,r,rfl,g⟩:=B5 h;obtain⟨V,U,O,L,J,rfl⟩:=QK g;exact⟨W,V,U,O,L,J,rfl⟩
noncomputable abbrev BdT(x qual:aA)(st:ZA)(fn:aX):Prop:=∀(kV L U:aC)(V:Option aB)(O ct:aC)(J:List aC),J.length=fn.ps.length->abE (Wz x qual (f7 st) (dF st) (c5 st) .none kV L U V O ct) ⟨J,[]⟩=pure (fn.ps.zip J)
structure CkB(x qual:aA)(s:ZA)(f:aX):Prop where
 ck:CSs (c5 s) f.ns f.body (dF s):=by repeat' (first|rfl|constructor|decide +kernel)
 sc:eN f.ns f.ps (c5 s):=by constructor<;>first|rfl|decide +kernel
 bd:BdT x qual s f:=by intro _ _ _ _ _ _ us hl;first|(obtain⟨a0,a1,rfl⟩:=IY hl;rfl)|(obtain⟨a0,rfl⟩:=M1 hl;rfl)|(obtain⟨a0,a1,a2,rfl⟩:=IZ hl;rfl)|(obtain⟨a0,a1,a2,a3,rfl⟩:=Ja hl;rfl)|(obtain rfl:=len0 hl;rfl)|(obtain⟨a0,a1,a2,a3,a4,rfl⟩:=QK hl;rfl)|(obtain⟨a0,a1,a2,a3,a4,a5,rfl⟩:=Ua hl;rfl)
def ce{p:Prop}(h:p:=by repeat' (first|rfl|constructor|decide +kernel)):p:=h
def dk{p:Prop}(h:p:=by decide +kernel):p:=h
def hn{w:VQ}{J:List Qy}(L:∀q∈J,eX K q=eY w q)(i:Nat){a:Qy}(h:J[i]?=aa a):eX K a=eY w a:=L _ (nth i h)
def w5(K:Ve)(mg:aA->Option aC)(p:bB×aX):Prop:=(∀x,p.1=.f x->Def K mg x p.2)/\(∀c m,p.1=.m c m->EB K mg c m p.2)/\∀L,p.1=.l L->False
def dd(d:Def K mg x fn):w5 K mg (.f x,fn):=⟨λy e=>by cases e;exact d,λc m e=>(by cases e),λL e=>by cases e⟩
def dm(d:EB K mg c m fn):w5 K mg (.m c m,fn):=⟨λy e=>(by cases e),λc m e=>by cases e;exact d,λL e=>by cases e⟩
def dh{J:Type}{Q:J->Prop}{a:J}{l:List J}(h:Q a)(t:∀p∈l,Q p):∀p∈a::l,Q p:=List.forall_mem_cons.mpr ⟨h,t⟩
def Au{J:Type}{Q:J->Prop}:∀p∈([]:List J),Q p:=λ_ h=>bO h YM
section
variable{K:Ve}
def dd0(X:K.In h)(G:h.Ns VB mg)(e:eX K (.fn x f st)=eY w (.fn x f st))(c:CkB x x st fn)(tg:oK fn.ns=ah:=by decide +kernel):w5 K mg (.f x,fn) :=
 dd (M0 X G e c.sc c.bd c.ck λ_ _ _=>uV tg)
def dm0(X:K.In h)(G:h.Ns VB mg)(L:eX K (.cls c C)=eY w (.cls c C))(J:eX K (.mk C)=eY w (.mk C))(e:eX K (.me C m x qual f st)=eY w (.me C m x qual f st))(k:CkB x qual st fn)(tg:oK fn.ns=ah:=by decide +kernel):w5 K mg (.m c m,fn) :=
 dm (IX X G L J e k.sc k.bd k.ck tg)
end
structure M3(K:Ve)(tl:List (aA×aB×aB)):Prop where
 all:∀z∈BT.jc,(∃c P,(z,c,P)∈tl/\WG K z=aa (c,P))\/WG K z=af
 hd:∀q∈tl,Zv K q.2.1 q.2.2=ah
def eZ(e:eX K (.no x)=eY w (.no x)):WG K x=af:=by simp only[eX,eY,Ov.b.injEq,bP]at e;unfold WG;rw[e]
def yy(e:K.lookup b=aa o):b∈K.map (·.1):=List.mem_map.mpr ⟨(b,o),PySem.W.mem_of_lookupK e,rfl⟩
def B6 
(D:K.In s₁.heap)(M:s₁.heap.Ns VB mg)(R:s₁.heap.Ns XI mb)(Q:∀x:aA,x≠"__name__"->mb x=Yb x)(j:s₁.heap.NoLimit)(hg:s₁.gens=#[])
(l:s₁.heap.get? a=aa {cls:=.type "list",data:=.seq vs.toArray})(hi:Yy vs ns)(hl:ns.length<=ao)(hr:fG k abD)
(hT:M3 K tl)(W:∀p∈tl,s₁.heap.get? p.2.2=aa (YW #[]))(S:∀p∈tl,K.lookup p.2.2=af)
(F:∀base:av,gO P w K mg base CX0 k fa fd [x] sp)(f:∀(s:Vh)(u:aC),K.In s.heap->BindsTo s fd ⟨[u],[]⟩ [(x,u)])
(I:∀H:Hp,TB K H->LL K H a (ns.map V.int)->sp [.ref a] H (λv _=>v=.bl ah) λ_ _ _=>False):
 aq (VC P w) abD (.call (.ref fa) ⟨[.ref a],[]⟩) (λr s'=>r=.ok (.ret (.bool ah))/\OldK s₁.heap s'.heap/\s'.os=s₁.os/\ZS s'.gens) s₁:=by
 have rv:=ly hi;have i:=hi.length;have E:∀p∈tl,p.2.2≠a:=λp L z=>by have:=W p L;rw[z,l]at this;cases this
 let B:HO:=.frz {cls:=.type "list",data:=.seq vs.toArray} (.aD (ns.map V.int))
 let H:Hp:=λb=>if ∃p∈tl,p.2.2=b then aa (.tbl #[])else if b=a/\K.lookup a=af then aa B else af
 have Ht:∀p∈tl,H p.2.2=aa (.tbl #[]):=λp L=>bM ⟨p,L,rfl⟩;have O:∀b u,H b=aa u->(∃p∈tl,p.2.2=b/\u=.tbl #[])\/(b=a/\K.lookup a=af/\u=B):=λb u e=>by
  by_cases X:∃p∈tl,p.2.2=b
  ·have g:aa (HO.tbl #[])=aa u:=(bM X).symm.trans e;obtain⟨p,L,U⟩:=X;exact .inl ⟨p,L,U,(Vp g).symm⟩
  ·have g:(if b=a/\K.lookup a=af then aa B else af)=aa u:=(bN X).symm.trans e
   by_cases C:b=a/\K.lookup a=af
   ·rw[bM C]at g;exact .inr ⟨C.1,C.2,(Vp g).symm⟩
   rw[bN C]at g;exact bK g
 have G:∀{b:aB}{o:au}{n:Array aag}{t:Nat},s₁.heap.get? b=aa o->o.data=.dict n t->H b=af:=λ{b o n t} e d=>by
  cases q:H b with
  |none=>rfl
  |some u =>
   rcases O b u q with⟨p,L,U,_⟩|⟨U,_⟩
   ·have z:=W p L;rw[U,e]at z;cases z;cases d
   ·rw[U,l]at e;cases e;have d':Data.seq vs.toArray _=Data.dict n t:=d;cases d'
 have Z:∀ {b:aB}{m:aA->Option aC},s₁.heap.Ns b m->(uZ s₁.heap H).Ns b m:=λ{b m} ⟨o,n,t,e,d,r⟩=>⟨o,n,t,u5 e (G e d),d,r⟩;have T:K.In (uZ s₁.heap H):=λb o e=>u5 (D b o e) (by
  cases q:H b with
  |none=>rfl
  |some u =>
   rcases O b u q with⟨p,L,U,_⟩|⟨U,h3,_⟩
   rw[←U,S p L]at e;exact bK e
   ·rw[U,h3] at e;exact bK e)
 have hM:Mod K mg (uZ s₁.heap H):=⟨T,Z M,⟨mb,Z R,Q⟩,let ⟨mc,h1,U⟩:=j;⟨mc,Z h1,U⟩⟩;have aL:HOk P w H s₁.heap:=λb u e=>by
  rcases O b u e with⟨p,L,U,rfl⟩|⟨U,_,rfl⟩
  subst U;exact W p L;subst U;exact⟨l,by rw[Vx];exact hl,vs,_,rv,l⟩
 have e0:tG P w K mg (uZ s₁.heap H) abD [] s₁ H:=⟨rfl,hM,λb o e=>F5 e,Nat.le_of_eq (Ax _ _),trivial,λb R=>bO (show b∈([]:List aB) from R) (by simp),aL,.of_eq hg⟩;have tb:TB K H:=λz hz c Pt e=>by
  rcases hT.all z hz with⟨c3,P3,m3,y⟩|y
  ·rw[e]at y;cases y;exact⟨#[],Ht _ m3,trivial,λpos v q=>by cases q⟩
  rw[e]at y;cases y
 have hS:LL K H a (ns.map V.int):=by
  cases N:K.lookup a with
  |some o =>
   have e:=D a o N;rw[l]at e;cases e;exact .inr ⟨vs,_,N,by rw[i];exact hl,rv⟩
  |none =>
   refine .inl (.inr ⟨{cls:=.type "list",data:=.seq vs.toArray},?_⟩);have e1:H a=(if a=a/\K.lookup a=af then aa B else af):=bN λ⟨p,L,z⟩=>E p L z;rw[e1,bM ⟨rfl,N⟩]
 refine codeAny_mono ((F _).run abD [] s₁ H ⟨[.ref a],[]⟩ [.ref a] [.ref a] _ _ hr e0 (f s₁ (.ref a) D) (.cons rfl .nil) (I H tb hS)) λr s' h=>?_;cases r with
 |error e=>exact WI h
 |ok fl =>
  cases fl with
  |ret u =>
   obtain⟨v,H',os,A,un,Y,r',q⟩:=h;have q':v=.bl ah:=q;subst q';obtain rfl:u=abH ah:=r';have kp:∀b o,s₁.heap.get? b=aa o->(s'.heap.get? b=aa o)\/∃p∈tl,p.2.2=b/\∃J,s'.heap.get? b=aa (YW (#[]++J)):=λb o e=>by
    cases q:H b with
    |none=>exact .inl (un.keep b o e q (by intro z;exact bO (show b∈([]:List aB) from z) (by simp)) (by simp))
    |some u =>
     rcases O b u q with⟨p,L,U,rfl⟩|⟨U,h3,rfl⟩
     ·obtain⟨J,z⟩:=un.tbls b _ q;exact .inr ⟨p,L,U,J,Y b _ z⟩
     ·have z2:=un.frzs b _ _ q;obtain⟨e1,_⟩:=aL b _ q;obtain⟨e2,_⟩:=Y b _ z2;rw[e]at e1;cases e1;exact .inl e2
   refine⟨rfl,⟨λb o e=>?_,λb o e=>?_⟩,os,A⟩
   ·rcases kp b o e with z|⟨p,L,rfl,J,z⟩
    exact .inl z
    ·have e2:=W p L;rw[e]at e2;cases e2;have tA:=(X5 D (hT.hd p L)).tab e;exact .inr (.inl ⟨tA.isCodeTable,rfl,#[],J,rfl,z⟩)
   ·rcases kp b o e with z|⟨p,L,rfl,J,z⟩
    exact⟨o,z⟩;exact⟨_,z⟩
  |_=>exact WI h
section
variable{K:Ve}{D:aB}
def nN(e:F4 K c C=ah):CN K c C/\nh K C:=by unfold F4 at e;obtain⟨e1,e2⟩:=Bool.and_eq_true_iff.mp e;exact⟨bS (p:=V4 K VB c=aa (aa (.ref C))) e1,⟨e2⟩⟩
def FQ{c:aA}{C:aB}{m x qual:aA}{f:aB}{fn:aX}{rn:List aA}(Y:eX K (.cls c C)=eY w (.cls c C))(e:eX K (.me C m x qual f st)=eY w (.me C m x qual f st))
(a:jY (c5 st) fn.ns rn fn.body (dF st))(sc:eN fn.ns fn.ps (c5 st):=by constructor<;>first|rfl|decide +kernel)(V:BdT x qual st fn:=by intro _ _ _ _ _ _ us L;first|(obtain⟨O,U,rfl⟩:=IY L;rfl)|(obtain⟨O,rfl⟩:=M1 L;rfl)|(obtain⟨O,U,d,rfl⟩:=IZ L;rfl)|(obtain⟨O,U,d,j,rfl⟩:=Ja L;rfl))(tg:oK fn.ns=ah:=by decide +kernel):wg rn K c m fn:=by
 have W:=nM Y;simp only[eX,eY,Ov.fn.injEq]at e;obtain⟨e1,e2⟩:=e;obtain⟨h,F,kV,Z,g,i,b,ct,rfl⟩:=rf e2;have J:meB K C m f=ah:=by
  cases q:meB K C m f with
  |true=>rfl|false=>rw[q]at e1;exact bK e1
 simp only[meB,Vg,bP]at J;exact⟨C,f,_,x,qual,st,W,⟨J.1,J.2,F.kp⟩,F,sc,F.binds V,a,uV tg⟩
noncomputable def Jb:List ZA->List ZA
 |[.Try b _ _ _ _]=>b|_=>[]
end
section
variable{P:Vy}{w:VQ}{K:Ve}{h:av}{mg:aA->Option aC}{D:aB}{xs:List (aA×aB)}
def w6{rn:List aA}(e:eX K (.exc D xs)=eY w (.exc D xs))(W:xs.map (·.1)=rn):(∀c,rn.contains c=ah->∃C,CN K c C/\nh K C/\nY K C D=ah)/\nh K D/\CN K "TapeError" D:=by simp only[eX,eY,Ov.b.injEq]at e;unfold NQ at e;obtain⟨e1,e2⟩:=Bool.and_eq_true_iff.mp e;have Z:=List.all_eq_true.mp e2;refine⟨λc hc=>?_,(nN e1).2,(nN e1).1⟩;have:c∈rn:=List.contains_iff_mem.mp hc;rw[←W]at this;obtain⟨p,Y,rfl⟩:=List.mem_map.mp this;have q:=Z _ Y;unfold NP at q;simp only[Vg,bP]at q;obtain⟨⟨⟨⟨⟨⟨⟨⟨⟨⟨⟨J,L⟩,j⟩,i⟩,h⟩,g⟩,f⟩,d⟩,a⟩,V⟩,U⟩,O⟩:=q;exact⟨p.2,(nN J).1,(nN J).2,L⟩
def FU{rn:List aA}{TX:bB->Option aX}(X:K.In h)(W:h.Ns VB mg)(e:eX K (.exc D xs)=eY w (.exc D xs))(U:xs.map (·.1)=rn)(df:∀x fn,TX (.f x)=aa fn->HU rn K mg x fn)(me:∀c m fn,TX (.m c m)=aa fn->wg rn K c m fn)(O:∀L fn,TX (.l L)=aa fn->False:=by intro L fn e;cases e):BA rn K mg TX :=
 ⟨df,me,λc hc=>by obtain⟨C,J,V,_⟩:=(w6 e U).1 c hc;exact⟨C,J,Ww X W J,V⟩,O⟩
end
inductive B7(P:Vy)(w:VQ)(K:Ve)(mg:aA->Option aC)(lvl:Nat)(c m:aA)(g:List aP->aO->Option (aP×aO)):Prop
 |mk(C J:aB)(L:Wp)(pg:List aA)(h1:lR K c C)(h2:ve K C m J)(O:Binds K L pg [])(U:∀base,gO P w K mg base CX0 lvl J L pg (spF P w K g)):B7 P w K mg lvl c m g
def FW{h:av}(X:K.In h){C:aB}(x:nh K C):nY K C C=ah:=by obtain⟨V,i,nm,Y,bs,L,W,sub,g,U,dd,d,c,k2,b,a,Z,f,e,O,T,J⟩:=x.obj X;have J:K.lookup C=_:=J;unfold nY;rw[J];show(Wm C::V).contains (.ref C)=ah;simp
section
variable{P:Vy}{w:VQ}{K:Ve}{h:av}{mg:aA->Option aC}{D:aB}{xs:List (aA×aB)}
def yz{rn:List aA}{T TX:bB->Option aX}{G:aA->Option aP}(X:K.In h)(B:h.Ns VB mg)(XT:Txt P w K mg T G)(A:BA rn K mg TX)(ex:eX K (.exc D xs)=eY w (.exc D xs))(l:xs.map (·.1)=rn)
{k j:Nat}{fn:aX}{c cn:aA}{C:aB}{m x qual:aA}{f:aB}{i p2 g n pos:Pos}(u:eX K (.cls c C)=eY w (.cls c C))(e:eX K (.me C m x qual f st)=eY w (.me C m x qual f st))(V:rn.contains cn=ah)
(r:dF st=[.Try (Jb (dF st)) [.ExceptHandler (aa (.Name cn i)) af [.Return (aa (.Constant .none j p2)) g] n] [] [] pos])
(s:jY (c5 st) fn.ns [] fn.body (Jb (dF st)))(U:dU (c5 st) cn=ah)
(t:CSs (c5 st) fn.ns fn.body (Jb (dF st)):=by repeat' (first|rfl|constructor|decide +kernel))(s3:eN fn.ns fn.ps (c5 st):=by constructor<;>first|rfl|decide +kernel)
(o:BdT x qual st fn:=by intro _ _ _ _ _ _ us O;first|(obtain⟨b,a,rfl⟩:=IY O;rfl)|(obtain⟨b,a,z,rfl⟩:=IZ O;rfl)|(obtain⟨b,a,z,R,rfl⟩:=Ja O;rfl))
(tg:oK fn.ns=ah:=by decide +kernel)(L:dY cn=ah:=by decide +kernel):
 B7 P w K mg (2*(k+1)) c m (oJ (aS T G k) (BT.gP T TX G k) (BT.dk T) G fn cn):=by
 obtain⟨d,H,E⟩:=w6 ex l;obtain⟨S,Y,W,N⟩:=d cn V;have p:=nM u;simp only[eX,eY,Ov.fn.injEq]at e;obtain⟨e1,e2⟩:=e;obtain⟨M,F,kV,v,I,Q,y,ct,rfl⟩:=rf e2;have J:meB K C m f=ah:=by
  cases q:meB K C m f with
  |true=>rfl|false=>rw[q]at e1;exact bK e1
 simp only[meB,Vg,bP]at J;refine⟨C,f,_,fn.ps,p,⟨J.1,J.2,F.kp⟩,F.binds o,λZ=>?_⟩;exact EO XT A Y W (FW X W) F s3 r t s (wZ tg) U L (Ww X B Y) W
def B8{T:bB->Option aX}{G:aA->Option aP}(X:K.In h)(r:h.Ns VB mg)(XT:Txt P w K mg T G){k:Nat}{fn:aX}{c:aA}{C:aB}{m x qual:aA}{f:aB}(b:eX K (.cls c C)=eY w (.cls c C))(e:eX K (.me C m x qual f st)=eY w (.me C m x qual f st))(ck:CkB x qual st fn)
{O L:aA}{g:List aP->aO->Option (aP×aO)}(U:¬("__init__":aA)=L)(M:B7 P w K mg (2*k) O L g)(tg:oK fn.ns=ah:=by decide +kernel):B7 P w K mg (2*(k+1)) c m (rK (jG O L g (aS T G k)) G fn):=by
 have V:=nM b;obtain⟨s,l,n,pg,a,Z,Y,W⟩:=M;simp only[eX,eY,Ov.fn.injEq]at e;obtain⟨e1,e2⟩:=e;obtain⟨o,F,kV,d,j,p,i,ct,rfl⟩:=rf e2;have J:meB K C m f=ah:=by
  cases q:meB K C m f with
  |true=>rfl|false=>rw[q]at e1;exact bK e1
 simp only[meB,Vg,bP]at J;refine⟨C,f,_,fn.ps,V,⟨J.1,J.2,F.kp⟩,F.binds ck.bd,λbase=>?_⟩;exact sH (base:=base) XT k F ck.sc ck.ck (uV tg) U a Z Y (W base)
end
def FY{l:PySem.W.OpenLaw}{n k:Nat}{q:Vy}{loose:List aA}{XP:(aA->Option aC)->av->Prop}{d:DefRec}{as:List aB}{j:List Qy}{ts:List aB}{tl:List (aA×aB×aB)}{T:bB->Option aX}{G:aA->Option aP}{fn:aX}{x c m:aA}{g:List aP->aO->Option (aP×aO)}
(hn:l.most=aa n)(y:n<=ao)(A:d.params.defaults=[])(N:fG (2*k+1+1) abD)(O:fn.ps=[x])(hT:T (.f d.name)=aa fn)(Q:¬("__init__":aA)=m)(r:ts=tl.map (·.2.2))(t:tl.all (λp=>!as.contains p.2.2)=ah)
(FT:∀(w:VQ)(K:Ve),(∀q∈j,eX K q=eY w q)->M3 K tl)
(F:∀(P:Vy)(w:VQ)(mg:aA->Option aC)(K:Ve) (h:av),K.In h->h.Ns VB mg->(∀q∈j,eX K q=eY w q)->Txt P w K mg T G)
(FX:∀(P:Vy)(w:VQ)(mg:aA->Option aC)(K:Ve) (h:av),K.In h->h.Ns VB mg->(∀q∈j,eX K q=eY w q)->B7 P w K mg (2*k) c m g)
(Z:∀ns:List Int,ns.length<=n->∃h',rK (jG c m g (aS T G k)) G fn [.p (.aD (BT.cZ ns))] []=aa (.p (.bl ah),h')):
 PySem.W.WalkO q loose XP (sees as j ts).says l.row.toRowW d [] (λf vs=>abI f vs):=by
 refine Att.vn hn A λw C J mg mb fa o pm cd doc a vs ns V Y ho hd S z i U L R=>?_;obtain⟨K,M,I,k2,E⟩:=Y;have B:=IW I;have X:=F l.prog w mg K J.heap B V.T.g k2;obtain⟨C1,ga,fg,pg,g1,g2,g3,g4⟩:=FX l.prog w mg K J.heap B V.T.g k2;obtain⟨f,fd,st,D,h2,h3,h4,h5,h6⟩:=(X.defs _ fn hT).ex;rw[z]at D;cases D;refine B6 (sp:=spF l.prog w K (rK (jG c m g (aS T G k)) G fn)) (x:=x) (k:=2*k+1+1) (fd:=fd) (tl:=tl) B V.T.g V.T.b V.T.builtins V.T.nolimit R i U (VJ L y) N (FT w K k2) (λp v=>E _ (by rw[r];exact List.mem_map_of_mem v)) (λp v=>?_) (λbase=>?_) (λs u hK=>?_) (λH tb hS=>FL tb hS (Z ns L))
 ·cases e:K.lookup p.2.2 with
  |none=>rfl
  |some o =>
   have m:=yy e;rw[M]at m;have:=List.all_eq_true.mp t p v;rw[List.contains_iff_mem.mpr m]at this;exact aU this
 ·have:=sH (base:=base) X k h2 h3 h5 h6 Q g1 g2 g3 (g4 base);rw[O]at this;exact this
 ·have:=h4 s [u] hK (by rw[O];rfl);rw[O]at this;exact this
end BG
end
section
namespace BL
open PySem PySem.Spec PyProof.Rows L2 BS BF BG
def Ub:CkB "is_whole" "is_whole" (top 11) BT.jk:={}
def Uc:CkB "is_name" "is_name" (top 12) BT.iU:={}
def Ud:CkB "is_cell" "is_cell" (top 13) BT.j9:={}
def Ue:CkB "inner_sums" "inner_sums" (top 14) BT.fX:={}
def Ug:CkB "begun" "begun" (top 23) BT.nu:={}
def Uh:CkB "check_thing" "check_thing" (top 24) BT.fN:={}
def Ui:CkB "worth_in" "worth_in" (top 25) BT.jg:={}
def Uj:CkB "laid_out" "laid_out" (top 26) BT.jf:={}
def Uk:CkB "of_two" "of_two" (top 27) BT.lK:={}
def Ul:CkB "worth_of" "worth_of" (top 28) BT.fL:={}
def Um:CkB "reckoned" "reckoned" (top 29) BT.jh:={}
def Uo:CkB "cell_by" "cell_by" (top 30) BT.jZ:={}
def Up:CkB "is_over" "is_over" (top 31) BT.iV:={}
def Uq:CkB "place_behind" "place_behind" (top 32) BT.gc:={}
def Ur:CkB "with_worth" "with_worth" (top 33) BT.gU:={}
def Us:CkB "with_name" "with_name" (top 34) BT.iE:={}
def Ut:CkB "with_thing" "with_thing" (top 35) BT.fY:={}
def Uu:CkB "brought" "brought" (top 36) BT.iW:={}
def Uv:CkB "stepped" "stepped" (top 37) BT.j4:={}
def Uw:CkB "_law_cell" "_law_cell" (top 45) BT.ig:={}
def Ux:CkB "_law_drawn" "_law_drawn" (top 46) BT.iF:={}
def Uy:CkB "_law_sum" "_law_sum" (top 47) BT.gh:={}
def Uz:CkB "_law_row" "_law_row" (top 48) BT.j7:={}
def UA:CkB "_law_program" "_law_program" (top 49) BT.fM:={}
def UB:CkB "_law_asked" "_law_asked" (top 50) BT.iG:={}
def UC:CkB "_law_thing" "_law_thing" (top 51) BT.gG:={}
def UD:CkB "_law_of" "_law_of" (top 52) BT.sR:={}
def UE:CkB "_law_tree" "_law_tree" (top 53) BT.jo:={}
def UF:CkB "_law_all" "_law_all" (top 54) BT.kj:={}
def UG:CkB "law" "law" (top 55) BT.iz:={}
def M4:CkB "__init__" "Tape.__init__" (eU 40 0) BT.iH:={}
def M5:CkB "at" "Tape.at" (eU 40 1) BT.j8:={}
def M6:CkB "end" "Tape.end" (eU 40 2) BT.jm:={}
def Jc:CkB "behind" "Tape.behind" (eU 40 10) BT.gE:={}
def Jd:CkB "is_last" "Tape.is_last" (eU 40 11) BT.fF:={}
def Je:CkB "keep" "Tape.keep" (eU 40 12) BT.gF:={}
def Jf:CkB "reach" "Tape.reach" (eU 40 13) BT.gW:={}
def Jg:CkB "has" "Tape.has" (eU 40 14) BT.iw:={}
def Jh:CkB "check" "Tape.check" (eU 40 15) BT.gX:={}
def M7:CkB "__init__" "Branch.__init__" (eU 42 0) BT.gH:={}
def M8:CkB "__init__" "Tree.__init__" (eU 43 0) BT.iJ:={}
def M9:CkB "part" "Tree.part" (eU 43 1) BT.iK:={}
def Na:CkB "at" "Tree.at" (eU 43 2) BT.kg:={}
def Nb:CkB "end" "Tree.end" (eU 43 3) BT.jn:={}
def Nc:CkB "parent" "Tree.parent" (eU 43 4) BT.gJ:={}
def Nf:CkB "path" "Tree.path" (eU 43 5) BT.gK:={}
def Ng:CkB "children" "Tree.children" (eU 43 6) BT.gS:={}
def Nh:CkB "shared" "Tree.shared" (eU 43 7) BT.i6:={}
def Ji:CkB "check_run" "Tree.check_run" (eU 43 10) BT.fH:={}
def Jj:CkB "first" "Tree.first" (eU 43 11) BT.fZ:={}
def Jk:CkB "holder" "Tree.holder" (eU 43 12) BT.fO:={}
def tab:List (bB×aX):=[(.f "is_whole",BT.jk),(.f "is_name",BT.iU),(.f "is_cell",BT.j9),(.f "inner_sums",BT.fX),(.f "begun",BT.nu),(.f "check_thing",BT.fN),(.f "worth_in",BT.jg),(.f "laid_out",BT.jf),(.f "of_two",BT.lK),(.f "worth_of",BT.fL),(.f "reckoned",BT.jh),(.f "cell_by",BT.jZ),(.f "is_over",BT.iV),(.f "place_behind",BT.gc),(.f "with_worth",BT.gU),(.f "with_name",BT.iE),(.f "with_thing",BT.fY),(.f "brought",BT.iW),(.f "stepped",BT.j4),(.f "_law_cell",BT.ig),(.f "_law_drawn",BT.iF),(.f "_law_sum",BT.gh),(.f "_law_row",BT.j7),(.f "_law_program",BT.fM),(.f "_law_asked",BT.iG),(.f "_law_thing",BT.gG),(.f "_law_of",BT.sR),(.f "_law_tree",BT.jo),(.f "_law_all",BT.kj),(.f "law",BT.iz),(.m "Tape" "__init__",BT.iH),(.m "Branch" "at",BT.j8),(.m "Branch" "end",BT.jm),(.m "Branch" "behind",BT.gE),(.m "Branch" "is_last",BT.fF),(.m "Branch" "keep",BT.gF),(.m "Branch" "reach",BT.gW),(.m "Branch" "has",BT.iw),(.m "Branch" "check",BT.gX),(.m "Branch" "__init__",BT.gH),(.m "Tree" "__init__",BT.iJ),(.m "Tree" "part",BT.iK),(.m "Tree" "at",BT.kg),(.m "Tree" "end",BT.jn),(.m "Tree" "parent",BT.gJ),(.m "Tree" "path",BT.gK),(.m "Tree" "children",BT.gS),(.m "Tree" "shared",BT.i6),(.m "Tree" "check_run",BT.fH),(.m "Tree" "first",BT.fZ),(.m "Tree" "holder",BT.fO)]
noncomputable def aG:List (aA×aP):=[("CELL_COUNT",.p (.int 4)),("WORTH_COUNT",.p (.int 10007)),("ROW",.p (.int 0)),("NAMES",.p (.int 1)),("CELLS",.p (.int 2)),("CALLS",.p (.int 3)),("ASKED",.p (.int 4)),("SAID",.p (.int 5)),("MOST_CALLS",.p (.int 6)),("MOST_MARKS",.p (.int 8)),("LETTERS",.p (.aE ((["a","b","c","d","e","f"]:List aA).map aQ.str))),("INNER_COUNTS",.k (.t (([("num",0),("name",0),("cell",1),("add",2),("sub",2),("mul",2),("less",2)]:List (aA×Int)).map λq=>(q.1,aQ.int q.2))))]
noncomputable abbrev T:bB->Option aX:=look tab
noncomputable abbrev G:aA->Option aP:=look aG
def Jl:List (bB×aX):=[(.m "Tree" "at",BT.gw)]
noncomputable abbrev TX:bB->Option aX:=look Jl
def prg:BT.Prg T G:=⟨rfl,rfl,rfl,rfl,rfl,rfl,rfl,rfl,rfl,rfl,rfl,rfl,rfl,rfl,rfl,rfl,rfl,rfl,rfl,rfl,rfl,rfl,rfl,rfl,rfl,rfl⟩
def tpp:BT.TpP "Branch" T G:=⟨prg,rfl,rfl,rfl,rfl,rfl,rfl,rfl,rfl,rfl⟩
def trp:BT.TrP T G:=⟨tpp,⟨rfl⟩,rfl,rfl,rfl,rfl,rfl,rfl,rfl,rfl,rfl,⟨rfl,rfl⟩,⟨rfl⟩⟩
def lws:BT.nL T TX:=⟨⟨⟨rfl,rfl,rfl,rfl,rfl⟩,rfl,rfl,rfl⟩,rfl,⟨rfl,rfl,rfl⟩,⟨rfl⟩,rfl⟩
noncomputable abbrev F63:FT:=jG "Tree" "apart" (BT.aR T TX G 25) (aS T G 39)
def run(ns:List Int)(h:ns.length<=1000):∃h',rK F63 G BT.iz [.p (.aD (BT.cZ ns))] []=aa (.p (.bl ah),h') :=
 BT.B3 (k:=25) (F:=F63) trp lws ⟨λx=>rfl,λm J=>nq (λq=>J q.2),n9⟩ ns h
def QL(w:VQ)(K:Ve)(J:∀q∈qys,eX K q=eY w q):M3 K tl:=by
 refine⟨λz L=>?_,λp O=>?_⟩
 ·simp only[BT.jc,aaP,YM,or_false]at L;rcases L with rfl|rfl|rfl|rfl|rfl|rfl|rfl|rfl|rfl|rfl|rfl|rfl|rfl|rfl|rfl
  exact .inr (eZ (w:=w) (hn J 63 rfl));exact .inr (eZ (w:=w) (hn J 64 rfl));exact .inr (eZ (w:=w) (hn J 65 rfl));exact .inr (eZ (w:=w) (hn J 66 rfl));exact .inr (eZ (w:=w) (hn J 67 rfl));exact .inr (eZ (w:=w) (hn J 68 rfl));exact .inr (eZ (w:=w) (hn J 69 rfl));exact .inr (eZ (w:=w) (hn J 70 rfl));exact .inr (eZ (w:=w) (hn J 71 rfl));exact .inr (eZ (w:=w) (hn J 72 rfl));exact .inr (eZ (w:=w) (hn J 73 rfl));exact .inr (eZ (w:=w) (hn J 74 rfl));exact .inr (eZ (w:=w) (hn J 75 rfl));exact .inr (eZ (w:=w) (hn J 76 rfl));exact .inr (eZ (w:=w) (hn J 77 rfl))
 simp[tl]at O
def txt(P:Vy)(w:VQ)(mg:aA->Option aC)(K:Ve)(h:av)(X:K.In h)(O:h.Ns VB mg)(J:∀q∈qys,eX K q=eY w q):Txt P w K mg T G:=by have V:=QL w K J;have all:∀p∈tab,w5 K mg p:=dh (dd0 X O (hn J 0 rfl) Ub) <|dh (dd0 X O (hn J 1 rfl) Uc) <|dh (dd0 X O (hn J 2 rfl) Ud) <|dh (dd0 X O (hn J 3 rfl) Ue) <|dh (dd0 X O (hn J 4 rfl) Ug) <|dh (dd0 X O (hn J 5 rfl) Uh) <|dh (dd0 X O (hn J 6 rfl) Ui) <|dh (dd0 X O (hn J 7 rfl) Uj) <|dh (dd0 X O (hn J 8 rfl) Uk) <|dh (dd0 X O (hn J 9 rfl) Ul) <|dh (dd0 X O (hn J 10 rfl) Um) <|dh (dd0 X O (hn J 11 rfl) Uo) <|dh (dd0 X O (hn J 12 rfl) Up) <|dh (dd0 X O (hn J 13 rfl) Uq) <|dh (dd0 X O (hn J 14 rfl) Ur) <|dh (dd0 X O (hn J 15 rfl) Us) <|dh (dd0 X O (hn J 16 rfl) Ut) <|dh (dd0 X O (hn J 17 rfl) Uu) <|dh (dd0 X O (hn J 18 rfl) Uv) <|dh (dd0 X O (hn J 19 rfl) Uw) <|dh (dd0 X O (hn J 20 rfl) Ux) <|dh (dd0 X O (hn J 21 rfl) Uy) <|dh (dd0 X O (hn J 22 rfl) Uz) <|dh (dd0 X O (hn J 23 rfl) UA) <|dh (dd0 X O (hn J 24 rfl) UB) <|dh (dd0 X O (hn J 25 rfl) UC) <|dh (dd0 X O (hn J 26 rfl) UD) <|dh (dd0 X O (hn J 27 rfl) UE) <|dh (dd0 X O (hn J 28 rfl) UF) <|dh (dd0 X O (hn J 29 rfl) UG) <|dh (dm0 X O (hn J 78 rfl) (hn J 79 rfl) (hn J 84 rfl) M4) <|dh (dm0 X O (hn J 80 rfl) (hn J 81 rfl) (hn J 85 rfl) M5) <|dh (dm0 X O (hn J 80 rfl) (hn J 81 rfl) (hn J 86 rfl) M6) <|dh (dm0 X O (hn J 80 rfl) (hn J 81 rfl) (hn J 87 rfl) Jc) <|dh (dm0 X O (hn J 80 rfl) (hn J 81 rfl) (hn J 88 rfl) Jd) <|dh (dm0 X O (hn J 80 rfl) (hn J 81 rfl) (hn J 89 rfl) Je) <|dh (dm0 X O (hn J 80 rfl) (hn J 81 rfl) (hn J 90 rfl) Jf) <|dh (dm0 X O (hn J 80 rfl) (hn J 81 rfl) (hn J 91 rfl) Jg) <|dh (dm0 X O (hn J 80 rfl) (hn J 81 rfl) (hn J 92 rfl) Jh) <|dh (dm0 X O (hn J 80 rfl) (hn J 81 rfl) (hn J 93 rfl) M7) <|dh (dm0 X O (hn J 82 rfl) (hn J 83 rfl) (hn J 94 rfl) M8) <|dh (dm0 X O (hn J 82 rfl) (hn J 83 rfl) (hn J 95 rfl) M9) <|dh (dm0 X O (hn J 82 rfl) (hn J 83 rfl) (hn J 96 rfl) Na) <|dh (dm0 X O (hn J 82 rfl) (hn J 83 rfl) (hn J 97 rfl) Nb) <|dh (dm0 X O (hn J 82 rfl) (hn J 83 rfl) (hn J 98 rfl) Nc) <|dh (dm0 X O (hn J 82 rfl) (hn J 83 rfl) (hn J 99 rfl) Nf) <|dh (dm0 X O (hn J 82 rfl) (hn J 83 rfl) (hn J 100 rfl) Ng) <|dh (dm0 X O (hn J 82 rfl) (hn J 83 rfl) (hn J 101 rfl) Nh) <|dh (dm0 X O (hn J 82 rfl) (hn J 83 rfl) (hn J 102 rfl) Ji) <|dh (dm0 X O (hn J 82 rfl) (hn J 83 rfl) (hn J 103 rfl) Jj) <|dh (dm0 X O (hn J 82 rfl) (hn J 83 rfl) (hn J 104 rfl) Jk) <|Au;refine⟨λx fn e=>?_,λc m fn e=>?_,λL fn e=>?_,λx z e=>?_,?_⟩;exact i7 (Q:=λk fn=>∀x,k=.f x->Def K mg x fn) (l:=tab) (λp U=>(all p U).1) e x rfl;exact i7 (Q:=λk fn=>∀c m,k=.m c m->EB K mg c m fn) (l:=tab) (λp U=>(all p U).2.1) e c m rfl;exact i7 (Q:=λk fn=>∀L,k=.l L->False) (l:=tab) (λp U=>(all p U).2.2) e L rfl;exact i7 (Q:=λx z=>yx P w K mg x z) (l:=aG) (dh (f6 X O (hn J 30 rfl)) <|dh (f6 X O (hn J 31 rfl)) <|dh (f6 X O (hn J 32 rfl)) <|dh (f6 X O (hn J 33 rfl)) <|dh (f6 X O (hn J 34 rfl)) <|dh (f6 X O (hn J 35 rfl)) <|dh (f6 X O (hn J 36 rfl)) <|dh (f6 X O (hn J 37 rfl)) <|dh (f6 X O (hn J 38 rfl)) <|dh (f6 X O (hn J 39 rfl)) <|dh (FO X O (hn J 40 rfl) (by decide) (by decide +kernel)) <|dh (FP X O (hn J 41 rfl) (by decide) (by decide +kernel)) <|Au) e;exact dh (none_of X O (hn J 42 rfl)) <|dh (none_of X O (hn J 43 rfl)) <|dh (none_of X O (hn J 44 rfl)) <|dh (none_of X O (hn J 45 rfl)) <|dh (none_of X O (hn J 46 rfl)) <|dh (none_of X O (hn J 47 rfl)) <|dh (none_of X O (hn J 48 rfl)) <|dh (none_of X O (hn J 49 rfl)) <|dh (none_of X O (hn J 50 rfl)) <|dh (none_of X O (hn J 51 rfl)) <|dh (none_of X O (hn J 52 rfl)) <|dh (none_of X O (hn J 53 rfl)) <|dh (none_of X O (hn J 54 rfl)) <|dh (none_of X O (hn J 55 rfl)) <|dh (none_of X O (hn J 56 rfl)) <|dh (none_of X O (hn J 57 rfl)) <|dh (none_of X O (hn J 58 rfl)) <|dh (none_of X O (hn J 59 rfl)) <|dh (none_of X O (hn J 60 rfl)) <|dh (none_of X O (hn J 61 rfl)) <|dh (none_of X O (hn J 62 rfl)) <|Au
noncomputable abbrev rn:List aA:=(["NoMoment","NoRun","NoThing"]:List aA)
def ckA:CkB "apart" "Tree.apart" (eU 43 8) BT.gY:={}
def cxF:jY (c5 (eU 43 13)) BT.dJ.ns [] BT.dJ.body (Jb (dF (eU 43 13))):=.one (.ret (.aH rfl rfl (by decide) ce ce))
def Ni:jY (c5 (eU 43 2)) BT.gw.ns rn BT.gw.body (dF (eU 43 2)):=.cons ce (.ex rfl (.aH rfl rfl (by decide) ce ce)) (.cons ce (.setx rfl (.aH rfl rfl (by decide) ce ce)) (.cons ce (.set rfl) (.cons ce (.setx rfl (.bin (.no rfl))) (.cons ce (.v rfl ce (.one (.rai2 rfl rfl rfl rfl (by decide +kernel) (by decide +kernel) ce ce)) .nil) .bads))))
def txX(w:VQ)(mg:aA->Option aC)(K:Ve)(h:av)(X:K.In h)(O:h.Ns VB mg)(J:∀q∈qys,eX K q=eY w q):BA rn K mg TX:=by have all:∀p∈Jl,(∀x,p.1=.f x->HU rn K mg x p.2)/\∀c m,p.1=.m c m->wg rn K c m p.2:=dh ⟨λx e=>(by cases e),λc m e=>(by cases e;exact FQ (hn J 82 rfl) (hn J 96 rfl) Ni)⟩ <|Au;refine FU X O (hn J 105 rfl) rfl (λx fn e=>?_) (λc m fn e=>?_);exact i7 (Q:=λk fn=>∀x,k=.f x->HU rn K mg x fn) (l:=Jl) (λp L=>(all p L).1) e x rfl;exact i7 (Q:=λk fn=>∀c m,k=.m c m->wg rn K c m fn) (l:=Jl) (λp L=>(all p L).2) e c m rfl
def apt(P:Vy)(w:VQ)(mg:aA->Option aC)(K:Ve)(h:av)(X:K.In h)(L:h.Ns VB mg)(J:∀q∈qys,eX K q=eY w q):B7 P w K mg (2*39) "Tree" "apart" (BT.aR T TX G 25) :=
 B8 (k:=38) X L (txt P w mg K h X L J) (hn J 82 rfl) (hn J 107 rfl) ckA (by decide) (yz (k:=37) (fn:=BT.dJ) (cn:="NoMoment") X L (txt P w mg K h X L J) (txX w mg K h X L J) (hn J 105 rfl) rfl (hn J 82 rfl) (hn J 106 rfl) rfl rfl cxF rfl)
noncomputable abbrev lw:DefRec:=⟨"law",f7 (top 55),dF (top 55),c5 (top 55),RO (top 55)⟩
def df:PySem.W.defOf qg "law"=aa (lw,[]):=by kernel_rfl
def th:pg.theDef "law"=aa (lw.params,lw.body,lw.scope):=by kernel_rfl
def walk:PySem.W.WalkO qg loo (PySem.W.XL qg []) (sees adr qys tas).says PySem.Challenge.rw_backtape_k63_whole_apart.row.toRowW lw [] (λf vs=>abI f vs) :=
 FY (l:=PySem.Challenge.rw_backtape_k63_whole_apart) (n:=63) (k:=39) (x:="_law_script") (d:=lw) (c:="Tree") (m:="apart") (g:=BT.aR T TX G 25) (T:=T) (G:=G) (ts:=tas) (fn:=BT.iz) rfl (by decide) rfl ⟨rfl,by decide,by decide⟩ rfl rfl (by decide) (tl:=tl) rfl (by decide +kernel) QL txt apt λJ L=>run J (by lia)
end BL
open PySem PySem.W PyProof.Rows
set_option maxRecDepth 100000 in
set_option maxHeartbeats 0 in
theorem PySem.Challenge.cw_backtape_k63_whole_apart_holds : PySem.Challenge.rw_backtape_k63_whole_apart.Holds := by
 w_on;refine PySem.W.holds_law (by decide +kernel) λsaid=>?_
 refine PySem.W.holds_open (q:=BL.qg) (loose:=BL.loo) (XP:=XL BL.qg []) (YP:=(BG.sees BL.adr BL.qys BL.tas).says) (d:=BL.lw) (kwd:=[]) BL.left (BG.sees BL.adr BL.qys BL.tas).of (BG.sees BL.adr BL.qys BL.tas).keeps (λs e=>xl_of s (Bool.and_eq_true_iff.mp e).1) XL.keeps BL.df BL.th (by kernel_rfl) (λs e=>recFacts_of (Bool.and_eq_true_iff.mp e).2) rfl (by first|assumption|decide +kernel) (by decide +kernel) ⟨rfl,rfl,rfl,rfl,rfl,by decide +kernel⟩ ?hw BL.walk
 (case hw=>w_witness2)
#print axioms PySem.Challenge.cw_backtape_k63_whole_apart_holds
end
end

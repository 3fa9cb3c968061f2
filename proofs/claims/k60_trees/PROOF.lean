import PyProof.Rows.All
import Wide.All
import OpenK.AllK
import Wide.FinOn
import PyProof.EqAt
import PyProof.EqKinds
import PyProof.TupleCall
import Open.Tree
import Wide.Once
import KE.KLam
import KE.KNestM
import KE.KIsAll
import OpenK.KMore
import KE.KSortTup
import PyProof.Rows.SetFrom
import PyProof.IsiH_list
import PyProof.Rows.Exc
import KE.KDictOf
import PySem.Syntax
import PySem.Builtin.Str.Common
import PyProof.SliceList
import PyProof.StrCalls2
import KE.KIntText
import PyProof.NeData
import PyProof.ExcAttrAll.ValueError
import PyProof.ZipIter
import KE.KRevIter
import KE.KItemsList
import KE.KDictSum
import PyProof.DictWalks
import KE.KPairComp
import KE.KEqDict
import PyProof.StrBlock2
import PyProof.StrBlockL
import PyProof.ConsumeWalk
import PyProof.ListRange
import PyProof.EnumFor
import PyProof.EnumMake
import PyProof.EnumStmt
import PyProof.CompFree
import PyProof.PlainList
import PyProof.Draws
import PyProof.StrWalks
import PyProof.StrLawsTight
import KE.KTryDeep
import PyProof.FString
import PyProof.FitsInt
import PyProof.RulesAs
import PyProof.ExcBaseAll.ValueError
import Lean
import PySem.Challenge.RW_backtape_k60_trees
set_option autoImplicit true
set_option Elab.async false
set_option linter.all false
set_option maxRecDepth 100000
set_option maxHeartbeats 8000000
set_option genSizeOf false
set_option compiler.extract_closed false
set_option bootstrap.genMatcherCode false
noncomputable section
def bK:=@if_pos
def bL:=@if_neg
def bM:=@absurd
def bN:=@decide_eq_true_eq
def bO:=@decide_eq_false
def bP:=@decide_eq_true
def bQ:=@of_decide_eq_true
def bR:=@eq_of_beq
def bS:=@congrArg
def bT:=@beq_eq_false_iff_ne
open PySem renaming Value->aA,Str->az,wpAny->ay,wpAny_pure->av,Heap->au,Obj->aq,codeAny->ao,sizeLine->ak
open Option renaming some->aa,none->af
open Bool renaming true->ah,false->ai
open PySem.W renaming Frag->VE,findIn->Wc,keepIn->Wh,nsIn->Wp,mg_of->Ww,fnOf->WL,emptyDict->WQ,hideAll->WS,kitOne->WX,tabIn->W4,instObj->Xb,callWith_K->Xh,kia_one->Xk,specialIn->Xm,hasDictIn->Xn,hideAll_get->Xw,plainGet->X3,codeHd_of_K->Yg,of_hideAll->Yl,codeIn->Yq,cellsFrom_some->YG,takesIn->YM,methodCall_KW->YN,isFn->YO,envX->YQ,tabObj->Y0,lookIn->Y3,plainGet_of->Zb,callWith_K0->Zc,mroIn->Zh,plainOver->Zr,methodObj->Zs,codeHdIn->Zv,takerIn->ZI,readsIn->ZJ,makesIn->ZL,byRow2->ZX,absHeap->Z9,SharedT->aaa,recOk->aab,excIn->aac,xlAt->aai,hideAll_none->aap,codeRec_of->aaG,wideGood->aaW,handedIn->aaX,clsGoodW->aaY,openSeen->aa7,findCls->abf
open List renaming getElem?_append_left->VF,getElem?_eq_getElem->VL,size_toArray->VM,getElem?_eq_none->VP,length_cons->VU,map_cons->VX,getElem?_map->VY,mem_cons_of_mem->VZ,mem_of_getElem?->V0,getElem?_set_ne->V1,replicate->V3,range->V5,mem_cons_self->V6,getElem?_append_right->V7,length_map->V8,getElem?_set_self->Wb,mem_append_right->Wd,length_append->Wg,filterMap_cons->Wl,length_set->Ws,length_nil->Wu,map_nil->Wx,append_nil->Wz,not_mem_nil->WA,replicate_succ->WD,append_assoc->WG,getElem?_replicate->WY,getD_eq_getElem?_getD->W6,singleton_append->W9,mem_cons->Xa,mem_append_left->Xc,getElem?_of_mem->Xd,getElem?_take_of_lt->Xe,flatten_cons->Xf,all_eq_true->Xi,nil_append->Xo,mem_or_eq_of_mem_set->Xy,drop_eq_getElem_cons->Xz,lookup_cons->XI,length_take->XJ,lookup->XM,getElem?_cons_succ->XS,find?_cons->XU,range_succ_eq_map->XZ,length_replicate->X6,dropLast_concat_getLast->Yh,map_congr_left->Ym,map_append->Yn,getElem?_range->Yo,mem_singleton->Yz,drop_zero->YA,getElem_mem->YR,drop_length->YS,reverse_singleton->YW,find?_cons_of_neg->YX,of_mem_zip->Y4,map_set->Y5,length_singleton->Y6,length->Zj,contains_cons->Zu,length_range->ZE,set_set->ZM,map_map->ZN,isEmpty_nil->ZR,getElem_inj->ZS,eq_nil_of_length_eq_zero->ZT,getElem?_eq_none_iff->aaf,foldl->aaj,sum_cons->aaq,head_eq_of_cons_eq->aar,length_filter_le->aaH,range'->aa0,filterMap_map->abh
open PySem renaming Shared->VG,Expr->VI,wpAny_bind->VJ,Addr->VS,Program->VV,mainGlobals->VW,Stmt->V2,model->V4,starEach->Wi,World->Wj,sliceBounds->Wo,Around->Wq,Scope->Wv,compareOp->WE,wpAny_mono->WJ,wpAny_holding->WN,wpAny_Call_Name_kw->WO,FuncData->WT,wpAny_truthy_bool->W3,binaryOp->W7,wpAny_passesOwn->Xs,backTo->Xu,wpAny_newObj_type->XA,call_meets->XC,assignEach->XD,mem_of_lookup->XH,builtinsNs->XX,wpAny_loadPart'->X0,NameKind->X4,sysModules->Yd,bootBuiltins->Yj,wpAny_execs_cons->Yp,wpAny_standAt->Yu,strLen_append->Yv,wpAny_execs_nil->YB,swapsWith->YC,letOwnedTupleGo->YD,codeAny_mono->YL,Keyword->YU,sliceRange->YZ,keywordEach->Y7,holding->Y8,excClassObj->Y9,attributeBase->Za,wpAny_pyReprObj_gives->Zn,importedModules->Zo,Operator->Zt,Stmt->Zy,Expr->ZF,wpAny_field->ZH,Builtin->ZO,noteFrame->ZU,comprehension->ZV,assign->ZW,PassesOwn->ZZ,ExceptHandler->Z2,DictEntry->Z3,Comprehension->Z4,wpAny_Assign_Name->Z6,getItem->Z7,foldedSetIterable->Z8,IsPart->aag,noFill_tuple_add->aah,compEnvC->aan,backToKw->aao,wpAny_in_of->aat,standAt->aau,spliced->aav,getMethod->aaw,cellsFrom->aax,ofString_length->aay,Within->aaz,Arguments->aaD,wpAny_newFunctionEnv_cells->aaE,wpAny_binaryOp_repeat_ref->aaK,wpAny_FormattedValue_repr->aaL,cLine->aaM,bltViewBooted->aaN,wpAny_getItem_list_slice->aaS,wpAny_call->aaT,Result->aaV,wpAny_list_append_plain->aa1,wpAny_callSpecial?_slot->aa2,wpAny_attempt->aa3,seq_tuple_add->aa6,leaving->aa8,evalPart_none->aa9,callerA->aba,bindArgs->abb,behindInMarks->abc,call->abe
open Bool renaming and_eq_true->VH,false_ne_true->WU,or_eq_true->Xq,or_false->Yi,not_eq_true'->YF,or_eq_false_iff->aaQ,false_eq_true->abj
open Option.some renaming inj->VN,injEq->Yk
open PySem.Heap renaming get?_push_of_some->VO,lt_size->VT,get?_push_size->Wm,SameBut->WZ,MadeExcOf->X5,get?_update_other->YY,size_push->Zi,HeldW->aak,get?_update_self->aaI
open PySem.Str renaming ofString->VQ,empty->XG,ofString_eq_toList->aaF
open Nat renaming le_refl->VR,lt_or_ge->V9,le_trans->Wa,ne_of_lt->We,lt_of_lt_of_le->Wk,lt_irrefl->WB,zero_le->WM,eq_zero_or_pos->WV,le_succ->W0,lt_succ_self->W8,mul_comm->XR,zero_add->X7,le_of_lt->X8,lt_succ_of_lt->YJ,ne_of_gt->Zd,mul_div_cancel->Zw,succ_le_succ->Z0,div_add_mod->aae,lt_trans->aaO,le_of_ble_eq_true->aaP,div_le_div_right->aaZ
open Option renaming bind_some->Wr,map_some->XQ,getD_some->ZD,getD_none->abg
open False renaming elim->Wy
open PyProof.Rows renaming callWith_type1->WC,slot_tuple_getitem->W5,envOfC->Xr,plainGoodE->Zz,plainGoodD->ZA,expectedOf->ZC,AllBare->ZP,drecsOf->ZY,Subscript_->aaU,tail_any->aa4,subscriptTail->aa5,IntsAre->abi
open PySem.F renaming plainAttrs_list->WH,type_list_append->Yw,slot_list_append->Yx,args_tuple_add_2->Yy,entry_tuple_add->YE,slot_tuple_add->YH,excBase_ValueError->ZQ
open Ne renaming symm->WI
open PySem.Value renaming ref->WK,str->Xv,none->XY,builtin->Ye,isStrOf->Zp,int->Zq,bool->abd
open PySem.Builtin.List renaming listTooLong->WR
open PySem.NameKind renaming free->WW,cell->Zg
open Array renaming length_toList->Xg,eq_empty_of_size_eq_zero->ZG,getElem?_toList->aaB
open PySem.Calls renaming spliced_cons->Xj,evalArgs_plain->Yc,Name_function_global->Ys,Constant_str->Yt,callWith_builtin->YV,spliced_nil->Zx,loadGlobal_global->aam
open PySem.Builtin.Slice renaming slicePlaces->Xl,sliceAdjust->Yb,sliceApplied->Zm
open PySem.Builtin.Tuple renaming tupleExact->Xp,tupleTooMany->Zk,tupleItemsOf->Zl
open PySem.Builtin.Str renaming occurrences->Xx
open True renaming intro->XN
open List.cons renaming injEq->X9
open PySem.PassesOwn renaming looking->Yr,never->YI,leaving->aaA
open ForInStep renaming yield->YK
open Int renaming natCast_add->Ze
open PySem.Obj renaming mapSeq->Zf
open PySem.Heap.IsSliceOf renaming new->Z1
open Classical renaming axiomOfChoice->Z5
open Prod.mk renaming injEq->aad
open Char renaming toNat->aal
open PySem.Around renaming under->aas,frames_deeper->aaC
open PySem.Code renaming isFrame->aaJ
open PySem.AutoSeq1 renaming idx_int->aaR
section
namespace L2
open PySem PySem.Spec PyProof.Rows
def gC(s:Zy):aaD:=match s with
 |.FunctionDef _ a _ _ _ _ _ _ _ _=>a|_=>{posonlyargs:=[],args:=[],vararg:=af,kwonlyargs:=[],kw_defaults:=[],kwarg:=af,defaults:=[]}
def dD(s:Zy):List Zy:=match s with
 |.FunctionDef _ _ b _ _ _ _ _ _ _=>b|_=>[]
def cY(s:Zy):Wv:=match s with
 |.FunctionDef _ _ _ _ _ _ J _ _ _=>J|_=>{kind:=.function,names:=[],isGenerator:=ai,isCoroutine:=ai}
end L2
end
section
namespace BR
open PySem PySem.W PyProof.Rows
noncomputable def vq:List aq->BT->Nat->Option (BT×Nat)
 |[],T,n=>aa (T,n)
 |o::r,T,n=>match ((T.ins n o).get n).isSome with
  |true=>vq r (T.ins n o) (n+1)|false=>af
theorem sM(J:Life):∀{l:List aq}{T O:BT}{n L:Nat},vq l T n=aa (O,L)->(Z9 O L J).objs.toList=(Z9 T n J).objs.toList++l
 |[],T,O,n,L,h=>by cases h;simp
 |o::r,T,O,n,L,h=>by
  unfold vq at h;cases g:((T.ins n o).get n).isSome with
  |false=>rw[g]at h;cases h
  |true =>
   rw[g]at h;rw[sM J h,absHeap_ins g];show((Z9 T n J).objs.push o).toList++r=_;simp
def toT(s:VG):Option aaa:=match vq s.heap.objs.toList .nil 0 with
 |some (T,n)=>aa ⟨T,n,s.heap.life,s.gens,s.drawn,s.toks,s.os⟩|none=>af
def F6(h:toT s=aa t):t.abs=s:=by
 unfold toT at h;cases e:vq s.heap.objs.toList .nil 0 with
 |none=>rw[e]at h;cases h
 |some r =>
  obtain⟨T,n⟩:=r;rw[e]at h;cases h;have:=sM s.heap.life e;obtain⟨⟨objs,life⟩,g,d,k,o⟩:=s;show Shared.mk (Z9 T n life) g d k o=Shared.mk ⟨objs,life⟩ g d k o;have e2:(Z9 T n life).objs.toList=objs.toList:=by rw[this];simp[Z9,BT.list]
  have L:(Z9 T n life).objs=objs:=Array.toList_inj.mp e2;have J:Z9 T n life=⟨objs,life⟩:=by show Heap.mk _ _=Heap.mk _ _;exact bS (Heap.mk · life) L
  rw[J]
noncomputable def pU(tb:String->Option ZO)(p:VV)(w:Wj)(n₀:Nat)(ann:Option aA):Nat->aaa->Thread->Option aaa
 |0,_,_=>af
 |n+1,s,t=>match through t with
  |true=>aa s
  |false=>match stepOk n₀ ann t with
   |false=>af
   |true=>match stepT (denote tb) p w s t with
    |some (s',t')=>pU tb p w n₀ ann n s' t'|none=>af
section
variable{tb:String->Option ZO}{p:VV}{w:Wj}{n₀:Nat}{ann:Option aA}
theorem sN:∀{n:Nat}{s s':aaa}{t:Thread},pU tb p w n₀ ann n s t=aa s'->topRun tb p w n₀ ann n s.abs t=aa s'.abs
 |0,_,_,_,h=>by cases h
 |n+1,s,s',t,h=>by
  unfold pU at h;unfold topRun;cases V:through t with
  |true=>rw[V]at h;cases h;rfl
  |false =>
   rw[V]at h;cases U:stepOk n₀ ann t with
   |false=>rw[U]at h;cases h
   |true =>
    rw[U]at h;cases J:stepT (denote tb) p w s t with
    |none=>rw[J]at h;cases h|some r=>obtain⟨O,L⟩:=r;rw[J]at h;dsimp only;rw[stepT_spec J];exact sN h
end
def qp(tb:String->Option ZO)(p:VV)(w:Wj)(N:Nat)(s₀:VG):Option aaa :=
 match s₀.heap.isNs VW&&s₀.gens.size==0 with
 |true=>(toT s₀).bind λL=>(pU tb p w s₀.heap.objs.size (s₀.heap.nsMap VW "__annotations__") N L (topStub p)).bind λJ =>
  match staticsOk (Zo p.main.body) s₀.heap J.abs.heap&&namesBound p J.abs.heap&&gensDone J.abs&&laidKept s₀.heap J.abs.heap with
   |true=>aa J|false=>af
 |false=>af
def xK(h:qp tb p w N s₀=aa t):topFrom tb p w N s₀=aa t.abs:=by
 unfold qp at h;unfold topFrom;cases e:(s₀.heap.isNs VW&&s₀.gens.size==0)with
 |false=>rw[e]at h;cases h
 |true =>
  rw[e]at h;obtain⟨L,V,h⟩:=Option.bind_eq_some_iff.mp h;obtain⟨J,U,h⟩:=Option.bind_eq_some_iff.mp h;have O:=sN U;rw[F6 V]at O;dsimp only;rw[O];show(match _ with|true=>aa J.abs|false=>af)=_;cases e2:(staticsOk (Zo p.main.body) s₀.heap J.abs.heap&&namesBound p J.abs.heap&&gensDone J.abs&&laidKept s₀.heap J.abs.heap)with
  |false=>rw[e2]at h;cases h|true=>rw[e2]at h;cases h;rfl
def lW(tb:String->Option ZO)(p:VV)(w:Wj)(N:Nat):Option aaa:=(fencedOpening tb p w N).bind (qp tb p w N)
def F7{tb:String->Option ZO}{p:VV}{w:Wj}{N:Nat}{L:Type}{f:VG->L}{x:L}(h:(lW tb p w N).map (λt=>f t.abs)=aa x):(openEnds tb p w N).map f=aa x:=by obtain⟨t,O,e⟩:=Option.map_eq_some_iff.mp h;obtain⟨J,V,U⟩:=Option.bind_eq_some_iff.mp O;unfold openEnds;rw[V];show(topFrom tb p w N J).map f=aa x;rw[xK U];exact bS aa e
def Co{J U O L:Type}{o:Option J}{f:J->U×O}{g:J->L}{x:U}{y:O}{z:L}(h1:o.map (λt=>(f t).1)=aa x)(h2:o.map (λt=>(f t).2)=aa y)(V:o.map g=aa z):o.map (λt=>(f t,g t))=aa ((x,y),z):=by
 cases o with
 |none=>cases h2
 |some t =>
  have e1:(f t).1=x:=VN h1;have e2:(f t).2=y:=VN h2;have W:g t=z:=VN V;show aa (f t,g t)=_;rw[←e1,←e2,←W]
theorem good(q:VV)(loose:List az):openGood q loose=(ZC q,aaN,ah,ah,PySem.pinGoodD (ZY q),Zz q (PySem.W.looseW q loose),ZA q loose,aaW q,aaY q loose):=rfl
def LA(tb:String->Option ZO)(p q:VV)(loose J:List az)(O:VG->Bool)(L:Bool)(N:Nat)(w:Wj):Prop :=
 (lW tb p w N).map (λt=>(aa7 q loose J O L t.abs).1)=aa (ZC q)
def LB(tb:String->Option ZO)(p q:VV)(loose J:List az)(O:VG->Bool)(L:Bool)(N:Nat)(w:Wj):Prop :=
 (lW tb p w N).map (λt=>((aa7 q loose J O L t.abs).2.1,(aa7 q loose J O L t.abs).2.2.1,(aa7 q loose J O L t.abs).2.2.2.1,(aa7 q loose J O L t.abs).2.2.2.2.1))=aa (aaN,ah,ah,PySem.pinGoodD (ZY q))
def LC(tb:String->Option ZO)(p q:VV)(loose J:List az)(O:VG->Bool)(L:Bool)(N:Nat)(w:Wj):Prop :=
 (lW tb p w N).map (λt=>(aa7 q loose J O L t.abs).2.2.2.2.2)=aa (Zz q (PySem.W.looseW q loose),ZA q loose,aaW q,aaY q loose)
def two_bc{tb:String->Option ZO}{p q:VV}{loose J:List az}{O:VG->Bool}{L:Bool}{N:Nat}{w:Wj}(h:LB tb p q loose J O L N w)(h':LC tb p q loose J O L N w):
 (lW tb p w N).map (λt=>(aa7 q loose J O L t.abs).2)=aa (aaN,ah,ah,PySem.pinGoodD (ZY q),Zz q (PySem.W.looseW q loose),ZA q loose,aaW q,aaY q loose):=by
 unfold LB at h
 unfold LC at h'
 cases e:lW tb p w N with
 |none=>rw[e] at h;cases h
 |some t =>
  rw[e] at h h';have a:=Option.some.inj h;have b:=Option.some.inj h';have a1:=Prod.mk.inj a;have a2:=Prod.mk.inj a1.2;have a3:=Prod.mk.inj a2.2;exact congrArg some (Prod.ext a1.1 (Prod.ext a2.1 (Prod.ext a3.1 (Prod.ext a3.2 b))))
def LO(tb:String->Option ZO)(p:VV)(N:Nat){J:Type}(L:VG->J)(O:Wj->J)(w:Wj):Prop:=(lW tb p w N).map (λt=>L t.abs)=aa (O w)
def F8{tb:String->Option ZO}{p q:VV}{loose J:List az}{O:VG->Bool}{L:Bool}{N:Nat}{V:Type}{U:VG->V}{W:Wj->V}{w:Wj}(h1:LA tb p q loose J O L N w)(h2:LB tb p q loose J O L N w)(h4:LC tb p q loose J O L N w)(Y:LO tb p N U W w):
 (openEnds tb p w N).map (λs=>(aa7 q loose J O L s,U s))=aa (openGood q loose,W w):=by
 rw[good];have h:=Co (f:=λt:aaa=>aa7 q loose J O L t.abs) (g:=λt:aaa=>U t.abs) h1 (two_bc h2 h4) Y;exact F7 (f:=λs=>(aa7 q loose J O L s,U s)) h
end BR
end
section
namespace BG
open PySem PySem.Spec PySem.Calls PyProof.Rows L2
structure FS where
 name:az
 qual:az
 params:aaD
 body:FuncBody
 scope:Wv
 globals:VS
 closure:List (az×VS)
 defaults:aA
 builtins:VS
 code:Bool
noncomputable def F9(K:VE)(f:VS):Option FS:=match K.lookup f with
 |some ⟨_,_,.func fd,_⟩=>aa ⟨fd.name,fd.qualname,fd.params,fd.body,fd.scope,fd.globals,fd.closure,fd.defaults,fd.builtins,Yq K fd.code fd.qualname⟩|_=>af
noncomputable def yU(x qual:az)(st:Zy):FS:=⟨x,qual,gC st,.stmts (dD st),cY st,VW,[],.none,XX,ah⟩
noncomputable def strOf:aA->Option az
 |.str x _=>aa x|_=>af
noncomputable def intOf:aA->Option Int
 |.int i _=>aa i|_=>af
noncomputable def refOf:Option (Option aA)->Option VS
 |some (aa (.ref a))=>aa a|_=>af
inductive Qy
 |fn(x:az)(f:VS)(st:Zy)|int(x:az)(n:Int)|aB(x:az)(f:VS)(xs:List az)|dct(x:az)(f:VS)(kvs:List (az×Int))|no(x:az)|cls(c:az)(C:VS)|me(C:VS)(m x qual:az)(f:VS)(st:Zy)|mk(C:VS)
 |tab(x:az)(c P:VS)|bm(b:VS)|fv(x:az)(f:VS)|exc(D:VS)(xs:List (az×VS))
 |str(x s:az)|stp(f:VS)(xs:List az)|dtp(x:az)(f:VS)(kvs:List (az×VS))
inductive Ov
 |fn(a:Option VS)(o:Option FS)|int(n:Option Int)|seq(a:Option VS)(c:Option (aA×Option VS×Nat))(xs:Option (List (Option az)))|dct(a:Option VS)(c:Option (aA×Option VS×Nat))(xs:Option (List (Int×Option az×Option Int)))|b(x:Bool)
noncomputable def shp(o:aq):aA×Option VS×Nat:=(o.cls,o.dict,o.slots.size)
def Cq(o:aq):Option (List (Option az)):=match o.data with
 |.seq J _=>aa (J.toList.map strOf)|_=>af
def Jh(o:aq):Option (List (Int×Option az×Option Int)):=match o.data with
 |.dict J _=>aa (J.toList.map λe=>(e.hash,strOf e.key,intOf e.val))|_=>af
noncomputable def NV:aA->Option Int
 |.ref a=>aa (a:Int)|_=>af
def NW(o:aq):Option (List (Int×Option az×Option Int)):=match o.data with
 |.dict J _=>aa (J.toList.map λe=>(e.hash,strOf e.key,NV e.val))|_=>af
noncomputable def attrs:List az:=["program","asked","gap","most","kept","farthest","front","now","origins","branches","tape","named"]
def NX(K:VE)(c:az)(C:VS):Bool:=decide (Wp K VW c=aa (aa (.ref C)))&&X3 K C XG&&Xn K C&&Zr K C&&decide (Wc K (.ref C) "__setattr__"=aa (aa (.builtin "object.__setattr__"))) &&
 (attrs.all λf=>decide (Wc K (.ref C) f=aa af))&&ZJ K C (.type "type")
noncomputable def meB(K:VE)(C:VS)(m:az)(f:VS):Bool:=decide (Wc K (.ref C) m=aa (aa (.ref f)))&&YO K (.ref f)
noncomputable def mkB(K:VE)(C:VS):Bool:=ZL K C&&Wh K (.ref C)
noncomputable def bmB(K:VE)(b:VS):Bool:=decide (Wp K VW "__builtins__"=aa (aa (.ref b)))&&decide (b≠XX)&&(match K.lookup b with
 |some ⟨.type "module",aa d,.plain,_⟩=>d==XX
 | _=>ai)
noncomputable def So(K:VE)(C D:VS):Bool:=match K.lookup C with
 |some ⟨_,_,.cls cd,_⟩=>cd.mro.contains (.ref D)|_=>ai
noncomputable def Ga(K:VE)(c:az)(C:VS):Bool:=decide (Wp K VW c=aa (aa (.ref C)))&&aac K C [.type "ValueError",.type "Exception",.type "BaseException",.type "object"] "ValueError.__new__"
def Gb(K:VE)(D:VS)(xs:List (az×VS))(c:az)(C:VS):Bool:=Ga K c C&&So K C D&&decide (Wc K (.ref C) "__getattribute__"=aa (aa (.builtin "BaseException.__getattribute__")))&&decide (Wc K (.ref C) "__getattr__"=aa af) &&
 decide (Zh K C (.type "BaseException")=aa ah)&&Xn K C&&decide (Wc K (.ref C) "__class__"=aa (aa (.builtin "object.__class__")))&&decide (Xm K (.builtin "object.__class__") "__get__"=aa (aa (.builtin "getset_descriptor.__get__"))) &&
 decide (YM K (.builtin "object.__class__")=aa ah)&&decide (Zh K C (.type "object")=aa ah)&&decide (WX K (.ref C) (.type "ValueError")=aa ah)&&xs.all λq=>decide (WX K (.ref C) (.ref q.2)=aa (q.1==c))
def JR(K:VE)(D:VS)(xs:List (az×VS)):Bool:=Ga K "TapeError" D&&xs.all λq=>Gb K D xs q.1 q.2
def fD(K:VE):Qy->Ov
 |.fn x f _=>.fn (refOf (Wp K VW x)) (F9 K f)|.int x _=>.int (match Wp K VW x with|some (aa v)=>intOf v|_=>af)|.aB x f _=>.seq (refOf (Wp K VW x)) ((K.lookup f).map shp) ((K.lookup f).bind Cq)|.dct x f _=>.dct (refOf (Wp K VW x)) ((K.lookup f).map shp) ((K.lookup f).bind Jh)|.no x=>.b (decide (Wp K VW x=aa af))|.cls c C=>.b (NX K c C)|.me C m _ _ f _=>.fn (if meB K C m f then aa f else af) (F9 K f)|.mk C=>.b (mkB K C)|.tab x c P=>.b (decide (W4 K x=aa (c,P))&&Zv K c P)|.bm b=>.b (bmB K b)|.fv x f=>.b (decide (Wp K VW x=aa (aa (.ref f)))&&Wh K (.ref f))|.exc D J=>.b (JR K D J)|.str x _=>.seq af af (match Wp K VW x with|some (aa v)=>aa [strOf v]|_=>af)|.stp f _=>.seq af ((K.lookup f).map shp) ((K.lookup f).bind Cq)|.dtp x f _=>.dct (refOf (Wp K VW x)) ((K.lookup f).map shp) ((K.lookup f).bind NW)
def fE(w:Wj):Qy->Ov
 |.fn x f st=>.fn (aa f) (aa (yU x x st))|.int _ n=>.int (aa n)|.aB _ f O=>.seq (aa f) (aa (.type "tuple",af,0)) (aa (O.map aa))|.dct _ f J=>.dct (aa f) (aa (.type "dict",af,0)) (aa (J.map λq=>(PyData.keyHash w.params q.1,aa q.1,aa q.2)))|.no _=>.b ah|.cls _ _=>.b ah|.me _ _ x L f st=>.fn (aa f) (aa (yU x L st))|.mk _=>.b ah|.tab _ _ _=>.b ah|.bm _=>.b ah|.fv _ _=>.b ah|.exc _ _=>.b ah|.str _ s=>.seq af af (aa [aa s])|.stp f O=>.seq af (aa (.type "tuple",af,0)) (aa (O.map aa))|.dtp _ f J=>.dct (aa f) (aa (.type "dict",af,0)) (aa (J.map λq=>(PyData.keyHash w.params q.1,aa q.1,aa (q.2:Int))))
noncomputable def KOf(as:List VS)(h:au):VE:=as.map λa=>(a,(h.get? a).getD default)
def sees(as:List VS)(J:List Qy)(ts:List VS):PySem.W.Hook where
 α:=Bool×List Ov×List (Option aq)
 obs:=λs=>(as.all λa=>(s.heap.get? a).isSome,J.map (fD (KOf as s.heap)),ts.map s.heap.get?)
 val:=λw=>(ah,J.map (fE w),ts.map λ_=>aa (Y0 #[]))
 says:=λw h=>∃K:VE,K.map (·.1)=as/\(∀p∈K,h.get? p.1=aa p.2)/\(∀q∈J,fD K q=fE w q)/\∀P∈ts,h.get? P=aa (Y0 #[])
 of:=λw s e=>by have e1:=bS Prod.fst e;have e2:=bS (λp=>p.2.1) e;have b:=bS (λp=>p.2.2) e;refine⟨KOf as s.heap,by simp[KOf,Function.comp_def],λp L=>?_,λq U=>List.map_inj_left.mp e2 q U,λP O=>List.map_inj_left.mp b P O⟩;obtain⟨a,Y,rfl⟩:=List.mem_map.mp L;have Z:=List.all_eq_true.mp e1 a Y;obtain⟨o,V⟩:=Option.isSome_iff_exists.mp Z;show s.heap.get? a=aa ((s.heap.get? a).getD default);rw[V];rfl
 keeps:=λw h h' ⟨K,m,n,k,t⟩ hk=>⟨K,m,λp L=>hk _ _ (n p L),k,λP O=>hk _ _ (t P O)⟩
end BG
end
section
namespace BL
open PySem PySem.Spec PyProof.Rows L2 BG
noncomputable abbrev pg:VV:=PySem.Challenge.pw_backtape_k60_trees
def qg:VV:=PySem.W.view pg [0,2,3,4,5,6,8,9,10,11,12,13,14,15,17,18,19,20,21,22,23,24,25,26,27,28,29,30,31,32,33,34,35,36,37,38,40,41,43,44,46,47,48,49,50,51,52,53,54,55,56,57,58,59,60,61,62,63]
noncomputable abbrev loo:List az:=["INNER_COUNTS"]
def top(i:Nat):Zy:=pg.main.body.getD i (.Pass ⟨0,0,0,0⟩)
noncomputable def NY:Zy->List Zy
 |.ClassDef _ _ _ b _ _ _ _ _ _ _=>b|_=>[]
def fj(i j:Nat):Zy:=(NY (top i)).getD j (.Pass ⟨0,0,0,0⟩)
noncomputable def Sq:Zy->Pos
 |.FunctionDef _ _ _ _ _ _ _ _ _ p=>p|_=>⟨0,0,0,0⟩
noncomputable abbrev adr:List VS:=[2,3,30,31,43,44,55,56,67,68,79,80,83,84,90,91,97,98,104,105,111,112,118,119,125,126,132,133,139,140,146,147,153,154,160,161,167,168,174,175,181,182,188,189,195,196,202,203,209,210,216,217,230,231,237,238,244,245,298,299,305,306,312,313,319,320,326,327,333,334,371,372,389,390,392,393,408,409,415,416,422,423,429,430,436,437,443,444,448,449,476,477,483,484,490,491,500,501,511,512,518,519,525,526,532,533,537,538,542,543,549,550,556,557,563,564,570,571,577,578,584,585,591,592,598,599,605,606,612,613,619,620,624,625]
def qys:List Qy:=[.fn "is_whole" 91 (top 12),
 .fn "is_name" 98 (top 13),
 .fn "is_cell" 105 (top 14),
 .fn "inner_sums" 112 (top 15),
 .fn "begun" 119 (top 24),
 .fn "check_thing" 126 (top 25),
 .fn "worth_in" 133 (top 26),
 .fn "laid_out" 140 (top 27),
 .fn "of_two" 147 (top 28),
 .fn "worth_of" 154 (top 29),
 .fn "reckoned" 161 (top 30),
 .fn "cell_by" 168 (top 31),
 .fn "is_over" 175 (top 32),
 .fn "place_behind" 182 (top 33),
 .fn "with_worth" 189 (top 34),
 .fn "with_name" 196 (top 35),
 .fn "with_thing" 203 (top 36),
 .fn "brought" 210 (top 37),
 .fn "stepped" 217 (top 38),
 .fn "_law_cell" 512 (top 46),
 .fn "_law_drawn" 519 (top 47),
 .fn "_law_sum" 526 (top 48),
 .fn "_law_row" 533 (top 49),
 .fn "_law_program" 538 (top 50),
 .fn "_law_asked" 543 (top 51),
 .fn "_law_worth" 550 (top 52),
 .fn "_law_is_over" 557 (top 53),
 .fn "_law_write" 564 (top 54),
 .fn "_law_put" 571 (top 55),
 .fn "_law_step" 578 (top 56),
 .fn "_law_states" 585 (top 57),
 .fn "_law_thing" 592 (top 58),
 .fn "_law_of" 599 (top 59),
 .fn "_law_refused" 606 (top 60),
 .fn "_law_parted" 620 (top 62),
 .fn "law" 625 (top 63),
 .int "CELL_COUNT" 4,
 .int "WORTH_COUNT" 10007,
 .int "ROW" 0,
 .int "NAMES" 1,
 .int "CELLS" 2,
 .int "CALLS" 3,
 .int "ASKED" 4,
 .int "SAID" 5,
 .int "MOST_CALLS" 6,
 .int "MOST_MARKS" 8,
 .aB "LETTERS" 83 ["a","b","c","d","e","f"],
 .dct "INNER_COUNTS" 84 [("num",0),("name",0),("cell",1),("add",2),("sub",2),("mul",2),("less",2)],
 .no "len",
 .no "abs",
 .no "int",
 .no "list",
 .no "tuple",
 .no "isinstance",
 .no "str",
 .no "bool",
 .no "range",
 .no "reversed",
 .no "enumerate",
 .no "zip",
 .no "min",
 .no "max",
 .no "sorted",
 .no "sum",
 .no "all",
 .no "any",
 .no "set",
 .no "ValueError",
 .no "dict",
 .no "worths_of",
 .no "last_change",
 .no "next_change",
 .no "moments_so",
 .no "last_so",
 .no "next_so",
 .no "visits",
 .no "last_visit",
 .no "when_said",
 .no "next_within",
 .no "last_within",
 .no "first_other",
 .no "writer_of",
 .no "judged",
 .no "remade",
 .cls "Tape" 372,
 .mk 372,
 .cls "Branch" 393,
 .mk 393,
 .cls "Tree" 501,
 .mk 501,
 .me 372 "__init__" "__init__" "Tape.__init__" 231 (fj 41 0),
 .me 393 "at" "at" "Tape.at" 238 (fj 41 1),
 .me 393 "end" "end" "Tape.end" 245 (fj 41 2),
 .me 393 "behind" "behind" "Tape.behind" 299 (fj 41 10),
 .me 393 "is_last" "is_last" "Tape.is_last" 306 (fj 41 11),
 .me 393 "keep" "keep" "Tape.keep" 313 (fj 41 12),
 .me 393 "reach" "reach" "Tape.reach" 320 (fj 41 13),
 .me 393 "has" "has" "Tape.has" 327 (fj 41 14),
 .me 393 "check" "check" "Tape.check" 334 (fj 41 15),
 .me 393 "__init__" "__init__" "Branch.__init__" 390 (fj 43 0),
 .me 501 "__init__" "__init__" "Tree.__init__" 409 (fj 44 0),
 .me 501 "part" "part" "Tree.part" 416 (fj 44 1),
 .me 501 "at" "at" "Tree.at" 423 (fj 44 2),
 .me 501 "end" "end" "Tree.end" 430 (fj 44 3),
 .me 501 "parent" "parent" "Tree.parent" 437 (fj 44 4),
 .me 501 "path" "path" "Tree.path" 444 (fj 44 5),
 .me 501 "children" "children" "Tree.children" 449 (fj 44 6),
 .me 501 "check_run" "check_run" "Tree.check_run" 477 (fj 44 10),
 .me 501 "first" "first" "Tree.first" 484 (fj 44 11),
 .me 501 "holder" "holder" "Tree.holder" 491 (fj 44 12),
 .fn "_law_told" 613 (top 61),
 .exc 31 [("NoMoment",44),("NoRun",56),("NoThing",68),("NoText",80)]]
noncomputable abbrev tl:List (az×VS×VS):=[]
noncomputable abbrev tas:List VS:=[]
abbrev LA:Wj->Prop:=BR.LA treeTable pg qg loo (Zo pg.main.body) (λs=>aai qg [] s&&aab [] s) ah 8654
def la0(w:Wj):LA (w.withFollow "special-get-raises" ai):=by unfold LA BR.LA;kernel_rfl
def la1(w:Wj):LA (w.withFollow "special-get-raises" ah):=by unfold LA BR.LA;kernel_rfl
abbrev LB:Wj->Prop:=BR.LB treeTable pg qg loo (Zo pg.main.body) (λs=>aai qg [] s&&aab [] s) ah 8654
def lb0(w:Wj):LB (w.withFollow "special-get-raises" ai):=by unfold LB BR.LB;kernel_rfl
def lb1(w:Wj):LB (w.withFollow "special-get-raises" ah):=by unfold LB BR.LB;kernel_rfl
abbrev LC:Wj->Prop:=BR.LC treeTable pg qg loo (Zo pg.main.body) (λs=>aai qg [] s&&aab [] s) ah 8654
def lc0(w:Wj):LC (w.withFollow "special-get-raises" ai):=by unfold LC BR.LC;kernel_rfl
def lc1(w:Wj):LC (w.withFollow "special-get-raises" ah):=by unfold LC BR.LC;kernel_rfl
abbrev LO:Wj->Prop:=BR.LO treeTable pg 8654 (sees adr qys tas).obs (sees adr qys tas).val
def lo0(w:Wj):LO (w.withFollow "special-get-raises" ai):=by unfold LO BR.LO;kernel_rfl
def lo1(w:Wj):LO (w.withFollow "special-get-raises" ah):=by unfold LO BR.LO;kernel_rfl
def left:PySem.W.LeftO pg qg loo (λs=>aai qg [] s&&aab [] s) (sees adr qys tas).obs (sees adr qys tas).val 8654:=λw=>BR.F8 (ZX (P:=LA) "special-get-raises" la0 la1 w) (ZX (P:=LB) "special-get-raises" lb0 lb1 w) (ZX (P:=LC) "special-get-raises" lc0 lc1 w) (ZX (P:=LO) "special-get-raises" lo0 lo1 w)
end BL
end
section
namespace L2
open PySem PySem.Spec PyProof.Rows
noncomputable abbrev Key:=Sum Int az
noncomputable def kQ:Key->aA->Bool
 |.inl k,v=>Value.isInt k v|.inr x,v=>Zp x v
noncomputable def NZ(w:Wj):Key->Int
 |.inl k=>hashInt k|.inr x=>hashStr w x
theorem d9:∀{k:Key}{v:aA},kQ k v=ah->(∃i t,k=Sum.inl i/\v=Zq i t)\/(∃x t,k=Sum.inr x/\v=Xv x t)
 |.inl i,v,h=>by obtain⟨t,e⟩:=Value.isInt_shape (k:=i) (v:=v) h;exact .inl ⟨i,t,rfl,e⟩
 |.inr x,v,h=>by obtain⟨t,e⟩:=Value.isStrOf_shape (x:=x) (v:=v) h;exact .inr ⟨x,t,rfl,e⟩
def AH(i:Int)(t:Tok):kQ (.inl i) (.int i t)=ah:=by simp[kQ,Value.isInt]
def AI(x:az)(t:Tok):kQ (.inr x) (.str x t)=ah:=by simp[kQ,Zp]
def JS(a b:Int):decide ((Sum.inl a:Key)=Sum.inl b)=(a==b):=by
 by_cases e:a=b
 subst e;simp
 ·have h:¬(Sum.inl a:Key)=Sum.inl b:=λq=>e (Sum.inl.inj q);rw[bO h];exact(beq_eq_false_iff_ne.mpr e).symm
def JT(a b:az):decide ((Sum.inr a:Key)=Sum.inr b)=decide (a=b):=by
 by_cases e:a=b
 subst e;simp
 ·have h:¬(Sum.inr a:Key)=Sum.inr b:=λq=>e (Sum.inr.inj q);rw[bO h,bO e]
def JU(a:Int)(b:az):decide ((Sum.inl a:Key)=Sum.inr b)=ai:=bO (λq=>nomatch q)
def JV(a:az)(b:Int):decide ((Sum.inr a:Key)=Sum.inl b)=ai:=bO (λq=>nomatch q)
def ef(prog:VV)(w:Wj):PySem.KeyKind prog w Key where
 is:=kQ
 hash:=NZ w
 inj:=λv a b U L=>by
  rcases d9 U with⟨i,t,rfl,rfl⟩|⟨x,t,rfl,rfl⟩
  ·rcases d9 L with⟨j,u,rfl,e⟩|⟨y,u,rfl,e⟩
   ·injection e with e1 _;rw[e1]
   exact nomatch e
  ·rcases d9 L with⟨j,u,rfl,e⟩|⟨y,u,rfl,e⟩
   exact nomatch e
   ·injection e with e1 _;rw[e1]
 byValue:=λk v h=>by rcases d9 h with⟨i,t,rfl,rfl⟩|⟨x,t,rfl,rfl⟩<;>rfl
 pyHash:=λJ h=>by
  rcases d9 J with⟨i,t,rfl,rfl⟩|⟨x,t,rfl,rfl⟩
  exact wpAny_pyHash_int h;exact wpAny_pyHash_str h
 eqBool:=λO J h=>by
  rcases d9 O with⟨i,t,rfl,rfl⟩|⟨x,t,rfl,rfl⟩
  ·rcases d9 J with⟨j,u,rfl,rfl⟩|⟨y,u,rfl,rfl⟩
   rw[JS]at h;exact wpAny_eqBool_int h;rw[JU]at h;exact SeqAt.EqAt.int_str i t y u _ _ _ _ h
  ·rcases d9 J with⟨j,u,rfl,rfl⟩|⟨y,u,rfl,rfl⟩
   rw[JV]at h;exact SeqAt.EqAt.str_int x t j u _ _ _ _ h;rw[JT]at h;exact wpAny_eqBool_str h
 «strs»:=λk x t v h=>by
  rcases d9 h with⟨i,u,rfl,e⟩|⟨y,u,rfl,e⟩
  exact nomatch e
  ·injection e with e1 _
   subst e1;cases v<;>rfl
def vv(prog:VV)(w:Wj)(i:Int)(t:Tok):(ef prog w).is (.inl i) (.int i t)=ah:=AH i t
def jC(prog:VV)(w:Wj)(x:az)(t:Tok):(ef prog w).is (.inr x) (.str x t)=ah:=AI x t
end L2
namespace L2
open PySem PySem.Spec PyProof.Rows
inductive V
 |aC|bl(b:Bool)|int(i:Int)|str(x:az)|byt(b:Array UInt8)|flt(b:UInt64)|ref(a:VS)|ty(n:String)
 deriving DecidableEq
noncomputable def RelV:V->aA->Prop
 |.aC,u=>u=XY|.bl b,u=>u=abd b|.int i,u=>∃t,u=Zq i t|.str x,u=>∃t,u=Xv x t|.byt b,u=>∃t,u=Value.bytes b t|.flt b,u=>∃t,u=Value.float b t|.ref a,u=>u=WK a|.ty n,u=>u=Value.type n
abbrev dJ:List V->List aA->Prop:=Paired RelV
def dJ.length(r:dJ xs us):xs.length=us.length:=Paired.length r
theorem dJ.get:∀{xs:List V}{us:List aA}{i:Nat}{x:V},dJ xs us->xs[i]?=aa x->∃u,us[i]?=aa u/\RelV x u
 |_,_,_,_,.nil,e=>by simp at e
 |_,_,0,_,.cons r _,e=>by simp at e;subst e;exact⟨_,rfl,r⟩
 |_,_,i+1,x,.cons _ t,e=>by obtain⟨u,L,J⟩:=dJ.get (i:=i) (x:=x) t (by simpa using e);exact⟨u,by simpa using L,J⟩
theorem dJ.set(r:RelV x u):∀{xs:List V}{us:List aA}(i:Nat),dJ xs us->dJ (xs.set i x) (us.set i u)
 |_,_,_,.nil=>.nil|_,_,0,.cons _ t=>.cons r t|_,_,i+1,.cons q t=>.cons q (dJ.set r i t)
theorem dJ.append:∀{xs ys:List V}{us ws:List aA},dJ xs us->dJ ys ws->dJ (xs++ys) (us++ws)
 |_,_,_,_,.nil,s=>s|_,_,_,_,.cons r t,s=>.cons r (dJ.append t s)
theorem dJ.take:∀{xs:List V}{us:List aA}(n:Nat),dJ xs us->dJ (xs.take n) (us.take n)
 |_,_,0,_=>.nil|_,_,_+1,.nil=>.nil|_,_,n+1,.cons r t=>.cons r (dJ.take n t)
theorem dJ.drop:∀{xs:List V}{us:List aA}(n:Nat),dJ xs us->dJ (xs.drop n) (us.drop n)
 |_,_,0,r=>r|_,_,_+1,.nil=>.nil|_,_,n+1,.cons _ t=>dJ.drop n t
def qq:Option V->Option aA->Prop
 |some v,aa u=>RelV v u|none,af=>True|_,_=>False
def KV{κ:Type}:List (κ×V)->List (κ×aA)->Prop:=Paired λ(p:κ×V)(q:κ×aA)=>p.1=q.1/\RelV p.2 q.2
noncomputable def kV:Key->V
 |.inl i=>.int i|.inr x=>.str x
inductive HO
 |aj(xs:List V)
 |aB(xs:List V)
 |dK(kvs:List (Key×V))|dT(kvs:List (List Key×V))
 |set(S:Int->Bool)(n:Nat)
 |ins(C dx:VS)(fs:List (az×V))
 |own(x:VS)
 |xd(fs:List (az×V))
 |met(f x:VS)
 |rng(lo hi:Int)
 |frz(o:aq)(u:HO)
 |tbl(ps:Array aA)
 |ext(J:au->Prop)
noncomputable abbrev Hp:=VS->Option HO
noncomputable def upd(H:Hp)(a:VS)(o:HO):Hp:=λb=>if b=a then aa o else H b
def eY:upd H a o a=aa o:=by unfold upd;rw[bK rfl]
def dH(h:b≠a):upd H a o b=H b:=by unfold upd;rw[bL h]
def fq{H:Hp}{a b:VS}{o:HO}(h:H a=aa o)(h':H b=af):a≠b:=by intro e;subst e;rw[h]at h';cases h'
section
variable(P:VV)(w:Wj)
def iC(H:Hp)(h:au)(a:VS):HO->Prop
 |.aj O=>O.length<=ak/\∃(L:List aA) (n:Nat),dJ O L/\h.get? a=aa {cls:=.type "list",data:=.seq L.toArray n}|.aB O=>O.length<=ak/\∃L:List aA,dJ O L/\IsTup h a L.toArray|.dK J=>J.length<=ak/\(a==Yd)=ai/\∃Z,KV J Z/\h.DictOf (ef P w) a Z
 |.dT J=>J.length<=ak/\(a==Yd)=ai/\∃O:List (List Key×VS×aA),
  Paired (λ(p:List Key×V)(q:List Key×VS×aA)=>p.1=q.1/\H q.2.1=aa (.aB (p.1.map kV))/\RelV p.2 q.2.2) J O ∧
  ∃o d i,h.get? a=aa o/\o.ExactDict/\o.data=.dict d i/\d.toList=O.map (entryOfKey (tupleKind (ef P w)))/\(O.map (·.1)).Nodup
 |.set S n=>h.SetOf (intKind P w) a S n|.ins C W fs=>H W=aa (.own a)/\fs.length<=1000/\W≠a/\h.get? a=aa (Xb C W) ∧
  ∃U,h.Ns1 W U/\(∀f,qq (fs.lookup f) (U f))/\aaz U (fs.map (·.1))
 |.own _=>∃o,h.get? a=aa o|.xd fs=>∃U,h.Ns1 a U/\∀f,qq (fs.lookup f) (U f)|.rng lo g=>∃t u v,h.get? a=aa {cls:=.type "range",data:=.fields #[.int lo t,.int g u,.int 1 v]}|.frz o u=>h.get? a=aa o/\iC H h a u|.tbl e=>h.get? a=aa {cls:=.none,data:=.fields e}|.met f x=>h.get? a=aa (Zs (.ref f) (.ref x))|.ext Y=>Y h/\(∃o,h.get? a=aa o)/\∀c b:au,Y c->(∀o,c.get? a=aa o->b.get? a=aa o)->Y b
def HOk(H:Hp)(h:au):Prop:=∀a o,H a=aa o->iC P w H h a o
end
section
variable{P:VV}{w:Wj}{H H':Hp}{h h':au}{a:VS}{o:HO}
def iC.lt(x:iC P w H h a o):a<h.objs.size:=by
 cases o with
 |aj J=>obtain⟨_,_,_,_,e⟩:=x;exact VT e|aB J=>obtain⟨_,_,_,p⟩:=x;exact p.lt|set S n=>obtain⟨o,_,_,_,e,_⟩:=x;exact VT e|ins C V fs=>obtain⟨_,_,_,e,_⟩:=x;exact VT e|own y=>obtain⟨_,e⟩:=x;exact VT e|xd fs=>obtain⟨_,⟨_,_,_,e,_⟩,_⟩:=x;exact VT e|rng lo U=>obtain⟨_,_,_,e⟩:=x;exact VT e|frz ob u=>obtain⟨e,_⟩:=x;exact VT e|tbl O=>exact VT (show h.get? a=aa _ from x)|met f y=>exact VT (show h.get? a=aa _ from x)|ext L=>obtain⟨_,⟨_,e⟩,_⟩:=x;exact VT e|_=>obtain⟨_,_,_,_,o,_,_,e,_⟩:=x;exact VT e
theorem Paired.N3:∀{L:List α}{J:List β},Paired F L J->(∀a b,F a b->G a b)->Paired G L J
 |_,_,.nil,_=>.nil|_,_,.cons r t,f=>.cons (f _ _ r) (Paired.N3 t f)
def iC.stay(x:iC P w H h a o)(k:∀b u,(b=a\/H b=aa (.own a))->h.get? b=aa u->h'.get? b=aa u)
(l:∀b,H b=aa (.own a)->H' b=aa (.own a))(j:∀b xs,H b=aa (.aB xs)->H' b=aa (.aB xs)):iC P w H' h' a o:=by
 induction o with
 |aj xs=>obtain⟨z,O,n,r,e⟩:=x;exact⟨z,O,n,r,k _ _ (.inl rfl) e⟩|aB xs=>obtain⟨z,O,r,ob,e,c⟩:=x;exact⟨z,O,r,ob,k _ _ (.inl rfl) e,c⟩|dK W=>obtain⟨z,y,Z,r,ob,J,L,e,c⟩:=x;exact⟨z,y,Z,r,ob,J,L,k _ _ (.inl rfl) e,c⟩
 |dT W =>
  obtain⟨z,y,xs,r,ob,J,L,e,c⟩:=x;exact⟨z,y,xs,Paired.N3 r λp q z=>⟨z.1,j _ _ z.2.1,z.2.2⟩,ob,J,L,k _ _ (.inl rfl) e,c⟩
 |set S n=>obtain⟨ob,J,L,t,e,c⟩:=x;exact⟨ob,J,L,t,k _ _ (.inl rfl) e,c⟩
 |ins C A fs =>
  obtain⟨d,z,g,e,V,⟨U,J,L,e2,c⟩,r⟩:=x;exact⟨l _ d,z,g,k _ _ (.inl rfl) e,V,⟨U,J,L,k _ _ (.inr d) e2,c⟩,r⟩
 |own y=>obtain⟨ob,e⟩:=x;exact⟨ob,k _ _ (.inl rfl) e⟩|xd fs=>obtain⟨V,⟨U,J,L,e,c⟩,r⟩:=x;exact⟨V,⟨U,J,L,k _ _ (.inl rfl) e,c⟩,r⟩|rng lo s=>obtain⟨t,u,v,e⟩:=x;exact⟨t,u,v,k _ _ (.inl rfl) e⟩|frz ob u i=>obtain⟨e,q⟩:=x;exact⟨k _ _ (.inl rfl) e,i q⟩
 |tbl Y =>
  have e:h.get? a=aa {cls:=.none,data:=.fields Y}:=x;show h'.get? a=aa {cls:=.none,data:=.fields Y};exact k a _ (.inl rfl) e
 |met f y =>
  have e:h.get? a=aa (Zs (.ref f) (.ref y)):=x;show h'.get? a=aa (Zs (.ref f) (.ref y));exact k a _ (.inl rfl) e
 |ext m=>obtain⟨p,⟨o,e⟩,st⟩:=x;exact⟨st _ _ p λo q=>k _ _ (.inl rfl) q,⟨o,k _ _ (.inl rfl) e⟩,st⟩
def HOk.lt(x:HOk P w H h)(e:H a=aa o):a<h.objs.size:=(x a o e).lt
def HOk.fresh(x:HOk P w H h)(e:h.objs.size<=a):H a=af:=by
 cases q:H a with
 |none=>rfl|some u=>exact bM (Wk (x.lt q) e) (WB _)
def HOk.aG(x:HOk P w H h)(k:∀b u,h.get? b=aa u->h'.get? b=aa u):HOk P w H h':=λa o e =>
 (x a o e).stay (λb u _ q=>k b u q) (λ_ q=>q) λ_ _ q=>q
def HOk.laid(x:HOk P w H h)(k:∀b u,h.get? b=aa u->h'.get? b=aa u)(L:h.objs.size<=a)(new:iC P w (upd H a o) h' a o):HOk P w (upd H a o) h':=λb u e=>by
 have hn:=x.fresh L
 by_cases J:b=a
 subst J;rw[eY]at e;cases e;exact new
 ·rw[dH J]at e;exact(x b u e).stay (λc v _ q=>k c v q) (λc q=>by rw[dH (fq q hn)];exact q) λc O q=>by rw[dH (fq q hn)];exact q
end
def Rd(H:Hp)(a:VS)(u:HO):Prop:=H a=aa u\/∃o,H a=aa (.frz o u)
def Rd.ok(r:Rd H a u)(x:HOk P w H h):iC P w H h a u:=by
 rcases r with r|⟨o,r⟩
 exact x a u r
 ·obtain⟨_,q⟩:=x a _ r;exact q
noncomputable def Mut:Option HO->Prop
 |some (.aj _)=>True|some (.dK _)=>True|some (.dT _)=>True|some (.set _ _)=>True|some (.ins _ _ _)=>True|some (.ext _)=>True|_=>False
section
variable{P:VV}{w:Wj}{H:Hp}{h h':au}{x e:VS}{o':HO}
def HOk.write(ok:HOk P w H h)(mu:Mut (H x))(Z:e=x\/H e=aa (.own x))(k:∀b u,b≠e->h.get? b=aa u->h'.get? b=aa u)(W:∃u,h'.get? e=aa u)
(new:iC P w (upd H x o') h' x o'):HOk P w (upd H x o') h':=λb u q=>by
 have L:∀c y,H c=aa (.own y)->c≠x:=λc y r z=>by subst z;rw[r]at mu;exact mu
 have O:∀c U,H c=aa (.aB U)->c≠x:=λc U r z=>by subst z;rw[r]at mu;exact mu
 by_cases V:b=x
 subst V;rw[eY]at q;cases q;exact new
 ·rw[dH V]at q
  by_cases J:b=e
  ·have Y:H b=aa (.own x):=by
    rcases Z with z|z
    exact bM (J.trans z) V;rw[J];exact z
   rw[q]at Y;cases Y;obtain⟨v,a⟩:=W;exact⟨v,by rw[J];exact a⟩
  ·refine(ok b u q).stay (λc v hc r=>k c v ?_ r) (λc r=>by rw[dH (L c b r)];exact r) λc U r=>by rw[dH (O c U r)];exact r
   rcases hc with rfl|hc
   exact J
   ·rintro rfl
    rcases Z with z|z
    exact L c b hc z;rw[hc]at z;cases z;exact V rfl
end
structure Un(fs ex:List VS)(H H':Hp)(h h':au):Prop where
 keep:∀b o,h.get? b=aa o->H b=af->b∉fs->b∉ex->h'.get? b=aa o
 slot:∀b o,h.get? b=aa o->H b=af->b∈fs->b∉ex->∃sl,h'.get? b=aa {o with slots:=sl}
 free:∀b o,h.get? b=aa o->H b=af->b∉ex->H' b=af
 there:∀b o,h.get? b=aa o->b∉ex->∃o',h'.get? b=aa o'
 tups:∀b xs,H b=aa (.aB xs)->H' b=aa (.aB xs)
 frzs:∀b o u,H b=aa (.frz o u)->H' b=aa (.frz o u)
 tbls:∀b ps,H b=aa (.tbl ps)->∃more,H' b=aa (.tbl (ps++more))
section
variable{fs fs' ex ex':List VS}{H H1 H2:Hp}{h h1 h2 h':au}{a x e:VS}{o:HO}
def Un.any(u:Un fs ex H H1 h h1)(q:h.get? b=aa ob)(n:H b=af)(J:b∉ex):∃O,h1.get? b=aa {ob with slots:=O}:=by
 by_cases L:b∈fs
 exact u.slot b ob q n L J;exact⟨ob.slots,u.keep b ob q n L J⟩
def Un.aG(k:∀b u,h.get? b=aa u->h'.get? b=aa u):Un fs ex H H h h' :=
 ⟨λb ob q _ _ _=>k b ob q,λb ob q _ _ _=>⟨ob.slots,k b ob q⟩,λ_ _ _ n _=>n,λb ob q _=>⟨ob,k b ob q⟩,λ_ _ q=>q,λ_ _ _ q=>q,λ_ J q=>⟨#[],by rw[q];simp⟩⟩
def Un.refl:Un fs ex H H h h:=Un.aG λ_ _ q=>q
theorem Un.laid(k:∀b u,h.get? b=aa u->h'.get? b=aa u)(L:h.objs.size<=a)(hn:H a=af):Un fs ex H (upd H a o) h h' where
 keep:=λb u q _ _ _=>k b u q
 slot:=λb u q _ _ _=>⟨u.slots,k b u q⟩
 free:=λb u q n _=>by rw[dH (We (Wk (VT q) L))];exact n
 there:=λb u q _=>⟨u,k b u q⟩
 tups:=λb J q=>by rw[dH (fq q hn)];exact q
 frzs:=λb u J q=>by rw[dH (fq q hn)];exact q
 tbls:=λb O q=>⟨#[],by rw[dH (fq q hn),q];simp⟩
def Un.write(mu:Mut (H x))(Y:e=x\/H e=aa (.own x))(k:∀b u,b≠e->h.get? b=aa u->h'.get? b=aa u)(O:∃u,h'.get? e=aa u):Un fs ex H (upd H x o) h h':=by
 have U:∀b,H b=af->b≠x:=λb n z=>by subst z;rw[n]at mu;exact mu
 have V:∀b,H b=af->b≠e:=λb n z=>by
  subst z;rcases Y with r|r
  exact U b n r;rw[n]at r;cases r
 have L:∀b u,H b=aa u->¬Mut (aa u)->b≠x:=λb u q nm z=>by subst z;rw[q]at mu;exact nm mu
 refine ⟨λb u q n _ _=>k b u (V b n) q,λb u q n _ _=>⟨u.slots,k b u (V b n) q⟩,λb u q n _=>by rw[dH (U b n)];exact n,λb u q _=>?_,
  λb W q=>by rw[dH (L b _ q λz=>z)];exact q,λb u W q=>by rw[dH (L b _ q λz=>z)];exact q,λb Z q=>⟨#[],by rw[dH (L b _ q λz=>z),q];simp⟩⟩
 by_cases J:b=e
 subst J;exact O;exact⟨u,k b u J q⟩
end
noncomputable def trk(h:au)(H:Hp):List VS:=(V5 h.objs.size).filter λa=>(H a).isSome
def vz(h:au)(H:Hp):au:=WS h (trk h H)
def AJ(h:au)(H:Hp):(vz h H).objs.size=h.objs.size:=PySem.W.hideAll_size _ _
def vA(e:h.get? b=aa o)(n:H b=af):(vz h H).get? b=aa o :=
 Xw _ e λJ=>by have q:(H b).isSome=ah:=(List.mem_filter.mp J).2;rw[n]at q;simp at q
def Gc(e:(vz h H).get? b=aa o):h.get? b=aa o/\H b=af:=by
 have J:h.get? b=aa o:=Yl (trk h H) e;refine⟨J,?_⟩;cases q:H b with
 |none=>rfl
 |some x =>
  have L:b∈trk h H:=List.mem_filter.mpr ⟨List.mem_range.mpr (VT J),by simp[q]⟩;have z:(vz h H).get? b=af:=aap (trk h H) L;rw[z]at e;cases e
noncomputable def Gd(g h:au)(L:VS):List (VS×aq):=(V5 h.objs.size).filterMap λa=>if a=L\/(g.get? a).isSome=ah then af else(h.get? a).map λo=>(a,o)
def rest(g h:au)(L d:VS):List (VS×aq):=(Gd g h L).filter λp=>decide (p.1≠d)
end L2
namespace L2
open PySem PySem.Spec PyProof.Rows
structure Mod(K:VE)(mg:az->Option aA)(base:au):Prop where
 kin:K.In base
 glob:base.Ns VW mg
 blt:∃mb,base.Ns XX mb/\∀x:az,x≠"__name__"->mb x=Yj x
 nolimit:base.NoLimit
structure Cx where
 prog:VV
 w:Wj
 K:VE
 mg:az->Option aA
 base:au
 A:Wq
 N:List az
 s₀:VG
 H₀:Hp
 env:Env
 outer:List Env
 stack:List Env
 ex:List VS
 fn:az->Bool
 calm:Bool
 pn:List (VS×aq)
 xe:aA->VG->Prop
noncomputable def frs(l:List Env):List VS:=l.filterMap (·.frame)
noncomputable abbrev Cx.fs(X:Cx):List VS:=frs X.outer
def Vis(sc:Wv)(x:az):Prop:=sc.names.lookup x=aa .local\/sc.names.lookup x=aa .cell\/sc.names.lookup x=aa .free
def Loc(sc:Wv)(x:az):Prop:=sc.names.lookup x=aa .local\/sc.names.lookup x=aa .cell
def Look(env:Env)(h:au)(m:az->Option aA)(x:az)(u:aA):Prop :=
 (env.kindOf x=aa .local/\m x=aa u)\/((env.kindOf x=aa .cell\/env.kindOf x=aa .free)/\∃c,env.cells.lookup x=aa c/\h.IsCell c (aa u))
structure Cx.Ok(X:Cx):Prop where
 mod:Mod X.K X.mg X.base
 kind:X.env.scope.kind=.function
 glob:X.env.globals=VW
 blt:X.env.builtins=XX
 above:X.s₀.heap.objs.size<=X.env.locals
 inj:∀x y c,X.env.cells.lookup x=aa c->X.env.cells.lookup y=aa c->x=y
 has:∀x,(X.env.kindOf x=aa .cell\/X.env.kindOf x=aa .free)->∃c,X.env.cells.lookup x=aa c
 cab:∀x c,X.fn x=ah->X.env.cells.lookup x=aa c->X.s₀.heap.objs.size<=c
 hd:X.calm=ah->X.A.handled=af
 frames:X.A.frames=aa X.stack
 stk:X.stack=X.outer\/(X.stack=X.env::X.outer/\X.env.frame=aa X.env.locals)
 exf:∀b∈X.ex,b≠X.env.locals/\∀x c,X.env.cells.lookup x=aa c->c≠b
 bs:∀b o,X.base.get? b=aa o->X.s₀.heap.get? b=aa o/\X.H₀ b=af
 bsz:X.base.objs.size<=X.s₀.heap.objs.size
 noex:∀b o,X.base.get? b=aa o->b∉X.ex
 exfs:∀b∈X.ex,b∉X.fs
 jA:X.s₀.heap.FunFrames X.base X.outer
 frf:∀b∈X.fs,X.H₀ b=af
structure Inv(X:Cx)(zt:List (VS×aq))(σ:List (Option V))(H:Hp)(s:VG):Prop where
 ok:X.Ok
 os:s.os=X.s₀.os
 bare:ZP s.gens
 base:Un X.fs X.ex X.H₀ H X.s₀.heap s.heap
 loc:∃m,s.heap.Ns X.env.locals m/\∀(i:Nat)(x:az)(v:V),X.N[i]?=aa x->σ[i]?=aa (aa v)->Vis X.env.scope x->∃u,RelV v u/\Look X.env s.heap m x u
 cell:∀x c,X.env.cells.lookup x=aa c->∃v,s.heap.IsCell c v
 free:H X.env.locals=af
 freeC:∀x c,X.env.cells.lookup x=aa c->H c=af
 pin:∀p∈X.pn++zt,s.heap.get? p.1=aa p.2/\H p.1=af/\p.1≠X.env.locals/\p.1∉X.fs/\∀v,p.2.data≠.cell v
 aI:HOk X.prog X.w H s.heap
 len:σ.length=X.N.length
section
variable{X:Cx}{zt:List (VS×aq)}{σ:List (Option V)}{H H':Hp}{s:VG}{h':au}
def Cx.Ok.Ss(ok:X.Ok)(e:X.base.get? b=aa o):b∉X.fs:=λJ=>by have:=(ok.jA.mem J).1;rw[e]at this;cases this
def Inv.bs(I:Inv X zt σ H s):∀b o,X.base.get? b=aa o->s.heap.get? b=aa o/\H b=af:=λb o e =>
 ⟨I.base.keep b o (I.ok.bs b o e).1 (I.ok.bs b o e).2 (I.ok.Ss e) (I.ok.noex b o e),I.base.free b o (I.ok.bs b o e).1 (I.ok.bs b o e).2 (I.ok.noex b o e)⟩
def Inv.bk(I:Inv X zt σ H s):∀b o,X.base.get? b=aa o->s.heap.get? b=aa o:=λb o e=>(I.bs b o e).1
def Inv.mod(I:Inv X zt σ H s):Mod X.K X.mg X.base:=I.ok.mod
def Inv.kIn(I:Inv X zt σ H s):X.K.In s.heap:=I.ok.mod.kin.keeps I.bk
def Inv.lt(I:Inv X zt σ H s):X.env.locals<s.heap.objs.size:=let ⟨_,hn,_⟩:=I.loc;hn.lt
def Inv.sz(I:Inv X zt σ H s):X.s₀.heap.objs.size<=s.heap.objs.size:=Wa I.ok.above (X8 I.lt)
def Inv.Su(I:Inv X zt σ H s)(h:s.heap.objs.size<=a):a∉X.fs:=λL=>by obtain⟨_,o,J,_⟩:=I.ok.jA.mem L;exact bM (Wk (VT J) (Wa I.sz h)) (WB _)
def Inv.cne(I:Inv X zt σ H s):∀x c,X.env.cells.lookup x=aa c->c≠X.env.locals:=λx c e z=>by obtain⟨v,o,O,U⟩:=I.cell x c e;obtain⟨m,⟨V,W,Y,J,L,_⟩,_⟩:=I.loc;rw[z,J]at O;cases O;rw[L]at U;cases U
def Inv.jA(I:Inv X zt σ H s):s.heap.FunFrames X.base X.outer:=by
 have all:∀(l:List Env),(∀b∈frs l,b∈X.fs)->X.s₀.heap.FunFrames X.base l->s.heap.FunFrames X.base l:=by
  intro l
  induction l with
  |nil=>intro _ _;trivial
  |cons f r W =>
   intro V a;obtain⟨c,⟨L,o,J,hn,Z,d⟩,Y⟩:=a;have U:L∈X.fs:=V L (by unfold frs;rw[Wl,J];exact V6);obtain⟨g,e⟩:=I.base.slot L o Z (I.ok.frf L U) U λz=>I.ok.exfs L z U;exact⟨c,⟨L,_,J,hn,e,d⟩,W (λb O=>V b (by unfold frs;rw[Wl,J];exact VZ _ O)) Y⟩
 exact all X.outer (λ_ O=>O) I.ok.jA
def Inv.stack(I:Inv X zt σ H s):s.heap.FunFrames X.base X.stack:=by
 rcases I.ok.stk with e|⟨e,hf⟩
 rw[e];exact I.jA
 ·rw[e];obtain⟨m,hn,_⟩:=I.loc;refine .cons (by rw[I.ok.kind];decide) hf hn ?_ I.jA;exact Heap.get?_none_of_le (Wa I.ok.bsz I.ok.above)
def Inv.kY(I:Inv X zt σ H s):∀b∈frs X.stack,b∈X.env.locals::X.fs:=λb J=>by
 rcases I.ok.stk with e|⟨e,hf⟩
 rw[e]at J;exact VZ _ J
 ·rw[e]at J;unfold frs at J;rw[Wl,hf]at J;exact J
def Inv.tX(I:Inv X zt σ H s):∀b∈frs X.stack,H b=af:=λb J=>by
 rcases List.mem_cons.mp (I.kY b J)with e|J
 rw[e];exact I.free
 ·obtain⟨_,o,L,_⟩:=I.ok.jA.mem J;exact I.base.free b o L (I.ok.frf b J) λz=>I.ok.exfs b z J
def Inv.step{g':Array GenState}{t':Nat}{d':Drawn}{ch:List VS}(I:Inv X zt σ H s)
(O:∀b∈ch,(b∈X.ex\/X.s₀.heap.objs.size<=b)/\b≠X.env.locals/\(∀x c,X.env.cells.lookup x=aa c->c≠b)/\∀p∈X.pn++zt,p.1≠b)
(keep:∀b o,b≠X.env.locals->b∉X.fs->b∉ch->s.heap.get? b=aa o->H b=af->h'.get? b=aa o)
(slot:∀b o,b≠X.env.locals->b∈X.fs->b∉ch->s.heap.get? b=aa o->H b=af->∃g,h'.get? b=aa {o with slots:=g})(free:∀b o,b∉ch->s.heap.get? b=aa o->H b=af->H' b=af)
(there:∀b o,b∉ch->s.heap.get? b=aa o->∃o',h'.get? b=aa o')
(tups:∀b xs,H b=aa (.aB xs)->H' b=aa (.aB xs))(frzs:∀b o u,H b=aa (.frz o u)->H' b=aa (.frz o u))(tbls:∀b ps,H b=aa (.tbl ps)->∃a,H' b=aa (.tbl (ps++a)))
(A:∀m,s.heap.Ns X.env.locals m->h'.Ns X.env.locals m)(G:HOk X.prog X.w H' h')(E:ZP g'):
 Inv X zt σ H' {s with heap:=h',gens:=g',drawn:=d',toks:=t'}:=by
 have Z:∀b o,X.s₀.heap.get? b=aa o->b≠X.env.locals:=λb o e=>We (Wk (VT e) I.ok.above);have V:∀b o,X.s₀.heap.get? b=aa o->b∉X.ex->b∉ch:=λb o e J W=>by
  rcases (O b W).1 with z|z
  exact J z;exact bM (Wk (VT e) z) (WB _)
 have U:∀x c,X.env.cells.lookup x=aa c->∀v,s.heap.IsCell c v->h'.IsCell c v:=λx c e v ⟨o,Y,h⟩=>by
  have L:c∉ch:=λz=>(O c z).2.2.1 x c e rfl
  by_cases hc:c∈X.fs
  ·obtain⟨g,q⟩:=slot c o (I.cne x c e) hc L Y (I.freeC x c e);exact⟨_,q,h⟩
  exact⟨o,keep c o (I.cne x c e) hc L Y (I.freeC x c e),h⟩
 refine⟨I.ok,I.os,E,⟨λb o e n W J=>?_,λb o e n W J=>?_,λb o e n J=>?_,λb o e J=>?_,λb xs e=>tups b xs (I.base.tups b xs e),λb o xs e=>frzs b o xs (I.base.frzs b o xs e),λb ps e=>?_⟩,?_,λx c e=>?_,?_,λx c e=>?_,λp y=>?_,G,I.len⟩;exact keep b o (Z b o e) W (V b o e J) (I.base.keep b o e n W J) (I.base.free b o e n J)
 ·obtain⟨g,e1⟩:=I.base.slot b o e n W J;obtain⟨f,e2⟩:=slot b _ (Z b o e) W (V b o e J) e1 (I.base.free b o e n J);exact⟨f,e2⟩
 ·obtain⟨o',e1⟩:=I.base.there b o e J;exact free b o' (V b o e J) e1 (I.base.free b o e n J)
 ·obtain⟨o',e1⟩:=I.base.there b o e J;exact there b o' (V b o e J) e1
 ·obtain⟨C,e1⟩:=I.base.tbls b ps e;obtain⟨B,e2⟩:=tbls b _ e1;exact⟨C++B,by rw[e2,Array.append_assoc]⟩
 ·obtain⟨m,hn,D⟩:=I.loc;refine⟨m,A m hn,λi x v e1 e2 F=>?_⟩;obtain⟨u,r,l⟩:=D i x v e1 e2 F;refine⟨u,r,?_⟩;rcases l with l|⟨k,c,e,z⟩
  exact .inl l;exact .inr ⟨k,c,e,U x c e _ z⟩
 ·obtain⟨v,z⟩:=I.cell x c e;exact⟨v,U x c e v z⟩
 ·obtain⟨m,⟨o,_,_,Y,_⟩,_⟩:=I.loc;exact free _ o (λz=>(O _ z).2.1 rfl) Y I.free
 ·obtain⟨v,o,Y,h⟩:=I.cell x c e;exact free c o (λz=>(O c z).2.2.1 x c e rfl) Y (I.freeC x c e)
 ·obtain⟨e,n,t,j,d⟩:=I.pin p y;have L:p.1∉ch:=λz=>(O p.1 z).2.2.2 p y rfl;exact⟨keep p.1 p.2 t j L e n,free p.1 p.2 L e n,t,j,d⟩
def Inv.un(I:Inv X zt σ H s)(u:Un X.fs [] H H' s.heap h')(a:HOk X.prog X.w H' h'):Inv X zt σ H' {s with heap:=h',toks:=t'}:=by
 obtain⟨m,⟨o,g,h,V,r⟩,_⟩:=id I.loc;obtain⟨c,Z⟩:=u.any V I.free (by simp);exact I.step (g':=s.gens) (d':=s.drawn) (ch:=[]) (λ_ z=>nomatch z) (λb o _ L _ e n=>u.keep b o e n L (by simp)) (λb o _ L _ e n=>u.slot b o e n L (by simp)) (λb o _ e n=>u.free b o e n (by simp)) (λb o _ e=>u.there b o e (by simp)) u.tups u.frzs u.tbls (λf Y=>by obtain⟨d,O,U,J,W⟩:=Y;rw[V]at J;cases J;exact⟨_,O,U,Z,W⟩) a I.bare
def Inv.call(I:Inv X zt σ H s)(u:Un (frs X.stack) ch H H' s.heap h')(f:HOk X.prog X.w H' h')(a:ZP g')
(L:∀b∈ch,(b∈X.ex\/X.s₀.heap.objs.size<=b)/\b≠X.env.locals/\(∀x c,X.env.cells.lookup x=aa c->c≠b)/\∀p∈X.pn++zt,p.1≠b):
 Inv X zt σ H' {s with heap:=h',gens:=g',drawn:=d',toks:=t'}:=by
 obtain⟨m,⟨o,j,k,W,r⟩,_⟩:=id I.loc;obtain⟨g,O⟩:=u.any W I.free λz=>(L _ z).2.1 rfl;exact I.step (ch:=ch) L (λb o O d hc e n=>u.keep b o e n (λz=>(List.mem_cons.mp (I.kY b z)).elim O d) hc) (λb o _ _ hc e n=>u.any e n hc) (λb o hc e n=>u.free b o e n hc) (λb o hc e=>u.there b o e hc) u.tups u.frzs u.tbls (λi Z=>by obtain⟨h,U,V,J,Y⟩:=Z;rw[W]at J;cases J;exact⟨_,U,V,O,Y⟩) f a
def Inv.turned(I:Inv X zt σ H s)(k:∀b o,b≠it->s.heap.get? b=aa o->h'.get? b=aa o)(hn:H it=af)(L:it≠X.env.locals)
(h1:it∈X.ex\/X.s₀.heap.objs.size<=it)(h2:∀x c,X.env.cells.lookup x=aa c->c≠it)(W:∀p∈X.pn++zt,p.1≠it):Inv X zt σ H {s with heap:=h',toks:=t'}:=by
 have J:∀b u,H b=aa u->b≠it:=λb u e z=>by rw[z,hn]at e;cases e
 refine I.step (g':=s.gens) (d':=s.drawn) (ch:=[it]) (λb V=>?_) (λb o _ _ hc e _=>k b o (λz=>hc (by simp[z])) e) (λb o _ _ hc e _=>⟨o.slots,k b o (λz=>hc (by simp[z])) e⟩) (λ_ _ _ _ n=>n)
  (λb o hc e=>⟨o,k b o (λz=>hc (by simp[z])) e⟩) (λ_ _ e=>e) (λ_ _ _ e=>e) (λb a e=>⟨#[],by rw[e];simp⟩) (λm U=>?_) (λb u e=>?_) I.bare
 ·have e:b=it:=by simpa using V
  subst e;exact⟨h1,L,h2,W⟩
 ·obtain⟨o,Y,Z,O,r⟩:=U;exact⟨o,Y,Z,k _ o (WI L) O,r⟩
 ·refine(I.aI b u e).stay (λc v hc q=>k c v ?_ q) (λ_ q=>q) λ_ _ q=>q;rcases hc with z|z
  rw[z];exact J b u e;exact J c _ z
def Inv.tok(I:Inv X zt σ H s)(t:Nat):Inv X zt σ H {s with toks:=t}:=I.un (h':=s.heap) (t':=t) Un.refl I.aI
def Inv.aG(I:Inv X zt σ H s)(k:∀b u,s.heap.get? b=aa u->h'.get? b=aa u):Inv X zt σ H {s with heap:=h',toks:=t'}:=I.un (Un.aG k) (I.aI.aG k)
def Inv.laid(I:Inv X zt σ H s)(k:∀b u,s.heap.get? b=aa u->h'.get? b=aa u)(J:s.heap.objs.size<=a)(new:iC X.prog X.w (upd H a o) h' a o):
 Inv X zt σ (upd H a o) {s with heap:=h',toks:=t'}:=I.un (Un.laid k J (I.aI.fresh J)) (I.aI.laid k J new)
def Inv.write(I:Inv X zt σ H s)(mu:Mut (H x))(L:e=x\/H e=aa (.own x))(k:∀b u,b≠e->s.heap.get? b=aa u->h'.get? b=aa u)(J:∃u,h'.get? e=aa u)
(new:iC X.prog X.w (upd H x o) h' x o):Inv X zt σ (upd H x o) {s with heap:=h',toks:=t'}:=I.un (Un.write mu L k J) (I.aI.write mu L k J new)
def Inv.lX(I:Inv X zt σ H s)(h:∀p∈pins',s.heap.get? p.1=aa p.2/\H p.1=af/\p.1≠X.env.locals/\p.1∉X.fs/\∀v,p.2.data≠.cell v):Inv X pins' σ H s :=
 ⟨I.ok,I.os,I.bare,I.base,I.loc,I.cell,I.free,I.freeC,λp J=>(List.mem_append.mp J).elim (λz=>I.pin p (Xc _ z)) (h p),I.aI,I.len⟩
def vB{N:List az}(J:N.Nodup){i j:Nat}{x:az}(a:N[i]?=aa x)(b:N[j]?=aa x):i=j:=by obtain⟨O,e1⟩:=List.getElem?_eq_some_iff.mp a;obtain⟨L,e2⟩:=List.getElem?_eq_some_iff.mp b;exact(ZS J).mp (e1.trans e2.symm)
def oz{M:Model}{A:Wq}{E:aA->VG->Prop}{i:Nat}{x:az}{v:V}{u:aA}{Q:Unit->VG->Prop}(I:Inv X zt σ H s)(hN:X.N.Nodup)(hi:X.N[i]?=aa x)(O:Loc X.env.scope x)(r:RelV v u)
(h:∀s',Inv X zt (σ.set i (aa v)) H s'->(∃a,WZ a s.heap s'.heap/\(a=X.env.locals\/X.env.cells.lookup x=aa a))->Q () s')(hf:X.fn x=ah\/X.env.scope.names.lookup x=aa .local:=by first|exact .inl rfl|exact .inr rfl|assumption):ay M A (storeName X.env x u) Q E s:=by
 obtain⟨m,hn,hl⟩:=id I.loc;have B:(X.env.scope.kind==.class||(X.env.scope.kind==.module&&X.env.locals != X.env.globals))=ai:=by rw[I.ok.kind];rfl
 have W:i<σ.length:=by rw[I.len];exact(List.getElem?_eq_some_iff.mp hi).1
 have cne:=I.cne;have L:∀{a:VS}{g:au},(∃o,s.heap.get? a=aa o/\H a=af)->WZ a s.heap g->HOk X.prog X.w H g:=λ{a g} ha J b ob e=>by
  obtain⟨_,_,U⟩:=ha;refine(I.aI b ob e).stay (λc F hc q=>(J.2 c ?_).trans q) (λ_ q=>q) λ_ _ q=>q
  rintro rfl
  rcases hc with rfl|hc
  rw[U]at e;cases e;rw[U]at hc;cases hc
 rcases O with hk|hk
 ·refine wpAny_storeName_local hk hn (λg hn' J=>?_) B;obtain⟨oL,_,_,hoL,_⟩:=id hn;refine h _ ⟨I.ok,I.os,I.bare,⟨λb o e n f O=>?_,λb o e n f O=>?_,I.base.free,λb o e O=>?_,I.base.tups,I.base.frzs,I.base.tbls⟩,⟨_,hn',λj y P e1 e2 e3=>?_⟩,λy c e=>?_,I.free,I.freeC,λp hp=>?_,L ⟨oL,hoL,I.free⟩ J,by simpa using I.len⟩ ⟨_,J,.inl rfl⟩;exact(J.2 b (We (Wk (VT e) I.ok.above))).trans (I.base.keep b o e n f O)
  ·obtain⟨S,e1⟩:=I.base.slot b o e n f O;exact⟨S,(J.2 b (We (Wk (VT e) I.ok.above))).trans e1⟩
  ·obtain⟨o',e1⟩:=I.base.there b o e O;exact⟨o',(J.2 b (We (Wk (VT e) I.ok.above))).trans e1⟩
  ·by_cases Y:j=i
   ·subst Y;rw[hi]at e1;cases e1;rw[Wb W]at e2;cases e2;exact⟨u,r,.inl ⟨hk,by simp⟩⟩
   ·rw[V1 (WI Y)]at e2;obtain⟨R,T,q⟩:=hl j y P e1 e2 e3;refine⟨R,T,?_⟩;rcases q with⟨k,e⟩|⟨k,c,e,z⟩
    ·refine .inl ⟨k,?_⟩;have:y≠x:=λe=>Y (vB hN e1 (e ▸ hi));simp[this,e]
    exact .inr ⟨k,c,e,z.sameBut J (cne y c e)⟩
  ·obtain⟨F,z⟩:=I.cell y c e;exact⟨F,z.sameBut J (cne y c e)⟩
  ·obtain⟨e,n,G,nf,d⟩:=I.pin p hp;exact⟨(J.2 p.1 G).trans e,n,G,nf,d⟩
 ·have Z:X.fn x=ah:=by
   rcases hf with z|z
   exact z;rw[z]at hk;cases hk
  obtain⟨c,hc⟩:=I.ok.has x (.inl hk);obtain⟨F,z⟩:=I.cell x c hc;refine wpAny_storeName_cell I.ok.kind hk hc z (λg D J=>?_);obtain⟨oc,t,l⟩:=id z;refine h {s with heap:=g} ⟨I.ok,I.os,I.bare,⟨λb o e n f O=>?_,λb o e n f O=>?_,I.base.free,λb o e O=>?_,I.base.tups,I.base.frzs,I.base.tbls⟩,⟨m,hn.sameBut J (WI (cne x c hc)),λj y P e1 e2 e3=>?_⟩,λy K e=>?_,I.free,I.freeC,λp hp=>?_,L ⟨oc,t,I.freeC x c hc⟩ J,by simpa using I.len⟩ ⟨c,J,.inr hc⟩;exact(J.2 b (We (Wk (VT e) (I.ok.cab x c Z hc)))).trans (I.base.keep b o e n f O)
  ·obtain⟨S,e1⟩:=I.base.slot b o e n f O;exact⟨S,(J.2 b (We (Wk (VT e) (I.ok.cab x c Z hc)))).trans e1⟩
  ·obtain⟨o',e1⟩:=I.base.there b o e O;exact⟨o',(J.2 b (We (Wk (VT e) (I.ok.cab x c Z hc)))).trans e1⟩
  ·by_cases Y:j=i
   ·subst Y;rw[hi]at e1;cases e1;rw[Wb W]at e2;cases e2;exact⟨u,r,.inr ⟨.inl hk,c,hc,D⟩⟩
   ·rw[V1 (WI Y)]at e2;obtain⟨R,T,q⟩:=hl j y P e1 e2 e3;refine⟨R,T,?_⟩;rcases q with q|⟨k,K,e,z'⟩
    exact .inl q
    ·refine .inr ⟨k,K,e,z'.sameBut J ?_⟩
     rintro rfl
     exact Y (vB hN e1 (I.ok.inj _ _ _ e hc ▸ hi))
  ·by_cases C:K=c
   subst C;exact⟨_,D⟩
   ·obtain⟨w2,z2⟩:=I.cell y K e;exact⟨w2,z2.sameBut J C⟩
  ·obtain⟨e,n,G,nf,d⟩:=I.pin p hp;refine⟨(J.2 p.1 ?_).trans e,n,G,nf,d⟩;intro q;rw[q,t]at e;have q':oc=p.2:=VN e;exact d F (by rw[←q'];exact l)
def qt{E:aA->VG->Prop}(I:Inv X zt σ H s)(O:X.N.Nodup)(hi:X.N[i]?=aa x)(J:Loc X.env.scope x)(r:RelV v u)
(h:∀s',Inv X zt (σ.set i (aa v)) H s'->Q () s')(L:X.fn x=ah\/X.env.scope.names.lookup x=aa .local:=by first|exact .inl rfl|exact .inr rfl|assumption):ay M A (storeName X.env x u) Q E s :=
 oz I O hi J r (λs' U _=>h s' U) L
def Inv.yV(I:Inv X zt σ H s)(O:s'.os=s.os)(u:Un (frs X.stack) ch H H' s.heap s'.heap)(V:HOk X.prog X.w H' s'.heap)(U:ZP s'.gens)
(J:∀b∈ch,(b∈X.ex\/X.s₀.heap.objs.size<=b)/\b≠X.env.locals/\(∀x c,X.env.cells.lookup x=aa c->c≠b)/\∀p∈X.pn++zt,p.1≠b):Inv X zt σ H' s':=by
 obtain⟨W,g',d',t',L⟩:=s';have e:L=s.os:=O;subst e;exact I.call (g':=g') (t':=t') (d':=d') u V U J
end
abbrev XK:=aA->Option VS->Hp->Prop
noncomputable abbrev St:=List (Option V)
abbrev VK:=V->Hp->Prop
abbrev TE:=St->Hp->VK->Prop
abbrev TT:=St->Hp->(Bool->Hp->Prop)->Prop
abbrev TA:=St->Hp->(List V->Hp->Prop)->Prop
structure Ends where
 nx:St->Hp->Prop
 rt:VK
 bk:St->Hp->Prop:=λ_ _=>False
 ct:St->Hp->Prop:=λ_ _=>False
abbrev TS:=Ends->St->Hp->Prop
inductive EP(X:Cx)(zt:List (VS×aq))(σ:St)(Q:VK)(u:aA)(s':VG):Prop
 |mk(v:V)(H':Hp)(I:Inv X zt σ H' s')(r:RelV v u)(q:Q v H'):EP X zt σ Q u s'
inductive TP(X:Cx)(zt:List (VS×aq))(σ:St)(Q:Bool->Hp->Prop)(b:Bool)(s':VG):Prop
 |mk(H':Hp)(I:Inv X zt σ H' s')(q:Q b H'):TP X zt σ Q b s'
inductive AP(X:Cx)(zt:List (VS×aq))(σ:St)(Q:List V->Hp->Prop)(us:List aA)(s':VG):Prop
 |mk(vs:List V)(H':Hp)(I:Inv X zt σ H' s')(r:dJ vs us)(q:Q vs H'):AP X zt σ Q us s'
def SP(X:Cx)(zt:List (VS×aq))(D:Ends)(f:Flow)(s':VG):Prop :=
 match f with
 |.next=>∃J L,Inv X zt J L s'/\D.nx J L|.brk=>∃J L,Inv X zt J L s'/\D.bk J L|.cont=>∃J L,Inv X zt J L s'/\D.ct J L|.ret u=>∃v J L,Inv X zt J L s'/\RelV v u/\D.rt v L
def PE(X:Cx)(e:ZF)(t:TE):Prop :=
 ∀(L:List (VS×aq)) (s:VG) (J:St) (H:Hp) (Q:VK),Inv X L J H s->t J H Q->ay (V4 X.prog X.w) X.A (eval e X.env) (EP X L J Q) X.xe s
def PT(X:Cx)(e:ZF)(t:TT):Prop :=
 ∀(L:List (VS×aq)) (s:VG) (J:St) (H:Hp) (Q:Bool->Hp->Prop),Inv X L J H s->t J H Q->ay (V4 X.prog X.w) X.A (isTrue e X.env (eval e X.env)) (TP X L J Q) X.xe s
def PW(X:Cx)(e:ZF)(t:TT):Prop :=
 ∀(J:Sem aA)(O:List (VS×aq)) (s:VG) (L:St) (H:Hp) (Q:Bool->Hp->Prop),Inv X O L H s->t L H Q->ay (V4 X.prog X.w) X.A (isTrue e X.env J) (TP X O L Q) X.xe s
def PW.pt(h:PW X e t):PT X e t:=h _
def PA(X:Cx)(es:List ZF)(t:TA):Prop :=
 ∀(L:Pos)(O:List (VS×aq)) (s:VG) (J:St) (H:Hp) (Q:List V->Hp->Prop),Inv X O J H s->t J H Q->ay (V4 X.prog X.w) X.A (aav (Xu L (Wi es X.env))) (AP X O J Q) X.xe s
def PS(X:Cx)(st:Zy)(t:TS):Prop :=
 ∀(L:List (VS×aq)) (s:VG) (J:St) (H:Hp) (D:Ends),Inv X L J H s->t D J H->ay (V4 X.prog X.w) X.A (exec st X.env) (SP X L D) X.xe s
def PSs(X:Cx)(st:List Zy)(t:TS):Prop :=
 ∀(L:List (VS×aq)) (s:VG) (J:St) (H:Hp) (D:Ends),Inv X L J H s->t D J H->ay (V4 X.prog X.w) X.A (execs st X.env) (SP X L D) X.xe s
def thn{J:Type}{t:Sem J}{Q L:J->VG->Prop}{E:aA->VG->Prop}(h:ay M A t Q E s)(O:∀a s,Q a s->L a s):ay M A t L E s:=WJ h O λ_ _ x=>x
end L2
namespace L2
open PySem PySem.Spec PyProof.Rows
section
variable{X:Cx}
def bin{a b:ZF}{ta tb:TE}(i:PE X a ta)(g:PE X b tb){zt:List (VS×aq)}{s:VG}{σ:St}{H:Hp}{R:V->V->Hp->Prop}(I:Inv X zt σ H s)(h:ta σ H λx H1=>tb σ H1 λy H2=>R x y H2)
{U:Type}{Q:U->VG->Prop}{f:aA->aA->Sem U}
(e:∀v u s2 x y H2,Inv X zt σ H2 s2->RelV x v->RelV y u->R x y H2->ay (V4 X.prog X.w) X.A (f v u) Q X.xe s2):
 ay (V4 X.prog X.w) X.A (eval a X.env) (λv L=>ay (V4 X.prog X.w) X.A (eval b X.env) (λu J=>ay (V4 X.prog X.w) X.A (f v u) Q X.xe J) X.xe L) X.xe s:=by
 refine thn (i zt s σ H _ I h) λv W O=>?_;obtain⟨x,H1,k,Z,d⟩:=O;refine thn (g zt W σ H1 _ k d) λu s2 O=>?_;obtain⟨y,H2,j,Y,c⟩:=O;exact e v u s2 x y H2 j Z Y c
def Sv(i:Nat):TE:=fun J H Q=>∃v,J[i]?=aa (aa v)/\Q v H
def tC(v:V):TE:=λ_ H Q=>Q v H
def Cr(a:X.N[i]?=aa x)(W:Vis X.env.scope x)(L:(x==("__debug__":az))=ai:=by decide)(O:(x==("__classdict__":az))=ai:=by decide):PE X (.Name x pos) (Sv i):=by
 intro V s U H Q I h;obtain⟨v,e,h⟩:=h;obtain⟨m,hn,Z⟩:=I.loc;obtain⟨u,r,l⟩:=Z i x v a e W;have fin:EP X V U Q u s:=⟨v,H,I,r,h⟩;rcases l with⟨J,Y⟩|⟨J,c,hc,hcell⟩
 exact wpAny_Name (wpAny_loadName_local I.ok.kind J hn Y fin) L
 ·rcases J with J|J
  exact wpAny_Name (wpAny_loadName_cell I.ok.kind J hc hcell fin) L;exact wpAny_Name (wpAny_loadName_free I.ok.kind J hc hcell fin O) L
def xM{i j pos}:PE X (.Constant (.int i) j pos) (tC (.int i)):=λ_ _ _ H _ I h=>wpAny_Constant_int ⟨.int i,H,I.tok _,⟨_,rfl⟩,h⟩
def N4{b j pos}:PE X (.Constant (.bool b) j pos) (tC (.bl b)):=λ_ _ _ H _ I h=>Constant_bool ⟨.bl b,H,I,rfl,h⟩
def JW{j pos}:PE X (.Constant .none j pos) (tC .aC):=λ_ _ _ H _ I h=>Constant_none ⟨.aC,H,I,rfl,h⟩
def JX{x j pos}:PE X (.Constant (.str x) j pos) (tC (.str x)):=λ_ _ _ H _ I h=>Yt ⟨.str x,H,I.tok _,⟨_,rfl⟩,h⟩
def Gl(X:Cx)(x:az):Prop:=X.env.kindOf x=aa .globalImplicit
def iZ{E:aA->VG->Prop}(I:Inv X zt σ H s)(L:Gl X x)(J:X.mg x=aa u)(h:Q u s)
(O:(x==("__debug__":az))=ai:=by decide):ay (V4 X.prog X.w) X.A (eval (.Name x pos) X.env) Q E s :=
 Ys I.ok.kind L (aam (by rw[I.ok.glob];exact I.mod.glob.keeps I.bk) J h) O
def kZ{E:aA->VG->Prop}(I:Inv X zt σ H s)(O:Gl X x)(L:X.mg x=af)(J:Yj x=aa u)(h:Q u s)
(hn:x≠"__name__":=by decide)(U:(x==("__debug__":az))=ai:=by decide):ay (V4 X.prog X.w) X.A (eval (.Name x pos) X.env) Q E s:=by
 obtain⟨Y,W,V⟩:=I.mod.blt;exact Ys I.ok.kind O (Calls.loadGlobal_builtin (by rw[I.ok.glob];exact I.mod.glob.keeps I.bk) L (by rw[I.ok.blt];exact W.keeps I.bk) ((V x hn).trans J) h) U
def pV(L:Gl X x)(J:X.mg x=aa u)(r:RelV v u)(O:(x==("__debug__":az))=ai:=by decide):PE X (.Name x pos) (tC v) :=
 λ_ _ _ H _ I h=>iZ I L J ⟨v,H,I,r,h⟩ O
def nk(O:Gl X x)(L:X.mg x=af)(J:Yj x=aa u)(r:RelV v u)(hn:x≠"__name__":=by decide)(U:(x==("__debug__":az))=ai:=by decide):PE X (.Name x pos) (tC v) :=
 λ_ _ _ H _ I h=>kZ I O L J ⟨v,H,I,r,h⟩ hn U
variable{a b:ZF}{ta tb:TE}{pos:Pos}
def tB(t:TE):TT:=fun J H Q=>t J H λx L=>∃c,x=.bl c/\Q c L
def JY(h:PE X e t)(U:∀J,isTrue e X.env J=(do let v ←J;aau e.pos;Y8 [v] (truthy v)):=by intro _;rfl):PT X e (tB t):=by intro O s L H Q I hw;refine isTrue_plain (thn (h O s L H _ I hw) λv s1 ⟨x,H1,I1,r1,q1⟩=>?_) (U _);obtain⟨d,rfl,q⟩:=q1;cases r1;exact W3 ⟨H1,I1,q⟩
variable{tA tB':TT}{rest:List ZF}
def N5(t u:TT):TT:=fun J H Q=>t J H λc L=>if c=ah then u J L Q else Q ai L
def tOr(t u:TT):TT:=fun J H Q=>t J H λc L=>if c=ah then Q ah L else u J L Q
def N6(t:TT):TT:=fun J H Q=>t J H λc L=>Q (!c) L
def Ge(O:PT X a tA):PW X (.BoolOp .And [a] pos) tA:=by
 intro U L s J H Q I h;refine isTrue_and (thn (O L s J H Q I h) λc V e=>?_);cases c with
 |true=>exact isTrue_and_nil e|false=>exact e
def JZ(O:PT X a tA):PW X (.BoolOp .Or [a] pos) tA:=by
 intro U L s J H Q I h;refine isTrue_or (thn (O L s J H Q I h) λc V e=>?_);cases c with
 |false=>exact isTrue_or_nil e|true=>exact e
def Cs(e:PT X a tA)(d:PW X (.BoolOp .And (b::rest) pos) tB'):PW X (.BoolOp .And (a::b::rest) pos) (N5 tA tB'):=by
 intro Y L s J H Q I h;refine isTrue_and (thn (e L s J H _ I h) λc Z W=>?_);obtain⟨V,U,O⟩:=W;cases c with
 |true=>exact d Y L Z J V Q U O|false=>exact⟨V,U,O⟩
def Ji(e:PT X a tA)(d:PW X (.BoolOp .Or (b::rest) pos) tB'):PW X (.BoolOp .Or (a::b::rest) pos) (tOr tA tB'):=by
 intro Y L s J H Q I h;refine isTrue_or (thn (e L s J H _ I h) λc Z W=>?_);obtain⟨V,U,O⟩:=W;cases c with
 |true=>exact⟨V,U,O⟩|false=>exact d Y L Z J V Q U O
def J0(U:PT X a tA):PT X (.UnaryOp .Not a pos) (N6 tA):=by intro O s L H Q I h;exact isTrue_not (thn (U O s L H (λc J=>Q (!c) J) I h) λc W z=>by obtain⟨J,V,q⟩:=z;exact⟨J,V,q⟩)
def Jj(ta tb:TE):TE:=fun J H Q=>ta J H λx L=>∃c,x=.bl c/\if c=ah then tb J L Q else Q (.bl ai) L
def N7(ta tb:TE):TE:=fun J H Q=>ta J H λx L=>∃c,x=.bl c/\if c=ah then Q (.bl ah) L else tb J L Q
def Jk(ta:TE):TE:=fun J H Q=>ta J H λx L=>∃c,x=.bl c/\Q (.bl (!c)) L
def Ct{op}(h:PE X a t):PE X (.BoolOp op [a] pos) t:=λL s J H Q I hw=>BoolOp_one (h L s J H Q I hw)
def Cu(e:PE X a ta)(d:PE X (.BoolOp .And (b::rest) pos) tb):PE X (.BoolOp .And (a::b::rest) pos) (Jj ta tb):=by
 intro O s L H Q I h;refine BoolOp_and (thn (e O s L H _ I h) λv Y W=>?_);obtain⟨x,V,U,Z,J⟩:=W;obtain⟨c,rfl,J⟩:=J;cases Z;refine W3 ?_;cases c with
 |true=>exact d O Y L V Q U J|false=>exact⟨.bl ai,V,U,rfl,J⟩
def Jl(e:PE X a ta)(d:PE X (.BoolOp .Or (b::rest) pos) tb):PE X (.BoolOp .Or (a::b::rest) pos) (N7 ta tb):=by
 intro O s L H Q I h;refine BoolOp_or (thn (e O s L H _ I h) λv Y W=>?_);obtain⟨x,V,U,Z,J⟩:=W;obtain⟨c,rfl,J⟩:=J;cases Z;refine W3 ?_;cases c with
 |false=>exact d O Y L V Q U J|true=>exact⟨.bl ah,V,U,rfl,J⟩
def J1(W:PE X a ta):PE X (.UnaryOp .Not a pos) (Jk ta):=by intro O s L H Q I h;refine UnaryOp_ (thn (W O s L H _ I h) λv b U=>?_);obtain⟨x,Z,Y,V,J⟩:=U;obtain⟨c,rfl,J⟩:=J;cases V;exact not_of (W3 ⟨.bl (!c),Z,Y,rfl,J⟩)
def tIf(t:TT)(ta tb:TE):TE:=fun J H Q=>t J H λc L=>if c=ah then ta J L Q else tb J L Q
def Cv(hc:PT X c tA)(e:PE X a ta)(Z:PE X b tb):PE X (.IfExp c a b pos) (tIf tA ta tb):=by
 intro L s J H Q I h;refine wpAny_IfExp (thn (hc L s J H _ I h) λd O Y=>?_);obtain⟨W,V,U⟩:=Y;cases d with
 |true=>exact e L O J W Q V U|false=>exact Z L O J W Q V U
end
end L2
namespace L2
open PySem PySem.Spec PyProof.Rows
def SqL(K:VE)(H:Hp)(a:VS)(xs:List V):Prop :=
 Rd H a (.aj xs) ∨
  ∃(o:aq) (J:Array aA) (n:Nat),K.lookup a=aa o/\o.cls=.type "list"/\o.dict=af/\o.data=.seq J n/\J.size<=ak/\dJ xs J.toList
def SqT(K:VE)(H:Hp)(a:VS)(xs:List V):Prop :=
 Rd H a (.aB xs) ∨
  ∃(o:aq) (J:Array aA) (n:Nat),K.lookup a=aa o/\o.cls=.type "tuple"/\o.data=.seq J n/\J.size<=ak/\dJ xs J.toList
noncomputable def Sw:aA->Option V
 |.none=>aa .aC|.bool b=>aa (.bl b)|.int i _=>aa (.int i)|.str x _=>aa (.str x)|.bytes b _=>aa (.byt b)|.float b _=>aa (.flt b)|.ref a=>aa (.ref a)|.type n=>aa (.ty n)|_=>af
def RelV.abs(r:RelV x u):Sw u=aa x:=by
 cases x with
 |aC=>cases r;rfl|bl _=>cases r;rfl|ref _=>cases r;rfl|ty _=>cases r;rfl|_=>obtain⟨t,rfl⟩:=r;rfl
def RelV.inj(r:RelV x u)(q:RelV y u):x=y:=VN (r.abs.symm.trans q.abs)
theorem dJ.inj:∀{xs ys:List V}{us:List aA},dJ xs us->dJ ys us->xs=ys
 |_,_,_,.nil,.nil=>rfl
 |_,_,_,.cons r t,.cons r' t'=>by rw[r.inj r',dJ.inj t t']
section
variable{X:Cx}{zt:List (VS×aq)}{σ:St}{H:Hp}{s:VG}{a:VS}{xs ys:List V}
def Inv.list(I:Inv X zt σ H s)(h:SqL X.K H a xs):∃J:List aA,dJ xs J/\PlainL s.heap a J.toArray/\xs.length<=ak:=by
 rcases h with h|⟨o,J,n,hk,hc,hd,hs,hz,r⟩
 ·obtain⟨z,J,n,r,e⟩:=h.ok I.aI;exact⟨J,r,⟨_,n,e,rfl,rfl,rfl⟩,z⟩
 ·refine⟨J.toList,r,⟨o,n,I.kIn a o hk,hc,hd,by simpa using hs⟩,?_⟩;have e:=r.length;simp only[Xg]at e;lia
def Inv.tuple(I:Inv X zt σ H s)(h:SqT X.K H a xs):∃J:List aA,dJ xs J/\IsTup s.heap a J.toArray/\xs.length<=ak:=by
 rcases h with h|⟨o,J,n,hk,hc,hs,hz,r⟩
 ·obtain⟨z,J,r,p⟩:=h.ok I.aI;exact⟨J,r,p,z⟩
 ·refine⟨J.toList,r,⟨o,I.kIn a o hk,hc,n,by simpa using hs⟩,?_⟩;have e:=r.length;simp only[Xg]at e;lia
def Inv.qu(I:Inv X zt σ H s)(h:SqL X.K H a xs)(h':SqL X.K H a ys):xs=ys:=by
 obtain⟨L,r,⟨o,n,e,_,_,d⟩,_⟩:=I.list h;obtain⟨J,V,⟨W,Y,O,_,_,U⟩,_⟩:=I.list h';rw[e]at O;cases O;rw[d]at U
 injection U with d1 _
 have:L=J:=by simpa using bS Array.toList d1
 subst this;exact r.inj V
def Inv.AK(I:Inv X zt σ H s)(h:SqT X.K H a xs)(h':SqT X.K H a ys):xs=ys:=by
 obtain⟨L,r,⟨o,e,_,n,d⟩,_⟩:=I.tuple h;obtain⟨J,V,⟨W,O,_,Y,U⟩,_⟩:=I.tuple h';rw[e]at O;cases O;rw[d]at U
 injection U with d1 _
 have:L=J:=by simpa using bS Array.toList d1
 subst this;exact r.inj V
end
noncomputable abbrev Cx.r6(X:Cx)(E:aA->VG->Prop):Cx:={X with xe:=E}
noncomputable abbrev Cx.nox(X:Cx):Cx:=X.r6 λ_ _=>False
def Cx.Ok.r6{X:Cx}(ok:X.Ok)(E:aA->VG->Prop):(X.r6 E).Ok :=
 ⟨ok.mod,ok.kind,ok.glob,ok.blt,ok.above,ok.inj,ok.has,ok.cab,ok.hd,ok.frames,ok.stk,ok.exf,ok.bs,ok.bsz,ok.noex,ok.exfs,ok.jA,ok.frf⟩
def Cx.Ok.k8{X:Cx}{E:aA->VG->Prop}(ok:(X.r6 E).Ok):X.Ok :=
 ⟨ok.mod,ok.kind,ok.glob,ok.blt,ok.above,ok.inj,ok.has,ok.cab,ok.hd,ok.frames,ok.stk,ok.exf,ok.bs,ok.bsz,ok.noex,ok.exfs,ok.jA,ok.frf⟩
section
variable{X:Cx}{zt:List (VS×aq)}{σ:St}{H:Hp}{s:VG}{E:aA->VG->Prop}
def Inv.r6(I:Inv X zt σ H s)(E:aA->VG->Prop):Inv (X.r6 E) zt σ H s:=⟨I.ok.r6 E,I.os,I.bare,I.base,I.loc,I.cell,I.free,I.freeC,I.pin,I.aI,I.len⟩
def Inv.k8(I:Inv (X.r6 E) zt σ H s):Inv X zt σ H s:=⟨I.ok.k8,I.os,I.bare,I.base,I.loc,I.cell,I.free,I.freeC,I.pin,I.aI,I.len⟩
def SP.k8{D:Ends}(h:SP (X.r6 E) zt D f s'):SP X zt D f s':=by
 cases f with
 |ret u=>obtain⟨v,J,L,I,r,q⟩:=h;exact⟨v,J,L,I.k8,r,q⟩|_=>obtain⟨J,L,I,q⟩:=h;exact⟨J,L,I.k8,q⟩
def PSs.nox{st:List Zy}(h:PSs X.nox st t):PSs X st t:=λL s J H D I hw =>
 WJ (h L s J H D (I.r6 _) hw) (λ_ _ q=>q.k8) λ_ _ z=>Wy z
end
section
variable{X:Cx}{st:Zy}{rest:List Zy}{t u:TS}{e:ZF}{te:TE}{pos:Pos}
def N8:TS:=λD J H=>D.nx J H
def N9(t u:TS):TS:=λD J H=>t {D with nx:=u D} J H
def Gf:PSs X [] N8:=λ_ _ J H _ I h=>YB ⟨J,H,I,h⟩
def vC(h1:PS X st t)(h2:PSs X rest u):PSs X (st::rest) (N9 t u):=by
 intro L s O H D I h;refine Yp (thn (h1 L s O H {D with nx:=u D} I h) λf U q=>?_);cases f with
 |next =>
  obtain⟨J,W,V,q⟩:=q;exact h2 L U J W D V q
 |_=>exact q
def nq(h1:PS X st t):PSs X [st] t:=by
 intro L s J H D I h;refine Yp (thn (h1 L s J H D I h) λf O q=>?_);cases f with
 |next=>exact YB q|_=>exact q
def Sx:TS:=λD J H=>D.bk J H
def Va:TS:=λD J H=>D.ct J H
def Inv.quiet(I:Inv X zt σ H s):interactive X.env=ai:=by simp[interactive,I.ok.kind]
def Oa(te:TE):TS:=λD J H=>te J H λ_ L=>D.nx J L
def Gg(U:PE X e te)(O:YC e af pos.line X.env=pure ai:=by rfl):PS X (.Expr e pos) (Oa te):=by intro L s J H D I h;exact wpAny_Expr_any (thn (U L s J H _ I h) λv s1 ⟨x,H1,I1,r1,q1⟩=>⟨J,H1,I1,q1⟩) I.quiet O
def Sy(te:TE):TS:=λD J H=>te J H D.rt
def xN(O:PE X e te):PS X (.Return (aa e) pos) (Sy te):=by intro L s J H D I h;exact wpAny_Return_some (thn (O L s J H _ I h) λv s1 ⟨x,H1,I1,r1,q1⟩=>⟨x,J,H1,I1,r1,q1⟩)
def Sz(c:TT)(t u:TS):TS:=λD J H=>c J H λb L=>if b=ah then t D J L else u D J L
def Ob(hc:PT X c tc)(e:PSs X a t)(Z:PSs X b u):PS X (.If c a b pos) (Sz tc t u):=by
 intro L s J H D I h;refine wpAny_If (thn (hc L s J H _ I h) λd O Y=>?_);obtain⟨W,V,U⟩:=Y;cases d with
 |true=>exact e L O J W D V U|false=>exact Z L O J W D V U
end
abbrev TG:=V->St->Hp->(St->Hp->Prop)->Prop
abbrev TGs:=List V->St->Hp->(St->Hp->Prop)->Prop
def PG(X:Cx)(target:ZF)(t:TG):Prop :=
 ∀(O:List (VS×aq)) (s:VG) (L:St) (H:Hp) (v:V) (u:aA) (Q:St->Hp->Prop),Inv X O L H s->RelV v u->t v L H Q →
  ay (V4 X.prog X.w) X.A (ZW target X.env u) (λ_ W=>∃J U,Inv X O J U W/\Q J U) X.xe s
def PGs(X:Cx)(ts:List ZF)(t:TGs):Prop :=
 ∀(O:List (VS×aq)) (s:VG) (L:St) (H:Hp) (U:List V) (W:List aA) (Q:St->Hp->Prop),Inv X O L H s->dJ U W->t U L H Q →
  ay (V4 X.prog X.w) X.A (assignInOrder ((XD ts X.env).map (·.2)) W) (λ_ Z=>∃J Y,Inv X O J Y Z/\Q J Y) X.xe s
abbrev Oc:=V->V->V->Hp->(Hp->Prop)->Prop
def Od(X:Cx)(t:Oc):Prop :=
 ∀(L:List (VS×aq)) (s:VG) (J:St) (H:Hp) (o i v:V) (O U u:aA) (Q:Hp->Prop),Inv X L J H s->RelV o O->RelV i U->RelV v u->t o i v H Q →
  ay (V4 X.prog X.w) X.A (setItem O U u) (λ_ Y=>∃W,Inv X L J W Y/\Q W) X.xe s
abbrev TIp:=V->V->Hp->VK->Prop
def PIp(X:Cx)(O:Zt)(t:TIp):Prop :=
 ∀(L:List (VS×aq)) (s:VG) (J:St) (H:Hp) (x y:V) (v u:aA) (Q:VK),Inv X L J H s->RelV x v->RelV y u->t x y H Q →
  ay (V4 X.prog X.w) X.A (inplaceOp O v u) (EP X L J Q) X.xe s
section
variable{X:Cx}{pos:Pos}
def yW(i:Nat):TG:=λv J H Q=>Q (J.set i (aa v)) H
def yX(O:X.N.Nodup)(hi:X.N[i]?=aa x)(J:Loc X.env.scope x)(L:X.fn x=ah\/X.env.scope.names.lookup x=aa .local:=by first|exact .inl rfl|exact .inr rfl|assumption):PG X (.Name x pos) (yW i):=by intro W s V H v u Q I r h;exact wpAny_assign_Name (qt I O hi J r (λY U=>⟨_,H,U,h⟩) L)
def Oe:TGs:=λL J H Q=>L=[]/\Q J H
def Of(t:TG)(u:TGs):TGs:=λO L H Q=>∃v r,O=v::r/\t v L H fun J U=>u r J U Q
def Gi:PGs X [] Oe:=by intro L s J H O U Q I r h;obtain⟨e,h⟩:=h;subst e;cases r;exact assignInOrder_nil ⟨J,H,I,h⟩
def Cw(h1:PG X e t)(h2:PGs X es u)
(Z:(XD (e::es) X.env).map (·.2)=ZW e X.env::(XD es X.env).map (·.2):=by rfl):PGs X (e::es) (Of t u):=by
 intro L s O H c d Q I r h;obtain⟨v,vr,e1,h⟩:=h;subst e1;cases r with
 |cons r W =>
  rw[Z];refine assignInOrder_cons (thn (h1 L s O H _ _ _ I r h) λ_ V U=>?_);obtain⟨J,b,a,Y⟩:=U;exact h2 L V J b _ _ Q a W Y
def SA(K:VE)(n:Nat)(t:TGs):TG:=λv L H Q=>∃a J,v=.ref a/\SqT K H a J/\J.length=n/\t J L H Q
def J2(hc:X.calm=ah)(h:PGs X es t)
(hn:(XD es X.env).length=n:=by rfl)(J:(XD es X.env).findIdx? (·.1)=af:=by rfl):PG X (.Tuple es k pos) (SA X.K n t):=by
 intro O s L H v u Q I r hw;obtain⟨a,V,e1,c,d,hw⟩:=hw;subst e1;cases r;obtain⟨W,U,Z,i⟩:=I.tuple c;refine assign_Tuple_tuple (I.ok.hd hc) Z (by simp[hn,←d,U.length]) J λf Y=>?_;have g:Inv X O L H {s with heap:=f}:=I.aG (t':=s.toks) λb o e=>Y b o (We (VT e)) e;exact h O _ L H V _ Q g (by simpa using U) hw
def Og(to L:TE)(t:Oc):TG:=λv J H Q=>to J H λo V=>L J V λi U=>t o i v U λO=>Q J O
def J3(f:PE X o to)(hi:PE X i ti)(e:Od X t)
(g:∀ v,ZW (.Subscript o i pos) X.env v=(do
  let J ←Y8 [v] (eval o X.env)
  let O ←Y8 [v,J] (eval i X.env)
  aau pos
  Y8 [v,J,O] (setItem J O v)
  release [v,J,O] []):=by intro _;rfl):PG X (.Subscript o i pos) (Og to ti t):=by
 intro V s U H v u Q I r h;rw[g];refine VJ (WN (thn (f V s U H _ I h) λJ Y L=>?_));obtain⟨x,p,l,a,d⟩:=L;refine VJ (WN (thn (hi V Y U p _ l d) λO W L=>?_));obtain⟨y,n,k,Z,c⟩:=L;refine VJ (Yu (VJ (WN (thn (e V W U n x y v J O u _ k a Z r c) λ_ q L=>?_))));obtain⟨m,j,b⟩:=L;exact wpAny_release ⟨U,m,j,b⟩
def Cy(te:TE)(g:TG):TS:=λD J H=>te J H λx L=>g x J L D.nx
def Cz(V:PE X e te)(U:PG X tg g)(O:swapsWithSole [tg] e pos.line X.env=pure ai:=by rfl)(hw:swappedStores [tg] e X.env=pure af:=by rfl)
(h1:(XD [tg] X.env).map (·.2)=[ZW tg X.env]:=by rfl):PS X (.Assign [tg] e pos) (Cy te g):=by
 intro L s J H D I h;refine wpAny_Assign_stores (thn (V L s J H _ I h) λv s1 ⟨x,H1,I1,r1,q1⟩=>?_) O hw;rw[h1];exact thn (U L s1 J H1 x v _ I1 r1 q1) λ_ W q=>q
def CA(Y:X.N.Nodup)(hi:X.N[i]?=aa x)(O:Loc X.env.scope x)(W:PE X e te)(U:YC e (aa (.Name x pos')) pos.line X.env=pure ai:=by rfl)(V:X.fn x=ah\/X.env.scope.names.lookup x=aa .local:=by first|exact .inl rfl|exact .inr rfl|assumption):
 PS X (.Assign [.Name x pos'] e pos) (Cy te (yW i)):=by
 intro L s J H D I h;refine Z6 (thn (W L s J H _ I h) λv s1 ⟨y,H1,I1,r1,q1⟩=>?_) U;exact qt I1 Y hi O r1 (λa Z=>⟨_,H1,Z,q1⟩) V
def Oh(i:Nat)(te:TE)(L:TIp):TS:=λD J H=>∃x,J[i]?=aa (aa x)/\te J H λy U=>L x y U λz O=>D.nx (J.set i (aa z)) O
def J4(B:X.N.Nodup)(hi:X.N[i]?=aa x)(Y:Loc X.env.scope x)(t:PE X e te)(n:PIp X op ti)(q:X.fn x=ah\/X.env.scope.names.lookup x=aa .local:=by first|exact .inl rfl|exact .inr rfl|assumption):
 PS X (.AugAssign (.Name x pos') op e pos) (Oh i te ti):=by
 intro U s Z H D I h;obtain⟨v,e1,h⟩:=h;obtain⟨m,hn,p⟩:=I.loc;have W:Vis X.env.scope x:=by rcases Y with k|k;exact .inl k;exact .inr (.inl k)
 obtain⟨u,r,l⟩:=p i x v hi e1 W;refine wpAny_AugAssign_Name ?_;have a:ay (V4 X.prog X.w) X.A (eval e X.env) (λw O=>ay (V4 X.prog X.w) X.A (inplaceOp op u w) (λr L=>ay (V4 X.prog X.w) X.A (storeName X.env x r) (λ_=>SP X U D .next) X.xe L) X.xe O) X.xe s:=by refine thn (t U s Z H _ I h) λw b V=>?_;obtain⟨y,K,F,f,j⟩:=V;refine thn (n U b Z K v y u w _ F r f j) λz Q V=>?_;obtain⟨M,G,E,d,g⟩:=V;exact qt E B hi Y d (λP C=>⟨_,G,C,g⟩) q
 rcases l with⟨J,o⟩|⟨J,c,hc,hcell⟩
 exact wpAny_loadName_local I.ok.kind J hn o a
 ·rcases J with J|J
  exact wpAny_loadName_cell I.ok.kind J hc hcell a
  ·rcases Y with k|k
   ·have:X.env.scope.names.lookup x=aa .free:=J;rw[k]at this;cases this
   ·have:X.env.scope.names.lookup x=aa .free:=J;rw[k]at this;cases this
end
section
variable{X:Cx}{pos:Pos}
def CB(c:TT)(tb:TS):TS:=λD J H=>∃W:Nat->St->Hp->Prop,(∃m,W m J H)/\∀m J H,W m J H →
 c J H λb U=>if b=ah then ∃N:St->Hp->Prop,(∀L V,N L V->∃O,O<m/\W O L V)/\tb {D with nx:=N,ct:=N,bk:=D.nx} J U else D.nx J U
def CD(i:ZZ (V4 X.prog X.w) X.A X.env X.xe)(hc:PT X c tc)(v:PSs X body tb):PS X (.While c body [] pos) (CB tc tb):=by
 intro V s o H D I h;obtain⟨W,⟨u,q⟩,turn⟩:=h;refine wpAny_While (codeAny_whileLoop (λn t=>∃L m,Inv X V L m t/\W n L m) ?_ u ⟨o,H,I,q⟩)
 rintro n s1 ⟨σ1,H1,I1,w1⟩
 refine Xs i (thn (hc V s1 σ1 H1 _ I1 (turn n σ1 H1 w1)) λb r p=>?_);obtain⟨l,k,U⟩:=p;cases b with
 |true =>
  obtain⟨N,j,U⟩:=U;rw[bK rfl];refine Xs i (thn (v V r σ1 l _ k U) λf x Z=>?_);cases f with
  |next =>
   obtain⟨J,O,g,a⟩:=Z;obtain⟨d,e,Y⟩:=j J O a;exact⟨d,e,J,O,g,Y⟩
  |cont =>
   obtain⟨J,O,g,a⟩:=Z;obtain⟨d,e,Y⟩:=j J O a;exact⟨d,e,J,O,g,Y⟩
  |_=>exact Z
 |false =>
  rw[bL WU];exact YB ⟨σ1,l,k,U⟩
end
structure It where
 go:Nat->Hp->Prop
 yld:Nat->Hp->V->Hp->Prop
 stop:Nat->Hp->Prop
def qv(X:Cx)(zt:List (VS×aq))(H:Hp)(b:VS):Prop :=
 H b=af/\b≠X.env.locals/\b∉X.fs/\(b∈X.ex\/X.s₀.heap.objs.size<=b)/\(∀x c,X.env.cells.lookup x=aa c->c≠b)/\∀p∈X.pn++zt,p.1≠b
def Inv.CF(I:Inv X zt σ H s)(J:s.heap.objs.size<=b)(hn:H' b=af):qv X zt H' b:=by
 refine⟨hn,Zd (Wk I.lt J),I.Su J,.inr (Wa I.sz J),λx c e z=>?_,λp L z=>?_⟩
 ·obtain⟨v,q⟩:=I.cell x c e;exact bM (Wk q.lt (by rw[z];exact J)) (WB _)
 exact bM (Wk (VT (I.pin p L).1) (by rw[z];exact J)) (WB _)
structure Turn(P:VV)(w:Wj)(K:VE)(tg:ZF)(J:It)(fp:List VS)(it:VS)(tn:Nat->au->Prop):Prop where
 mem:it∈fp
 obj:∀i h,tn i h->∀b∈fp,∃o,h.get? b=aa o/\∀v,o.data≠.cell v
 keep:∀i h h',tn i h->(∀b∈fp,∀o,h.get? b=aa o->h'.get? b=aa o)->tn i h'
 item:∀(X:Cx),X.prog=P->X.w=w->X.K=K->X.calm=ah->∀(i:Nat)(zt:List (VS×aq)) (s:VG) (σ:St) (H:Hp) (E:aA->VG->Prop),Inv X zt σ H s->(∀b∈fp,qv X zt H b)->tn i s.heap->J.go i H →
  ay (V4 P w) X.A (pyNext (.ref it)) (λr s1=>∃ u,r=aa u ∧
   ay (V4 P w) X.A (YD tg (.ref it) u) (λ_ s2=>∃ x H',Inv X zt σ H' s2/\RelV x u/\J.yld i H x H'/\tn (i+1) s2.heap/\∀ b∈fp,H' b=af) E s1) E s
 done:∀(X:Cx),X.prog=P->X.w=w->X.K=K->X.calm=ah->∀(i:Nat)(zt:List (VS×aq)) (s:VG) (σ:St) (H:Hp) (E:aA->VG->Prop),Inv X zt σ H s->(∀b∈fp,qv X zt H b)->tn i s.heap->J.stop i H →
  ay (V4 P w) X.A (pyNext (.ref it)) (λr s1=>r=af/\Inv X zt σ H s1) E s
 self:∀(A:Wq)(i:Nat)(s:VG)(Q:aA->VG->Prop) (E:aA->VG->Prop),tn i s.heap->Q (.ref it) s->ay (V4 P w) A (pyIter (.ref it)) Q E s
abbrev TI:=St->Hp->(It->Hp->Prop)->Prop
def PIE(X:Cx)(zt:List (VS×aq))(σ:St)(tg:ZF)(R:It->Hp->Prop)(L:aA)(s2:VG):Prop :=
 ∃(V:VS) (W:List VS) (U:Nat->au->Prop) (J:It) (O:Hp),L=.ref V/\Inv X zt σ O s2/\Turn X.prog X.w X.K tg J W V U/\U 0 s2.heap/\(∀b∈W,qv X zt O b)/\R J O
def PI(X:Cx)(tg iter:ZF)(O:TI):Prop :=
 ∀(L:List (VS×aq)) (s:VG) (J:St) (H:Hp) (R:It->Hp->Prop),Inv X L J H s->O J H R →
  ay (V4 X.prog X.w) X.A (eval iter X.env) (λv U=>ay (V4 X.prog X.w) X.A (pyIter v) (PIE X L J tg R) X.xe U) X.xe s
def yY{E:aA->VG->Prop}(L:s.heap.get? it=aa o)(hc:o.cls=.type n)(O:o.data=.fields vs)
(hn:["enumerate","zip","dict_itemiterator","dict_reverseitemiterator","odict_iterator","itertools.zip_longest","itertools.pairwise"].contains n=ai)(J:Q () s):ay M A (YD tg (.ref it) u) Q E s:=by
 unfold YD;cases tg<;>first
  |exact av J
  | (cases u<;>first
   |exact av J
   | (refine VJ (wpAny_load L ?_)
      rw[hc,O];show ay M A (if (["enumerate","zip","dict_itemiterator","dict_reverseitemiterator","odict_iterator","itertools.zip_longest","itertools.pairwise"].contains n&&vs[0]?==aa (rawInt _))=ah then _ else _) Q E s;rw[bL (by intro h;rw[hn,Bool.false_and] at h;cases h)];exact av J))
noncomputable def Itl(K:VE)(a:VS):It :=
 ⟨λi H=>∃J x,SqL K H a J/\J[i]?=aa x,λi H x L=>L=H/\∀J,SqL K H a J->J[i]?=aa x,λi H=>∃J,SqL K H a J/\J.length<=i⟩
noncomputable def Itt(K:VE)(a:VS):It :=
 ⟨λi H=>∃J x,SqT K H a J/\J[i]?=aa x,λi H x L=>L=H/\∀J,SqT K H a J->J[i]?=aa x,λi H=>∃J,SqT K H a J/\J.length<=i⟩
noncomputable def Itr(lo:Int)(n:Nat):It:=⟨λi _=>i<n,λi H x J=>J=H/\x=.int (lo+i),λi _=>n<=i⟩
theorem AL{K:VE}(a J:VS):Turn P w K tg (Itl K a) [J] J (λi h=>h.IsListIter J a i) where
 mem:=by simp
 obj:=λi h st b L=>by
  have e:b=J:=by simpa using L
  subst e;obtain⟨o,e,c,d⟩:=st;exact⟨o,e,λv z=>by rw[d]at z;cases z⟩
 keep:=λi h W st k=>st.at λo e=>k J (by simp) o e
 item:=by intro X j hw l hc i A s y H E I V st g;subst j hw l;obtain⟨B,x,U,f⟩:=g;obtain⟨Z,Y,p,F⟩:=I.list U;obtain⟨u,M,D⟩:=Y.get f;obtain⟨t,r,N,q,n,m⟩:=V J (by simp);refine wpAny_pyNext_list_item st p.isList (x:=u) (by simpa using M) λW O C=>?_;have R:Inv X A y H {s with heap:=W}:=I.turned (t':=s.toks) (λb o L e=>(C.2 b L).trans e) t r q n m;obtain⟨o,e,c,d⟩:=id O;exact⟨u,rfl,yY (s:={s with heap:=W}) e c d (by decide) ⟨x,H,R,D,⟨rfl,λS G=>by rw[I.qu G U];exact f⟩,O,λb L=>(V b L).1⟩⟩
 done:=by intro X j hw l hc i A s y H E I V st g;subst j hw l;obtain⟨B,U,f⟩:=g;obtain⟨Z,Y,p,F⟩:=I.list U;obtain⟨t,r,N,q,n,m⟩:=V J (by simp);have T:=Y.length;exact wpAny_pyNext_list_end (I.ok.hd hc) st p.isList (by simp;lia) λW Q=>⟨rfl,I.turned (t':=s.toks) (λb o L e=>Q b o L e) t r q n m⟩
 self:=λ_ _ _ _ _ st h=>wpAny_pyIter_listiter st h
theorem xO{K:VE}(a L:VS):Turn P w K tg (Itt K a) [L] L (λi h=>h.IsTupleIter L a i) where
 mem:=by simp
 obj:=λi h st b O=>by
  have e:b=L:=by simpa using O
  subst e;obtain⟨o,e,c,d⟩:=st;exact⟨o,e,λv z=>by rw[d]at z;cases z⟩
 keep:=λi h Y st k=>st.at λo e=>k L (by simp) o e
 item:=by intro X j hw l hc i A s y H E I W st g;subst j hw l;obtain⟨B,x,V,f⟩:=g;obtain⟨J,Z,p,F⟩:=I.tuple V;obtain⟨u,M,D⟩:=Z.get f;obtain⟨t,r,N,q,n,m⟩:=W L (by simp);refine wpAny_pyNext_tuple_item st (show s.heap.IsTuple a J.toArray from p) (x:=u) (by simpa using M) λY U C=>?_;have R:Inv X A y H {s with heap:=Y}:=I.turned (t':=s.toks) (λb o O e=>(C.2 b O).trans e) t r q n m;obtain⟨o,e,c,d⟩:=id U;exact⟨u,rfl,yY (s:={s with heap:=Y}) e c d (by decide) ⟨x,H,R,D,⟨rfl,λS G=>by rw[I.AK G V];exact f⟩,U,λb O=>(W b O).1⟩⟩
 done:=by intro X j hw l hc i A s y H E I W st g;subst j hw l;obtain⟨B,V,f⟩:=g;obtain⟨J,Z,p,F⟩:=I.tuple V;obtain⟨t,r,N,q,n,m⟩:=W L (by simp);have T:=Z.length;exact wpAny_pyNext_tuple_end (I.ok.hd hc) st (show s.heap.IsTuple a J.toArray from p) (by simp;lia) λY Q=>⟨rfl,I.turned (t':=s.toks) (λb o O e=>Q b o O e) t r q n m⟩
 self:=λ_ _ _ _ _ st h=>wpAny_pyIter_tupleiter st h
theorem xP{K:VE}(J:VS)(lo:Int)(n:Nat):Turn P w K tg (Itr lo n) [J] J (λi h=>IsRangeIter h J (lo+(i:Nat)*1) ((n:Int)-(i:Nat)) 1) where
 mem:=by simp
 obj:=λi h st b L=>by
  have e:b=J:=by simpa using L
  subst e;exact⟨_,st,λv z=>by have q:Data.fields _=Data.cell v:=z;cases q⟩
 keep:=λi h V st k=>k J (by simp) _ st
 item:=by intro X Z hw a hc i m s l H E I U st Y;subst Z hw a;obtain⟨j,g,x,f,d,c⟩:=U J (by simp);have W:=Walks.range (prog:=X.prog) (w:=X.w) (I.ok.hd hc) J lo 1 n;refine W.item i s _ _ Y st λv V p u O r=>?_;obtain⟨t,rfl⟩:=u;have A:Inv X m l H {s with heap:=V,toks:=p}:=I.turned (λb o L e=>r b o (by simpa using L) e) j g f d c;refine⟨_,rfl,yY (s:={s with heap:=V,toks:=p}) (n:="range_iterator") O rfl rfl (by decide) ⟨.int (lo+i),H,A,⟨t,?_⟩,⟨rfl,rfl⟩,O,λb L=>(U b L).1⟩⟩;rw[Int.mul_one]
 done:=by intro X Z hw a hc i m s l H E I U st Y;subst Z hw a;obtain⟨j,g,x,f,d,c⟩:=U J (by simp);exact wpAny_pyNext_range_end (I.ok.hd hc) st (by have:n<=i:=Y;lia) λV y=>⟨rfl,I.turned (t':=s.toks) (λb o L e=>y b o L e) j g f d c⟩
 self:=λ_ _ _ _ _ st h=>wpAny_pyIter_rangeiter st h
end L2
namespace L2
open PySem PySem.Spec PyProof.Rows
section
variable{X:Cx}{tg:ZF}
def Oi(K:VE)(tl:TE):TI:=fun L H R=>tl L H λx J=>∃a,x=.ref a/\(∃O,SqL K J a O)/\R (Itl K a) J
def SB(K:VE)(tl:TE):TI:=fun L H R=>tl L H λx J=>∃a,x=.ref a/\(∃O,SqT K J a O)/\R (Itt K a) J
def yZ(d:PE X l tl):PI X tg l (Oi X.K tl):=by
 intro U s O H R I h;refine thn (d U s O H _ I h) λv J V=>?_;obtain⟨x,g,L,W,Y⟩:=V;obtain⟨a,e,⟨i,c⟩,q⟩:=Y;subst e;cases W;obtain⟨Z,j,p,k⟩:=L.list c;refine wpAny_pyIter_list p.isList ?_;refine⟨J.heap.objs.size,[J.heap.objs.size],_,_,g,rfl,L.aG (t':=J.toks) λb o e=>VO _ e,AL a _,⟨_,Wm _ rfl,rfl,rfl⟩,λb f=>?_,q⟩;have e:b=J.heap.objs.size:=by simpa using f
 subst e;exact L.CF (VR _) (L.aI.fresh (VR _))
def Ka(d:PE X l tl):PI X tg l (SB X.K tl):=by
 intro V s U H R I h;refine thn (d V s U H _ I h) λv J W=>?_;obtain⟨x,g,L,Y,Z⟩:=W;obtain⟨a,e,⟨i,c⟩,q⟩:=Z;subst e;cases Y;obtain⟨O,j,p,k⟩:=L.tuple c;refine wpAny_pyIter_tuple (show J.heap.IsTuple a O.toArray from p) ?_;refine⟨J.heap.objs.size,[J.heap.objs.size],_,_,g,rfl,L.aG (t':=J.toks) λb o e=>VO _ e,xO a _,⟨_,Wm _ rfl,rfl,rfl⟩,λb f=>?_,q⟩;have e:b=J.heap.objs.size:=by simpa using f
 subst e;exact L.CF (VR _) (L.aI.fresh (VR _))
def vD{E:aA->VG->Prop}{lo:Int}(I:Inv X zt σ H s)(h1:-(2^62)<=lo)(h2:lo<2^62)(U:-(2^62)<=hi)(O:hi<2^62)
(q:R (Itr lo (hi-lo).toNat) H):ay (V4 X.prog X.w) X.A (pyIter (.ref s.heap.objs.size)) (PIE X zt σ tg R) E {s with heap:=s.heap.push {cls:=.type "range",data:=.fields #[.int lo t,.int hi u,.int 1 v]},toks:=tk}:=by
 refine wpAny_pyIter_range (IsRange.new ..) (small_one h1 h2 U O) ?_;have J:Inv X zt σ H { s with heap:=s.heap.push { cls:=.type "range",data:=.fields #[.int lo t,.int hi u,.int 1 v] },toks:=tk }:=I.aG λb o e=>VO _ e;refine ⟨(s.heap.push { cls:=.type "range",data:=.fields #[.int lo t,.int hi u,.int 1 v] }).objs.size,[(s.heap.push { cls:=.type "range",data:=.fields #[.int lo t,.int hi u,.int 1 v] }).objs.size],_,_,H,rfl,
  J.aG (t':=tk) λb o e=>VO _ e,xP _ lo (hi - lo).toNat,?_,λb L=>?_,q⟩
 ·have e1:lo+((0:Nat):Int)*1=lo:=by simp
  have e2:(((hi-lo).toNat:Nat):Int)-((0:Nat):Int)=Builtin.Range.rangeSize lo hi 1:=by rw[rangeSize_one];split<;>lia
  show IsRangeIter _ _ (lo+((0:Nat):Int)*1) ((((hi-lo).toNat:Nat):Int)-((0:Nat):Int)) 1;rw[e1,e2];exact Wm _ rfl
 ·have e:b=(s.heap.push {cls:=.type "range",data:=.fields #[.int lo t,.int hi u,.int 1 v]}).objs.size:=by simpa using L
  subst e;exact J.CF (VR _) (J.aI.fresh (VR _))
def Oj(ta:TA):TI:=fun J H R=>ta J H λL O=>∃j:Int,L=[.int j]/\-(2^62)<=j/\j<2^62/\R (Itr 0 j.toNat) O
def Ol(ta:TA):TI:=fun J H R=>ta J H λL O=>∃i j:Int,L=[.int i,.int j]/\(-(2^62)<=i/\i<2^62/\-(2^62)<=j/\j<2^62)/\R (Itr i (j-i).toNat) O
def AM(Z:Gl X "range")(Y:X.mg "range"=af)(b:PA X [a] ta)(W:Wi [a] X.env=[(ai,eval a X.env)]:=by rfl):PI X tg (.Call (.Name "range" p) [a] [] pos) (Oj ta):=by
 intro O s L H R I h;refine Call_ (kZ I Z Y boot_range (WC (thn (b pos O s L H _ I h) λus s1 ⟨vs,H1,I1,r1,J⟩=>?_) W rfl));obtain⟨j,e,J,V,q⟩:=J;subst e;cases r1 with
 |cons r U =>
  cases U;obtain⟨t,rfl⟩:=r;exact call_range_1 (vD I1 (by lia) (by lia) J V (by simpa using q))
def AN(g:Gl X "range")(f:X.mg "range"=af)(k:PA X [a,b] ta)(d:Wi [a,b] X.env=[(ai,eval a X.env),(ai,eval b X.env)]:=by rfl)(J:Wi [b] X.env=[(ai,eval b X.env)]:=by rfl):
 PI X tg (.Call (.Name "range" p) [a,b] [] pos) (Ol ta):=by
 intro V s U H R I h;refine Call_ (kZ I g f boot_range (WC (thn (k pos V s U H _ I h) λus s1 ⟨vs,H1,I1,r1,O⟩=>?_) (by rw[d,J]) (by rw[J];rfl)));obtain⟨i,j,e,⟨O,c,Z,Y⟩,q⟩:=O;subst e;cases r1 with
 |cons r L =>
  cases L with
  |cons W L =>
   cases L;obtain⟨t,rfl⟩:=r;obtain⟨l,rfl⟩:=W;exact call_range_2 (vD I1 O c Z Y q)
def Kc(Z:TI)(g:TG)(tb:TS):TS:=λD L H=>Z L H λJ b=>∃W:Nat->Nat->St->Hp->Prop,(∃m,W 0 m L b)/\∀i m L H,W i m L H →
 (J.stop i H/\D.nx L H)\/(J.go i H/\∃N:St->Hp->Prop,(∀O U,N O U->∃Y,Y<m/\W (i+1) Y O U)/\∀x U,J.yld i H x U->g x L U fun V a=>tb {D with nx:=N,ct:=N,bk:=D.nx} V a)
noncomputable def mR(fp:List VS)(h:au):List (VS×aq):=fp.filterMap λb=>(h.get? b).map λo=>(b,o)
def iE(J:b∈fp)(e:h.get? b=aa o):(b,o)∈mR fp h:=List.mem_filterMap.mpr ⟨b,J,by rw[e];rfl⟩
def AO(J:p∈mR fp h):p.1∈fp/\h.get? p.1=aa p.2:=by
 obtain⟨b,L,e⟩:=List.mem_filterMap.mp J;cases q:h.get? b with
 |none=>rw[q]at e;cases e
 |some o =>
  rw[q]at e;have O:(b,o)=p:=VN e;subst O;exact⟨L,q⟩
def Inv.pinned(I:Inv X zt σ H s)(V:∀b∈fp,qv X zt H b)(U:∀b∈fp,∃o,s.heap.get? b=aa o/\∀v,o.data≠.cell v):Inv X (zt++mR fp s.heap) σ H s :=
 I.lX λp O=>(List.mem_append.mp O).elim (λz=>I.pin p (Wd _ z)) λz=>by obtain⟨J,e⟩:=AO z;obtain⟨Z,Y,W,_⟩:=V p.1 J;obtain⟨o,L,d⟩:=U p.1 J;rw[e]at L;cases L;exact⟨e,Z,Y,W,d⟩
def Inv.nu(I:Inv X (zt++pl) σ H s):Inv X zt σ H s:=I.lX λp J=>I.pin p (Wd _ (Xc _ J))
def CG{K:TI}(p:ZZ (V4 X.prog X.w) X.A X.env X.xe)(hc:X.calm=ah)(hi:PI X tg iter K)(hg:PG X tg g)(V:PSs X body tb)
(hs:∀x,Z8 iter X.env x=pure x:=by intro _;rfl):PS X (.For tg iter body [] pos) (Kc K g tb):=by
 intro c s G H D I h;refine wpAny_For (thn (hi c s G H _ I h) λv s1 h1=>thn h1 λitv s2 h2=>?_) hs;obtain⟨it,q,M,J,H2,e,I2,T,y,R,W,⟨m0,w0⟩,turn⟩:=h2;subst e;have U:∀{Z:Hp},(∀b∈q,Z b=af)->∀b∈q,qv X c Z b:=λhn b V=>⟨hn b V,(R b V).2⟩;refine codeAny_forLoop_any (λn Q=>∃i O Z,Inv X c O Z Q/\M i Q.heap/\(∀b∈q,Z b=af)/\W i n O Z) ?_ m0 ⟨0,G,H2,I2,y,λb V=>(R b V).1,w0⟩
 rintro n s3 ⟨i,σ3,H3,I3,st3,fr3,w3⟩
 rcases turn i n σ3 H3 w3 with⟨stop,qn⟩|⟨go,N,hN,step⟩
 ·refine Xs p (thn (T.done X rfl rfl rfl hc i c s3 σ3 H3 X.xe I3 (U fr3) st3 stop) λr s4 j=>?_);obtain⟨C,I4⟩:=j;subst C;exact YB ⟨σ3,H3,I4,qn⟩
 ·refine Xs p (thn (T.item X rfl rfl rfl hc i c s3 σ3 H3 X.xe I3 (U fr3) st3 go) λr s4 j=>?_);obtain⟨u,C,h4⟩:=j;subst C;refine Xs p (thn h4 λ_ P j=>?_);obtain⟨x,S,I5,r5,y5,k,E⟩:=j;have F:=I5.pinned (U E) (T.obj _ _ k);refine Xs p (thn (hg _ P σ3 S x u _ F r5 (step x S y5)) λ_ s6 j=>?_);obtain⟨t,H6,I6,q6⟩:=j;refine Xs p (thn (V _ s6 t H6 _ I6 q6) λf z l=>?_);have again:∀{L:St}{Y:Hp},Inv X (c++mR q P.heap) L Y z->N L Y->∃m,m<n/\∃i O Z,Inv X c O Z z/\M i z.heap/\(∀b∈q,Z b=af)/\W i m O Z:=λ{L Y} a B=>by obtain⟨m',hm,w7⟩:=hN L Y B;refine⟨m',hm,i+1,L,Y,a.nu,T.keep _ _ _ k λb V o e=>(a.pin (b,o) (Wd _ (Wd _ (iE V e)))).1,λb V=>?_,w7⟩;obtain⟨o,e,d⟩:=T.obj _ _ k b V;exact(a.pin (b,o) (Wd _ (Wd _ (iE V e)))).2.1
  cases f with
  |brk=>obtain⟨L,Y,a,l⟩:=l;exact⟨L,Y,a.nu,l⟩|ret v=>obtain⟨x7,L,Y,a,r7,l⟩:=l;exact⟨x7,L,Y,a.nu,r7,l⟩|_=>obtain⟨L,Y,a,B⟩:=l;exact again a B
end
end L2
namespace L2
open PySem PySem.Spec PyProof.Rows
abbrev R2:=V->V->Hp->VK->Prop
def OpR(X:Cx)(f:aA->aA->Sem aA)(r:R2):Prop :=
 ∀(L:List (VS×aq)) (s:VG) (J:St) (H:Hp) (x y:V) (v u:aA) (Q:VK),Inv X L J H s->RelV x v->RelV y u->r x y H Q →
  ay (V4 X.prog X.w) X.A (f v u) (EP X L J Q) X.xe s
def UnR(X:Cx)(f:aA->Sem aA)(r:V->Hp->VK->Prop):Prop :=
 ∀(L:List (VS×aq)) (s:VG) (J:St) (H:Hp) (x:V) (v:aA) (Q:VK),Inv X L J H s->RelV x v->r x H Q →
  ay (V4 X.prog X.w) X.A (f v) (EP X L J Q) X.xe s
def gO(X:Cx)(f:aA)(r:List V->Hp->VK->Prop):Prop :=
 ∀(L:List (VS×aq)) (s:VG) (J:St) (H:Hp) (O:List V) (U:List aA) (Q:VK),Inv X L J H s->dJ O U->r O H Q →
  ay (V4 X.prog X.w) X.A (call f U) (EP X L J Q) X.xe s
def tOp(r:R2)(ta tb:TE):TE:=fun J H Q=>ta J H λx O=>tb J O λy L=>r x y L Q
def tUn(r:V->Hp->VK->Prop)(ta:TE):TE:=fun J H Q=>ta J H λx L=>r x L Q
def rI(C:Int->Int->Prop)(g:Int->Int->V):R2:=λx y H Q=>∃i j,x=.int i/\y=.int j/\C i j/\Q (g i j) H
def rI0(g:Int->Int->V):R2:=λx y H Q=>∃i j,x=.int i/\y=.int j/\Q (g i j) H
def rU(g:Int->V):V->Hp->VK->Prop:=λx H Q=>∃i,x=.int i/\Q (g i) H
section
variable{X:Cx}{a b c:ZF}{ta tb tc:TE}{pos:Pos}
def Ke(g:PE X a ta)(e:PE X b tb){zt:List (VS×aq)}{s:VG}{σ:St}{H:Hp}{R:V->V->Hp->Prop}(I:Inv X zt σ H s)
(h:ta σ H λx H1=>tb σ H1 λy H2=>R x y H2){Q:aA->VG->Prop}{f:aA->aA->Sem aA}
(d:∀v u s2 x y H2,Inv X zt σ H2 s2->RelV x v->RelV y u->R x y H2->ay (V4 X.prog X.w) X.A (f v u) Q X.xe s2):
 ay (V4 X.prog X.w) X.A (eval a X.env) (λv L=>ay (V4 X.prog X.w) X.A (eval b X.env) (λu J=>ay (V4 X.prog X.w) X.A (f v u) Q X.xe J) X.xe L) X.xe s:=by
 refine thn (g zt s σ H _ I h) λv U O=>?_;obtain⟨x,H1,j,Y,c⟩:=O;refine thn (e zt U σ H1 _ j c) λu s2 O=>?_;obtain⟨y,H2,i,W,Z⟩:=O;exact d v u s2 x y H2 i Y W Z
def Jm{J:Zt}{r:R2}(Y:OpR X (W7 J) r)(c:PE X a ta)(Z:PE X b tb):PE X (.BinOp a J b pos) (tOp r ta tb):=by intro O s L H Q I h;exact wpAny_BinOp (Ke c Z I h λv u U x y e d W V q=>Y O U L e x y v u Q d W V q)
def Jo(O:UnR X (unaryOp op) r)(U:PE X a ta):PE X (.UnaryOp op a pos) (tUn r ta):=by intro L s J H Q I h;exact UnaryOp_ (thn (U L s J H _ I h) λv s1 ⟨x,H1,I1,r1,q1⟩=>O L s1 J H1 x v Q I1 r1 q1)
def opI{f:aA->aA->Sem aA}{C:Int->Int->Prop}{g:Int->Int->Int}
(rule:∀(i j:Int)(t u:Tok)(s:VG)(Q:aA->VG->Prop) (E:aA->VG->Prop),C i j->Q (.int (g i j) s.toks) {s with toks:=s.toks+1}->ay (V4 X.prog X.w) X.A (f (.int i t) (.int j u)) Q E s):
 OpR X f (rI C λi j=>.int (g i j)):=by
 intro V s U H x y v u Q I O L h;obtain⟨i,j,rfl,rfl,hc,q⟩:=h;obtain⟨t,rfl⟩:=O;obtain⟨J,rfl⟩:=L;exact rule i j t J s _ _ hc ⟨.int (g i j),H,I.tok _,⟨_,rfl⟩,q⟩
def Om{f:aA->aA->Sem aA}{g:Int->Int->Int}
(rule:∀(i j:Int)(t u:Tok)(s:VG)(Q:aA->VG->Prop) (E:aA->VG->Prop),Q (.int (g i j) s.toks) {s with toks:=s.toks+1}->ay (V4 X.prog X.w) X.A (f (.int i t) (.int j u)) Q E s):
 OpR X f (rI0 λi j=>.int (g i j)):=by
 intro V s U H x y v u Q I O L h;obtain⟨i,j,rfl,rfl,q⟩:=h;obtain⟨t,rfl⟩:=O;obtain⟨J,rfl⟩:=L;exact rule i j t J s _ _ ⟨.int (g i j),H,I.tok _,⟨_,rfl⟩,q⟩
def Gj{f:aA->aA->Sem aA}{g:Int->Int->Bool}
(rule:∀(i j:Int)(t u:Tok)(s:VG)(Q:aA->VG->Prop) (E:aA->VG->Prop),Q (.bool (g i j)) s->ay (V4 X.prog X.w) X.A (f (.int i t) (.int j u)) Q E s):
 OpR X f (rI0 λi j=>.bl (g i j)):=by
 intro V s U H x y v u Q I O L h;obtain⟨i,j,rfl,rfl,q⟩:=h;obtain⟨t,rfl⟩:=O;obtain⟨J,rfl⟩:=L;exact rule i j t J s _ _ ⟨.bl (g i j),H,I,rfl,q⟩
def SC(i j:Int):Prop:=0<j/\j<1073741824
def Gk(i j:Int):Prop:=(-(2^64)<i/\i<2^64)\/(-(2^64)<j/\j<2^64)
def Gk.ok(h:Gk i j):IntMulOk i j:=by
 rcases h with⟨L,J⟩|⟨L,J⟩
 exact .of_left (intBits_le_64 L J);exact .of_right (intBits_le_64 L J)
def Kf:OpR X (W7 .Add) (rI0 λi j=>.int (i+j)):=Om λ_ _ _ _ _ _ _ q=>add_int q
def Kg:OpR X (W7 .Sub) (rI0 λi j=>.int (i-j)):=Om λ_ _ _ _ _ _ _ q=>sub_int q
def Kl:OpR X (W7 .Mult) (rI Gk λi j=>.int (i*j)):=opI λ_ _ _ _ _ _ _ hc q=>mul_int q hc.ok
def Gm:OpR X (W7 .FloorDiv) (rI SC λi j=>.int (i/j)):=opI λi j _ _ _ _ _ hc q=>by have L:(0:Int)<j:=hc.1;have J:j<1073741824:=hc.2;exact floordiv_int (by lia) (by rw[Int.fdiv_eq_ediv_of_nonneg i (by lia)];exact q) (.inl (PyProof.noPylong_small (by lia)))
def Km:OpR X (W7 .Mod) (rI (λ_ j=>0<j) λi j=>.int (i%j)):=opI λi j _ _ _ _ _ hc q=>by have J:(0:Int)<j:=hc;exact mod_int' (by lia) (by rw[Int.fmod_eq_emod_of_nonneg i (by lia)];exact q)
def unI{f:aA->Sem aA}{g:Int->Int}
(rule:∀(i:Int)(t:Tok)(s:VG)(Q:aA->VG->Prop) (E:aA->VG->Prop),Q (.int (g i) s.toks) {s with toks:=s.toks+1}->ay (V4 X.prog X.w) X.A (f (.int i t)) Q E s):
 UnR X f (rU λi=>.int (g i)):=by
 intro O s L H x v Q I J h;obtain⟨i,rfl,q⟩:=h;obtain⟨t,rfl⟩:=J;exact rule i t s _ _ ⟨.int (g i),H,I.tok _,⟨_,rfl⟩,q⟩
def CH:UnR X (unaryOp .USub) (rU λi=>.int (-i)):=unI λ_ _ _ _ _ q=>neg_int q
end
section
variable{X:Cx}{a b c:ZF}{ta tb tc:TE}{pos:Pos}
def CJ(I:Inv X zt σ H s)(q:Q (.bl k) H)(e:k=k'):EP X zt σ Q (.bool k') s:=by subst e;exact⟨.bl k,H,I,rfl,q⟩
def On:OpR X (WE .Lt) (rI0 λi j=>.bl (decide (i<j))):=Gj λ_ _ _ _ _ _ _ q=>lt_int q
def Oo:OpR X (WE .LtE) (rI0 λi j=>.bl (decide (i<=j))):=Gj λ_ _ _ _ _ _ _ q=>le_int q
def Oq:OpR X (WE .Gt) (rI0 λi j=>.bl (decide (j<i))):=Gj λ_ _ _ _ _ _ _ q=>gt_int q
def Os:OpR X (WE .GtE) (rI0 λi j=>.bl (decide (j<=i))):=Gj λ_ _ _ _ _ _ _ q=>ge_int q
def Kn:OpR X (WE .Is) (λx y H Q=>y=.aC/\Q (.bl (decide (x=.aC))) H):=by
 intro U s O H x y v u Q I J L h;obtain⟨rfl,q⟩:=h;cases L;refine is_none_gen (CJ I q ?_);cases x<;>first
  |(cases J;rfl)
  |(obtain⟨t,rfl⟩:=J;rfl)
def Gn:OpR X (WE .IsNot) (λx y H Q=>y=.aC/\Q (.bl (!decide (x=.aC))) H):=by
 intro U s O H x y v u Q I J L h;obtain⟨rfl,q⟩:=h;cases L;refine isnot_none_gen (CJ I q ?_);cases x<;>first
  |(cases J;rfl)
  |(obtain⟨t,rfl⟩:=J;rfl)
def Gp{J:CmpOp}{r:R2}(Y:OpR X (WE J) r)(d:PE X a ta)(c:PE X b tb)(Z:abc J b=ai):PE X (.Compare a [J] [b] pos) (tOp r ta tb):=by intro O s L H Q I h;exact wpAny_Compare1 (Ke d c I h λv u U x y f e W V q=>Y O U L f x y v u Q e W V q) Z
def CK(t:TE):TT:=fun J H Q=>t J H λx L=>∃k,x=.bl k/\Q k L
def Gq(O:OpR X (WE op) r)(W:PE X a ta)(V:PE X b tb)(U:abc op b=ai):PT X (.Compare a [op] [b] pos) (CK (tOp r ta tb)):=by
 intro L s J H Q I h;refine wpAny_isTrue_Compare1 (thn (W L s J H _ I h) λv s1 ⟨x,H1,I1,r1,q1⟩=>thn (V L s1 J H1 _ I1 q1) λu s2 ⟨y,H2,I2,r2,q2⟩ =>
  thn (O L s2 J H2 x y v u _ I2 r1 r2 q2) λc s3 ⟨z,H3,I3,r3,k,e,q3⟩=>?_) U
 subst e;cases r3;exact W3 ⟨H3,I3,q3⟩
def xQ(r U:R2)(ta tb tc:TE):TE:=fun J H Q=>ta J H λx Y=>tb J Y λy W=>r x y W λz L=>∃k,z=.bl k ∧
 (if k=ah then tc J L λO V=>U y O V Q else Q (.bl ai) L)
def CM(U:OpR X (WE op) r)(O:OpR X (WE op') r')(Y:PE X a ta)(W:PE X b tb)(hc:PE X c tc)
(V:lastMarks [op,op'] [b,c]=ai:=by with_unfolding_all rfl):PE X (.Compare a [op,op'] [b,c] pos) (xQ r r' ta tb tc):=by
 intro L s J H Q I h;refine Compare_chain (thn (Y L s J H _ I h) λv s1 ⟨x,H1,I1,r1,q1⟩=>chain_link (thn (W L s1 J H1 _ I1 q1) λu s2 ⟨y,H2,I2,r2,q2⟩ =>
  thn (U L s2 J H2 x y v u _ I2 r1 r2 q2) λd s3 ⟨z,H3,I3,r3,k,e,q3⟩=>?_)) V
 subst e;cases r3;refine W3 ?_;cases k with
 |false=>exact ite_ff ⟨.bl ai,H3,I3,rfl,q3⟩|true=>exact ite_tt (chain_last (thn (hc L s3 J H3 _ I3 q3) λw' s4 ⟨z',H4,I4,r4,q4⟩=>O L s4 J H4 y z' u w' Q I4 r2 r4 q4))
def CO(Z:OpR X (WE op) r)(O:OpR X (WE op') r')(i:PE X a ta)(g:PE X b tb)(hc:PE X c tc)
(f:lastMarks [op,op'] [b,c]=ai:=by with_unfolding_all rfl):PT X (.Compare a [op,op'] [b,c] pos) (CK (xQ r r' ta tb tc)):=by
 intro L s J H Q I h;refine isTrue_chain (thn (i L s J H _ I h) λv s1 ⟨x,H1,I1,r1,q1⟩=>test_link (thn (g L s1 J H1 _ I1 q1) λu s2 ⟨y,H2,I2,r2,q2⟩ =>
  thn (Z L s2 J H2 x y v u _ I2 r1 r2 q2) λd s3 ⟨z,H3,I3,r3,k,e,q3⟩=>?_)) f
 subst e;cases r3;refine W3 ?_;cases k with
 |false =>
  obtain⟨p,j,Y⟩:=q3;cases j;exact ite_ff ⟨H3,I3,Y⟩
 |true =>
  refine ite_tt (test_last (thn (hc L s3 J H3 _ I3 q3) λw' s4 ⟨z',H4,I4,r4,q4⟩=>thn (O L s4 J H4 y z' u w' _ I4 r2 r4 q4) λq o U=>?_));obtain⟨n,m,l,V,k2,e2,W⟩:=U;subst e2;cases V;exact W3 ⟨m,l,W⟩
def oA:(ak:Nat)<2^63:=by rw[sizeLine_eq];decide
def xR:OpR X (W7 .Add) (λx y H Q=>∃i j,x=.str i/\y=.str j/\i.length+j.length<=ak/\Q (.str (i++j)) H):=by intro W s V H x y v u Q I O L h;obtain⟨i,j,rfl,rfl,U,q⟩:=h;obtain⟨t,rfl⟩:=O;obtain⟨J,rfl⟩:=L;exact add_str (λJ Y=>⟨.str (i++j),H,I.tok _,⟨_,rfl⟩,q⟩) U
def vals1(r:dJ [x] us):∃u,us=[u]/\RelV x u:=by
 cases r with
 |cons L J=>cases J;exact⟨_,rfl,L⟩
def vals2(r:dJ [x,y] us):∃u J,us=[u,J]/\RelV x u/\RelV y J:=by
 cases r with
 |cons V U =>
  cases U with
  |cons O L=>cases L;exact⟨_,_,rfl,V,O⟩
def AQ(hc:X.calm=ah):gO X (.builtin "max") (λxs H Q=>∃i j,xs=[.int i,.int j]/\Q (.int (if j>i then j else i)) H):=by
 intro O s L H xs V Q I r h;obtain⟨i,j,rfl,q⟩:=h;obtain⟨u,U,rfl,⟨t,rfl⟩,⟨Y,rfl⟩⟩:=vals2 r;refine max_two_ints (I.ok.hd hc) λZ W k=>⟨_,H,I.aG k,?_,q⟩
 by_cases J:j>i
 rw[bK J,bK J];exact⟨_,rfl⟩;rw[bL J,bL J];exact⟨_,rfl⟩
def AR(hc:X.calm=ah):gO X (.builtin "min") (λxs H Q=>∃i j,xs=[.int i,.int j]/\Q (.int (if j<i then j else i)) H):=by
 intro O s L H xs V Q I r h;obtain⟨i,j,rfl,q⟩:=h;obtain⟨u,U,rfl,⟨t,rfl⟩,⟨Y,rfl⟩⟩:=vals2 r;refine min_two_ints (I.ok.hd hc) λZ W k=>⟨_,H,I.aG k,?_,q⟩
 by_cases J:j<i
 rw[bK J,bK J];exact⟨_,rfl⟩;rw[bL J,bL J];exact⟨_,rfl⟩
def sO:gO X (.type "int") (λxs H Q=>(∃i,xs=[.int i]/\Q (.int i) H)\/∃k,xs=[.bl k]/\Q (.int (if k then 1 else 0)) H):=by
 intro O s L H xs U Q I r h;rcases h with⟨i,rfl,q⟩|⟨k,rfl,q⟩
 ·obtain⟨u,rfl,t,rfl⟩:=vals1 r;exact call_int_int ⟨.int i,H,I,⟨_,rfl⟩,q⟩
 ·obtain⟨u,rfl,J⟩:=vals1 r;cases J;exact call_int_bool ⟨.int (if k then 1 else 0),H,I.tok _,⟨_,rfl⟩,q⟩
end
end L2
namespace L2
open PySem PySem.Spec PyProof.Rows
structure xS(h:au)(x dx C:VS)(mA:az->Option aA):Prop where
 obj:h.get? x=aa (Xb C dx)
 ns:h.Ns1 dx mA
 ne:dx≠x
def AS{h:au}{dx:VS}{mA:az->Option aA}(n:h.Ns1 dx mA):∃L,h.get? dx=aa L/\∀name,Y3 name L=aa (mA name):=by
 obtain⟨o,O,c,V,Z,Y,_,W⟩:=n;refine⟨o,V,λname=>?_⟩;have e:=W name;unfold nsFind findBy at e;rw[←Array.find?_toList]at e;unfold Y3;rw[Z];dsimp only;split
 ·rename_i y q;rw[q]at e;exact bS aa e
 ·rename_i q;rw[q]at e;have a:O.toList.any (·.refKey)=ai:=by rw[List.any_eq_false];intro y U;obtain⟨z,t,J⟩:=Y y (Array.mem_toList_iff.mp U);simp[DictEntry.refKey,J]
  have b:¬O.toList.any (·.refKey)=ah:=by rw[a];exact WU
  rw[bL b];exact bS aa e
def xS.look(I:xS h x dx C mA):∃J,PySem.W.InstAt h x (Xb C dx) C (aa J)/\∀name,Y3 name J=aa (mA name) :=
 let ⟨J,ho,hl⟩:=AS I.ns
 ⟨J,⟨I.obj,rfl,rfl,ho⟩,hl⟩
section
variable{prog:VV}{w:Wj}{A:Wq}{E:aA->VG->Prop}{s:VG}{K:VE}{x dx C f:VS}{mA:az->Option aA}{name:az}{v:aA}
def get_map(X:K.In s.heap)(I:xS s.heap x dx C mA)(Y:X3 K C name=ah)(V:Xn K C=ah)
(Z:Wc K (.ref C) name=aa af)(O:mA name=aa v)(L:aaX v=ah)(h:Q v {s with toks:=s.toks+1}):
 ay (V4 prog w) A (getAttr (.ref x) name expr) Q E s:=by
 obtain⟨a,J,U⟩:=I.look;exact PySem.W.get_value X J (Zb Y).1 (PySem.W.findObj_own V Z rfl (by rw[U,O])) L h
def CP(X:K.In s.heap)(I:xS s.heap x dx C mA)(L:X3 K C name=ah)
(Z:Wc K (.ref C) name=aa (aa (.ref f)))(V:YO K (.ref f)=ah)(U:mA name=af)(h:Q (.ref f,[.ref x]) s):
 ay (V4 prog w) A (aaw (.ref x) name pl) Q E s:=by
 obtain⟨O,J,Y⟩:=I.look;exact PySem.W.method_fn X J (Zb L).1 (Zb L).2 Z (beq_iff_eq.mp V) (by show(Y3 name O).map (·.isSome)=aa ai;rw[Y,U];rfl) h
def Gs(X:K.In s.heap)(I:xS s.heap x dx C mA)
(f:Wc K (.ref C) "__setattr__"=aa (aa (.builtin "object.__setattr__")))(g:Zr K C=ah)(d:ZI K C name=aa af)(i:Xn K C=ah)
(hw:aaz mA ns)(e:ns.length<=ak)
(h:∀h',xS h' x dx C (λy=>if y=name then aa v else mA y)->WZ dx s.heap h'->Q () {s with heap:=h',toks:=s.toks+2}):
 ay (V4 prog w) A (setAttr (.ref x) name v) Q E s:=by
 obtain⟨l,J,n⟩:=I.look;refine PySem.W.set_plain X J f (PySem.W.osa_open (s:={s with toks:=s.toks+1}) (r:=af) X J g d λb=>?_);obtain⟨o,hc,Y⟩:=PySem.W.any_some i;have c:s.heap.get? x=aa ⟨.ref C,aa dx,.plain,#[]⟩:=I.obj;refine VJ (av (VJ (VJ (wpAny_loadPart c (VJ (PySem.W.Looks.here (s:={s with toks:=s.toks+1}) (PySem.W.looks_clsIn X hc) ?_))))));rw[Y];refine av (a:=aa dx) (VJ (av (VJ ?_)));refine wpAny_nsSet1 (s:={s with toks:=s.toks+1}) I.ns λh' O L=>?_;obtain⟨m,j,k,U,V,Z⟩:=O.count (PySem.Within.cons name v hw);refine VJ (wpAny_lookBehind U (by rw[V];exact pastItsLine_dict (Wa Z (by rw[VU];lia))) ?_);exact av (h _ ⟨(L.2 _ (WI I.ne)).trans I.obj,O,I.ne⟩ L)
def CU(X:K.In s.heap)(L:ZL K C=ah)
(hi:Wc K (.ref C) "__init__"=aa (aa (.ref f)))(O:PySem.W.typeIn K (.ref f)=aa (.type "function"))
(h:ao (V4 prog w) (A.under (.builtin "type.__call__" ⟨.ref C::vs,kw⟩)) (.call (.ref f) ⟨.ref (s.heap.objs.size+1)::vs,kw⟩) (PySem.W.InitBack (s.heap.objs.size+1) R)
  { s with heap:=(s.heap.push WQ).push (Xb C s.heap.objs.size) }):
 ao (V4 prog w) A (.call (.ref C) ⟨vs,kw⟩) R s:=by
 obtain⟨U,g,d,t,os⟩:=s;exact PySem.W.make_core (PySem.W.makes_of X L) (PySem.W.looks_findIn X hi) (λJ=>PySem.W.bind_fn X J O) (.inl rfl) h
end
noncomputable def fR(f:az)(v:V):List (az×V)->List (az×V)
 |[]=>[(f,v)]
 |(g,x)::r=>if g=f then(g,v)::r else(g,x)::fR f v r
theorem oY(f g:az)(v:V):∀fs:List (az×V),(fR f v fs).lookup g=if g=f then aa v else fs.lookup g
 |[]=>by
  show XM g [(f,v)]=_
  by_cases h:g=f
  ·have J:(g==f)=ah:=beq_iff_eq.mpr h;simp only[XM,J,bK h]
  ·have J:(g==f)=ai:=beq_eq_false_iff_ne.mpr h;simp only[XM,J,bL h]
 |(k,x)::r=>by
  have O:=oY f g v r;rw[show fR f v ((k,x)::r)=(if k=f then(k,v)::r else(k,x)::fR f v r) from rfl]
  by_cases L:k=f
  ·rw[bK L]
   by_cases h:g=k
   ·have J:(g==k)=ah:=beq_iff_eq.mpr h;simp only[XM,J,bK (h.trans L)]
   ·have J:(g==k)=ai:=beq_eq_false_iff_ne.mpr h;simp only[XM,J,bL (λe:g=f=>h (e.trans L.symm))]
  ·rw[bL L]
   by_cases h:g=k
   ·have J:(g==k)=ah:=beq_iff_eq.mpr h;simp only[XM,J,bL (λe:g=f=>L (h.symm.trans e))]
   ·have J:(g==k)=ai:=beq_eq_false_iff_ne.mpr h;simp only[XM,J];exact O
theorem oE(f:az)(v:V):∀fs:List (az×V),f∈(fR f v fs).map (·.1)/\∀g,g∈fs.map (·.1)->g∈(fR f v fs).map (·.1)
 |[]=>⟨by simp[fR],λg h=>by simp at h⟩
 |(k,x)::r=>by
  obtain⟨O,L⟩:=oE f v r;rw[show fR f v ((k,x)::r)=(if k=f then(k,v)::r else(k,x)::fR f v r) from rfl]
  by_cases J:k=f
  ·rw[bK J];subst J;exact⟨by simp,λg h=>by simpa using h⟩
  ·rw[bL J];refine⟨?_,λg h=>?_⟩
   ·rw[VX];exact VZ _ O
   ·rw[VX]at h⊢;rcases List.mem_cons.mp h with e|e
    exact List.mem_cons.mpr (.inl e);exact VZ _ (L g e)
theorem oZ(f:az)(v:V):∀fs:List (az×V),(fR f v fs).length<=fs.length+1
 |[]=>by simp[fR]
 |(k,x)::r=>by
  have L:=oZ f v r;rw[show fR f v ((k,x)::r)=(if k=f then(k,v)::r else(k,x)::fR f v r) from rfl]
  by_cases J:k=f
  rw[bK J,VU,VU];lia;rw[bL J,VU,VU];lia
def qq.some_of(r:qq (aa v) o):∃u,o=aa u/\RelV v u:=by
 cases o with
 |none=>exact(show False from r).elim|some u=>exact⟨u,rfl,r⟩
def qq.none_of(r:qq af o):o=af:=by
 cases o with
 |none=>rfl|some u=>exact(show False from r).elim
def AU(r:RelV v u):aaX u=ah:=by
 cases v with
 |aC=>cases (show u=XY from r);rfl|bl b=>cases (show u=abd b from r);rfl|int i=>obtain⟨t,e⟩:=(show ∃t,u=Zq i t from r);cases e;rfl|str x=>obtain⟨t,e⟩:=(show ∃t,u=Xv x t from r);cases e;rfl|byt b=>obtain⟨t,e⟩:=(show ∃t,u=Value.bytes b t from r);cases e;rfl|flt b=>obtain⟨t,e⟩:=(show ∃t,u=Value.float b t from r);cases e;rfl|ref a=>cases (show u=WK a from r);rfl|ty n=>cases (show u=Value.type n from r);rfl
section
variable{P:VV}{w:Wj}{H H':Hp}{h h':au}{a C dx:VS}{fs fs':List (az×V)}
def tY(L:HOk P w H h)(e:H a=aa (.ins C dx fs)):∃mA,xS h a dx C mA/\(∀f,qq (fs.lookup f) (mA f))/\aaz mA (fs.map (·.1))/\fs.length<=1000/\H dx=aa (.own a):=by obtain⟨d,z,J,ob,mA,n,r,q⟩:=(show iC P w H h a (.ins C dx fs) from L a _ e);exact⟨mA,⟨ob,n,J⟩,r,q,z,d⟩
end
structure Cls(K:VE)(C:VS):Prop where
 pg:X3 K C XG=ah
 hd:Xn K C=ah
 po:Zr K C=ah
 sa:Wc K (.ref C) "__setattr__"=aa (aa (.builtin "object.__setattr__"))
def Cls.get{K:VE}(c:Cls K C)(f:az):X3 K C f=ah:=c.pg
def k9(K:VE)(C:VS)(f:az):Prop:=Wc K (.ref C) f=aa af
def k9.Ot{K:VE}(n:k9 K C f):ZI K C f=aa af:=by unfold ZI;rw[show Wc K (.ref C) f=aa af from n];rfl
structure AV(K:VE)(C:VS)(m:az)(f:VS):Prop where
 at_:Wc K (.ref C) m=aa (aa (.ref f))
 fn:YO K (.ref f)=ah
 kp:Wh K (.ref f)=ah
section
variable{X:Cx}{zt:List (VS×aq)}{σ:St}{H:Hp}{s:VG}{a C dx:VS}{fs:List (az×V)}{f:az}{v:V}{A:Wq}{E:aA->VG->Prop}
def qw(I:Inv X zt σ H s)(e:H a=aa (.ins C dx fs))(c:Cls X.K C)(n:k9 X.K C f)(l:fs.lookup f=aa v)
(h:∀u s',Inv X zt σ H s'->RelV v u->Q u s'):ay (V4 X.prog X.w) A (getAttr (.ref a) f b) Q E s:=by
 obtain⟨L,O,r,_,_,_⟩:=tY I.aI e;obtain⟨u,U,J⟩:=qq.some_of (v:=v) (o:=L f) (by rw[←l];exact r f);exact get_map I.kIn O (c.get f) c.hd n U (AU J) (h u _ (I.tok _) J)
def qx(I:Inv X zt σ H s)(e:H a=aa (.ins C dx fs))(c:Cls X.K C)(k:AV X.K C m g)(l:fs.lookup m=af)
(h:Q (.ref g,[.ref a]) s):ay (V4 X.prog X.w) A (aaw (.ref a) m pl) Q E s:=by
 obtain⟨J,O,r,_,_,_⟩:=tY I.aI e;have hn:J m=af:=qq.none_of (by rw[←l];exact r m);exact CP I.kIn O (c.get m) k.at_ k.fn hn h
def qy(I:Inv X zt σ H s)(e:H a=aa (.ins C dx fs))(c:Cls X.K C)(n:k9 X.K C f)(k:fs.length<1000)(Y:RelV y u)
(h:∀s',Inv X zt σ (upd H a (.ins C dx (fR f y fs))) s'->Q () s'):ay (V4 X.prog X.w) A (setAttr (.ref a) f u) Q E s:=by
 obtain⟨U,O,r,L,_,V⟩:=tY I.aI e;have Z:(fs.map (·.1)).length<=ak:=by rw[V8,sizeLine_eq];lia
 refine Gs I.kIn O c.sa c.po n.Ot c.hd L Z λj J W=>h _ ?_;have hd:∃o,j.get? dx=aa o:=let ⟨o,_,_,e',_⟩:=J.ns;⟨o,e'⟩;refine I.write (x:=a) (e:=dx) (by rw[e];exact XN) (.inr V) (λb q i z=>(W.2 b i).trans z) hd ?_;refine⟨by rw[dH O.ne];exact V,?_,O.ne,J.obj,_,J.ns,λg=>?_,λg d=>?_⟩;have:=oZ f y fs;lia
 ·show qq ((fR f y fs).lookup g) (if g=f then aa u else U g);rw[oY]
  by_cases q:g=f
  rw[bK q,bK q];exact Y;rw[bL q,bL q];exact r g
 ·by_cases q:g=f
  rw[q];exact(oE f y fs).1
  ·refine(oE f y fs).2 g (L g λz=>d ?_);show(if g=f then aa u else U g)=af;rw[bL q];exact z
def Inv.made(I:Inv X zt σ H s):Inv X zt σ (upd (upd H s.heap.objs.size (.own (s.heap.objs.size+1))) (s.heap.objs.size+1) (.ins C s.heap.objs.size []))
 {s with heap:=(s.heap.push WQ).push (Xb C s.heap.objs.size)}:=by
 have e1:(s.heap.push WQ).get? s.heap.objs.size=aa WQ:=Wm s.heap rfl;have e2:((s.heap.push WQ).push (Xb C s.heap.objs.size)).get? (s.heap.objs.size+1)=aa (Xb C s.heap.objs.size):=by
  have:=Wm (s.heap.push WQ) (o:=Xb C s.heap.objs.size) rfl
  rwa [Zi]at this
 have U:(s.heap.push WQ).Ns s.heap.objs.size (λ_=>af):=⟨WQ,#[],_,e1,rfl,(λe O=>bM O (by simp)),λ_=>rfl⟩;have V:=I.laid (a:=s.heap.objs.size) (o:=.own (s.heap.objs.size+1)) (h':=s.heap.push WQ) (t':=s.toks) (λb u q=>VO _ q) (VR _) ⟨_,e1⟩;refine V.laid (a:=s.heap.objs.size+1) (o:=.ins C s.heap.objs.size []) (t':=s.toks) (λb u q=>VO _ q) (Nat.le_of_eq (Zi _ _)) ?_;have J:s.heap.objs.size≠s.heap.objs.size+1:=We (W8 _);refine⟨by rw[dH J,eY],WM _,J,e2,λ_=>af,(Heap.Ns1.of_empty U).at λo q=>VO _ q,λ_=>XN,λy L=>bM rfl L⟩
def Gu(L:Za e f env (eval e env)=eval e env)
(h:ay (V4 prog w) A (eval e env) (λo J=>ay (V4 prog w) A (getAttr o f ah) Q E J) E s):ay (V4 prog w) A (eval (.Attribute e f pos) env) Q E s :=
 Attribute_any_ h (by rw[arm_eval_Attribute,L])
end
def SD(K:VE)(ta:TE)(f:az):TE:=fun L H Q=>ta L H λx J=>∃a C O fs v,x=.ref a/\J a=aa (.ins C O fs)/\Cls K C/\k9 K C f/\fs.lookup f=aa v/\Q v J
def Ou(K:VE)(ta tv:TE)(f:az):TS:=λD J H=>tv J H λy U=>ta J U λx O=>∃a C L fs,x=.ref a/\O a=aa (.ins C L fs)/\Cls K C/\k9 K C f/\fs.length<1000 ∧
 D.nx J (upd O a (.ins C L (fR f y fs)))
def SE(X:Cx)(O:Zt)(rd:V->V->Hp->VK->Prop):Prop :=
 ∀(L:List (VS×aq)) (s:VG) (J:St) (H:Hp) (x y:V) (u v:aA) (Q:VK),Inv X L J H s->RelV x u->RelV y v->rd x y H Q->ay (V4 X.prog X.w) X.A (inplaceOp O u v) (EP X L J Q) X.xe s
def y9(K:VE)(ta tv:TE)(rd:V->V->Hp->VK->Prop)(f:az):TS:=λD O H=>ta O H λx W=>∃a C Y fs v,x=.ref a/\W a=aa (.ins C Y fs)/\Cls K C/\k9 K C f/\fs.lookup f=aa v ∧
 tv O W λy Z=>rd v y Z λz U=>∃L J,U a=aa (.ins C L J)/\J.length<1000/\D.nx O (upd U a (.ins C L (fR f z J)))
section
variable{X:Cx}{o e value:ZF}{f:az}{pos pos' tpos:Pos}{ta tv:TE}
def Ko(W:PE X e ta)(Y:Za e f X.env (eval e X.env)=eval e X.env):PE X (.Attribute e f pos) (SD X.K ta f):=by intro L s J H Q I h;refine Gu Y (thn (W L s J H _ I h) λu k O=>?_);obtain⟨x,g,d,U,a,C,m,fs,v,ex,Z,c,n,l,q⟩:=O;subst ex;obtain rfl:u=WK a:=U;exact qw d Z c n l λi j b V=>⟨v,g,b,V,q⟩
def Kp(V:PE X o ta)(O:PE X value tv)(U:YC value (aa (.Attribute o f pos')) pos.line X.env=pure ai):PS X (.Assign [.Attribute o f pos'] value pos) (Ou X.K ta tv f):=by intro L s J H D I h;refine plainObj_wpAny_Assign_Attribute (thn (O L s J H _ I h) λu s1 ⟨y,H1,I1,ry,q⟩=>thn (V L s1 J H1 _ I1 q) λov s2 ⟨x,H2,I2,rx,a,C,dx,fs,ex,ea,c,n,l,q2⟩=>?_) U;subst ex;obtain rfl:ov=WK a:=rx;exact qy I2 ea c n l ry λY W=>⟨J,_,W,q2⟩
def AW{rd:V->V->Hp->VK->Prop}(k:PE X o ta)(j:PE X value tv)(U:SE X op rd):PS X (.AugAssign (.Attribute o f tpos) op value pos) (y9 X.K ta tv rd f):=by intro L s J H D I h;refine wpAny_AugAssign_AttributeAny (thn (k L s J H _ I h) λg N O=>?_);obtain⟨x,E,B,b,a,C,P,fs,v,ex,p,c,n,l,q⟩:=O;subst ex;obtain rfl:g=WK a:=b;refine qw B p c n l λu Y A d=>thn (j L Y J E _ A q) λw3 s3 ⟨y,H2,I3,ry,q3⟩=>thn (U L s3 J H2 v y u w3 _ I3 d ry q3) λF M O=>?_;obtain⟨z,Q,w,Z,r,m,W,i,e⟩:=O;exact qy w W c n i Z λG t=>⟨J,_,t,e⟩
end
section
variable{X:Cx}{zt:List (VS×aq)}{σ:St}{H:Hp}{s:VG}{A:Wq}{E:aA->VG->Prop}{Q:aA->VG->Prop}{c:aA}{b:Bool}
end
end L2
namespace L2
open PySem PySem.Spec PyProof.Rows
structure fN(k:Nat)(A:Wq):Prop where
 hd:A.handled=af
 dp:A.depth+3*k+5<recursionLimit
 un:A.units+16*k+200<aaM
def fN.mono(r:fN k A)(h:j<=k):fN j A:=⟨r.hd,by have:=r.dp;lia,by have:=r.un;lia⟩
def fN.deeper(r:fN (k+1) A)(env:Env):fN k (A.deeper env) :=
 ⟨r.hd,by have:=r.dp;show A.depth+1+3*k+5<_;lia,by have:=r.un;show A.units+3+16*k+200<_;lia⟩
def xT{A:Wq}{C:VS}{us:List aA}{kw:List (az×aA)}:(A.under (.builtin "type.__call__" ⟨.ref C::us,kw⟩)).depth=A.depth+1:=by first|rfl|simp[aas,Code.weight,Code.isCreation,Code.isGuard,Code.isCaller,Code.frames,aaJ,guardIds]
def xU{A:Wq}{C:VS}{us:List aA}{kw:List (az×aA)}:(A.under (.builtin "type.__call__" ⟨.ref C::us,kw⟩)).units=A.units+1:=by first|rfl|simp[aas,Code.cUnits,Code.frames,aaJ]
def fN.make(r:fN (k+1) A)(C:VS)(us:List aA)(kw:List (az×aA)):fN k (A.under (.builtin "type.__call__" ⟨.ref C::us,kw⟩)) :=
 ⟨r.hd,by have:=r.dp;rw[xT];lia,by have:=r.un;rw[xU];lia⟩
def fN.depth(r:fN k A):A.depth<recursionLimit:=by have:=r.dp;lia
def CV:TA:=λ_ H Q=>Q [] H
def Jp(ta:TE)(tr:TA):TA:=fun J H Q=>ta J H λx U=>tr J U λL O=>Q (x::L) O
section
variable{X:Cx}{e:ZF}{es:List ZF}{te:TE}{t:TA}{pos:Pos}
def mS:PA X [] CV:=λ_ _ _ _ H Q I h=>Zx ⟨[],H,I,.nil,h⟩
def gX(b:PE X e te)(a:PA X es t)(Z:Wi (e::es) X.env=(ai,eval e X.env)::Wi es X.env:=by rfl):PA X (e::es) (Jp te t):=by intro J O s L H Q I h;rw[Z];show ay _ _ (aav ((ai,eval e X.env)::Xu J (Wi es X.env))) _ _ s;refine Xj (thn (b O s L H _ I h) λu V U=>?_);obtain⟨x,d,c,W,Y⟩:=U;exact thn (a J O V L d _ c Y) λus s2 ⟨xs,H2,I2,r2,q2⟩=>⟨x::xs,H2,I2,.cons W r2,q2⟩
def Ow(t:TA):TE:=fun O H Q=>t O H λJ L=>J.length<=ak/\∀p,L p=af->Q (.ref p) (upd L p (.aB J))
def Kq(t:TA):TE:=fun O H Q=>t O H λJ L=>J.length<=ak/\∀p,L p=af->Q (.ref p) (upd L p (.aj J))
def Kr{x1}(h:PA X es t):PE X (.Tuple es x1 pos) (Ow t):=by intro L s J H Q I O;refine wpAny_Tuple_spliced (thn (h pos L s J H _ I O) λus s1 ⟨xs,H1,I1,r,z,q⟩=>⟨by rw[←r.length];exact z,?_⟩);have U:H1 s1.heap.objs.size=af:=I1.aI.fresh (VR _);refine⟨.ref s1.heap.objs.size,upd H1 s1.heap.objs.size (.aB xs),I1.laid (t':=s1.toks) (λb u e=>VO _ e) (VR _) ?_,rfl,q _ U⟩;exact⟨z,us,r,⟨_,Wm _ rfl,rfl,_,rfl⟩⟩
def CW(h:PA X es t):PE X (.List es pos) (Kq t):=by intro L s J H Q I O;refine wpAny_List_spliced (thn (h pos L s J H _ I O) λus s1 ⟨xs,H1,I1,r,z,q⟩=>⟨by rw[←r.length];exact z,?_⟩);have U:H1 s1.heap.objs.size=af:=I1.aI.fresh (VR _);refine⟨.ref s1.heap.objs.size,upd H1 s1.heap.objs.size (.aj xs),I1.laid (t':=s1.toks) (λb u e=>VO _ e) (VR _) ?_,rfl,q _ U⟩;exact⟨z,us,0,r,Wm _ rfl⟩
end
abbrev Sp:=List V->Hp->VK->XK->Prop
abbrev CXT:=List Env->Hp->VG->XK->aA->VG->Prop
structure pK(P:VV)(w:Wj)(K:VE)(mg:az->Option aA)(base:au)(A:Wq)(outer:List Env)(s:VG)(H:Hp):Prop where
 frames:A.frames=aa outer
 mod:Mod K mg base
 bs:∀b o,base.get? b=aa o->s.heap.get? b=aa o/\H b=af
 bsz:base.objs.size<=s.heap.objs.size
 jA:s.heap.FunFrames base outer
 frf:∀b∈frs outer,H b=af
 aI:HOk P w H s.heap
 bare:ZP s.gens
inductive CE(outer:List Env)(P:VV)(w:Wj)(H:Hp)(s:VG)(Q:VK)(u:aA)(s':VG):Prop
 |mk(v:V)(H':Hp)(os:s'.os=s.os)(b:ZP s'.gens)(un:Un (frs outer) [] H H' s.heap s'.heap)(J:HOk P w H' s'.heap)(r:RelV v u)(q:Q v H'):CE outer P w H s Q u s'
def CR(CX:CXT)(outer:List Env)(P:VV)(w:Wj)(H:Hp)(s:VG)(Q:VK)(E:XK)(r:aaV)(s':VG):Prop :=
 match r with
 |.ok (.ret u)=>CE outer P w H s Q u s'|.ok _=>False|.error e=>CX outer H s E e s'
structure gE(P:VV)(w:Wj)(K:VE)(mg:az->Option aA)(base:au)(CX:CXT)(k:Nat)(f:VS)(fd:WT)(ps:List az)(sp:Sp):Prop where
 len:∀vs H Q E,sp vs H Q E->vs.length=ps.length
 run:∀(A:Wq)(outer:List Env)(s:VG)(H:Hp) (args:Args) (us:List aA) (vs:List V) (Q:VK) (E:XK),fN k A->pK P w K mg base A outer s H->BindsTo s fd args (ps.zip us)->dJ vs us->sp vs H Q E →
  ao (V4 P w) A (.call (.ref f) args) (CR CX outer P w H s Q E) s
def pK.make{K:VE}(e:pK P w K mg base A outer s H)(C:VS)(us:List aA)(kw:List (az×aA)):
 pK P w K mg base (A.under (.builtin "type.__call__" ⟨.ref C::us,kw⟩)) outer s H:=⟨by first|exact e.frames|(simpa [aas,Code.envs,aaJ,pushEnvs]using e.frames),e.mod,e.bs,e.bsz,e.jA,e.frf,e.aI,e.bare⟩
section
variable{X:Cx}{zt:List (VS×aq)}{σ:St}{H:Hp}{s s':VG}
def Inv.Ks(I:Inv X zt σ H s):pK X.prog X.w X.K X.mg X.base X.A X.stack s H :=
 ⟨I.ok.frames,I.ok.mod,I.bs,Wa I.ok.bsz I.sz,I.stack,I.tX,I.aI,I.bare⟩
def Inv.after(I:Inv X zt σ H s)(h:CE X.stack X.prog X.w H s Q u s'):EP X zt σ Q u s':=by obtain⟨v,V,os,J,un,U,r,q⟩:=h;obtain⟨O,g,d,t,L⟩:=s';obtain rfl:L=s.os:=os;exact⟨v,V,I.call (h':=O) (g':=g) (d':=d) (t':=t) (ch:=[]) un U J (λb z=>bM z (by simp)),r,q⟩
end
def vE(sp:Sp)(dvs:List V)(E:XK)(t:TA):TE:=fun J H Q=>t J H λL O=>sp (L++dvs) O Q E
def za(C:VS)(m:az)(sp:Sp)(dvs:List V)(E:XK)(ta:TE)(t:TA):TE:=fun J H Q=>ta J H λx L=>∃a U fs,x=.ref a/\L a=aa (.ins C U fs)/\fs.lookup m=af ∧
 t J L λO W=>sp (x::(O++dvs)) W Q E
def CY(C:VS)(sp:Sp)(dvs:List V)(E:XK)(t:TA):TE:=fun O H Q=>t O H λU L=>∀x J,L x=af->L J=af->J≠x →
 sp (.ref x::(U++dvs)) (upd (upd L J (.own x)) x (.ins C J [])) (λv W=>v=.aC/\Q (.ref x) W) E
def Binds(K:VE)(fd:WT)(ps:List az)(ds:List aA):Prop :=
 ∀(s:VG)(J:List aA),K.In s.heap->(J++ds).length=ps.length->BindsTo s fd ⟨J,[]⟩ (ps.zip (J++ds))
def Binds.all{K:VE}(h:∀us:List aA,us.length=ps.length->abb fd ⟨us,[]⟩=pure (ps.zip us)):Binds K fd ps []:=λs us _ J=>by rw[Wz]at J⊢;exact .of_eq (h us J)
def iU(CX:CXT)(X:Cx)(E:XK):Prop:=∀(O:List (VS×aq)) (L:St) (H:Hp) (s:VG) (e:aA) (J:VG),Inv X O L H s->CX X.stack H s E e J->X.xe e J
section
variable{X:Cx}{CX:CXT}{k:Nat}{f C:VS}{fd:WT}{ps:List az}{sp:Sp}{dvs:List V}{ds:List aA}{E:XK}{x m:az}{p pos apos:Pos}{e o:ZF}{es:List ZF}{ta:TE}{t:TA}
def qz(F:gE X.prog X.w X.K X.mg X.base CX k f fd ps sp)(V:fN k X.A)(Z:Binds X.K fd ps ds)(Y:dJ dvs ds)(U:iU CX X E)
(I:Inv X zt σ H s)(r:dJ vs us)(h:sp (vs++dvs) H Q E):ay (V4 X.prog X.w) X.A (call (.ref f) us) (EP X zt σ Q) X.xe s:=by
 have L:dJ (vs++dvs) (us++ds):=r.append Y;have W:(us++ds).length=ps.length:=by rw[←L.length];exact F.len _ _ _ _ h
 refine aaT (YL (F.run X.A X.stack s H ⟨us,[]⟩ (us++ds) (vs++dvs) Q E V I.Ks (Z s us I.kIn W) L h) λr O J=>?_);cases r with
 |error e=>exact U zt σ H s e O I J
 |ok a =>
  cases a with
  |ret u=>exact I.after J|_=>exact Wy J
def zb(F:gE X.prog X.w X.K X.mg X.base CX k f fd ps sp)(W:fN k X.A)(a:Gl X x)(Y:X.mg x=aa (.ref f))(Z:Wh X.K (.ref f)=ah)(d:Binds X.K fd ps ds)(c:dJ dvs ds)(V:iU CX X E)
(g:PA X (e::es) t)(L:(x==("__debug__":az))=ai:=by decide)(b:Wi (e::es) X.env=(ai,eval e X.env)::Wi es X.env:=by rfl)(J:(Xu pos (Wi es X.env)).any (·.1)=ai:=by rfl):
 PE X (.Call (.Name x p) (e::es) [] pos) (vE sp dvs E t):=by
 intro U s O H Q I h;refine WO (iZ I a Y ?_ L);refine Xh (h₀:=X.base) I.ok.mod.kin Z (thn (g pos U s O H _ I h) λus s1 ⟨vs,H1,I1,r,q⟩=>⟨I1.kIn,?_⟩) b J;exact qz F W d c V I1 r q
def vF(F:gE X.prog X.w X.K X.mg X.base CX k f fd ps sp)(O:fN k X.A)(W:Gl X x)(U:X.mg x=aa (.ref f))(V:Wh X.K (.ref f)=ah)(Z:Binds X.K fd ps ds)(Y:dJ dvs ds)(L:iU CX X E)
(J:(x==("__debug__":az))=ai:=by decide):PE X (.Call (.Name x p) [] [] pos) (vE sp dvs E CV):=by
 intro b s a H Q I h;refine WO (iZ I W U ?_ J);exact Zc I.kIn V (qz (us:=[]) F O Z Y L I .nil h)
def zc(b:PE X o ta)(c:Cls X.K C)(V:AV X.K C m f)(F:gE X.prog X.w X.K X.mg X.base CX k f fd ps sp)(Z:fN k X.A)(g:Binds X.K fd ps ds)(d:dJ dvs ds)(W:iU CX X E)(i:PA X (e::es) t)
(J:Wi (e::es) X.env=(ai,eval e X.env)::Wi es X.env:=by rfl)(L:(Xu pos (Wi es X.env)).any (·.1)=ai:=by rfl)
(Y:eval (.Call (.Attribute o m apos) (e::es) [] pos) X.env=(do
  let ov ←eval o X.env
  aau apos.atName
  let (f,first) ←Y8 [ov] (aaw ov m pl)
  callWith pos f first (Xu pos (Wi (e::es) X.env)) (aao pos (Y7 [] X.env))):=by rfl):
 PE X (.Call (.Attribute o m apos) (e::es) [] pos) (za C m sp dvs E ta t):=by
 intro U s O H Q I h;refine YN (pl:=pl) (thn (b U s O H _ I h) λu s1 ⟨x,H1,I1,rx,a,dx,fs,ex,ea,l,q⟩=>?_) Y;subst ex;obtain rfl:u=WK a:=rx;refine qx I1 ea c V l ?_;refine Xh (first:=[.ref a]) (h₀:=X.base) I.ok.mod.kin V.kp (thn (i pos U s1 O H1 _ I1 q) λus s2 ⟨vs,H2,I2,r,q2⟩=>⟨I2.kIn,?_⟩) J L;exact qz (us:=.ref a::us) (vs:=.ref a::vs) F Z g d W I2 (.cons rfl r) q2
def vG(Y:PE X o ta)(c:Cls X.K C)(J:AV X.K C m f)(F:gE X.prog X.w X.K X.mg X.base CX k f fd ps sp)(W:fN k X.A)(b:Binds X.K fd ps ds)(Z:dJ dvs ds)(U:iU CX X E)
(V:eval (.Call (.Attribute o m apos) [] [] pos) X.env=(do
  let ov ←eval o X.env
  aau apos.atName
  let (f,first) ←Y8 [ov] (aaw ov m pl)
  callWith pos f first (Xu pos (Wi [] X.env)) (aao pos (Y7 [] X.env))):=by rfl):
 PE X (.Call (.Attribute o m apos) [] [] pos) (za C m sp dvs E ta CV):=by
 intro O s L H Q I h;refine YN (pl:=pl) (thn (Y O s L H _ I h) λu s1 ⟨x,H1,I1,rx,a,dx,fs,ex,ea,l,q⟩=>?_) V;subst ex;obtain rfl:u=WK a:=rx;refine qx I1 ea c J l ?_;exact Zc (first:=[.ref a]) I1.kIn J.kp (qz (us:=[.ref a]) (vs:=[.ref a]) F W b Z U I1 (.cons rfl .nil) q)
structure Mk(K:VE)(C f:VS):Prop where
 makes:ZL K C=ah
 init:Wc K (.ref C) "__init__"=aa (aa (.ref f))
 fn:YO K (.ref f)=ah
 kp:Wh K (.ref C)=ah
def vH(M:Mk X.K C f)(F:gE X.prog X.w X.K X.mg X.base CX k f fd ps sp)(b:fN (k+1) X.A)(g:Binds X.K fd ps ds)(d:dJ dvs ds)
(a:iU CX X E)(I:Inv X zt σ H s)(r:dJ vs us)
(h:∀x dx,H x=af->H dx=af->dx≠x->sp (.ref x::(vs++dvs)) (upd (upd H dx (.own x)) x (.ins C dx [])) (λv H2=>v=.aC/\Q (.ref x) H2) E):
 ay (V4 X.prog X.w) X.A (call (.ref C) us) (EP X zt σ Q) X.xe s:=by
 have U:=h (s.heap.objs.size+1) s.heap.objs.size (I.aI.fresh (W0 _)) (I.aI.fresh (VR _)) (We (W8 _));have L:=Inv.made (C:=C) I;have O:dJ (V.ref (s.heap.objs.size+1)::(vs++dvs)) (WK (s.heap.objs.size+1)::(us++ds)):=.cons rfl (r.append d);have c:(WK (s.heap.objs.size+1)::us++ds).length=ps.length:=by have e:=O.length;rw[F.len _ _ _ _ U]at e;exact e.symm
 refine aaT (CU (f:=f) I.kIn M.makes M.init (beq_iff_eq.mp M.fn) (YL (F.run _ X.stack _ _ ⟨WK (s.heap.objs.size+1)::us,[]⟩ (WK (s.heap.objs.size+1)::(us++ds)) _ _ E (b.make C us [])
  (L.Ks.make C us []) (g _ (WK (s.heap.objs.size+1)::us) L.kIn c) O U) λr W J=>?_))
 cases r with
 |error e=>exact a zt σ _ _ e W L J
 |ok i =>
  cases i with
  |ret u =>
   obtain⟨v,l,j,Y,ev,Z⟩:=L.after J;subst ev;exact⟨Y,⟨V.ref (s.heap.objs.size+1),l,j,rfl,Z⟩⟩
  |_=>exact Wy J
def Gv(M:Mk X.K C f)(F:gE X.prog X.w X.K X.mg X.base CX k f fd ps sp)(W:fN (k+1) X.A)(Z:Gl X x)(Y:X.mg x=aa (.ref C))(c:Binds X.K fd ps ds)(b:dJ dvs ds)(V:iU CX X E)
(d:PA X (e::es) t)(L:(x==("__debug__":az))=ai:=by decide)(a:Wi (e::es) X.env=(ai,eval e X.env)::Wi es X.env:=by rfl)(J:(Xu pos (Wi es X.env)).any (·.1)=ai:=by rfl):
 PE X (.Call (.Name x p) (e::es) [] pos) (CY C sp dvs E t):=by
 intro U s O H Q I h;refine WO (iZ I Z Y ?_ L);refine Xh (h₀:=X.base) I.ok.mod.kin M.kp (thn (d pos U s O H _ I h) λus s1 ⟨vs,H1,I1,r,q⟩=>⟨I1.kIn,?_⟩) a J;exact vH M F W c b V I1 r q
def CZ(M:Mk X.K C f)(F:gE X.prog X.w X.K X.mg X.base CX k f fd ps sp)(O:fN (k+1) X.A)(V:Gl X x)(U:X.mg x=aa (.ref C))(Y:Binds X.K fd ps ds)(W:dJ dvs ds)(L:iU CX X E)
(J:(x==("__debug__":az))=ai:=by decide):PE X (.Call (.Name x p) [] [] pos) (CY C sp dvs E CV):=by
 intro a s Z H Q I h;refine WO (iZ I V U ?_ J);exact Zc I.kIn M.kp (vH (us:=[]) M F O Y W L I .nil h)
end
section
variable{X:Cx}{CX:CXT}{k:Nat}{f C:VS}{fd:WT}{ps ks:List az}{sp:Sp}{E:XK}{x m:az}{p pos apos kpos:Pos}{e o:ZF}{es:List ZF}{kws:List YU}{te ta:TE}{t tk:TA}{nm:Option az}
variable{g:List aA->List aA->List aA}{gV:List V->List V->List V}
end
structure eX(N P:List az)(sc:Wv):Prop where
 kind:sc.kind=.function
 co:sc.isCoroutine=ai
 gen:sc.isGenerator=ai
 nd:N.Nodup
 pre:N.take P.length=P
 par:∀x∈P,sc.names.lookup x=aa .local\/sc.names.lookup x=aa .cell
 nofree:∀y∈sc.names,y.2≠.free
theorem sP{kindOf:az->Option X4}:∀{binds:List (az×aA)}{m:az->Option aA},(∀v,(x,v)∉binds)->bindL kindOf binds m x=m x
 |[],_,_=>rfl
 |(n,v)::r,m,h=>by
  unfold bindL;rw[sP λw hw=>h w (VZ _ hw)];split
  ·have:x≠n:=by rintro rfl;exact h v V6
   simp[this]
  rfl
theorem sR{kindOf:az->Option X4}:∀{binds:List (az×aA)}{m:az->Option aA},(∀v,(x,v)∉binds)->bindC kindOf binds m x=m x
 |[],_,_=>rfl
 |(n,v)::r,m,h=>by
  unfold bindC;rw[sR λw hw=>h w (VZ _ hw)];split;rfl
  ·have:x≠n:=by rintro rfl;exact h v V6
   simp[this]
theorem sU{kindOf:az->Option X4}:∀{P:List az}{vs:List aA}{i:Nat}{m:az->Option aA},P.Nodup->P[i]?=aa x->vs[i]?=aa v->kindOf x=aa .local →
 bindL kindOf (P.zip vs) m x=aa v
 |[],_,_,_,_,h,_,_=>by simp at h
 |_::_,[],_,_,_,_,h,_=>by simp at h
 |p::P,w::vs,0,m,nd,h1,h2,hk=>by simp at h1 h2;subst h1;subst h2;show bindL kindOf ((p,w)::P.zip vs) m p=_;unfold bindL;rw[sP λv J=>(List.nodup_cons.mp nd).1 (Y4 J).1,bK hk];simp
 |p::P,w::vs,i+1,m,nd,h1,h2,hk=>by show bindL kindOf ((p,w)::P.zip vs) m x=_;unfold bindL;exact sU (i:=i) (List.nodup_cons.mp nd).2 (by simpa using h1) (by simpa using h2) hk
theorem sV{kindOf:az->Option X4}:∀{P:List az}{vs:List aA}{i:Nat}{m:az->Option aA},P.Nodup->P[i]?=aa x->vs[i]?=aa v->kindOf x≠aa .local →
 bindC kindOf (P.zip vs) m x=aa v
 |[],_,_,_,_,h,_,_=>by simp at h
 |_::_,[],_,_,_,_,h,_=>by simp at h
 |p::P,w::vs,0,m,nd,h1,h2,hk=>by simp at h1 h2;subst h1;subst h2;show bindC kindOf ((p,w)::P.zip vs) m p=_;unfold bindC;rw[sR λv J=>(List.nodup_cons.mp nd).1 (Y4 J).1,bL hk];simp
 |p::P,w::vs,i+1,m,nd,h1,h2,hk=>by show bindC kindOf ((p,w)::P.zip vs) m x=_;unfold bindC;exact sV (i:=i) (List.nodup_cons.mp nd).2 (by simpa using h1) (by simpa using h2) hk
noncomputable def start(N:List az)(vs:List V):St:=vs.map aa++V3 (N.length-vs.length) af
noncomputable def dU(CX:CXT)(P:VV)(w:Wj)(K:VE)(mg:az->Option aA)(base:au)(N:List az)(qual:az)(scope:Wv)(f:VS)(cd:aA)(A:Wq)(outer:List Env)(s:VG)(H:Hp)(E:XK):Cx where
 prog:=P
 w:=w
 K:=K
 mg:=mg
 base:=base
 A:=A.deeper (Xr qual scope s.heap.objs.size f cd)
 N:=N
 s₀:=s
 H₀:=H
 env:=Xr qual scope s.heap.objs.size f cd
 outer:=outer
 stack:=Xr qual scope s.heap.objs.size f cd::outer
 ex:=[]
 calm:=ah
 fn:=λ_=>ah
 pn:=[]
 xe:=λe L=>ay (V4 P w) (A.deeper (Xr qual scope s.heap.objs.size f cd)) (aa8 (Xr qual scope s.heap.objs.size f cd) e) (λ_ J=>CX outer H s E e J) (λO J=>CX outer H s E O J) L
def vI{sc:Wv}{n:Nat}{x:az}(h:sc.names.lookup x=aa .cell):∃c,(aax n sc.names []).lookup x=aa c:=by have q:=YG sc.names n [] (.inl h);exact Option.isSome_iff_exists.mp q
def sW{CX:CXT}{P:VV}{w:Wj}{K:VE}{mg:az->Option aA}{base:au}{N ps:List az}{qual:az}{scope:Wv}{f:VS}{cd:aA}{A:Wq}{outer:List Env}{s g:VG}{H:Hp}{E:XK}{us:List aA}{vs:List V}
(S:eX N ps scope)(t:A.handled=af)(L:pK P w K mg base A outer s H)(D:vs.length=ps.length)(r:dJ vs us)
(x:InCallC s s.heap.objs.size (bindL (Xr qual scope s.heap.objs.size f cd).kindOf (ps.zip us) λ_=>af) (aax (s.heap.objs.size+1) scope.names []) (bindC (Xr qual scope s.heap.objs.size f cd).kindOf (ps.zip us) λ_=>af) g):
 Inv (dU CX P w K mg base N qual scope f cd A outer s H E) [] (start N vs) H g:=by
 have o:ps.length<=N.length:=by have:=bS Zj S.pre;rw[XJ]at this;lia
 obtain ⟨d,C,rfl,l⟩:=x.done;have O:∀ b:VS,b∉(dU CX P w K mg base N qual scope f cd A outer s H E).ex:=λb z=>bM (show b∈([]:List VS) from z) (by simp);refine ⟨⟨L.mod,S.kind,rfl,rfl,VR _,λy z c d J=>?_,λy U=>?_,λy c _ h=>?_,λ_=>t,aaC L.frames,.inr ⟨rfl,rfl⟩,λb z=>bM z (O b),L.bs,L.bsz,λb _ _=>O b,λb z=>bM z (O b),L.jA,L.frf⟩,
  rfl,L.bare,Un.aG l,⟨_,x.toInCall.ns,λi y v d J F=>?_⟩,λy c h=>⟨_,x.cell y c h⟩,L.aI.fresh (VR _),λy c h=>?_,λp Y=>bM (show p∈([]:List (VS×aq)) from Y) (by simp),L.aI.aG l,?_⟩
 exact name_of_addr x.apart (XH d) (XH J)
 ·have U:scope.names.lookup y=aa .cell\/scope.names.lookup y=aa .free:=U;rcases U with U|U
  exact vI U;exact bM rfl (S.nofree _ (XH U))
 exact X8 (x.above y c (XH h))
 ·have Z:i<vs.length:=by
   unfold start at J
   by_cases Z:i<vs.length
   exact Z
   ·rw[V7 (by simpa using Z)]at J;rw[WY]at J;split at J<;>cases J
  have B:vs[i]?=aa v:=by
   unfold start at J;rw[VF (by simpa using Z),VY]at J;cases e:vs[i]? with
   |none=>rw[e]at J;cases J|some a=>rw[e]at J;cases J;rfl
  obtain⟨u,j,m⟩:=r.get B;have Y:ps[i]?=aa y:=by rw[←S.pre,Xe (by lia)];exact d
  have W:ps.Nodup:=by rw[←S.pre];exact S.nd.sublist (List.take_sublist _ _)
  refine⟨u,m,?_⟩;rcases S.par y (V0 Y)with k|k
  exact .inl ⟨k,sU W Y j k⟩
  ·obtain⟨c,e⟩:=vI (n:=s.heap.objs.size+1) k;refine .inr ⟨.inl k,c,e,?_⟩;have q:=x.cell y c e;rw[sV W Y j (by show scope.names.lookup y≠_;rw[k];decide)]at q;exact q
 exact L.aI.fresh (X8 (x.above y c (XH h)))
 ·unfold start;show _=N.length;rw[Wg,V8,X6];lia
def C1{K:VE}{kV:aA}
{osl:Array (Option aA)}(m:K.lookup f=aa ⟨oc,od,.func (WL name qual params body scope dV kV doc pm an cdv ct),osl⟩)(g:Yq K cdv qual=ah)(S:eX N ps scope)
(len:∀vs H Q E,sp vs H Q E->vs.length=ps.length)
(U:∀ (A:Wq) (outer:List Env) (s:VG) (H:Hp) (vs:List V) (Q:VK) (E:XK),fN k (A.deeper (Xr qual scope s.heap.objs.size f cdv))->sp vs H Q E →
  ∃ t,PSs (dU CX P w K mg base N qual scope f cdv A outer s H E) body t/\t { nx:=λ_ H'=>Q .aC H',rt:=Q } (start N vs) H):
 gE P w K mg base CX (k+1) f (WL name qual params body scope dV kV doc pm an cdv ct) ps sp:=by
 refine⟨len,λA outer s H i l vs Q E d Z D r Y=>?_⟩;have B:=len _ _ _ _ Y;have j:K.In s.heap:=Z.mod.kin.keeps λb o e=>(Z.bs b o e).1;have lim:s.heap.NoLimit:=Z.mod.nolimit.keeps λb o e=>(Z.bs b o e).1;have O:∀y∈ps.zip l,scope.names.lookup y.1=aa .local\/(scope.names.lookup y.1=aa .cell/\((aax (s.heap.objs.size+1) scope.names []).lookup y.1).isSome=ah):=λ⟨n,v⟩ hy=>by
  rcases S.par n (Y4 hy).1 with q|q
  exact .inl q;exact .inr ⟨q,YG _ _ _ (.inl q)⟩
 refine codeAny_call_function d.depth (j _ _ m) rfl S.co S.gen rfl (aaG j g) (D _ _ _ _ ?_);refine aaE S.kind O λG C h x=>?_;subst C;refine⟨lim.keeps x.toInCall.keep,codeAny_func ?_⟩;obtain⟨t,p,z⟩:=U A outer s H vs Q E (d.deeper _) Y;have I:Inv (dU CX P w K mg base N qual scope f cdv A outer s H E) [] (start N vs) H h:=sW S d.hd Z B r x;refine WJ (p [] h (start N vs) H _ I z) (λF a W=>?_) λe a W=>W;have fin:∀{L:St}{H':Hp}{v:V}{u:aA},Inv (dU CX P w K mg base N qual scope f cdv A outer s H E) [] L H' a->RelV v u->Q v H'->CE outer P w H s Q u a :=
  λ{L H' v u} J c q=>⟨v,H',J.os,J.bare,J.base,J.aI,c,q⟩
 cases F with
 |ret u =>
  obtain⟨v,L,H',J,c,q⟩:=W;exact fin J c q
 |next =>
  obtain⟨L,H',J,q⟩:=W;exact fin (v:=V.aC) (u:=XY) J rfl q
 |brk =>
  obtain⟨_,_,_,q⟩:=W;exact Wy q
 |cont =>
  obtain⟨_,_,_,q⟩:=W;exact Wy q
end L2
namespace L2
open PySem PySem.Spec PyProof.Rows
section
variable{X:Cx}{x:az}{p pos:Pos}{e:ZF}{es:List ZF}{t:TA}{id T:String}{r:List V->Hp->VK->Prop}
def tCB(r:List V->Hp->VK->Prop)(t:TA):TE:=fun J H Q=>t J H λL O=>r L O Q
def iM(hc:gO X (.builtin id) r)(Y:Gl X x)(W:X.mg x=af)(V:Yj x=aa (.builtin id))(a:PA X (e::es) t)(hn:x≠"__name__":=by decide)(L:(x==("__debug__":az))=ai:=by decide)
(Z:Wi (e::es) X.env=(ai,eval e X.env)::Wi es X.env:=by rfl)(J:(Xu pos (Wi es X.env)).any (·.1)=ai:=by rfl):PE X (.Call (.Name x p) (e::es) [] pos) (tCB r t):=by
 intro U s O H Q I h;refine WO (kZ I Y W V ?_ hn L);exact PyProof.Rows.callWith_builtin1 (thn (a pos U s O H _ I h) λus s1 ⟨vs,H1,I1,r1,q1⟩=>hc U s1 O H1 vs us Q I1 r1 q1) Z J
def lY(hc:gO X (.type T) r)(Y:Gl X x)(W:X.mg x=af)(V:Yj x=aa (.type T))(a:PA X (e::es) t)(hn:x≠"__name__":=by decide)(L:(x==("__debug__":az))=ai:=by decide)
(Z:Wi (e::es) X.env=(ai,eval e X.env)::Wi es X.env:=by rfl)(J:(Xu pos (Wi es X.env)).any (·.1)=ai:=by rfl):PE X (.Call (.Name x p) (e::es) [] pos) (tCB r t):=by
 intro U s O H Q I h;refine WO (kZ I Y W V ?_ hn L);exact WC (thn (a pos U s O H _ I h) λus s1 ⟨vs,H1,I1,r1,q1⟩=>hc U s1 O H1 vs us Q I1 r1 q1) Z J
end
end L2
namespace HT
open PySem PyProof.Rows
section
open PySem.SeqAt
open PySem.AutoSeq1 (wpAny_loadPart')
open PySem.MeetsSeq PySem.MeetsSeq2 PySem.MeetsSeq3
end
section
variable{prog:VV}{w:Wj}{A:Wq}{E:aA->VG->Prop}{s:VG}
def Gw(g:IsTup s.heap t vs.toArray)(h:IsTup s.heap b ws.toArray)(c:vs≠[])
(h1:ws=[]->Q (.ref t) s)(h2:ws≠[]->Q (.ref s.heap.objs.size) {s with heap:=s.heap.push {cls:=.type "tuple",data:=.seq (vs++ws).toArray} })
(Y:vs.length+ws.length<=ak):ay (V4 prog w) A (W7 .Add (.ref t) (.ref b)) Q E s:=by
 obtain⟨⟨cls,dd,data,Z⟩,W,hc,n,d⟩:=id g;obtain⟨⟨f,V,data2,L⟩,J,U,a,O⟩:=id h;simp only at hc d U O;subst hc d U O;have e:vs.toArray++ws.toArray=(vs++ws).toArray:=by simp
 by_cases hw:ws=[]
 ·exact concat_meets ⟨_,W,rfl⟩ ⟨_,J,rfl⟩ aah aa6 YH YE (Yy _ _)
   (tuple_addW1 t b vs.toArray ws.toArray n a dd V Z L (by simpa using c) (by simp[hw])) ⟨W,J,h1 hw⟩
 ·refine concat_meets ⟨_,W,rfl⟩ ⟨_,J,rfl⟩ aah aa6 YH YE (Yy _ _)
   (tuple_addW2 t b vs.toArray ws.toArray n a dd V Z L (by simpa using c) (by simpa using hw) (by rw[VM,VM];exact Y)) ⟨W,J,?_⟩
  rw[e];exact h2 hw
noncomputable def sIx(n d:Nat):Option Int->Nat
 |none=>d
 |some v=>if v<0 then(v+(n:Int)).toNat else min v.toNat n
def Ku(n d:Nat)(L:d<=n)(o:Option Int):sIx n d o<=n:=by
 cases o with
 |none=>exact L
 |some v =>
  show(if v<0 then(v+(n:Int)).toNat else min v.toNat n)<=n
  by_cases J:v<0
  rw[bK J];lia;rw[bL J];exact Nat.min_le_right _ _
def zd(v:Int)(n d:Nat):(if v<0 then max (v+(n:Int)) 0 else min v (n:Int))=((sIx n d (aa v):Nat):Int):=by
 show(if v<0 then max (v+(n:Int)) 0 else min v (n:Int))=(((if v<0 then(v+(n:Int)).toNat else min v.toNat n):Nat):Int)
 by_cases J:v<0
 simp only[bK J];lia;simp only[bL J];lia
def xV(lo hi:Option Int)(n:Nat):Yb lo hi 1 (n:Int)=(((sIx n 0 lo:Nat):Int),((sIx n n hi:Nat):Int)):=by
 have J:¬((1:Int)<0):=by lia
 unfold Yb;simp only[J,if_false];refine Prod.ext ?_ ?_
 ·cases lo with
  |none=>rfl|some v=>exact zd v n 0
 ·cases hi with
  |none=>rfl|some v=>exact zd v n n
def xW(i j:Nat):Xl (i:Int) (j:Int) 1=j-i:=by
 unfold Xl;have J:(1:Int)>0:=by lia
 simp only[J,if_true,Int.ediv_one];split<;>lia
def qA(p:aag v o)(h:Q o s):ay (V4 prog w) A (Builtin.Slice.slicePartIndex v) Q E s:=by
 cases p with
 |none=>exact slicePart_none h|int i t=>exact slicePart_int h
def jV{lo:Option Int}{n:Nat}(U:s.heap.IsSliceOf sl vl vu .none)(pl:aag vl lo)(O:aag vu hi)
(h:Q (((sIx n 0 lo:Nat):Int),1,sIx n n hi-sIx n 0 lo) s):ay (V4 prog w) A (Zm (.ref sl) (pure (n:Int))) Q E s:=by
 obtain⟨os,J,V,L⟩:=id U;unfold Zm Builtin.Slice.sliceFields;refine VJ (VJ (ZH J L (x:=vl) rfl (VJ (ZH J L (x:=vu) rfl (VJ (ZH J L (x:=.none) rfl (av ?_)))))));refine VJ (slicePart_none ?_);show ay _ _ (if((1:Int)==0)=ah then _ else _) _ _ s;rw[bL (by decide)];refine VJ (qA pl (VJ (qA O (VJ (av ?_)))));show ay _ _ (match Yb lo hi 1 (n:Int)with|(lo,hi)=>pure (lo,(1:Int),Xl lo hi 1)) _ _ s;rw[xV lo hi n];show ay _ _ (pure (((sIx n 0 lo:Nat):Int),(1:Int),Xl ((sIx n 0 lo:Nat):Int) ((sIx n n hi:Nat):Int) 1)) _ _ s;rw[xW];exact av h
def C2(xs:Array aA)(i k:Nat):((V5 k).filterMap λ(m:Nat)=>xs[((i:Int)+(m:Int)*1).toNat]?).toArray=((xs.toList.drop i).take k).toArray:=by
 have e:(λ(m:Nat)=>xs[((i:Int)+(m:Int)*1).toNat]?)=λm=>xs[i+m]?:=by
  funext m;have:((i:Int)+(m:Int)*1).toNat=i+m:=by lia
  rw[this]
 rw[e];have:=pick_run xs i k;rw[abh]at this;have e2:((λx=>xs[x]?) ∘ λx=>i+x)=λm=>xs[i+m]?:=rfl;rw[e2]at this;rw[this]
def nv{lo:Option Int}(L:IsTup s.heap t items)(Y:s.heap.IsSliceOf sl vl vu .none)(pl:aag vl lo)(Z:aag vu hi)
(hw:¬(sIx items.size 0 lo=0/\sIx items.size items.size hi=items.size))
(h:Q (.ref s.heap.objs.size) {s with heap:=s.heap.push {cls:=.type "tuple",data:=.seq ((items.toList.drop (sIx items.size 0 lo)).take (sIx items.size items.size hi-sIx items.size 0 lo)).toArray} })
(a:items.size<=ak):ay (V4 prog w) A (Z7 (.ref t) (.ref sl)) Q E s:=by
 have J:sizeOk (.seq ((items.toList.drop (sIx items.size 0 lo)).take (sIx items.size items.size hi-sIx items.size 0 lo)).toArray):=by show((items.toList.drop (sIx items.size 0 lo)).take (sIx items.size items.size hi-sIx items.size 0 lo)).toArray.size<=ak;rw[VM,XJ,List.length_drop,Xg];lia
 have e:sIx items.size items.size hi<=items.size:=Ku _ _ (VR _) hi;obtain⟨os,O,V,b⟩:=id Y;have W:s.TypeIs (.ref sl) "slice":=⟨os,O,V⟩;unfold Z7
 try with_reducible refine WN ?_
 first|refine VJ (av ?_)|skip
 refine VJ (wpAny_sequenceKey L.typeIs (by decide) ?_);refine VJ (aa2 (name:=VQ "__getitem__") L.typeIs W5
  (wpAny_call_entry W5 L.typeIs entry_tuple_getitem ?_ (args_tuple_getitem _ _)))
 show ay _ _ (Zl (.ref t) >>= _) _ _ s;refine VJ (tupleItemsOf_ L ?_);refine VJ (wpAny_typeOf W ?_);rw[bK (by decide)];refine VJ (jV Y pl Z ?_);have U:¬((((sIx items.size 0 lo:Nat):Int)==0&&(1:Int)==1&&(sIx items.size items.size hi-sIx items.size 0 lo)==items.size)=ah):=by intro q;rw[VH,VH]at q;have d:((sIx items.size 0 lo:Nat):Int)=0:=bR q.1.1;have c:sIx items.size items.size hi-sIx items.size 0 lo=items.size:=bR q.2;exact hw ⟨by lia,by lia⟩
 show ay _ _ (if(((sIx items.size 0 lo:Nat):Int)==0&&(1:Int)==1&&(sIx items.size items.size hi-sIx items.size 0 lo)==items.size)=ah then _ else _) _ _ s;rw[bL U,C2]
 first
  |exact VJ (m:=Xp _) (XA (av ⟨_,rfl,av h⟩) J)
  |exact VJ (m:=Xp _) (XA (VJ (av (av ⟨_,rfl,av h⟩))) J)
  |exact VJ (VJ (m:=Xp _) (XA (av (av ⟨_,rfl,av h⟩)) J))
  |exact VJ (VJ (m:=Xp _) (XA (av ⟨_,rfl,av h⟩) J))
end
end HT
namespace L2
open PySem PySem.Spec PyProof.Rows
abbrev TO:=St->Hp->(Option Int->Hp->Prop)->Prop
def PO(X:Cx)(e:Option ZF)(t:TO):Prop :=
 ∀(L:List (VS×aq)) (s:VG) (J:St) (H:Hp) (Q:Option Int->Hp->Prop),Inv X L J H s->t J H Q →
  ay (V4 X.prog X.w) X.A (evalPart e X.env) (λu U=>∃o O,Inv X L J O U/\aag u o/\Q o O) X.xe s
def Gx:TO:=λ_ H Q=>Q af H
def Ox(t:TE):TO:=fun J H Q=>t J H λx L=>∃i,x=.int i/\Q (aa i) L
def intsAre_of:∀{us:List aA},dJ (J.map V.int) us->abi us J:=by
 induction J with
 |nil=>intro us r;rw[Wx]at r;cases r;exact .nil
 |cons n J U =>
  intro us r;rw[VX]at r;cases r with
  |cons O L =>
   obtain⟨t,e⟩:=O;subst e;exact .cons n t (U L)
section
variable{X:Cx}{e:ZF}{te:TE}{lo hi:Option ZF}{tl th:TO}{pos p2:Pos}
def Gy:PO X af Gx:=by intro L s J H Q I h;rw[aa9];exact av ⟨af,H,I,.none,h⟩
def Gz(h:PE X e te):PO X (aa e) (Ox te):=by intro L s J H Q I hw;rw[evalPart_some];refine thn (h L s J H _ I hw) λu Z O=>?_;obtain⟨x,Y,W,U,V⟩:=O;obtain⟨i,rfl,q⟩:=V;obtain⟨t,rfl⟩:=U;exact⟨aa i,Y,W,.int i t,q⟩
def SlR(X:Cx)(r:V->Option Int->Option Int->Hp->VK->Prop):Prop :=
 ∀(L:List (VS×aq)) (s:VG) (J:St) (H:Hp) (x:V) (v U O:aA) (lo Y:Option Int) (W:VS) (Q:VK),Inv X L J H s->RelV x v->s.heap.IsSliceOf W U O .none->aag U lo->aag O Y->r x lo Y H Q →
  ∃T id,typeLookup (.type T) "__getitem__"=pure (aa (.builtin id))/\s.TypeIs v T/\ay (V4 X.prog X.w) X.A (Z7 v (.ref W)) (EP X L J Q) X.xe s
def tSl(r:V->Option Int->Option Int->Hp->VK->Prop)(te:TE)(tl th:TO):TE:=fun J H Q=>te J H λx U=>tl J U λl O=>th J O λu L=>r x l u L Q
def C3(i:SlR X r)(m:PE X e te)(j:PO X lo tl)(f:PO X hi th):PE X (.Subscript e (.Slice lo hi af p2) pos) (tSl r te tl th):=by intro O s L H Q I h;refine aaU (thn (m O s L H _ I h) λv Y V=>?_);obtain⟨x,y,t,Z,c⟩:=V;refine wpAny_Slice (thn (j O Y L y _ t c) λvl s2 ⟨l,H2,I2,pl,q2⟩=>thn (f O s2 L H2 _ I2 q2) λU J V=>?_);obtain⟨u,W,p,d,a⟩:=V;rw[aa9];refine av ?_;have o:Inv X O L W {J with heap:=J.heap.push {cls:=.type "slice",data:=.fields #[vl,U,.none]} }:=p.aG (t':=J.toks) λb ob q=>VO _ q;obtain⟨T,id,n,g,k⟩:=i O {J with heap:=J.heap.push {cls:=.type "slice",data:=.fields #[vl,U,.none]} } L W x v vl U l u J.heap.objs.size Q o Z (Z1 ..) pl d a;show ay (V4 X.prog X.w) X.A (aa5 e (.Slice lo hi af p2) v (.ref J.heap.objs.size)) (EP X O L Q) X.xe {J with heap:=J.heap.push {cls:=.type "slice",data:=.fields #[vl,U,.none]} };exact aa4 (ops:=[.ref J.heap.objs.size,v]) g n k (by with_unfolding_all rfl)
def vJ(xs:List V)(lo hi:Option Int):List V:=(xs.drop (HT.sIx xs.length 0 lo)).take (HT.sIx xs.length xs.length hi-HT.sIx xs.length 0 lo)
def o7(xs:List V)(lo hi:Option Int):(vJ xs lo hi).length<=xs.length:=by unfold vJ;rw[XJ,List.length_drop];lia
def SG(K:VE):V->Option Int->Option Int->Hp->VK->Prop:=λx lo L H Q=>∃a J,x=.ref a/\SqT K H a J ∧
 ¬(HT.sIx J.length 0 lo=0/\HT.sIx J.length J.length L=J.length)/\∀p,H p=af->Q (.ref p) (upd H p (.aB (vJ J lo L)))
def Kv:SlR X (SG X.K):=by
 intro g s f H x v j i lo U k Q I Y e c Z h;obtain⟨a,L,rfl,d,hw,q⟩:=h;cases Y;obtain⟨O,r,W,V⟩:=I.tuple d;have J:O.toArray.size=L.length:=by rw[VM];exact r.length.symm
 refine⟨"tuple",_,PyProof.Rows.slot_tuple_getitem.lookup,W.typeIs,?_⟩;refine HT.nv W e c Z (by rw[J];exact hw) ?_ (by rw[J];exact V);rw[J];refine⟨.ref s.heap.objs.size,_,I.laid (t':=s.toks) (o:=.aB (vJ L lo U)) (λb ob q=>VO _ q) (VR _) ?_,rfl,q _ (I.aI.fresh (VR _))⟩;exact⟨Wa (o7 L lo U) V,_,(r.drop (HT.sIx L.length 0 lo)).take (HT.sIx L.length L.length U-HT.sIx L.length 0 lo),IsTup.new _ _⟩
def Oz(K:VE):R2:=λx y H Q=>∃a b L J,x=.ref a/\y=.ref b/\SqT K H a L/\SqT K H b J/\L≠[]/\L.length+J.length<=ak ∧
 (J=[]->Q (.ref a) H)/\(J≠[]->∀p,H p=af->Q (.ref p) (upd H p (.aB (L++J))))
def dJ.ny(r:dJ xs us):us=[]↔xs=[]:=by
 cases r with
 |_=>simp
def GA:OpR X (W7 .Add) (Oz X.K):=by intro m s l H x y v u Q I Z Y h;obtain⟨a,b,W,V,rfl,rfl,k,j,i,U,d,c⟩:=h;cases Z;cases Y;obtain⟨g,L,f,_⟩:=I.tuple k;obtain⟨O,J,e,_⟩:=I.tuple j;refine HT.Gw f e (λz=>i (L.ny.mp z)) (λz=>⟨.ref a,H,I,rfl,d (J.ny.mp z)⟩) (λz=>?_) (by rw[←L.length,←J.length];exact U);refine⟨.ref s.heap.objs.size,_,I.laid (t':=s.toks) (o:=.aB (W++V)) (λb ob q=>VO _ q) (VR _) ?_,rfl,c (λw=>z (J.ny.mpr w)) _ (I.aI.fresh (VR _))⟩;exact⟨by rw[Wg];exact U,_,L.append J,IsTup.new _ _⟩
end
end L2
namespace L2
open PySem PySem.Spec PyProof.Rows
noncomputable def ixN(n:Nat)(i:Int):Option Nat:=if 0<=i then(if i<n then aa i.toNat else af)else if -(n:Int)<=i then aa (i+n).toNat else af
def atI{J:Type}(xs:List J)(i:Int):Option J:=(ixN xs.length i).bind λj=>xs[j]?
def ze(h:ixN n i=aa j):seqIndex? i n=aa j/\j<n/\-(n:Int)<=i/\i<n:=by
 unfold ixN at h
 by_cases L:0<=i
 ·rw[bK L]at h
  by_cases J:i<n
  ·rw[bK J]at h;have e:i.toNat=j:=VN h;exact⟨by rw[seqIndex_of L J,e],by lia,by lia,J⟩
  rw[bL J]at h;cases h
 ·rw[bL L]at h
  by_cases J:-(n:Int)<=i
  ·rw[bK J]at h;have e:(i+n).toNat=j:=VN h;exact⟨by rw[seqIndex_neg (by lia) J,e],by lia,J,by lia⟩
  rw[bL J]at h;cases h
def tZ{J:Type}{xs:List J}{v:J}(h:atI xs i=aa v):∃j,seqIndex? i xs.length=aa j/\xs[j]?=aa v/\j<xs.length/\-(xs.length:Int)<=i/\i<xs.length:=by
 unfold atI at h;cases e:ixN xs.length i with
 |none=>rw[e]at h;cases h
 |some j =>
  rw[e]at h;obtain⟨V,U,O,L⟩:=ze e;exact⟨j,V,h,U,O,L⟩
def zf(b:ZF):Prop:=∀o i,subscripted b ai o i=operate [o,i] (Z7 o i)
def IxR(X:Cx)(r:R2):Prop :=
 ∀(L J:ZF)(U:List (VS×aq)) (s:VG) (O:St) (H:Hp) (x y:V) (v u:aA) (Q:VK),Inv X U O H s->RelV x v->RelV y u->r x y H Q →
  subscripted J ai v u=operate [v,u] (Z7 v u)->ay (V4 X.prog X.w) X.A (aa5 L J v u) (EP X U O Q) X.xe s
def MtR(X:Cx)(id:String)(r:V->List V->Hp->VK->Prop):Prop :=
 ∀(L:List (VS×aq)) (s:VG) (J:St) (H:Hp) (x:V) (O:List V) (v:aA) (U:List aA) (Q:VK),Inv X L J H s->RelV x v->dJ O U->r x O H Q →
  ay (V4 X.prog X.w) X.A (call (.builtin id) (v::U)) (EP X L J Q) X.xe s
section
variable{X:Cx}{a b:ZF}{ta tb:TE}{pos:Pos}
def Jq(Y:IxR X r)(c:PE X a ta)(Z:PE X b tb)(W:zf b):PE X (.Subscript a b pos) (tOp r ta tb):=by intro L s J H Q I h;exact aaU (Ke c Z I h λv u O x y e d V U q=>Y a b L O J e x y v u Q d V U q (W _ _))
def SH(K:VE):R2:=λx y H Q=>∃p J i v,x=.ref p/\y=.int i/\SqL K H p J/\atI J i=aa v/\Q v H
def SI(K:VE):R2:=λx y H Q=>∃p J i v,x=.ref p/\y=.int i/\SqT K H p J/\atI J i=aa v/\Q v H
def SJ:R2:=λx y H Q=>∃z i c,x=.str z/\y=.int i/\z.length<=ak/\atI z.cps.toList i=aa c/\Q (.str ⟨#[c]⟩) H
def zg:IxR X (SH X.K):=by
 intro L O a s Z H x y v u Q I g f h b;obtain⟨p,B,i,z,rfl,rfl,k,m,q⟩:=h;cases g;obtain⟨t,rfl⟩:=f;obtain⟨W,r,V,C⟩:=I.list k;obtain⟨j,J,A,D,o,n⟩:=tZ m;obtain⟨w,d,U⟩:=r.get A;have l:=r.length;have hn:=oA;have fin:EP X a Z Q w s:=⟨z,H,I,U,q⟩
 by_cases c:0<=i
 ·have Y:i.toNat=j:=by rw[seqIndex_of c n]at J;exact VN J
  exact item_listR V.isList c (by lia) (by rw[Y];simpa using d) fin b
 ·have Y:(i+(W.toArray.size:Int)).toNat=j:=by rw[seqIndex_neg (by lia) o]at J;rw[VM,←l];exact VN J
  exact subscriptTail_builtinR (x:=w) V.isList.typeIs slot_list_getitem.lookup
   (wpAny_getItem_list_neg (Q:=λr e=>r=w/\EP X a Z Q r e) V.isList (by lia) (by rw[VM]<;>lia) (by lia) (by rw[Y];simpa using d) ⟨rfl,fin⟩) b
def Kw:IxR X (SI X.K):=by
 intro J L V s U H x y v u Q I a Z h c;obtain⟨p,m,i,z,rfl,rfl,d,f,q⟩:=h;cases a;obtain⟨t,rfl⟩:=Z;obtain⟨b,r,W,n⟩:=I.tuple d;obtain⟨j,k,g,B,A,o⟩:=tZ f;obtain⟨w,l,O⟩:=r.get g;have e:=r.length;have hn:=oA;have fin:EP X V U Q w s:=⟨z,H,I,O,q⟩;exact subscriptTail_builtinR (x:=w) W.typeIs slot_tuple_getitem.lookup
  (getItem_tuple (j:=j) (Q:=λr Y=>r=w/\EP X V U Q r Y) W (by lia) (by lia) (by rw[VM,←e];exact k) (by simpa using l) ⟨rfl,fin⟩) c
def Kx:IxR X SJ:=by
 intro J L f s e H x y v u Q I V U h W;obtain⟨z,i,c,rfl,rfl,k,Z,q⟩:=h;obtain⟨t,rfl⟩:=V;obtain⟨g,rfl⟩:=U;obtain⟨j,O,d,l,b,a⟩:=tZ Z;have Y:z.cps.toList.length=z.length:=by simp[Str.length]
 rw[Y] at O b a;have hn:=oA;exact aa4 (typeIs_str s z t) slot_str_getitem.lookup (getItem_str (c:=c) (by
  have e1:decide (i < -(2 ^ 63:Int))=ai:=bO (by lia);have e2:decide (i ≥ 2 ^ 63)=ai:=bO (by lia);rw[e1,e2,Yi]) (by rw[O];simpa using d) ⟨.str ⟨#[c]⟩,H,I.tok _,⟨_,rfl⟩,q⟩) W
def xX(J:List aA)(n j:Nat)(u:aA):Zf (·.setIfInBounds j u) {cls:=.type "list",data:=.seq J.toArray n}={cls:=.type "list",data:=.seq (J.set j u).toArray n}:=by simp[Zf]
def Inv.aj{zt:List (VS×aq)}{σ:St}{H:Hp}{s:VG}{p:VS}{xs:List V}(I:Inv X zt σ H s)(h:H p=aa (.aj xs)):
 ∃(J:List aA) (n:Nat),dJ xs J/\s.heap.get? p=aa {cls:=.type "list",data:=.seq J.toArray n}/\xs.length<=ak:=by
 obtain⟨z,J,n,r,e⟩:=I.aI p _ h;exact⟨J,n,r,e,z⟩
def Inv.Kz{zt:List (VS×aq)}{σ:St}{H:Hp}{s:VG}{p:VS}{xs ys:List V}{J its':List aA}{n L:Nat}{f:aq->aq}(I:Inv X zt σ H s)(h:H p=aa (.aj xs))
(U:s.heap.get? p=aa {cls:=.type "list",data:=.seq J.toArray n})(O:f {cls:=.type "list",data:=.seq J.toArray n}={cls:=.type "list",data:=.seq its'.toArray L})(r:dJ ys its')(hz:ys.length<=ak)(t:Nat):
 Inv X zt σ (upd H p (.aj ys)) {s with heap:=s.heap.update p f,toks:=t}:=by
 have e:(s.heap.update p f).get? p=aa {cls:=.type "list",data:=.seq its'.toArray L}:=by rw[aaI f U (by rw[O]<;>rfl),O]
 refine I.write (x:=p) (e:=p) (by rw[h];trivial) (.inl rfl) (λb u W q=>(YY _ _ (WI W)).trans q) ⟨_,e⟩ ?_;exact⟨hz,its',L,r,e⟩
def Jr:V->V->V->Hp->(Hp->Prop)->Prop:=λo i v H Q=>∃p J k j,o=.ref p/\i=.int k/\H p=aa (.aj J)/\ixN J.length k=aa j/\Q (upd H p (.aj (J.set j v)))
def set_list:Od X Jr:=by
 intro e s d H o i v y z u Q I l m g h;obtain⟨p,f,k,j,rfl,rfl,Y,x,q⟩:=h;cases l;obtain⟨t,rfl⟩:=m;obtain⟨J,n,r,O,w⟩:=I.aj Y;obtain⟨L,A,a,Z⟩:=ze x;have U:=r.length;have hn:=oA;have c:Inv X e d (upd H p (.aj (f.set j v))) {s with heap:=s.heap.update p (Zf (·.setIfInBounds j u))} :=
  I.Kz Y O (xX J n j u) (r.set g j) (by rw[Ws];exact w) s.toks
 by_cases b:0<=k
 ·have V:k.toNat=j:=by rw[seqIndex_of b Z]at L;exact VN L
  exact PySem.W.ki_setAt O b (by lia) (by rw[VM,←U];exact Z) (by rw[V];exact⟨_,c,q⟩)
 ·have V:(k+(J.toArray.size:Int)).toNat=j:=by rw[seqIndex_neg (by lia) a]at L;rw[VM,←U];exact VN L
  exact PySem.W.ki_setBack O (by lia) (by rw[VM,←U];exact a) (by lia) (by rw[V];exact⟨_,c,q⟩)
def ua(lo hi:Option Int)(n:Nat):(Wo lo hi af n).1=((HT.sIx n 0 lo:Nat):Int)/\(Wo lo hi af n).2.1=((HT.sIx n n hi:Nat):Int)/\(Wo lo hi af n).2.2=1:=by
 refine⟨?_,?_,rfl⟩
 ·cases lo with
  |none=>simp[Wo,HT.sIx]
  |some i =>
   simp only[Wo,HT.sIx,abg,show(1:Int)>0 by decide,if_true]
   by_cases h:i<0
   simp only[h,if_true]<;>lia;simp only[h,if_false]<;>lia
 ·cases hi with
  |none=>simp[Wo,HT.sIx]
  |some i =>
   simp only[Wo,HT.sIx,abg,show(1:Int)>0 by decide,if_true]
   by_cases h:i<0
   simp only[h,if_true]<;>lia;simp only[h,if_false]<;>lia
def r8(J:List aA)(lo hi:Option Int):slicePick J.toArray lo hi af=((J.drop (HT.sIx J.length 0 lo)).take (HT.sIx J.length J.length hi-HT.sIx J.length 0 lo)).toArray:=by obtain⟨U,O,L⟩:=ua lo hi J.toArray.size;unfold slicePick;rw[U,O,L];simp only[sliceRange_one,pick_run,VM]<;>rfl
def SK(K:VE):V->Option Int->Option Int->Hp->VK->Prop:=λx lo L H Q=>∃a J,x=.ref a/\SqL K H a J/\∀p,H p=af->Q (.ref p) (upd H p (.aj (vJ J lo L)))
def GB:SlR X (SK X.K):=by intro g s f H x v j i lo O k Q I V e Y W h;obtain⟨a,J,rfl,d,q⟩:=h;cases V;obtain⟨Z,r,U,c⟩:=I.list d;have L:=r.length;refine⟨"list",_,slot_list_getitem.lookup,U.isList.typeIs,?_⟩;refine aaS U.isList e Y W .none (by simp) ?_ (by rw[VM]<;>lia);rw[r8,←L];refine⟨.ref s.heap.objs.size,_,I.laid (t':=s.toks) (o:=.aj (vJ J lo O)) (λb ob q=>VO _ q) (VR _) ?_,rfl,q _ (I.aI.fresh (VR _))⟩;exact⟨Wa (o7 J lo O) c,_,0,(r.drop (HT.sIx J.length 0 lo)).take (HT.sIx J.length J.length O-HT.sIx J.length 0 lo),Wm _ rfl⟩
def kg:gO X (.builtin "len") (λxs H Q=>∃p ys,xs=[.ref p]/\(SqL X.K H p ys\/SqT X.K H p ys)/\Q (.int ys.length) H):=by
 intro a s Z H xs b Q I r h;obtain⟨p,ys,rfl,L,q⟩:=h;obtain⟨u,rfl,W⟩:=vals1 r;cases W;have hn:=oA;rcases L with L|L
 ·obtain⟨V,O,U,Y⟩:=I.list L;have J:=O.length;exact Calls.call_len_list U.isList (by simp only[VM]<;>lia) ⟨.int ys.length,H,I.tok _,⟨s.toks+1,by rw[VM,J]⟩,q⟩
 ·obtain⟨V,O,U,Y⟩:=I.tuple L;have J:=O.length;exact len_tuple U (by simp only[VM]<;>lia) ⟨.int ys.length,H,I.tok _,⟨s.toks+1,by rw[VM,J]⟩,q⟩
def uc:gO X (.builtin "len") (λxs H Q=>∃z,xs=[.str z]/\z.length<=ak/\Q (.int z.length) H):=by intro L s J H xs O Q I r h;obtain⟨z,rfl,U,q⟩:=h;obtain⟨u,rfl,t,rfl⟩:=vals1 r;have hn:=oA;exact len_str (by lia) ⟨.int z.length,H,I.tok _,⟨_,rfl⟩,q⟩
def nA:gO X (.type "list") (λxs H Q=>∃p ys,xs=[.ref p]/\(SqL X.K H p ys\/SqT X.K H p ys)/\∀l,H l=af->Q (.ref l) (upd H l (.aj ys))):=by
 intro i s g H xs k Q I r h;obtain⟨p,ys,rfl,Y,q⟩:=h;obtain⟨u,rfl,j⟩:=vals1 r;cases j;have fin:∀(J:List aA),dJ ys J->ys.length<=ak->∀(L:au)(U:Nat),(∀b f,s.heap.get? b=aa f->L.get? b=aa f) →
  L.get? s.heap.objs.size=aa {cls:=.type "list",dict:=af,data:=.seq J.toArray U,slots:=#[]}->EP X i g Q (.ref s.heap.objs.size) {s with heap:=L}:=λJ O W L U V e =>
  ⟨.ref s.heap.objs.size,_,I.laid (t':=s.toks) V (VR _) (show iC X.prog X.w _ L _ (.aj ys) from⟨W,J,U,O,e⟩),rfl,q _ (I.aI.fresh (VR _))⟩
 rcases Y with Y|Y
 ·obtain⟨J,O,a,W⟩:=I.list Y;have Z:=O.length;obtain⟨o,c,hc,n,d⟩:=a.isList;exact call_list_seq p (.inl rfl) c hc d (λL U V e=>fin J O W L U V e) (by simp only[VM]<;>lia)
 ·obtain⟨J,O,a,W⟩:=I.tuple Y;have Z:=O.length;obtain⟨o,c,hc,n,d⟩:=a;exact call_list_seq p (.inr rfl) c hc d (λL U V e=>fin J O W L U V e) (by simp only[VM]<;>lia)
def mJ:gO X (.type "tuple") (λxs H Q=>∃p ys,xs=[.ref p]/\((SqL X.K H p ys/\∀l,H l=af->Q (.ref l) (upd H l (.aB ys)))\/(SqT X.K H p ys/\Q (.ref p) H))):=by
 intro Y s W H xs i Q I r h;obtain⟨p,ys,rfl,h⟩:=h;obtain⟨u,rfl,d⟩:=vals1 r;cases d;rcases h with⟨V,q⟩|⟨V,q⟩
 ·obtain⟨J,O,U,Z⟩:=I.list V;have a:=O.length;refine call_tuple_list U.isList (λL f=>?_) (by simp only[VM]<;>lia);have c:Inv X Y W H {s with heap:=L}:=I.aG (t':=s.toks) f;have g:Inv X Y W (upd H L.objs.size (.aB ys)) {s with heap:=L.push {cls:=.type "tuple",data:=.seq J.toArray} } :=
   c.laid (t':=s.toks) (λb o e=>VO _ e) (VR _) (show iC X.prog X.w _ _ _ (.aB ys) from⟨Z,J,O,IsTup.new _ _⟩)
  exact⟨.ref L.objs.size,_,g,rfl,q _ (c.aI.fresh (VR _))⟩
 ·obtain⟨J,O,U,Z⟩:=I.tuple V;exact call_tuple_same U ⟨.ref p,H,I,rfl,q⟩
def tyV(K:VE)(T:String)(x:V)(H:Hp):Prop:=match x with
 |.str _=>T="str"|.int _=>T="int"|.ref p=>(T="list"/\∃L,SqL K H p L)\/(T="tuple"/\∃o,K.lookup p=aa o/\o.cls=.type "tuple"/\o.dict=af) ∨
  (T="dict"/\((∃J,H p=aa (.dK J))\/∃J,H p=aa (.dT J)))\/(T="set"/\∃S n,H p=aa (.set S n))
 |_=>False
def xY(I:Inv X zt σ H s)(r:RelV x v)(ty:tyV X.K T x H):
 s.TypeIs v T/\∀a,v=.ref a->∃ob,s.heap.get? a=aa ob/\ob.dict=af:=by
 cases x with
 |str z =>
  obtain⟨t,rfl⟩:=r;cases (show T="str" from ty);exact⟨typeIs_str s z t,λ_ e=>nomatch e⟩
 |int i =>
  obtain⟨t,rfl⟩:=r;cases (show T="int" from ty);exact⟨typeIs_int s i t,λ_ e=>nomatch e⟩
 |ref p =>
  cases r;rcases ty with⟨rfl,Y,W⟩|⟨rfl,o,J,hc,O⟩|⟨rfl,J⟩|⟨rfl,S,n,J⟩
  ·obtain⟨V,_,U,_⟩:=I.list W;refine⟨U.isList.typeIs,λa e=>?_⟩;cases e;obtain⟨o,n,e,c,O,_⟩:=U;exact⟨o,e,O⟩
  ·refine⟨⟨o,I.kIn p o J,hc⟩,λa e=>?_⟩;cases e;exact⟨o,I.kIn _ o J,O⟩
  ·have z:∃o,s.heap.get? p=aa o/\o.ExactDict:=by
    rcases J with⟨L,J⟩|⟨L,J⟩
    ·obtain⟨_,_,_,_,o,_,_,e,ex,_⟩:=I.aI p _ J;exact⟨o,e,ex⟩
    ·obtain⟨_,_,_,_,o,_,_,e,ex,_⟩:=I.aI p _ J;exact⟨o,e,ex⟩
   obtain⟨o,e,ex⟩:=z;refine⟨⟨o,e,ex.1⟩,λa e2=>?_⟩;cases e2;exact⟨o,e,ex.2.1⟩
  ·obtain⟨o,_,_,_,e,ex,_⟩:=I.aI p _ J;refine⟨⟨o,e,ex.1⟩,λa e2=>?_⟩;cases e2;exact⟨o,e,ex.2.1⟩
 |_=>exact Wy ty
def SL(K:VE)(T:String)(r:V->List V->Hp->VK->Prop)(to:TE):TE:=fun L H Q=>to L H λx J=>tyV K T x J/\r x [] J Q
def tBM(K:VE)(T:String)(r:V->List V->Hp->VK->Prop)(to:TE)(t:TA):TE:=fun J H Q=>to J H λx L=>tyV K T x L/\t J L λO U=>r x O U Q
variable{o e:ZF}{es:List ZF}{to:TE}{t:TA}{name:az}{apos cpos:Pos}{T id:String}{r:V->List V->Hp->VK->Prop}
def KA(d:PlainAttrs T)(O:Slot T name id)(U:typeOf (.builtin id)=pure (.type "method_descriptor"))(f:MtR X id r)(e:PE X o to)
(L:Za o name X.env (eval o X.env)=eval o X.env:=by rfl)(J:(apos.endLine==cpos.line)=ah:=by rfl):PE X (.Call (.Attribute o name apos) [] [] cpos) (SL X.K T r to):=by
 intro W s V H Q I h;refine wpAny_Call_method0_late L J (thn (e W s V H _ I h) λv b a=>?_);obtain⟨x,j,Z,Y,ty,c⟩:=a;obtain⟨i,g⟩:=xY Z Y ty;exact⟨T,id,d,O,U,i,g,YV rfl (PySem.evalArgs_none (f W b V j x [] v [] Q Z Y .nil c))⟩
def C4(j:PlainAttrs T)(U:Slot T name id)(Z:typeOf (.builtin id)=pure (.type "method_descriptor"))(m:MtR X id r)(l:PE X o to)(n:PA X (e::es) t)
(O:Za o name X.env (eval o X.env)=eval o X.env:=by rfl)
(V:((Xu cpos (Wi (e::es) X.env)).all (λx=>!x.1)&&(aao cpos (Y7 [] X.env)).all (λx=>x.1.isSome)
 &&decide ((e::es).length+([]:List YU).length+(if ([]:List YU).isEmpty then 0 else 1) < 30))=ah:=by rfl)
(L:(apos.endLine==cpos.line)=ah:=by rfl)(k:Wi (e::es) X.env=(ai,eval e X.env)::Wi es X.env:=by rfl)(J:(Xu cpos (Wi es X.env)).any (·.1)=ai:=by rfl):
 PE X (.Call (.Attribute o name apos) (e::es) [] cpos) (tBM X.K T r to t):=by
 intro Y s W H Q I h;refine wpAny_Call_method_late O V L rfl (thn (l Y s W H _ I h) λv g f=>?_);obtain⟨x,u,d,b,ty,i⟩:=f;obtain⟨q,p⟩:=xY d b ty;refine⟨T,id,j,U,Z,q,p,?_⟩;have c:=n cpos Y g W u _ d i;rw[k]at c⊢;refine YV (by show(ai||(Xu cpos (Wi es X.env)).any (·.1))=ai;rw[J]<;>rfl) (Yc ?_);exact thn c λus s2 ⟨vs,H2,I2,r2,q2⟩=>m Y s2 W H2 x vs v us Q I2 b r2 q2
/- xs.append(e),list.index on a module's tuple .. are MtR facts of 06m -/
end
end L2
namespace L2
open PySem PySem.Spec PyProof.Rows
def MtM(X:Cx)(id:String)(r:V->List V->Hp->VK->Prop):Prop :=
 ∀(L:List (VS×aq)) (s:VG) (J:St) (H:Hp) (x:V) (O:List V) (v:aA) (U:List aA) (Q:VK),Inv X L J H s->RelV x v->dJ O U->r x O H Q →
  ay (V4 X.prog X.w) X.A (call (.builtin id) (v::U)) (EP X L J Q) X.xe s
def dJ.one{x:V}{us:List aA}(h:dJ [x] us):∃u,us=[u]/\RelV x u:=by cases h with|cons r t=>cases t;exact⟨_,rfl,r⟩
def dJ.two{x y:V}{us:List aA}(h:dJ [x,y] us):∃u v,us=[u,v]/\RelV x u/\RelV y v:=by cases h with|cons r t=>obtain⟨v,rfl,q⟩:=dJ.one t;exact⟨_,v,rfl,r,q⟩
theorem dJ.zero:∀{us:List aA},dJ [] us->us=[]
 |_,.nil=>rfl
def dJ.dropLast(h:dJ xs us):dJ xs.dropLast us.dropLast:=by
 induction h with
 |nil=>exact .nil
 |cons r t J =>
  cases t with
  |nil=>exact .nil|cons q L=>exact .cons r J
theorem dJ.rep(h:dJ xs us):∀k:Nat,dJ (V3 k xs).flatten (V3 k us).flatten
 |0=>.nil
 |k+1=>by rw[WD,WD,Xf,Xf];exact dJ.append h (dJ.rep h k)
def xZ(l:List α):l.eraseIdx (l.length-1)=l.dropLast:=by
 induction l with
 |nil=>rfl
 |cons a r J =>
  cases r with
  |nil=>rfl
  |cons b r =>
   have e:(a::b::r).length-1=((b::r).length-1)+1:=by have O:(a::b::r).length=r.length+2:=rfl;have L:(b::r).length=r.length+1:=rfl;lia
   rw[e,List.eraseIdx_cons_succ,J]
   all_goals rfl
theorem foldl_rep(J:List aA):∀(k:Nat)(L:List aA),
 aaj (λU O=>U++O) L.toArray (V3 k J.toArray)=(L++(V3 k J).flatten).toArray
 |0,L=>by simp
 |k+1,L=>by
  have e:L.toArray++J.toArray=(L++J).toArray:=by simp
  have e2:(L++J)++(V3 k J).flatten=L++(V3 (k+1) J).flatten:=by rw[WD,Xf,WG]
  rw[←e2,←foldl_rep J k (L++J),←e,WD,List.foldl_cons]
section
variable{X:Cx}{zt:List (VS×aq)}{σ:St}{H:Hp}{s:VG}{l b:VS}{xs ys zs:List V}
def Inv.GC{J its':List aA}{n:Nat}{f:Array aA->Array aA}{t':Nat}(I:Inv X zt σ H s)(W:H l=aa (.aj xs))
(e:s.heap.get? l=aa {cls:=.type "list",data:=.seq J.toArray n})(U:f J.toArray=its'.toArray)(L:dJ ys its')(hz:ys.length<=ak):
 Inv X zt σ (upd H l (.aj ys)) {s with heap:=s.heap.update l (Zf f),toks:=t'}:=by
 have q:=PySem.IsL.update e f;rw[U]at q;refine I.write (x:=l) (e:=l) (by rw[W];exact trivial) (.inl rfl) (λY u V O=>(YY s.heap (Zf f) (WI V)).trans O) ⟨_,q⟩ ?_;exact⟨hz,its',_,L,q⟩
def Inv.OA(I:Inv X zt σ H s)(J:dJ ys its)(hz:ys.length<=ak):
 Inv X zt σ (upd H s.heap.objs.size (.aj ys)) {s with heap:=s.heap.push {cls:=.type "list",data:=.seq its.toArray},toks:=t'} :=
 I.laid (λ_ _ q=>VO _ q) (VR _) ⟨hz,its,0,J,Wm _ rfl⟩
def Inv.fresh(I:Inv X zt σ H s):H s.heap.objs.size=af:=I.aI.fresh (VR _)
def Inv.GD(I:Inv X zt σ H s)(L:H l=aa (.aj xs)):xs.length<=ak/\∃(J:List aA) (n:Nat),dJ xs J/\xs.length=J.length/\s.heap.get? l=aa {cls:=.type "list",data:=.seq J.toArray n}:=by obtain⟨z,J,n,r,e⟩:=I.aI l _ L;exact⟨z,J,n,r,r.length,e⟩
def qC(h:n<=ak):WR n=ai:=by unfold WR;exact bO (by lia)
end
section
variable{X:Cx}
def GE:V->List V->Hp->VK->Prop:=λx L H Q=>∃l J y,x=.ref l/\L=[y]/\H l=aa (.aj J)/\J.length<ak/\Q .aC (upd H l (.aj (J++[y])))
def sX:MtM X "list.append" GE:=by intro Y s W H x a v b Q I O U h;obtain⟨l,Z,y,rfl,rfl,L,c,q⟩:=h;cases O;obtain⟨u,rfl,V⟩:=U.one;obtain⟨z,J,n,r,d,e⟩:=I.GD L;refine XC F.slot_list_append ⟨_,e,rfl⟩ F.entry_list_append (F.args_list_append_2 _ _) (PySem.list_append l J.toArray n u (by rw[VM];lia)) ⟨e,?_⟩;refine⟨.aC,_,I.GC (its':=J++[u]) L e (by simp) (r.append (.cons V .nil)) ?_,rfl,q⟩;rw[Wg,Y6];lia
def SM:V->List V->Hp->VK->Prop:=λx L H Q=>∃l J y,x=.ref l/\L=[]/\H l=aa (.aj J)/\J[J.length-1]?=aa y/\Q y (upd H l (.aj J.dropLast))
def KB:MtM X "list.pop" SM:=by
 intro d s c H x g v i Q I V W h;obtain⟨l,f,y,rfl,rfl,U,Z,q⟩:=h;cases V;have O:=W.zero;subst O;obtain⟨z,J,n,r,b,e⟩:=I.GD U;obtain⟨u,a,Y⟩:=r.get Z;have L:J.toArray[J.toArray.size-1]?=aa u:=by show J.toArray[J.length-1]?=aa u;rw[←aaB,←b];exact a
 refine XC F.slot_list_pop ⟨_,e,rfl⟩ F.entry_list_pop (F.args_list_pop_1 _) (MeetsSeq.list_pop_last l J.toArray n u L (by rw[VM];lia)) ⟨e,?_⟩;refine⟨y,_,I.GC (its':=J.dropLast) U e ?_ r.dropLast ?_,Y,q⟩
 ·show J.toArray.eraseIdxIfInBounds (J.toArray.size-1)=J.dropLast.toArray;rw[VM,List.eraseIdxIfInBounds_toArray,xZ]
 ·rw[List.length_dropLast];lia
def len_rep(xs:List α)(k:Nat):(V3 k xs).flatten.length=k*xs.length:=by
 induction k with
 |zero=>simp|succ k J=>rw[WD,Xf,Wg,J,Nat.succ_mul,Nat.add_comm]
end
section
variable{prog:VV}{w:Wj}{A:Wq}{E:aA->VG->Prop}{s:VG}
set_option maxRecDepth 100000 in
end
section
variable{X:Cx}
end
end L2
namespace Att
open PySem PySem.W PySem.Calls PyProof.Rows
def pL:∀(J:List Int)(vs:List aA),WellAll P h vs (J.map WData.int)->abi vs J:=by
 intro J
 induction J with
 |nil =>
  intro vs w;rw[Wx]at w;cases w;exact .nil
 |cons n J L =>
  intro vs w;rw[VX]at w;cases w with
  |cons a b =>
   cases a;exact .cons _ _ (L _ b)
def AX{l:OpenLaw}{n:Nat}(hn:l.most=aa n){P:Params}{h:au}{args:List WData}{vals:List aA}
(L:l.row.toRowW.claim.pre args=ah)(Y:WellAll P h vals args):
 ∃a vs J,vals=[WK a]/\args=[WData.list (J.map WData.int)]/\h.get? a=aa {cls:=.type "list",data:=.seq vs.toArray}/\abi vs J/\J.length<=n:=by
 have Z:WShape.hasAll [] args [.list .int]=ah:=(pre_splitW L).1;have hc:l.pre.holds [] {args:=args}=ah:=(pre_splitW L).2;obtain⟨d,r,rfl,j,i⟩:=hasAllW_cons Z;obtain rfl:=hasAllW_nil i;obtain⟨k,rfl,g⟩:=hasW_list j;obtain⟨J,rfl⟩:=items_int g;have O:J.length<=n:=by
  unfold OpenLaw.pre at hc;have W:(WTm.not (.lt (.lit (.int (n:Int))) (.len (.arg 0)))).holds [] {args:=[.list (J.map .int)]}=ah:=by have W:=(holds_andW hc).1;rw[hn]at W;exact W
  have V:=condW_of W (w_not (w_lt w_lit (w_len_list (w_arg rfl))));rw[V8]at V;refine Nat.le_of_not_lt λq=>?_;have e:(n:Int)<((J.length:Nat):Int):=by lia
  first
   |(rw[bP e]at V;exact bM V (by decide))
   |(simp at V;lia)
 cases Y with
 |cons c b =>
  cases b;cases c with
  |list f U=>exact⟨_,_,J,rfl,rfl,f,pL J _ U,O⟩
def AY(l:OpenLaw)(args:List WData):l.row.toRowW.claim.post args (.bool ah) args=ah :=
 postW_of (r:=l.row.toRowW) (X:=(ah==ah))
  (show WShape.has [] (.bool ah) .bool=ah by first|rfl|decide|simp[WShape.has,WShape.arms,WShape.armsAll])
  (show(WTm.eq .res (.lit (.bool ah))).value [] {args:=args,res:=aa (.bool ah),after:=args}=aa (.bool (ah==ah)) from w_eq_bool (w_res rfl) w_lit) rfl
def vK{l:OpenLaw}{n:Nat}{q:VV}{loose:List az}{XP:(az->Option aA)->au->Prop}{YP:Wj->au->Prop}{d:DefRec}
(hn:l.most=aa n)(g:d.params.defaults=[])
(call:∀ (w:Wj) (s₀ J:VG) (mg b:az->Option aA) (W:VS) (o:aq) (pm cd doc:aA) (a:VS) (vs:List aA) (Z:List Int),
  Ground q loose [] XP w s₀ mg b J.heap->YP w J.heap →
  J.heap.get? W=aa o->o.data=.func (docDef d.name d.params d.body d.scope pm cd doc)->J.heap.CodeRec cd d.name->mg d.name=aa (.ref W) →
  J.heap.get? a=aa {cls:=.type "list",data:=.seq vs.toArray}->abi vs Z->Z.length<=n->J.gens=#[] →
  ao (V4 l.prog w) aba (.call (.ref W) ⟨[.ref a],[]⟩) (λr s'=>r=.ok (.ret (.bool ah))/\OldK J.heap s'.heap/\s'.os=J.os/\ZP s'.gens) J):
 WalkO q loose XP YP l.row.toRowW d [] (λf vs=>abe f vs):=by
 intro w s₀ J mg b G Y W o pm cd doc dV kV s x h j e v k vals B O i m c u;obtain rfl:dV=.none:=Dflts.none j g;obtain rfl:kV=.none:=Dflts.noKw j;obtain⟨a,vs,Z,rfl,rfl,U,L,V⟩:=AX hn O c;refine enter_call (YL (call w s₀ J mg b W o pm cd doc a vs Z G Y s (fd_plain x) h e U L V v) λr s' p=>?_);obtain⟨rfl,A,z,y⟩:=p;exact⟨.inl ⟨.bool ah,.bool ah,[],rfl,λ_=>rfl,.bool ah,AY l _,λ_=>⟨List.Pairwise.nil,λ_ t=>(nomatch t)⟩⟩,A,z,y⟩
section
variable{prog:VV}{w:Wj}{A:Wq}{E:aA->VG->Prop}{s:VG}{K:Frag}
noncomputable def ledger(h:au)(L d:VS):List (VS×aq):=(V5 h.objs.size).filterMap λa=>if a=L\/a=d then af else(h.get? a).map λo=>(a,o)
end
end Att
namespace L2
open PySem PySem.Spec PyProof.Rows
theorem sY:∀{vs:List aA}{J:List Int},abi vs J->dJ (J.map V.int) vs
 |_,_,.nil=>.nil|_,_,.cons n t h=>.cons ⟨t,rfl⟩ (sY h)
end L2
namespace L2
open PySem PySem.Spec PyProof.Rows
noncomputable abbrev KOf{K:VE}{h:au}(_:K.In h):VE:=K
end L2
/- THE LAST THEOREM (shape;LID,My.* are yours):
 My.Adr: a structure of the addresses that your layer names (classes,functions);My.Txt K t: a structure (Prop) of the equations over K;
 My.txt_mk:{K}{implicit addresses ..} (e1:nsIn K VW "law"=aa (aa (.ref f))) (e2:K.lookup f=aa ⟨oc,od,.func (fnOf "law" "law" params body scope dV kV doc pm an cdv ct),sl⟩) (e3:codeIn K cdv "law"=ah) ..:∃t,My.Txt K t
set_option maxRecDepth 100000 in
set_option maxHeartbeats 0 in
def PySem.Challenge.GF:PySem.Challenge.rw_LID.Holds:=by
 w_on;o_law;k_head;(case hw=>w_witness2)
 k_fill
 refine L2.walk_of (l:=PySem.Challenge.rw_LID) (n:=63) (k:=40) (x:="script") (CX:=λw=>..) (sp:=λ_=>My.FP) rfl (by decide) rfl ⟨rfl,by decide,by decide⟩ (λw h Y=>PySem.W.kIn_of Y) ?F ?S ?C
 case F =>
  intro w g d h c G Z;have T:∃t,My.Txt (L2.KOf c) t:=by
   dsimp only[L2.KOf] -- K must stand as «<heap const> w.params» for k_is;refine' My.txt_mk ?e1 ?e2 ?e3 ..
   (case e1=>PySem.W.k_is) -- in J order: a name->its address->its object->its parts
   (case e2=>PySem.W.k_is)
   ..
  obtain⟨t,T⟩:=T;have e:=Z.symm.trans (Ww c G T.law);cases e -- d is J law's own address;exact⟨_,λs u=>.of_eq rfl,λL V U=>My.law_fn T V U⟩ -- if «.of_eq rfl» comes too early: refine' ⟨_,?b,λL V U=>My.law_fn T V U⟩;exact λs u=>.of_eq rfl
 case S=>exact λw H a f i m j=>..
 case C=>exact ..
(J O k_is has no namespace: write k_is) -/
namespace L2
open PySem PySem.Spec PyProof.Rows
abbrev CX0:CXT:=λ_ _ _ _ _ _=>False
abbrev E0:XK:=λ_ _ _=>False
def qD:iU CX0 X E0:=λ_ _ _ _ _ _ _ h=>h.elim
inductive OB(K:VE)(x qual:az)(st:Zy)(f:VS)(fd:WT):Prop
 |mk(oc:aA)(J:Option VS)(kV doc pm:aA)(an:Option VS)(cdv ct:aA)(osl:Array (Option aA))(h1:fd=WL x qual (gC st) (dD st) (cY st) .none kV doc pm an cdv ct)(h2:K.lookup f=aa ⟨oc,J,.func fd,osl⟩)(L:Yq K cdv qual=ah):OB K x qual st f fd
structure Fun(K:VE)(x qual:az)(st:Zy)(f:VS)(fd:WT):Prop where
 ex:OB K x qual st f fd
 kp:Wh K (.ref f)=ah
section
variable{P:VV}{w:Wj}{K:VE}{mg:az->Option aA}{base:au}
def Fun.binds{st:Zy}(F:Fun K x qual st f fd)
(h:∀(kV doc pm:aA)(an:Option VS)(cdv ct:aA)(us:List aA),us.length=ps.length->abb (WL x qual (gC st) (dD st) (cY st) .none kV doc pm an cdv ct) ⟨us,[]⟩=pure (ps.zip us)):Binds K fd ps []:=by
 obtain⟨O,L,kV,doc,pm,an,cdv,ct,osl,rfl,U,J⟩:=F.ex;exact .all (h kV doc pm an cdv ct)
def KC{st:Zy}{osl:Array (Option aA)}{kV:aA}(l:K.lookup f=aa ⟨oc,od,.func (WL x qual (gC st) (dD st) (cY st) .none kV doc pm an cdv ct),osl⟩)
(c:Yq K cdv qual=ah)(k:Wh K (.ref f)=ah):Fun K x qual st f (WL x qual (gC st) (dD st) (cY st) .none kV doc pm an cdv ct):=⟨⟨oc,od,kV,doc,pm,an,cdv,ct,osl,rfl,l,c⟩,k⟩
end
def AZ(h:n<=1000):n<ak:=Nat.lt_of_le_of_lt h (by decide)
section
variable{X:Cx}
end
end L2
end
section
namespace L2
open PySem PySem.Spec PyProof.Rows
section
variable{κ:Type}[DecidableEq κ]
noncomputable def vL(kvs:List (κ×V))(k:κ):Option V:=(kvs.find? λJ=>decide (J.1=k)).map (·.2)
noncomputable def putK(kvs:List (κ×V))(k:κ)(v:V):List (κ×V) :=
 if(kvs.any λJ=>decide (J.1=k))=ah then kvs.map (λJ=>if J.1=k then(J.1,v)else J)else kvs++[(k,v)]
def vM{p:κ×V}{r:List (κ×V)}{k:κ}(e:p.1=k):vL (p::r) k=aa p.2:=by simp[vL,XU,e]
def vN{p:κ×V}{r:List (κ×V)}{k:κ}(e:¬p.1=k):vL (p::r) k=vL r k:=by simp[vL,XU,e]
def KV.val{kvs:List (κ×V)}{vs:List (κ×aA)}(r:KV kvs vs)(k:κ):qq (vL kvs k) (valueAt vs k):=by
 unfold KV at r
 induction r with
 |nil=>exact XN
 |@cons p q Y J h t U =>
  obtain⟨O,W⟩:=h
  by_cases e:p.1=k
  ·have L:q.1=k:=O.symm.trans e;have b:valueAt (q::J) k=aa q.2:=by simp[valueAt,XU,L]
   rw[vM e,b];exact W
  ·have L:¬q.1=k:=λz=>e (O.trans z);have b:valueAt (q::J) k=valueAt J k:=by simp[valueAt,XU,L]
   rw[vN e,b];exact U
end
def C5(r:RelV (kV k) u):(ef P w).is k u=ah:=by
 cases k with
 |inl i=>obtain⟨t,e⟩:=(show ∃t,u=Zq i t from r);subst e;exact vv P w i t|inr x=>obtain⟨t,e⟩:=(show ∃t,u=Xv x t from r);subst e;exact jC P w x t
section
variable{P:VV}{w:Wj}{H:Hp}{h:au}{a:VS}
def OD(ok:HOk P w H h)(e:Rd H a u):iC P w H h a u:=e.ok ok
def OE(ok:HOk P w H h)(e:Rd H a (.dK kvs)):kvs.length<=ak/\(a==Yd)=ai/\∃vs,KV kvs vs/\h.DictOf (ef P w) a vs :=
 show iC P w H h a (.dK kvs) from OD ok e
end
section
variable{X:Cx}{zt:List (VS×aq)}{σ:St}{H:Hp}{s:VG}{a:VS}{y v:V}{u r:aA}{o:Option V}{A:Wq}{E:aA->VG->Prop}
end
end L2
end
section
namespace BT
open PySem PySem.W PyProof.Rows
noncomputable def Ends{J:Type}(n:Nat)(P:J->Prop):KasT J->Prop
 |.ret a=>P a|.ask i j k=>i<n/\j<n/\∀b,Ends n P (k b)
end BT
end
section
namespace BS
open PySem PySem.W PySem.Spec PyProof.Rows
section
variable{E:aA->VG->Prop}
end
end BS
end
section
namespace BX
open PySem PyProof.Rows
section
variable{prog:VV}{w:Wj}{A:Wq}{E:aA->VG->Prop}{s:VG}
end
section
variable{prog:VV}{w:Wj}{A:Wq}{E:aA->VG->Prop}{R:aaV->VG->Prop}
end
section
variable{prog:VV}{w:Wj}{A:Wq}{E:aA->VG->Prop}{s:VG}
end
section
variable{prog:VV}{w:Wj}{A:Wq}{E:aA->VG->Prop}{s:VG}
end
end BX
end
section
namespace BX
open PySem PySem.Spec PyProof.Rows
section
variable{prog:VV}{w:Wj}{A:Wq}{E:aA->VG->Prop}{h:au}{g:Array GenState}{d:Drawn}{t:Nat}{os:OsState}{a:VS}{o:aq}
end
section
variable{prog:VV}{w:Wj}{K:Type}[DecidableEq K]{knd:KeyKind prog w K}{A:Wq}{E:aA->VG->Prop}{s:VG}
end
end BX
end
section
namespace BT
open PySem
def fm{P:Prop}(h:ai=ah):P:=nomatch h
def KG{P:Prop}(h:ah=ai):P:=nomatch h
def gT{J:Type}{a:J}{P:Prop}(h:(af:Option J)=aa a):P:=nomatch h
inductive D
 |aC|bl(b:Bool)|int(i:Int)|str(x:az)|aB(xs:List D)|aj(xs:List D)
inductive FK
 |f(x:az)|m(c x:az)|l(i:Nat)
 deriving DecidableEq
instance:Coe String FK:=⟨λs=>.f (VQ s)⟩
inductive Cp
 |p(d:D)|o(n:Nat)
noncomputable abbrev Ky:=Int ⊕ az
inductive Kd
 |t(kvs:List (az×D))|l(kvs:List (Ky×D))
inductive W
 |p(d:D)|r(n:Nat)|k(kvs:Kd)|o(n:Nat)|c(f:FK)(J:List Cp)|x(c:az)
noncomputable def Cp.w:Cp->W
 |.p d=>.p d|.o n=>.o n
@[simp]theorem Cp.w_p(d:D):Cp.w (.p d)=.p d:=rfl
@[simp]theorem Cp.w_o(n:Nat):Cp.w (.o n)=.o n:=rfl
noncomputable def zh:W->Option Cp
 |.p d=>aa (.p d)|.o n=>aa (.o n)|.r _=>af|.k _=>af|.c _ _=>af|.x _=>af
@[simp]theorem Rj(d:D):zh (.p d)=aa (.p d):=rfl
@[simp]theorem Rk(n:Nat):zh (.o n)=aa (.o n):=rfl
inductive Cl
 |l(xs:List D)|o(c:az)(fs:List (az×W))|d(kvs:List (Ky×D))|z|b(J:List Nat)
noncomputable abbrev HH:=List Cl
noncomputable abbrev Sl:=List (Option W)
set_option genInjectivity false in
inductive Bin
 |add|sub|mul|mod|fdiv
set_option genInjectivity false in
inductive Cm
 |eq|ne|lt|le|gt|ge|isN|notN|mem|nmem
set_option genInjectivity false in
inductive Sr
 |seq|rng1|rng2|rev|enu|zip2|rng3|itm|chs|zipG
inductive Bi
 |len|int|str|list|tuple|all|isInt|isBool|isStr|isTuple|min2|max2
 |min1
set_option genInjectivity false in
inductive Me
 |append|pop|extend|tindex|sindex|dget|count|lindex
inductive Tx
 |join|split|str|intS|all|inS|ninS|dget|pre
inductive Dk
 |of|ks|so|it
set_option genInjectivity false in
mutual
inductive E
 |v(i:Nat)
 |j(d:D)
 |aD(x:az)
 |bin(o:Bin)(a b:E)
 |neg(a:E)
 |not(a:E)
 |and(a b:E)
 |or(a b:E)
 |z(o:Cm)(a b:E)
 |chain(o o':Cm)(a b c:E)
 |ite(c a b:E)
 |aB(as:Es)
 |aj(mu:Bool)(as:Es)
 |y(a i:E)
 |n(a:E)(lo hi:Es)
 |rvs(a:E)
 |stp(mu:Bool)(k:Int)(a:E)
 |call(f:az)(as:Es)
 |i(a:E)(f:az)
 |aE(o:E)(m:az)(as:Es)
 |make(c:az)(as:Es)
 |bi(b:Bi)(mu:Bool)(as:Es)
 |lsr(mu:Bool)(J:Sr)(as:Es)
 |me(m:Me)(o:E)(as:Es)
 |comp(mu:Bool)(L:Sr)(O:Es)(tg:List az)(U:List (Nat×az))(cond:Es)(J:E)
 |callv(i:Nat)(as:Es)
 |methL(o:E)(m:az)(as:Es)(L:Nat)(J:List (Nat×az))
 |isx(c:az)(a:E)
 |cat(a b:E)
 |obl(a:E)
 |oba(o a:E)
 |obi(o i:E)
 |obn(o:E)
 |sup(c:az)(as:Es)
inductive Es
 |nil
 |cons(a:E)(as:Es)
end
set_option genInjectivity false in
inductive S
 |nil
 |seq(a b:S)
 |set(i:Nat)(e:E)
 |unp(xs:List (Nat×az))(e:E)
 |aug(i:Nat)(o:Bin)(e:E)
 |put(i:Nat)(k e:E)
 |setf(o:E)(f:az)(e:E)
 |augf(o:E)(f:az)(J:Bin)(e:E)
 |ex(e:E)
 |ret(e:E)
 |v(c:E)(a b:S)
 |j(c:E)(b:S)
 |for(tg:List (Nat×az))(J:Sr)(L:Es)(b:S)
 |brk|cnt
 |bad
 |rai(c:az)(e:E)
 |rai2(c:az)(a e:E)
set_option genInjectivity false in
structure Fn where
 ps:List az
 ns:List az
 body:S
noncomputable abbrev cV(a:E):Es:=.cons a .nil
noncomputable abbrev cU(a b:E):Es:=.cons a (.cons b .nil)
noncomputable abbrev cT(a b c:E):Es:=.cons a (.cons b (.cons c .nil))
noncomputable abbrev cS(a b c d:E):Es:=.cons a (.cons b (.cons c (.cons d .nil)))
noncomputable abbrev cR(a b c d e:E):Es:=.cons a (.cons b (.cons c (.cons d (.cons e .nil))))
noncomputable abbrev cQ(a b c d e f:E):Es:=.cons a (.cons b (.cons c (.cons d (.cons e (.cons f .nil)))))
noncomputable abbrev cP(a b c d e f g:E):Es:=.cons a (.cons b (.cons c (.cons d (.cons e (.cons f (.cons g .nil))))))
noncomputable abbrev cO(a b c d e f g h:E):Es:=.cons a (.cons b (.cons c (.cons d (.cons e (.cons f (.cons g (.cons h .nil)))))))
noncomputable def bnd{L J:Type}(x:Option (L×HH))(k:L->HH->Option J):Option J :=
 match x with|some (a,h)=>k a h|none=>af
@[simp]theorem dZ(a:α)(h:HH)(k:α->HH->Option β):bnd (aa (a,h)) k=k a h:=rfl
@[simp]theorem OF(k:α->HH->Option β):bnd af k=af:=rfl
@[simp]noncomputable def lim:Nat:=100000
mutual
@[simp]noncomputable def eqv:D->D->Bool
 |.aC,.aC=>ah|.bl a,.bl b=>a==b|.bl a,.int j=>(if a then(1:Int)else 0)==j|.int i,.bl b=>i==(if b then(1:Int)else 0)|.int i,.int j=>i==j|.str x,.str y=>x==y|.aB xs,.aB ys=>r9 xs ys|.aj xs,.aj ys=>r9 xs ys|_,_=>ai
@[simp]noncomputable def r9:List D->List D->Bool
 |[],[]=>ah|x::xs,y::ys=>eqv x y&&r9 xs ys|_,_=>ai
end
noncomputable def qE:Cl->Option (List D)
 |.l J=>aa J|.o _ _=>af|.d _=>af|.z=>af|.b _=>af
def sf:Cl->Option (az×List (az×W))
 |.l _=>af|.o c fs=>aa (c,fs)|.d _=>af|.z=>af|.b _=>af
noncomputable def A6:Cl->Option (List (Ky×D))
 |.l _=>af|.o _ _=>af|.d J=>aa J|.z=>af|.b _=>af
noncomputable def o8:Cl->Option (List Nat)
 |.b J=>aa J|_=>af
@[simp]theorem SN(J:List Nat):qE (.b J)=af:=rfl
@[simp]theorem SO(J:List Nat):sf (.b J)=af:=rfl
@[simp]theorem SQ(J:List Nat):A6 (.b J)=af:=rfl
@[simp]theorem Rl(J:List Nat):o8 (.b J)=aa J:=rfl
@[simp]theorem Rm(xs:List D):o8 (.l xs)=af:=rfl
@[simp]theorem Rn(c:az)(fs:List (az×W)):o8 (.o c fs)=af:=rfl
@[simp]theorem SR(kvs:List (Ky×D)):qE (.d kvs)=af:=rfl
@[simp]theorem SS(kvs:List (Ky×D)):sf (.d kvs)=af:=rfl
@[simp]theorem SV(kvs:List (Ky×D)):A6 (.d kvs)=aa kvs:=rfl
@[simp]theorem SW:qE .z=af:=rfl
@[simp]theorem SX:sf .z=af:=rfl
@[simp]theorem SY:A6 .z=af:=rfl
@[simp]theorem SZ(xs:List D):A6 (.l xs)=af:=rfl
@[simp]theorem S7(c:az)(fs:List (az×W)):A6 (.o c fs)=af:=rfl
@[simp]theorem KH(xs:List D):qE (.l xs)=aa xs:=rfl
@[simp]theorem S9(c:az)(fs:List (az×W)):qE (.o c fs)=af:=rfl
@[simp]theorem Tc(xs:List D):sf (.l xs)=af:=rfl
@[simp]theorem KI(c:az)(fs:List (az×W)):sf (.o c fs)=aa (c,fs):=rfl
def lat(h:HH)(n:Nat):Option (List D):=(h[n]?).bind qE
def oat(h:HH)(n:Nat):Option (az×List (az×W)):=(h[n]?).bind sf
def dat(h:HH)(n:Nat):Option (List (Ky×D)):=(h[n]?).bind A6
def bat(h:HH)(n:Nat):Option (List Nat):=(h[n]?).bind o8
noncomputable def sj:D->Option Ky
 |.aC=>af|.bl _=>af|.int i=>aa (.inl i)|.str x=>aa (.inr x)|.aB _=>af|.aj _=>af
@[simp]theorem OG(i:Int):sj (.int i)=aa (.inl i):=rfl
@[simp]theorem OH(x:az):sj (.str x)=aa (.inr x):=rfl
noncomputable def KJ:Ky->D
 |.inl i=>.int i|.inr x=>.str x
@[simp]theorem Td(i:Int):KJ (.inl i)=.int i:=rfl
@[simp]theorem Te(x:az):KJ (.inr x)=.str x:=rfl
noncomputable def gY(kvs:List (Ky×D))(k:Ky):Option D:=(kvs.find? λJ=>decide (J.1=k)).map (·.2)
noncomputable def Js(kvs:List (Ky×D))(k:Ky)(v:D):List (Ky×D) :=
 if(kvs.any λJ=>decide (J.1=k))=ah then kvs.map (λJ=>if J.1=k then(J.1,v)else J)else kvs++[(k,v)]
def rd(w:W)(h:HH):Option D:=match w with
 |.p d=>aa d|.r n=>(lat h n).map D.aj|.k _=>af|.o _=>af|.c _ _=>af|.x _=>af
@[simp]theorem Vw(d:D)(h:HH):rd (.p d) h=aa d:=rfl
noncomputable def big(i:Int):Bool:=decide (i.natAbs<2^64)
noncomputable def rep(k:Nat)(xs:List D):List D:=(V3 k xs).flatten
def lg:Bin->D->D->Option D
 |.add,.int i,.int j=>aa (.int (i+j))
 |.add,.str x,.str y=>if x.length+y.length<=lim then aa (.str (x++y))else af
 |.add,.aB xs,.aB ys=>if xs.length+ys.length<=lim then aa (.aB (xs++ys))else af
 |.add,.aj xs,.aj ys=>if xs.length+ys.length<=lim then aa (.aj (xs++ys))else af
 |.sub,.int i,.int j=>aa (.int (i-j))
 |.mul,.int i,.int j=>if big i||big j then aa (.int (i*j))else af
 |.mul,.aB xs,.int k=>if 2<=k&&k<=1000&&!xs.isEmpty&&xs.length*k.toNat<=lim then aa (.aB (rep k.toNat xs))else af
 |.mul,.aj xs,.int k=>if -1000<=k&&k<=1000&&xs.length*k.toNat<=lim then aa (.aj (rep k.toNat xs))else af
 |.mod,.int i,.int j=>if 0<j then aa (.int (i%j))else af
 |.fdiv,.int i,.int j=>if 0<j&&j<1073741824 then aa (.int (i/j))else af
 |_,_,_=>af
def qF:Bin->D->D->Option D
 |.add,.int i,.int j=>aa (.int (i+j))|.sub,.int i,.int j=>aa (.int (i-j))
 |.mul,.int i,.int j=>if big i||big j then aa (.int (i*j))else af
 |_,_,_=>af
@[simp]theorem OI(i j:Int):qF .add (.int i) (.int j)=aa (.int (i+j)):=rfl
@[simp]theorem OJ(i j:Int):qF .sub (.int i) (.int j)=aa (.int (i-j)):=rfl
@[simp]theorem vO(i j:Int):qF .mul (.int i) (.int j)=if big i||big j then aa (.int (i*j))else af:=rfl
@[simp]noncomputable def place(n:Nat)(i:Int):Option Nat :=
 if 0<=i then(if i<n then aa i.toNat else af)else if -(n:Int)<=i then aa (i+n).toNat else af
@[simp]def atP{J:Type}(xs:List J)(i:Int):Option J:=(place xs.length i).bind λj=>xs[j]?
@[simp]noncomputable def gi(k:az):List (az×D)->Option D
 |[]=>af
 |(x,d)::r=>if k=x then aa d else gi k r
def dI:D->D->Option D
 |.aB xs,.int i=>atP xs i|.aj xs,.int i=>atP xs i
 |.str x,.int i=>if x.length<=lim then(atP x.cps.toList i).map λc=>.str ⟨#[c]⟩else af
 |_,_=>af
@[simp]noncomputable def clip(n d:Nat):Option Int->Nat
 |none=>d
 |some v=>if v<0 then(v+(n:Int)).toNat else if v<=(n:Int)then v.toNat else n
@[simp]def cut(xs:List D)(lo hi:Option Int):List D:=(xs.drop (clip xs.length 0 lo)).take (clip xs.length xs.length hi-clip xs.length 0 lo)
@[simp]noncomputable def ud:List D->Option (Option Int)
 |[]=>aa af|[.int i]=>aa (aa i)|_=>af
def qG(x:D)(lo hi:Option Int):Option D:=match x with
 |.aB J=>aa (.aB (cut J lo hi))|.aj J=>aa (.aj (cut J lo hi))|_=>af
noncomputable def dok:Nat->D->Bool
 |_,.aC=>ah|_,.bl _=>ah|_,.int _=>ah|_,.str _=>ah|0,.aB _=>ai|0,.aj _=>ai|n+1,.aB xs=>xs.all (dok n)|n+1,.aj xs=>xs.all (dok n)
@[simp]theorem Ro(n:Nat):dok n .aC=ah:=by cases n<;>rfl
@[simp]theorem Tf(n:Nat)(b:Bool):dok n (.bl b)=ah:=by cases n<;>rfl
@[simp]theorem pW(n:Nat)(i:Int):dok n (.int i)=ah:=by cases n<;>rfl
@[simp]theorem Rp(n:Nat)(x:az):dok n (.str x)=ah:=by cases n<;>rfl
@[simp]theorem zj(n:Nat)(xs:List D):dok (n+1) (.aB xs)=xs.all (dok n):=rfl
@[simp]theorem pX(n:Nat)(xs:List D):dok (n+1) (.aj xs)=xs.all (dok n):=rfl
def fL(x y:D):Bool:=dok 100 x||dok 100 y
@[simp]theorem OL(x:D)(y:az):fL x (.str y)=ah:=by simp[fL]
@[simp]theorem OM(x:D)(y:Int):fL x (.int y)=ah:=by simp[fL]
@[simp]theorem Nu(x:D)(y:az):fL (.str y) x=ah:=by simp[fL]
@[simp]theorem Nv(x:D)(y:Int):fL (.int y) x=ah:=by simp[fL]
@[simp]theorem Nx(x:D):fL x (.aB [])=ah:=by simp[fL,dok]
@[simp]theorem Nz(x:D):fL x (.aj [])=ah:=by simp[fL,dok]
@[simp]theorem Rq(x:D)(b:Bool):fL x (.bl b)=ah:=by simp[fL]
def ji(h:dok 100 y=ah):fL x y=ah:=by simp[fL,h]
noncomputable def lq:D->Bool
 |.aC=>ah|.bl _=>ai|.int _=>ai|.str _=>ai|.aB _=>ai|.aj _=>ai
@[simp]theorem NB:lq .aC=ah:=rfl
@[simp]theorem ON(z:Bool):lq (.bl z)=ai:=rfl
@[simp]theorem NC(z:Int):lq (.int z)=ai:=rfl
@[simp]theorem ND(z:az):lq (.str z)=ai:=rfl
@[simp]theorem NF(z:List D):lq (.aB z)=ai:=rfl
@[simp]theorem NG(z:List D):lq (.aj z)=ai:=rfl
noncomputable def ue(b:Bool):D->Bool
 |.aC=>ai|.bl c=>c==b|.int _=>ai|.str _=>ai|.aB _=>ai|.aj _=>ai
@[simp]theorem OO(b:Bool):ue b .aC=ai:=rfl
@[simp]theorem Rr(b z:Bool):ue b (.bl z)=(z==b):=rfl
@[simp]theorem OP(b:Bool)(z:Int):ue b (.int z)=ai:=rfl
@[simp]theorem OQ(b:Bool)(z:az):ue b (.str z)=ai:=rfl
@[simp]theorem OR(b:Bool)(z:List D):ue b (.aB z)=ai:=rfl
@[simp]theorem OS(b:Bool)(z:List D):ue b (.aj z)=ai:=rfl
def iB:Cm->D->D->Option Bool
 |.eq,x,y=>if fL x y then aa (eqv x y)else af
 |.ne,x,y=>if fL x y then aa (!eqv x y)else af
 |.lt,.int i,.int j=>aa (decide (i<j))|.le,.int i,.int j=>aa (decide (i<=j))|.gt,.int i,.int j=>aa (decide (j<i))|.ge,.int i,.int j=>aa (decide (j<=i))|.isN,x,.aC=>aa (lq x)|.notN,x,.aC=>aa (!lq x)|.notN,x,.bl b=>aa (!ue b x)
 |.mem,x,.aB ys=>if ys.all λy=>fL y x then aa (ys.any λy=>eqv y x)else af
 |.mem,x,.aj ys=>if ys.all λy=>fL y x then aa (ys.any λy=>eqv y x)else af
 |.nmem,x,.aB ys=>if ys.all λy=>fL y x then aa (!ys.any λy=>eqv y x)else af
 |.nmem,x,.aj ys=>if ys.all λy=>fL y x then aa (!ys.any λy=>eqv y x)else af
 |_,_,_=>af
@[simp]noncomputable def intsOf:List D->Option (List Int)
 |[]=>aa []|.int i::r=>(intsOf r).map (i :: ·)|_=>af
@[simp]noncomputable def allB:List D->Option Bool
 |[]=>aa ah
 |.bl b::r=>if b then allB r else aa ai
 |_=>af
@[simp]noncomputable def anyB:List D->Option Bool
 |[]=>aa ai
 |.bl b::r=>if b then aa ah else anyB r
 |_=>af
noncomputable def isI:D->Bool
 |.aC=>ai|.bl _=>ah|.int _=>ah|.str _=>ai|.aB _=>ai|.aj _=>ai
@[simp]theorem Rt:isI .aC=ai:=rfl
@[simp]theorem Tg(z:Bool):isI (.bl z)=ah:=rfl
@[simp]theorem Ru(z:Int):isI (.int z)=ah:=rfl
@[simp]theorem Rv(z:az):isI (.str z)=ai:=rfl
@[simp]theorem Rx(z:List D):isI (.aB z)=ai:=rfl
@[simp]theorem Ry(z:List D):isI (.aj z)=ai:=rfl
noncomputable def isB:D->Bool
 |.aC=>ai|.bl _=>ah|.int _=>ai|.str _=>ai|.aB _=>ai|.aj _=>ai
@[simp]theorem Rz:isB .aC=ai:=rfl
@[simp]theorem Ti(z:Bool):isB (.bl z)=ah:=rfl
@[simp]theorem RB(z:Int):isB (.int z)=ai:=rfl
@[simp]theorem RC(z:az):isB (.str z)=ai:=rfl
@[simp]theorem RE(z:List D):isB (.aB z)=ai:=rfl
@[simp]theorem RG(z:List D):isB (.aj z)=ai:=rfl
noncomputable def isS:D->Bool
 |.aC=>ai|.bl _=>ai|.int _=>ai|.str _=>ah|.aB _=>ai|.aj _=>ai
@[simp]theorem RI:isS .aC=ai:=rfl
@[simp]theorem Tj(z:Bool):isS (.bl z)=ai:=rfl
@[simp]theorem RJ(z:Int):isS (.int z)=ai:=rfl
@[simp]theorem RK(z:az):isS (.str z)=ah:=rfl
@[simp]theorem RL(z:List D):isS (.aB z)=ai:=rfl
@[simp]theorem RM(z:List D):isS (.aj z)=ai:=rfl
noncomputable def isT:D->Bool
 |.aC=>ai|.bl _=>ai|.int _=>ai|.str _=>ai|.aB _=>ah|.aj _=>ai
@[simp]theorem RN:isT .aC=ai:=rfl
@[simp]theorem Tn(z:Bool):isT (.bl z)=ai:=rfl
@[simp]theorem RO(z:Int):isT (.int z)=ai:=rfl
@[simp]theorem RP(z:az):isT (.str z)=ai:=rfl
@[simp]theorem RQ(z:List D):isT (.aB z)=ah:=rfl
@[simp]theorem RT(z:List D):isT (.aj z)=ai:=rfl
noncomputable def isL:D->Bool
 |.aC=>ai|.bl _=>ai|.int _=>ai|.str _=>ai|.aB _=>ai|.aj _=>ah
noncomputable def sortI(J:List Int):List Int:=J.mergeSort λa b=>decide (a<=b)
noncomputable def Vx:List Int->Option Int
 |[]=>af|n::ns=>aa (ns.foldl max n)
noncomputable def KM:List Int->Option Int
 |[]=>af|n::ns=>aa (ns.foldl min n)
@[simp]noncomputable def GG:List D->List D->List D
 |x::xs,y::ys=>.aB [x,y]::GG xs ys|_,_=>[]
noncomputable def ded(L:List Int):List Int:=L.foldl (fun J v=>if J.any (·==v)then J else J++[v]) []
noncomputable def Vb(a b c:Int):Nat:=if a<b then((b-a-1)/c+1).toNat else 0
noncomputable def stepI(a c:Int)(n:Nat):List Int:=(V5 n).map λ(k:Nat)=>a+(k:Int)*c
def biD:Bi->List D->Option D
 |.len,[.aB xs]=>aa (.int xs.length)|.len,[.aj xs]=>aa (.int xs.length)
 |.len,[.str x]=>if x.length<=lim then aa (.int x.length)else af
 |.int,[.int i]=>aa (.int i)|.int,[.bl b]=>aa (.int (if b then 1 else 0))
 |.str,[.int i]=>if big i then aa (.str (toString i))else af
 |.tuple,[.aj xs]=>aa (.aB xs)|.tuple,[.aB xs]=>aa (.aB xs)|.list,[.aj xs]=>aa (.aj xs)|.list,[.aB xs]=>aa (.aj xs)|.all,[.aj xs]=>(allB xs).map .bl|.isInt,[x]=>aa (.bl (isI x))|.isBool,[x]=>aa (.bl (isB x))|.isStr,[x]=>aa (.bl (isS x))|.isTuple,[x]=>aa (.bl (isT x))|.min2,[.int i,.int j]=>aa (.int (if j<i then j else i))|.max2,[.int i,.int j]=>aa (.int (if j>i then j else i))
 |.min1,[.aj xs]=>(intsOf xs).bind λJ=>(KM J).map .int
 |_,_=>af
@[simp]noncomputable def dw:Nat->List D->List D
 |_,[]=>[]|k,x::r=>.aB [.int k,x]::dw (k+1) r
noncomputable def uf:D->Option (List D)
 |.aB J=>aa J|.aj J=>aa J|_=>af
noncomputable def upto(lo:Int)(n:Nat):List D:=(V5 n).map λ(k:Nat)=>D.int (lo+(k:Int))
noncomputable def down(a:Int)(n:Nat):List D:=(V5 n).map λi=>.int (a-(i:Nat))
noncomputable def KN(x:az):List D:=x.cps.toList.map λc=>.str ⟨#[c]⟩
def GH:D->Option (List D)
 |.aB J=>aa J|.aj J=>aa J|.str x=>aa (KN x)|_=>af
def gc:Sr->List D->Option (List D)
 |.seq,[x]=>uf x
 |.rng1,[.int n]=>if -100000<=n&&n<=100000 then aa (upto 0 n.toNat)else af
 |.rng2,[.int a,.int b]=>if -100000<=a&&a<=100000&&-100000<=b&&b<=100000 then aa (upto a (b-a).toNat)else af
 |.rev,[.aj J]=>aa J.reverse|.enu,[.aj J]=>aa (dw 0 J)|.zip2,[.aj J,.aj ys]=>aa (GG J ys)|.itm,[.aj J]=>aa J|.chs,[.str x]=>aa (KN x)
 |.zipG,[x,y]=>(GH x).bind λJ=>(GH y).map (GG J)
 |.rng3,[.int a,.int b,.int c]=>if c=-1/\-100000<=a/\a<=100000/\-100000<=b/\b<=100000 then aa (down a (a-b).toNat)else af
 |_,_=>af
@[simp]def iV(x:D):List D->Nat->Option Nat
 |[],_=>af
 |y::r,k=>if eqv y x then aa k else iV x r (k+1)
@[simp]noncomputable def OT(c:Nat):List Nat->Nat->Option Nat
 |[],_=>af
 |y::r,k=>if y=c then aa k else OT c r (k+1)
@[simp]noncomputable def dW:List W->Option (List D)
 |[]=>aa []|.p d::r=>(dW r).map (d :: ·)|.r _::_=>af|.k _::_=>af|.o _::_=>af|.c _ _::_=>af|.x _::_=>af
def meD:Me->D->List D->Option D
 |.tindex,.aB xs,[x]=>if xs.all λy=>fL y x then(iV x xs 0).map λ(q:Nat)=>D.int (q:Int)else af
 |.sindex,.str x,[.str y]=>match Xx x y 0 x.length 1 with
  |i::_=>aa (.int (i:Int))|[]=>af
 |.count,.aj xs,[x]=>if xs.all λy=>fL y x then aa (.int ((xs.countP λy=>eqv y x:Nat):Int))else af
 |.lindex,.aj xs,[x]=>if xs.all λy=>fL y x then(iV x xs 0).map λ(q:Nat)=>D.int (q:Int)else af
 |_,_,_=>af
theorem ug:meD .count (.aj xs) [x]=if xs.all λy=>fL y x then aa (.int ((xs.countP λy=>eqv y x:Nat):Int))else af:=rfl
theorem uh:meD .lindex (.aj xs) [x]=if xs.all λy=>fL y x then(iV x xs 0).map λ(q:Nat)=>D.int (q:Int)else af:=rfl
theorem C6:meD .tindex (.aB xs) [x]=if xs.all λy=>fL y x then(iV x xs 0).map λ(q:Nat)=>D.int (q:Int)else af:=rfl
theorem C7:meD .sindex (.str x) [.str y]=match Xx x y 0 x.length 1 with
 |i::_=>aa (.int (i:Int))|[]=>af:=rfl
def meW(m:Me)(o:W)(as:List W)(h:HH):Option (W×HH):=match m,o,as with
 |.append,.r n,[.p d]=>match lat h n with
  |some J=>if J.length<lim then aa (.p .aC,h.set n (.l (J++[d])))else af
  |none=>af
 |.pop,.r n,[]=>match lat h n with
  |some J=>match J.getLast? with
   |some d=>aa (.p d,h.set n (.l J.dropLast))|none=>af
  |none=>af
 |.extend,.r n,[w]=>match lat h n,(rd w h).bind uf with
  |some J,aa ys=>if J.length+ys.length<=lim then aa (.p .aC,h.set n (.l (J++ys)))else af
  |_,_=>af
 |.dget,.k (.t kvs),[.p (.str x)]=>aa (.p ((gi x kvs).getD .aC),h)|.dget,.k (.t _),[.p .aC]=>aa (.p .aC,h)|.dget,.k (.t kvs),[.p (.str x),.p d]=>aa (.p ((gi x kvs).getD d),h)
 |m,.p d,as=>match dW as with
  |some L=>(meD m d L).map λx=>(.p x,h)
  |none=>af
 |_,_,_=>af
section
variable(n:Nat)(d:D)(h:HH)(kvs:List (az×D))(x:az)(as:List W)
@[simp]theorem jj:meW .append (.r n) [.p d] h=match lat h n with
 |some J=>if J.length<lim then aa (.p .aC,h.set n (.l (J++[d])))else af
 |none=>af:=rfl
@[simp]theorem GI:meW .pop (.r n) [] h=match lat h n with
 |some J=>match J.getLast? with
  |some d=>aa (.p d,h.set n (.l J.dropLast))|none=>af
 |none=>af:=rfl
@[simp]theorem ya(w:W):meW .extend (.r n) [w] h=match lat h n,(rd w h).bind uf with
 |some xs,aa ys=>if xs.length+ys.length<=lim then aa (.p .aC,h.set n (.l (xs++ys)))else af
 |_,_=>af:=rfl
@[simp]theorem qH:meW .tindex (.p d) as h=match dW as with
 |some J=>(meD .tindex d J).map λx=>(.p x,h)
 |none=>af:=rfl
@[simp]theorem A7:meW .count (.p d) as h=match dW as with
 |some J=>(meD .count d J).map λx=>(.p x,h)
 |none=>af:=rfl
@[simp]theorem yb:meW .lindex (.p d) as h=match dW as with
 |some J=>(meD .lindex d J).map λx=>(.p x,h)
 |none=>af:=rfl
@[simp]theorem qI:meW .sindex (.p d) as h=match dW as with
 |some J=>(meD .sindex d J).map λx=>(.p x,h)
 |none=>af:=rfl
end
noncomputable def new(mu:Bool)(xs:List D)(h:HH):W×HH:=if mu then(.r h.length,h++[.l xs])else(.p (.aj xs),h)
@[simp]theorem Vc(xs:List D)(h:HH):new ai xs h=(.p (.aj xs),h):=rfl
@[simp]theorem Vd(xs:List D)(h:HH):new ah xs h=(.r h.length,h++[.l xs]):=rfl
@[simp]def rds(ws:List W)(h:HH):Option (List D):=match ws with
 |[]=>aa []
 |w::r=>(rd w h).bind λd=>(rds r h).map (d :: ·)
noncomputable def unpack(n:Nat):D->Option (List D)
 |.aB J=>if J.length=n then aa J else af
 |.aj J=>if J.length=n then aa J else af
 |_=>af
def target(n:Nat)(d:D):Option (List D):=if n=1 then aa [d]else unpack n d
section
variable(i j k a b:Int)(c:Bool)(x y:az)(xs ys:List D)(kvs:List (az×D))(d e:D)(lo hi:Option Int)
@[simp]theorem vP:lg .add (.int i) (.int j)=aa (.int (i+j)):=rfl
@[simp]theorem qJ:lg .add (.str x) (.str y)=if x.length+y.length<=lim then aa (.str (x++y))else af:=rfl
@[simp]theorem mT:lg .add (.aB xs) (.aB ys)=if xs.length+ys.length<=lim then aa (.aB (xs++ys))else af:=rfl
@[simp]theorem kh:lg .add (.aj xs) (.aj ys)=if xs.length+ys.length<=lim then aa (.aj (xs++ys))else af:=rfl
@[simp]theorem qK:lg .sub (.int i) (.int j)=aa (.int (i-j)):=rfl
@[simp]theorem vQ:lg .mul (.int i) (.int j)=if big i||big j then aa (.int (i*j))else af:=rfl
@[simp]theorem qL:lg .mul (.aB xs) (.int k)=if 2<=k&&k<=1000&&!xs.isEmpty&&xs.length*k.toNat<=lim then aa (.aB (rep k.toNat xs))else af:=rfl
@[simp]theorem qM:lg .mul (.aj xs) (.int k)=if -1000<=k&&k<=1000&&xs.length*k.toNat<=lim then aa (.aj (rep k.toNat xs))else af:=rfl
@[simp]theorem qN:lg .mod (.int i) (.int j)=if 0<j then aa (.int (i%j))else af:=rfl
@[simp]theorem oF:lg .fdiv (.int i) (.int j)=if 0<j&&j<1073741824 then aa (.int (i/j))else af:=rfl
@[simp]theorem eV:dI (.aB xs) (.int i)=atP xs i:=rfl
@[simp]theorem d8:dI (.aj xs) (.int i)=atP xs i:=rfl
@[simp]theorem lu:dI (.str x) (.int i)=if x.length<=lim then(atP x.cps.toList i).map λc=>.str ⟨#[c]⟩else af:=rfl
@[simp]theorem qO:qG (.aB xs) lo hi=aa (.aB (cut xs lo hi)):=rfl
@[simp]theorem C8:qG (.aj xs) lo hi=aa (.aj (cut xs lo hi)):=rfl
@[simp]theorem lZ:iB .eq d e=if fL d e then aa (eqv d e)else af:=rfl
@[simp]theorem zk:iB .ne d e=if fL d e then aa (!eqv d e)else af:=rfl
@[simp]theorem pY:iB .lt (.int i) (.int j)=aa (decide (i<j)):=rfl
@[simp]theorem pZ:iB .le (.int i) (.int j)=aa (decide (i<=j)):=rfl
@[simp]theorem qa:iB .gt (.int i) (.int j)=aa (decide (j<i)):=rfl
@[simp]theorem qb:iB .ge (.int i) (.int j)=aa (decide (j<=i)):=rfl
@[simp]theorem nB:iB .isN d .aC=aa (lq d):=rfl
@[simp]theorem l5:iB .notN d .aC=aa (!lq d):=rfl
@[simp]theorem A8{b:Bool}:iB .notN d (.bl b)=aa (!ue b d):=rfl
@[simp]theorem jk:iB .mem d (.aB ys)=if ys.all λy=>fL y d then aa (ys.any λy=>eqv y d)else af:=rfl
@[simp]theorem kj:iB .mem d (.aj ys)=if ys.all λy=>fL y d then aa (ys.any λy=>eqv y d)else af:=rfl
@[simp]theorem jD:iB .nmem d (.aB ys)=if ys.all λy=>fL y d then aa (!ys.any λy=>eqv y d)else af:=rfl
@[simp]theorem jE:iB .nmem d (.aj ys)=if ys.all λy=>fL y d then aa (!ys.any λy=>eqv y d)else af:=rfl
@[simp]theorem oG:biD .len [.aB xs]=aa (.int xs.length):=rfl
@[simp]theorem A9:biD .len [.aj xs]=aa (.int xs.length):=rfl
@[simp]theorem Ba:biD .len [.str x]=if x.length<=lim then aa (.int x.length)else af:=rfl
@[simp]theorem RU:biD .int [.int i]=aa (.int i):=rfl
@[simp]theorem NH:biD .int [.bl c]=aa (.int (if c then 1 else 0)):=rfl
@[simp]theorem RV:biD .str [.int i]=if big i then aa (.str (toString i))else af:=rfl
@[simp]theorem Jt:biD .tuple [.aj xs]=aa (.aB xs):=rfl
@[simp]theorem Ju:biD .tuple [.aB xs]=aa (.aB xs):=rfl
theorem C9:biD .min1 [.aj xs]=(intsOf xs).bind λJ=>(KM J).map .int:=rfl
theorem foldl_min:∀(l:List Int)(n:Int),(l.foldl min n=n\/l.foldl min n∈l)/\l.foldl min n<=n/\∀a∈l,l.foldl min n<=a
 |[],n=>⟨.inl rfl,Int.le_refl _,λa h=>bM h (by simp)⟩
 |b::l,n=>by
  obtain⟨O,U,L⟩:=foldl_min l (min n b);rw[List.foldl_cons];refine⟨?_,by lia,λa J=>?_⟩
  ·rcases O with h|h
   ·rw[h];rcases Int.le_total n b with q|q
    exact .inl (by lia);exact .inr (by rw[show min n b=b by lia];exact V6)
   exact .inr (VZ _ h)
  ·rcases List.mem_cons.mp J with rfl|J
   lia;exact L a J
def Bb{J:List Int}{M:Int}(h:KM J=aa M):M∈J/\∀a∈J,M<=a:=by
 cases J with
 |nil=>cases h
 |cons n l =>
  cases h;obtain⟨V,U,O⟩:=foldl_min l n;refine⟨?_,λa L=>?_⟩
  ·rcases V with q|q
   rw[q];exact V6;exact VZ _ q
  ·rcases List.mem_cons.mp L with rfl|L
   exact U;exact O a L
@[simp]theorem KO:biD .list [.aj xs]=aa (.aj xs):=rfl
@[simp]theorem KP:biD .list [.aB xs]=aa (.aj xs):=rfl
@[simp]theorem RX:biD .all [.aj xs]=(allB xs).map .bl:=rfl
@[simp]theorem NI:biD .isInt [d]=aa (.bl (isI d)):=rfl
@[simp]theorem KQ:biD .isBool [d]=aa (.bl (isB d)):=rfl
@[simp]theorem NJ:biD .isStr [d]=aa (.bl (isS d)):=rfl
@[simp]theorem Jv:biD .isTuple [d]=aa (.bl (isT d)):=rfl
@[simp]theorem zl:biD .min2 [.int i,.int j]=aa (.int (if j<i then j else i)):=rfl
@[simp]theorem zm:biD .max2 [.int i,.int j]=aa (.int (if j>i then j else i)):=rfl
@[simp]theorem To:uf (.aB xs)=aa xs:=rfl
@[simp]theorem Tt:uf (.aj xs)=aa xs:=rfl
@[simp]theorem Dc:gc .seq [d]=uf d:=rfl
@[simp]theorem jW:gc .rng1 [.int a]=if -100000<=a&&a<=100000 then aa (upto 0 a.toNat)else af:=rfl
@[simp]theorem oH:gc .rng2 [.int a,.int b]=if -100000<=a&&a<=100000&&-100000<=b&&b<=100000 then aa (upto a (b-a).toNat)else af:=rfl
@[simp]theorem OU:gc .rev [.aj xs]=aa xs.reverse:=rfl
@[simp]theorem OV{x:az}:gc .chs [.str x]=aa (KN x):=rfl
@[simp]theorem NK{x y:D}:gc .zipG [x,y]=(GH x).bind λxs=>(GH y).map (GG xs):=rfl
@[simp]theorem OW:gc .itm [.aj xs]=aa xs:=rfl
@[simp]theorem De:gc .enu [.aj xs]=aa (dw 0 xs):=rfl
@[simp]theorem KR:meD .tindex (.aB xs) [d]=if xs.all λy=>fL y d then(iV d xs 0).map λ(q:Nat)=>D.int (q:Int)else af:=rfl
@[simp]theorem vR(n:Nat):unpack n (.aj xs)=if xs.length=n then aa xs else af:=rfl
@[simp]theorem vS(n:Nat):unpack n (.aB xs)=if xs.length=n then aa xs else af:=rfl
end
@[simp]theorem nC(d:D):target 1 d=aa [d]:=rfl
@[simp]theorem OX(d:D):target 2 d=unpack 2 d:=rfl
noncomputable def vU(o:Option D)(J:List D)(h:HH):Option (List D×HH):=aa (match o with|some x=>x::J|none=>J,h)
def Bc(r:HH->Option (List D×HH))(o:Option D)(h:HH):Option (List D×HH):=bnd (r h) (vU o)
@[simp]theorem vV(o:Option D)(J:List D)(h:HH):vU o J h=aa (match o with|some x=>x::J|none=>J,h):=rfl
@[simp]theorem zo(r:HH->Option (List D×HH))(o:Option D)(h:HH):Bc r o h=bnd (r h) (vU o):=rfl
def eW(f:List D->HH->Option (Option D×HH))(n:Nat):List D->HH->Option (List D×HH)
 |[],h=>aa ([],h)
 |d::r,h=>match target n d with
  |some J=>bnd (f J h) (Bc (eW f n r))|none=>af
noncomputable def fT(d:D):Option W:=aa (.p d)
noncomputable abbrev EH:=HH->Option (W×HH)
noncomputable abbrev OpW:=W->W->HH->Option (W×HH)
@[simp]def k2(L:EH)(J:OpW)(x:W)(h:HH):Option (W×HH):=bnd (L h) (J x)
@[simp]def um(o:Bin)(x y:W)(h:HH):Option (W×HH):=match rd x h,rd y h with
 |some d,aa e=>(lg o d e).map λz=>(.p z,h)
 |_,_=>af
def inT(o:Cm)(x:W)(kvs:List (az×D)):Option Bool:=match o,x with
 |.mem,.p (.str s)=>aa (gi s kvs).isSome|.mem,.p .aC=>aa ai|.nmem,.p (.str s)=>aa (!(gi s kvs).isSome)|_,_=>af
def inL(o:Cm)(x:W)(kvs:List (Ky×D)):Option Bool:=match o,x with
 |.mem,.p d=>(sj d).map λk=>(gY kvs k).isSome
 |_,_=>af
def inK(o:Cm)(x:W)(q:Kd):Option Bool:=match q with
 |.t J=>inT o x J|.l J=>inL o x J
noncomputable def memC:Cm->Bool
 |.mem=>ah|.nmem=>ah|_=>ai
def qP{o:Cm}{x:W}{q:Kd}{b:Bool}(h:memC o=ai):¬inK o x q=aa b:=by intro e;cases o<;>first|exact KG h|exact gT e|(cases q<;>first|exact gT e|(cases x<;>exact gT e))
@[simp]def mU(o:Cm)(x y:W)(h:HH):Option (W×HH):=match y with
 |.k J=>(inK o x J).map λz=>(.p (.bl z),h)
 |y=>match rd x h,rd y h with
  |some d,aa e=>(iB o d e).map λz=>(.p (.bl z),h)
  |_,_=>af
def atT(kvs:List (az×D))(y:W):Option D:=match y with
 |.p (.str s)=>gi s kvs|_=>af
def atL(kvs:List (Ky×D))(y:W):Option D:=match y with
 |.p d=>(sj d).bind (gY kvs)|_=>af
def atK(q:Kd)(y:W):Option D:=match q with
 |.t J=>atT J y|.l J=>atL J y
@[simp]theorem Ve(kvs:List (az×D))(x:az):atK (.t kvs) (.p (.str x))=gi x kvs:=rfl
@[simp]theorem Vf(kvs:List (Ky×D))(i:Int):atK (.l kvs) (.p (.int i))=gY kvs (.inl i):=rfl
@[simp]theorem Vg(kvs:List (az×D))(x:az):inK .mem (.p (.str x)) (.t kvs)=aa (gi x kvs).isSome:=rfl
@[simp]theorem Vh(kvs:List (az×D))(x:az):inK .nmem (.p (.str x)) (.t kvs)=aa (!(gi x kvs).isSome):=rfl
@[simp]theorem Vi(kvs:List (az×D)):inK .mem (.p .aC) (.t kvs)=aa ai:=rfl
@[simp]theorem Vj(kvs:List (Ky×D))(i:Int):inK .mem (.p (.int i)) (.l kvs)=aa (gY kvs (.inl i)).isSome:=rfl
@[simp]def GJ(x y:W)(h:HH):Option (W×HH):=match x with
 |.k J=>(atK J y).map λz=>(.p z,h)
 |x=>match rd x h,rd y h with
  |some d,aa e=>(dI d e).map λz=>(.p z,h)
  |_,_=>af
@[simp]noncomputable def GK(x:W)(h:HH):Option (W×HH):=match x with|.p (.int i)=>aa (.p (.int (-i)),h)|_=>af
@[simp]noncomputable def GL(x:W)(h:HH):Option (W×HH):=match x with|.p (.bl b)=>aa (.p (.bl (!b)),h)|_=>af
@[simp]noncomputable def GM(J:EH)(x:W)(h:HH):Option (W×HH):=match x with|.p (.bl c)=>if c then J h else aa (.p (.bl ai),h)|_=>af
@[simp]noncomputable def kOr(J:EH)(x:W)(h:HH):Option (W×HH):=match x with|.p (.bl c)=>if c then aa (.p (.bl ah),h)else J h|_=>af
@[simp]noncomputable def GN(L J:EH)(x:W)(h:HH):Option (W×HH):=match x with|.p (.bl c)=>if c then L h else J h|_=>af
@[simp]def OY(o':Cm)(e:D)(z:W)(h:HH):Option (W×HH):=match rd z h with
 |some f=>(iB o' e f).map λr=>(.p (.bl r),h)
 |none=>af
@[simp]def oCh(o o':Cm)(J:EH)(x y:W)(h:HH):Option (W×HH):=match rd x h,y with
 |some d,.p e=>match iB o d e with
  |some ah=>bnd (J h) (OY o' e)|some ai=>aa (.p (.bl ai),h)|none=>af
 |_,_=>af
@[simp]def KS(ws:List W)(h:HH):Option (W×HH):=match dW ws with|some J=>if J.length<=lim then aa (.p (.aB J),h)else af|none=>af
@[simp]def KU(mu:Bool)(ws:List W)(h:HH):Option (W×HH):=match dW ws with|some J=>if J.length<=lim then aa (new mu J h)else af|none=>af
@[simp]def OZ(x:W)(l u:List W)(h:HH):Option (W×HH):=match rd x h,(dW l).bind ud,(dW u).bind ud with
 |some d,aa l',aa u'=>(qG d l' u').map λz=>(.p z,h)
 |_,_,_=>af
@[simp]def O0(J:HH->Option (List W×HH))(x:W)(l:List W)(h:HH):Option (W×HH):=bnd (J h) (OZ x l)
@[simp]def O4(L J:HH->Option (List W×HH))(x:W)(h:HH):Option (W×HH):=bnd (L h) (O0 J x)
@[simp]noncomputable def Tu(x:W)(h:HH):Option (W×HH):=match x with
 |.p (.aB xs)=>aa (.p (.aB xs.reverse),h)|_=>af
noncomputable def o9(k:Int)(xs:List D):List D:=(YZ (Wo af af (aa k) xs.length).1 (Wo af af (aa k) xs.length).2.1 (Wo af af (aa k) xs.length).2.2).filterMap λi=>xs[i]?
@[simp]def KW(mu:Bool)(k:Int)(x:W)(h:HH):Option (W×HH):=match rd x h with
 |some (.aj xs)=>aa (new mu (o9 k xs) h)|_=>af
@[simp]def kBi(b:Bi)(mu:Bool)(ws:List W)(h:HH):Option (W×HH):=match rds ws h with
 |some L=>match biD b L with
  |some d=>if mu then(match d with|.aj J=>aa (new ah J h)|_=>af)else aa (.p d,h)
  |none=>af
 |none=>af
def mG(x:W)(h:HH):Bool:=match x with
 |.r n=>(lat h n).isSome|.k (.l _)=>ai|_=>ah
@[simp]theorem KY(n:Nat)(h:HH):mG (.r n) h=(lat h n).isSome:=rfl
@[simp]theorem Tv(d:D)(h:HH):mG (.p d) h=ah:=rfl
@[simp]theorem Tw(d:List (az×D))(h:HH):mG (.k (.t d)) h=ah:=rfl
@[simp]def kMe(m:Me)(J:HH->Option (List W×HH))(x:W)(h:HH):Option (W×HH):=if mG x h then bnd (J h) (meW m x)else af
@[simp]def kLs(mu:Bool)(L:Sr)(ws:List W)(h:HH):Option (W×HH):=match (rds ws h).bind (gc L)with
 |some J=>if J.length<=lim then aa (new mu J h)else af
 |none=>af
@[simp]def pM(w:W)(h:HH):Option (Option D×HH):=match w with|.p d=>aa (aa d,h)|_=>af
def zp(J:EH)(L:List W)(h:HH):Option (Option D×HH):=match L with
 |[]=>bnd (J h) pM|[.p (.bl ah)]=>bnd (J h) pM|[.p (.bl ai)]=>aa (af,h)|_=>af
@[simp]theorem RY(J:EH)(h:HH):zp J [] h=bnd (J h) pM:=rfl
@[simp]theorem RZ(J:EH)(h:HH):zp J [.p (.bl ah)] h=bnd (J h) pM:=rfl
@[simp]theorem R6(J:EH)(h:HH):zp J [.p (.bl ai)] h=aa (af,h):=rfl
@[simp]def fO(L:Sl->HH->Option (List W×HH))(J:Sl->EH)(fs:Sl)(xs:List D)(h:HH):Option (Option D×HH) :=
 bnd (L (xs.map fT++fs) h) (zp (J (xs.map fT++fs)))
@[simp]def iN(mu:Bool)(J:List D)(h:HH):Option (W×HH):=if J.length<=lim then aa (new mu J h)else af
def eN(f:az):List (az×W)->Option W
 |[]=>af
 |(x,w)::r=>if f=x then aa w else eN f r
def fR(f:az)(w:W):List (az×W)->List (az×W)
 |[]=>[(f,w)]
 |(x,u)::r=>if f=x then(f,w)::r else(x,u)::fR f w r
@[simp]theorem O5(f:az):eN f []=af:=rfl
@[simp]theorem sZ(f x:az)(w:W)(r:List (az×W)):eN f ((x,w)::r)=if f=x then aa w else eN f r:=rfl
@[simp]theorem O6(f:az)(w:W):fR f w []=[(f,w)]:=rfl
@[simp]theorem Bd(f x:az)(w u:W)(r:List (az×W)):fR f w ((x,u)::r)=if f=x then(f,w)::r else(x,u)::fR f w r:=rfl
noncomputable def attrOk:W->Bool
 |.p _=>ah|.r _=>ah|.k _=>ai|.o _=>ah|.c _ _=>ai|.x _=>ai
@[simp]theorem O7(d:D):attrOk (.p d)=ah:=rfl
@[simp]theorem O8(n:Nat):attrOk (.r n)=ah:=rfl
@[simp]theorem O9(n:Nat):attrOk (.o n)=ah:=rfl
def GO(f:az)(x:W)(h:HH):Option (W×HH):=match x with
 |.o n=>match oat h n with
  |some (_,fs)=>(eN f fs).map λw=>(w,h)
  |none=>af
 |_=>af
@[simp]theorem KZ(f:az)(n:Nat)(h:HH):GO f (.o n) h=match oat h n with
 |some (_,fs)=>(eN f fs).map λw=>(w,h)
 |none=>af:=rfl
noncomputable def yc(F:FK->List W->HH->Option (W×HH))(q:FK)(n:Nat)(ws:List W)(h:HH):Option (W×HH):=F q (.o n::ws) h
@[simp]theorem NL(F:FK->List W->HH->Option (W×HH))(q:FK)(n:Nat)(ws:List W)(h:HH):yc F q n ws h=F q (.o n::ws) h:=rfl
def Df(F:FK->List W->HH->Option (W×HH))(m:az)(J:HH->Option (List W×HH))(x:W)(h:HH):Option (W×HH):=match x with
 |.o n=>match oat h n with
  |some (c,fs)=>if(eN m fs).isNone then bnd (J h) (yc F (.m c m) n)else af
  |none=>af
 |_=>af
@[simp]theorem GP(F:FK->List W->HH->Option (W×HH))(m:az)(J:HH->Option (List W×HH))(n:Nat)(h:HH):Df F m J (.o n) h=match oat h n with
 |some (c,fs)=>if(eN m fs).isNone then bnd (J h) (yc F (.m c m) n)else af
 |none=>af:=rfl
noncomputable def zu(n:Nat)(x:W)(h:HH):Option (W×HH):=match x with
 |.p .aC=>aa (.o n,h)|_=>af
@[simp]theorem R8(n:Nat)(h:HH):zu n (.p .aC) h=aa (.o n,h):=rfl
def Jw(F:FK->List W->HH->Option (W×HH))(c:az)(ws:List W)(h:HH):Option (W×HH):=bnd (F (.m c "__init__") (.o h.length::ws) (h++[.o c []])) (zu h.length)
@[simp]theorem Dg(F:FK->List W->HH->Option (W×HH))(c:az)(ws:List W)(h:HH):Jw F c ws h=bnd (F (.m c "__init__") (.o h.length::ws) (h++[.o c []])) (zu h.length):=rfl
noncomputable def gU:List W->Bool
 |[]=>ah|.p _::r=>gU r|_=>ai
open Classical in
def chk(q:Nat)(ds:List D)(f:List D->HH->Option (Option D×HH))(xs:List D)(h:HH):Option (Option D×HH):=match f xs h with
 |some (o,h')=>if lat h' q=aa ds then aa (o,h')else af
 |none=>af
open Classical in
def yd(q:Nat)(ds:List D)(f:List D->HH->Option (Option D×HH))(xs:List D)(h:HH):Option (Option D×HH):=match f xs h with
 |some (o,h')=>if(lat h' q).map (dw 0)=aa ds then aa (o,h')else af
 |none=>af
def qQ(mu:Bool)(J:Sr)(n:Nat)(f:List D->HH->Option (Option D×HH))(ws:List W)(ds:List D)(h:HH):Option (W×HH):=match ws,J with
 |[.r q],.seq=>bnd (eW (chk q ds f) n ds h) (iN mu)|[.r q],.enu=>bnd (eW (yd q ds f) n ds h) (iN mu)|_,_=>af
theorem vW(mu:Bool)(n:Nat)(f:List D->HH->Option (Option D×HH))(q:Nat)(ds:List D)(h:HH):qQ mu .enu n f [.r q] ds h=bnd (eW (yd q ds f) n ds h) (iN mu):=rfl
theorem Dh(mu:Bool)(n:Nat)(f:List D->HH->Option (Option D×HH))(q:Nat)(ds:List D)(h:HH):qQ mu .seq n f [.r q] ds h=bnd (eW (chk q ds f) n ds h) (iN mu):=rfl
@[simp]def nE(mu:Bool)(J:Sr)(n:Nat)(fs:Option Sl)(O:Sl->HH->Option (List W×HH))(L:Sl->EH)(ws:List W)(h:HH):Option (W×HH) :=
 match (rds ws h).bind (gc J),fs with
 |some ds,aa fs=>if gU ws then bnd (eW (fO O L fs) n ds h) (iN mu)else qQ mu J n (fO O L fs) ws ds h
 |_,_=>af
@[simp]def ko(w:W)(ws:List W)(h:HH):Option (List W×HH):=aa (w::ws,h)
@[simp]def nF(J:HH->Option (List W×HH))(w:W)(h:HH):Option (List W×HH):=bnd (J h) (ko w)
@[simp]def frees(s:Sl):List (Nat×az)->Option Sl
 |[]=>aa []
 |q::r=>match s[q.1]? with
  |some w=>(frees s r).map (w :: ·)|none=>af
def caps(s:Sl):List (Nat×az)->Option (List Cp)
 |[]=>aa []
 |q::r=>match s[q.1]? with
  |some (aa w)=>(zh w).bind λx=>(caps s r).map (x :: ·)
  |_=>af
@[simp]theorem Pa(s:Sl):caps s []=aa []:=rfl
@[simp]theorem NN(s:Sl)(q:Nat×az)(r:List (Nat×az)):caps s (q::r)=match s[q.1]? with
 |some (aa w)=>(zh w).bind λx=>(caps s r).map (x :: ·)
 |_=>af:=rfl
noncomputable def noC:List W->Bool
 |[]=>ah|.p _::r=>noC r|.r _::r=>noC r|.k _::_=>ai|.o _::r=>noC r|.c _ _::_=>ai|.x _::_=>ai
@[simp]theorem Sa:noC []=ah:=rfl
@[simp]theorem Vk(d:D)(r:List W):noC (.p d::r)=noC r:=rfl
@[simp]theorem Vl(d:Nat)(r:List W):noC (.r d::r)=noC r:=rfl
@[simp]theorem Vm(d:Nat)(r:List W):noC (.o d::r)=noC r:=rfl
def Di(F:FK->List W->HH->Option (W×HH))(o:Option (Option W))(ws:List W)(h:HH):Option (W×HH):=match o with
 |some (aa (.c k cs))=>if noC ws then F k (ws++cs.map Cp.w) h else af
 |_=>af
@[simp]theorem Pb(F:FK->List W->HH->Option (W×HH))(k:FK)(J:List Cp)(ws:List W)(h:HH):Di F (aa (aa (.c k J))) ws h=if noC ws then F k (ws++J.map Cp.w) h else af:=rfl
def Dj(w:W)(h:HH):Option (W×HH):=match w with
 |.c _ _=>af|.x _=>af|.k _=>af|w=>aa (w,h)
@[simp]theorem Tz(d:D)(h:HH):Dj (.p d) h=aa (.p d,h):=rfl
@[simp]theorem TF(n:Nat)(h:HH):Dj (.r n) h=aa (.r n,h):=rfl
@[simp]theorem TH(n:Nat)(h:HH):Dj (.o n) h=aa (.o n,h):=rfl
def uq(F:FK->List W->HH->Option (W×HH))(q:FK)(n:Nat)(L:Nat)(J:Option (List Cp))(ws:List W)(h:HH):Option (W×HH):=match J with
 |some J=>bnd (F q (.o n::(ws++[.c (.l L) J])) h) Dj|none=>af
@[simp]theorem NO(F:FK->List W->HH->Option (W×HH))(q:FK)(n:Nat)(L:Nat)(J:List Cp)(ws:List W)(h:HH):uq F q n L (aa J) ws h=bnd (F q (.o n::(ws++[.c (.l L) J])) h) Dj:=rfl
def Dl(F:FK->List W->HH->Option (W×HH))(m:az)(J:HH->Option (List W×HH))(L:Nat)(O:Option (List Cp))(x:W)(h:HH):Option (W×HH):=match x with
 |.o n=>match oat h n with
  |some (c,fs)=>if(eN m fs).isNone then bnd (J h) (uq F (.m c m) n L O)else af
  |none=>af
 |_=>af
@[simp]theorem Pc(F:FK->List W->HH->Option (W×HH))(m:az)(J:HH->Option (List W×HH))(L:Nat)(O:Option (List Cp))(n:Nat)(h:HH):Dl F m J L O (.o n) h=match oat h n with
 |some (c,fs)=>if(eN m fs).isNone then bnd (J h) (uq F (.m c m) n L O)else af
 |none=>af:=rfl
noncomputable def nG(c J:az):Bool:=J==c||J=="TapeError"||J=="ValueError"
noncomputable def ur(c J:az):Bool:=!(c=="NoText"&&J=="NoRun")
def Pd(J:az)(x:W)(h:HH):Option (W×HH):=match x with
 |.x c=>if ur c J then aa (.p (.bl (nG c J)),h)else af
 |_=>af
@[simp]theorem TJ(J c:az)(h:HH):Pd J (.x c) h=if ur c J then aa (.p (.bl (nG c J)),h)else af:=rfl
noncomputable def strsOf:List D->Option (List az)
 |[]=>aa []|.str x::r=>(strsOf r).map (x :: ·)|_=>af
noncomputable def boolsOf:List D->Option (List Bool)
 |[]=>aa []|.bl b::r=>(boolsOf r).map (b :: ·)|_=>af
def txD:Tx->List D->Option D
 |.join,[.str x,.aj ys]=>(strsOf ys).bind λJ=>if J.length<=4000/\x.length<=10/\∀t∈J,t.length<=4000 then aa (.str (Str.join x J))else af
 |.split,[.str x,.str y]=>if y.length=1/\x.length<=lim then aa (.aj ((Txt.split x y).map .str))else af
 |.str,[.int i]=>if big i then aa (.str (toString i))else af
 |.str,[.str x]=>aa (.str x)
 |.intS,[.str x]=>if x.length<=640 then(PySem.intText? x).map .int else af
 |.all,[.aj xs]=>(boolsOf xs).map λbs=>.bl (bs.all id)
 |.inS,[.str x,.str y]=>aa (.bl (Txt.contains y x))|.ninS,[.str x,.str y]=>aa (.bl (!Txt.contains y x))
 |.pre,[.str x,.int i]=>if 0<=i/\x.length<=lim then aa (.str ⟨x.cps.extract 0 i.toNat⟩)else if i=-1/\x.length<=lim then aa (.str ⟨x.cps.extract 0 (x.length-1)⟩)else af
 |_,_=>af
def Dm(kvs:List (az×D))(as:List W)(h:HH):Option (W×HH):=match as with
 |[.p .aC]=>aa (.p .aC,h)|[.p (.str x)]=>aa (.p ((gi x kvs).getD .aC),h)|[.p (.str x),.p d]=>aa (.p ((gi x kvs).getD d),h)|_=>af
def ye(kvs:List (Ky×D))(as:List W)(h:HH):Option (W×HH):=match as with
 |[.p (.str x)]=>aa (.p ((gY kvs (.inr x)).getD .aC),h)|[.p (.str x),.p d]=>aa (.p ((gY kvs (.inr x)).getD d),h)|_=>af
def kTx(k:Tx)(ws:List W)(h:HH):Option (W×HH):=match k,ws with
 |.dget,.k (.t kvs)::as=>Dm kvs as h|.dget,.k (.l kvs)::as=>ye kvs as h
 |k,ws=>(rds ws h).bind λJ=>(txD k J).map λd=>(.p d,h)
def Dn(x y:W)(h:HH):Option (W×HH):=match rd x h,rd y h with
 |some (.aj xs),aa (.aj ys)=>if xs.length+ys.length<=lim then aa (new ah (xs++ys) h)else af
 |_,_=>af
@[simp]theorem K0(xs ys:List D)(h:HH):Dn (.p (.aj xs)) (.p (.aj ys)) h=if xs.length+ys.length<=lim then aa (new ah (xs++ys) h)else af:=rfl
def Pe(w:W)(h:HH):Option (W×HH):=match w with
 |.o n=>aa (.r h.length,h++[.b [n]])|_=>af
def K1(r:Nat)(y:W)(h:HH):Option (W×HH):=match y with
 |.o n=>(bat h r).bind λJ=>if J.length<lim then aa (.p .aC,h.set r (.b (J++[n])))else af
 |_=>af
def Pf(J:EH)(x:W)(h:HH):Option (W×HH):=match x with
 |.r r=>if(bat h r).isSome then bnd (J h) (K1 r)else af
 |_=>af
def K3(x y:W)(h:HH):Option (W×HH):=match x,y with
 |.r r,.p (.int i)=>(bat h r).bind λJ=>(atP J i).map λn=>(.o n,h)
 |_,_=>af
def Ph(x:W)(h:HH):Option (W×HH):=match x with
 |.r r=>(bat h r).bind λJ=>if J.length<=lim then aa (.p (.int J.length),h)else af
 |_=>af
@[simp]theorem TL(n:Nat)(h:HH):Pe (.o n) h=aa (.r h.length,h++[.b [n]]):=rfl
@[simp]theorem K4(r n:Nat)(h:HH):K1 r (.o n) h=(bat h r).bind λJ=>if J.length<lim then aa (.p .aC,h.set r (.b (J++[n])))else af:=rfl
@[simp]theorem K5(J:EH)(r:Nat)(h:HH):Pf J (.r r) h=if(bat h r).isSome then bnd (J h) (K1 r)else af:=rfl
@[simp]theorem GQ(r:Nat)(i:Int)(h:HH):K3 (.r r) (.p (.int i)) h=(bat h r).bind λJ=>(atP J i).map λn=>(.o n,h):=rfl
@[simp]theorem K6(r:Nat)(h:HH):Ph (.r r) h=(bat h r).bind λJ=>if J.length<=lim then aa (.p (.int J.length),h)else af:=rfl
section
variable(F:FK->List W->HH->Option (W×HH))(G:az->Option W)
mutual
@[simp]noncomputable def ev:E->Sl->HH->Option (W×HH)
 |.v i,s,h=>match s[i]? with|some (aa w)=>aa (w,h)|_=>af
 |.j d,_,h=>aa (.p d,h)
 |.aD x,_,h=>(G x).map λw=>(w,h)
 |.bin o a b,s,h=>bnd (ev a s h) (k2 (ev b s) (um o))|.neg a,s,h=>bnd (ev a s h) GK|.not a,s,h=>bnd (ev a s h) GL|.and a b,s,h=>bnd (ev a s h) (GM (ev b s))|.or a b,s,h=>bnd (ev a s h) (kOr (ev b s))|.z o a b,s,h=>bnd (ev a s h) (k2 (ev b s) (mU o))|.chain o o' a b c,s,h=>bnd (ev a s h) (k2 (ev b s) (oCh o o' (ev c s)))|.ite c a b,s,h=>bnd (ev c s h) (GN (ev a s) (ev b s))|.aB as,s,h=>bnd (evs as s h) KS|.aj mu as,s,h=>bnd (evs as s h) (KU mu)|.y a i,s,h=>bnd (ev a s h) (k2 (ev i s) GJ)|.n a lo hi,s,h=>bnd (ev a s h) (O4 (evs lo s) (evs hi s))|.rvs a,s,h=>bnd (ev a s h) Tu|.stp mu k a,s,h=>bnd (ev a s h) (KW mu k)|.call f as,s,h=>bnd (evs as s h) (F (.f f))|.i a f,s,h=>bnd (ev a s h) (GO f)|.aE o m as,s,h=>bnd (ev o s h) (Df F m (evs as s))|.make c as,s,h=>bnd (evs as s h) (Jw F c)|.bi b mu as,s,h=>bnd (evs as s h) (kBi b mu)|.lsr mu sr as,s,h=>bnd (evs as s h) (kLs mu sr)|.me m o as,s,h=>bnd (ev o s h) (kMe m (evs as s))|.comp mu sr sa tg fv cond elt,s,h=>bnd (evs sa s h) (nE mu sr tg.length (frees s fv) (evs cond) (ev elt))|.callv i as,s,h=>bnd (evs as s h) (Di F s[i]?)|.methL o m as L fv,s,h=>bnd (ev o s h) (Dl F m (evs as s) L (caps s fv))|.isx c a,s,h=>bnd (ev a s h) (Pd c)|.cat a b,s,h=>bnd (ev a s h) (k2 (ev b s) Dn)|.obl a,s,h=>bnd (ev a s h) Pe|.oba o a,s,h=>bnd (ev o s h) (Pf (ev a s))|.obi o i,s,h=>bnd (ev o s h) (k2 (ev i s) K3)|.obn o,s,h=>bnd (ev o s h) Ph|.sup c as,s,h=>bnd (evs as s h) (F (.m c "__init__"))
@[simp]noncomputable def evs:Es->Sl->HH->Option (List W×HH)
 |.nil,_,h=>aa ([],h)|.cons a as,s,h=>bnd (ev a s h) (nF (evs as s))
end
inductive Fl
 |nx(s:Sl)(h:HH)|rt(w:W)(h:HH)|bk(s:Sl)(h:HH)|ct(s:Sl)(h:HH)
def Pi(k:Bool->HH->Option Fl)(w:W)(h:HH):Option Fl:=match w with|.p (.bl b)=>k b h|_=>af
def tst(x:Option (W×HH))(k:Bool->HH->Option Fl):Option Fl:=bnd x (Pi k)
@[simp]theorem gF(b:Bool)(h:HH)(k:Bool->HH->Option Fl):tst (aa (.p (.bl b),h)) k=k b h:=rfl
noncomputable def ly(x:Option Fl)(k:Sl->HH->Option Fl):Option Fl:=match x with
 |some (.nx s h)=>k s h|y=>y
@[simp]theorem Pj(s:Sl)(h:HH)(k:Sl->HH->Option Fl):ly (aa (.nx s h)) k=k s h:=rfl
@[simp]theorem Pk(w:W)(h:HH)(k:Sl->HH->Option Fl):ly (aa (.rt w h)) k=aa (.rt w h):=rfl
@[simp]theorem Pn(s:Sl)(h:HH)(k:Sl->HH->Option Fl):ly (aa (.bk s h)) k=aa (.bk s h):=rfl
@[simp]theorem Po(s:Sl)(h:HH)(k:Sl->HH->Option Fl):ly (aa (.ct s h)) k=aa (.ct s h):=rfl
@[simp]theorem K7(k:Sl->HH->Option Fl):ly af k=af:=rfl
noncomputable def kR(x:Option Fl)(k:Sl->HH->Option Fl):Option Fl:=match x with
 |some (.nx s h)=>k s h|some (.ct s h)=>k s h|some (.bk s h)=>aa (.nx s h)|y=>y
@[simp]theorem fU(s:Sl)(h:HH)(k:Sl->HH->Option Fl):kR (aa (.nx s h)) k=k s h:=rfl
@[simp]theorem Pp(s:Sl)(h:HH)(k:Sl->HH->Option Fl):kR (aa (.ct s h)) k=k s h:=rfl
@[simp]theorem Pq(s:Sl)(h:HH)(k:Sl->HH->Option Fl):kR (aa (.bk s h)) k=aa (.nx s h):=rfl
@[simp]theorem Pr(w:W)(h:HH)(k:Sl->HH->Option Fl):kR (aa (.rt w h)) k=aa (.rt w h):=rfl
@[simp]theorem K8(k:Sl->HH->Option Fl):kR af k=af:=rfl
@[simp]noncomputable def sets:List (Nat×az)->List D->Sl->Sl
 |(i,_)::r,d::ds,s=>sets r ds (s.set i (aa (.p d)))|_,_,s=>s
def K9(b:Sl->HH->Option Fl)(again:Sl->HH->Option Fl)(s:Sl)(t:Bool)(h:HH):Option Fl:=if t then kR (b s h) again else aa (.nx s h)
@[simp]theorem kq(b again:Sl->HH->Option Fl)(s:Sl)(h:HH):K9 b again s ah h=kR (b s h) again:=rfl
@[simp]theorem lA(b again:Sl->HH->Option Fl)(s:Sl)(h:HH):K9 b again s ai h=aa (.nx s h):=rfl
def eU(c:Sl->HH->Option (W×HH))(b:Sl->HH->Option Fl):Nat->Sl->HH->Option Fl
 |0,_,_=>af|n+1,s,h=>tst (c s h) (K9 b (eU c b n) s)
@[simp]def gj(b:Sl->HH->Option Fl)(tg:List (Nat×az)):List D->Sl->HH->Option Fl
 |[],s,h=>aa (.nx s h)
 |d::r,s,h=>match target tg.length d with
  |some J=>kR (b (sets tg J s) h) (gj b tg r)|none=>af
noncomputable def turns:Nat:=100000
@[simp]def Do(s:Sl)(i:Nat)(w:W)(h:HH):Option Fl:=aa (.nx (s.set i (aa w)) h)
@[simp]def La(s:Sl)(xs:List (Nat×az))(w:W)(h:HH):Option Fl:=match w with
 |.p d=>match unpack xs.length d with|some J=>aa (.nx (sets xs J s) h)|none=>af
 |_=>af
@[simp]def Pu(s:Sl)(i:Nat)(o:Bin)(w:W)(h:HH):Option Fl:=match s[i]?,w with
 |some (aa (.p d)),.p d'=>(qF o d d').map λz=>.nx (s.set i (aa (.p z))) h
 |_,_=>af
@[simp]def Jx(s:Sl)(n:Nat)(d:D)(q:W)(h:HH):Option Fl:=match q,lat h n with
 |.p (.int j),aa xs=>match place xs.length j with
  |some m=>aa (.nx s (h.set n (.l (xs.set m d))))|none=>af
 |_,_=>af
@[simp]def Lb(J:EH)(s:Sl)(i:Nat)(w:W)(h:HH):Option Fl:=match w,s[i]? with
 |.p d,aa (aa (.r n))=>bnd (J h) (Jx s n d)|_,_=>af
def Dp(s:Sl)(n:Nat)(d:D)(q:W)(h:HH):Option Fl:=match q with
 |.p k=>(dat h n).bind λJ=>(sj k).bind λy=>if J.length<lim then aa (.nx s (h.set n (.d (Js J y d))))else af
 |_=>af
@[simp]theorem Pv(s:Sl)(n:Nat)(d k:D)(h:HH):Dp s n d (.p k) h=(dat h n).bind λkvs=>(sj k).bind λy=>if kvs.length<lim then aa (.nx s (h.set n (.d (Js kvs y d))))else af:=rfl
def Vn(J:EH)(s:Sl)(i:Nat)(w:W)(h:HH):Option Fl:=match w,s[i]? with
 |.p d,aa (aa (.r n))=>bnd (J h) (Dp s n d)|_,_=>af
def uu(s:Sl)(f:az)(v:W)(x:W)(h:HH):Option Fl:=match x with
 |.o n=>match oat h n with
  |some (c,fs)=>if attrOk v&&fs.length<1000 then aa (.nx s (h.set n (.o c (fR f v fs))))else af
  |none=>af
 |_=>af
@[simp]theorem Dq(s:Sl)(f:az)(v:W)(n:Nat)(h:HH):uu s f v (.o n) h=match oat h n with
 |some (c,fs)=>if attrOk v&&fs.length<1000 then aa (.nx s (h.set n (.o c (fR f v fs))))else af
 |none=>af:=rfl
def Dr(J:EH)(s:Sl)(f:az)(v:W)(h:HH):Option Fl:=bnd (J h) (uu s f v)
@[simp]theorem Ds(J:EH)(s:Sl)(f:az)(v:W)(h:HH):Dr J s f v h=bnd (J h) (uu s f v):=rfl
def uv(s:Sl)(f:az)(J:Bin)(n:Nat)(c:az)(d:D)(v:W)(h:HH):Option Fl:=match v,oat h n with
 |.p e,aa (c',fs)=>match qF J d e with
  |some z=>if c'=c/\fs.length<1000 then aa (.nx s (h.set n (.o c' (fR f (.p z) fs))))else af
  |none=>af
 |_,_=>af
@[simp]theorem Dt(s:Sl)(f:az)(J:Bin)(n:Nat)(c:az)(d e:D)(h:HH):uv s f J n c d (.p e) h=match oat h n with
 |some (c',fs)=>match qF J d e with
  |some z=>if c'=c/\fs.length<1000 then aa (.nx s (h.set n (.o c' (fR f (.p z) fs))))else af
  |none=>af
 |none=>af:=by unfold uv;cases oat h n<;>rfl
def zw(L:EH)(s:Sl)(f:az)(J:Bin)(x:W)(h:HH):Option Fl:=match x with
 |.o n=>match oat h n with
  |some (c,fs)=>match eN f fs with
   |some (.p d)=>bnd (L h) (uv s f J n c d)|_=>af
  |none=>af
 |_=>af
@[simp]theorem GR(L:EH)(s:Sl)(f:az)(J:Bin)(n:Nat)(h:HH):zw L s f J (.o n) h=match oat h n with
 |some (c,fs)=>match eN f fs with
  |some (.p d)=>bnd (L h) (uv s f J n c d)|_=>af
 |none=>af:=rfl
@[simp]noncomputable def kEx(s:Sl)(_:W)(h:HH):Option Fl:=aa (.nx s h)
@[simp]def Be(w:W)(h:HH):Option Fl:=aa (.rt w h)
@[simp]noncomputable def kIf(L J:HH->Option Fl)(t:Bool)(h:HH):Option Fl:=if t then L h else J h
def kT(L:Sr)(q:Nat)(h:HH):Option (List D):=(lat h q).bind λJ=>gc L [.aj J]
open Classical in
def su(J:Sr)(q:Nat)(ds:List D)(b:Sl->HH->Option Fl)(s:Sl)(h:HH):Option Fl:=match b s h with
 |some (.nx s h)=>if kT J q h=aa ds then aa (.nx s h)else af
 |some (.ct s h)=>if kT J q h=aa ds then aa (.ct s h)else af
 |x=>x
def zx(b:Sl->HH->Option Fl)(tg:List (Nat×az))(J:Sr)(s:Sl)(ws:List W)(ds:List D)(h:HH):Option Fl:=match ws,J with
 |[.r q],.seq=>gj (su .seq q ds b) tg ds s h|[.r q],.enu=>gj (su .enu q ds b) tg ds s h|_,_=>af
@[simp]def kFor(b:Sl->HH->Option Fl)(tg:List (Nat×az))(J:Sr)(s:Sl)(ws:List W)(h:HH):Option Fl:=match (rds ws h).bind (gc J)with
 |some L=>if gU ws then gj b tg L s h else zx b tg J s ws L h
 |none=>af
@[simp]def evS:S->Sl->HH->Option Fl
 |.nil,s,h=>aa (.nx s h)|.seq a b,s,h=>ly (evS a s h) (evS b)|.set i e,s,h=>bnd (ev F G e s h) (Do s i)|.unp xs e,s,h=>bnd (ev F G e s h) (La s xs)|.aug i o e,s,h=>bnd (ev F G e s h) (Pu s i o)|.put i k e,s,h=>bnd (ev F G e s h) (Lb (ev F G k s) s i)|.setf o f e,s,h=>bnd (ev F G e s h) (Dr (ev F G o s) s f)|.augf o f op e,s,h=>bnd (ev F G o s h) (zw (ev F G e s) s f op)|.ex e,s,h=>bnd (ev F G e s h) (kEx s)|.ret e,s,h=>bnd (ev F G e s h) Be|.v c a b,s,h=>tst (ev F G c s h) (kIf (evS a s) (evS b s))|.j c b,s,h=>eU (ev F G c) (evS b) turns s h|.for tg sr sa b,s,h=>bnd (evs F G sa s h) (kFor (evS b) tg sr s)|.brk,s,h=>aa (.bk s h)|.cnt,s,h=>aa (.ct s h)|.bad,_,_=>af|.rai _ _,_,_=>af|.rai2 _ _ _,_,_=>af
open Classical in
def fin(h:HH)(w:W)(h':HH):Option (W×HH) :=
 if h'.length=h.length then aa (w,h')
 else if h'.take h.length=h then (match w with
  |.p d=>aa (.p d,h)
  |.r n=>if n<h.length then aa (.r n,h)else(lat h' n).map λJ=>(.p (.aj J),h)
  |.o n=>if n<h.length then aa (.o n,h)else aa (.o n,h')
  |.k _=>af|.c _ _=>af
  | .x _=>af)
 else aa (w,h')
@[simp]noncomputable def dX(n:Nat)(ws:List W):Sl:=ws.map aa++V3 (n-ws.length) af
def iW(x:Option Fl)(k:W->HH->Option (W×HH)):Option (W×HH):=match x with
 |some (.rt w h)=>k w h|some (.nx _ h)=>k (.p .aC) h|_=>af
@[simp]theorem nI(w:W)(h:HH)(k:W->HH->Option (W×HH)):iW (aa (.rt w h)) k=k w h:=rfl
@[simp]theorem Sb(s:Sl)(h:HH)(k:W->HH->Option (W×HH)):iW (aa (.nx s h)) k=k (.p .aC) h:=rfl
@[simp]theorem Bf(k:W->HH->Option (W×HH)):iW af k=af:=rfl
end
section
variable(T:FK->Option Fn)(G:az->Option W)
def runN:Nat->FK->List W->HH->Option (W×HH)
 |0,_,_,_=>af
 |k+1,f,ws,h=>match T f with
  |some fn=>if ws.length=fn.ps.length then iW (evS (runN k) G fn.body (dX fn.ns.length ws) h) (fin h)else af
  |none=>af
def run_eq{T:FK->Option Fn}{G:az->Option W}{f:FK}{fn:Fn}{ws:List W}{h:HH}{k:Nat}(L:T f=aa fn)(J:ws.length=fn.ps.length):
 runN T G (k+1) f ws h=iW (evS (runN T G k) G fn.body (dX fn.ns.length ws) h) (fin h):=by
 rw[runN,L];exact bK J
end
def TM:Fn:=⟨["state","thing"],["state","thing"],.ret (.call "worth_in" (cU (.v 0) (.v 1)))⟩
def TN:Fn:=⟨["state","thing","worth"],["state","thing","worth"],.ret (.z .ne (.call "worth_in" (cU (.v 0) (.v 1))) (.v 2))⟩
def TQ:Fn:=⟨["state","thing","worth"],["state","thing","worth"],.ret (.z .ne (.call "worth_in" (cU (.v 0) (.v 1))) (.v 2))⟩
def TR:Fn:=⟨["state","term"],["state","term"],.ret (.call "reckoned" (cU (.v 1) (.v 0)))⟩
def TU:Fn:=⟨["state","term"],["state","term"],.ret (.z .ne (.call "reckoned" (cU (.v 1) (.v 0))) (.j (.int 0)))⟩
def TV:Fn:=⟨["state","term"],["state","term"],.ret (.z .ne (.call "reckoned" (cU (.v 1) (.v 0))) (.j (.int 0)))⟩
noncomputable def TY:Fn:=⟨["state"],["state"],.ret (.y (.v 0) (.aD "ROW"))⟩
noncomputable def TZ:Fn:=⟨["state","row"],["state","row"],.ret (.z .eq (.y (.v 0) (.aD "ROW")) (.v 1))⟩
def T3:Fn:=⟨["state","number"],["state","number"],.ret (.z .gt (.bi .len ai (cV (.y (.v 0) (.aD "SAID")))) (.v 1))⟩
def T4:Fn:=⟨["state","bound"],["state","bound"],.ret (.z .le (.call "open_in" (cV (.v 0))) (.v 1))⟩
def Pw:Fn:=⟨["state","bound"],["state","bound"],.ret (.z .le (.call "open_in" (cV (.v 0))) (.v 1))⟩
noncomputable def Px:Fn:=⟨["state","wanted"],["state","wanted"],.ret (.and (.z .eq (.y (.v 0) (.aD "NAMES")) (.y (.v 1) (.aD "NAMES"))) (.z .eq (.y (.v 0) (.aD "CELLS")) (.y (.v 1) (.aD "CELLS"))))⟩
def Py:Fn:=⟨["state","tape","thing"],["state","tape","thing"],.ret (.z .eq (.call "written_next" (cU (.v 1) (.v 0))) (.v 2))⟩
noncomputable def Pz:Fn:=⟨[],[],.ret (.j .aC)⟩
noncomputable def PB:Fn:=⟨[],[],.ret (.j .aC)⟩
def Lc(i:Nat):Option Fn:=([TM,TN,TQ,TR,TU,TV,TY,TZ,T3,T4,Pw,Px,Py,Pz,PB]:List Fn)[i]?
noncomputable def jF:List az:=["worths_of","last_change","next_change","moments_so","last_so","next_so","visits","last_visit","when_said","next_within","last_within","first_other","writer_of","judged","remade"]
def Jy(i:Nat):az:=jF.getD i ""
noncomputable def jm(x:az):az:="<"++x++">"
end BT
end
open BT renaming ev->aK,HH->aL,W->aM,D->aN,runN->aO,evS->aP,rds->aQ,fm->aR,meW->aS,eqv->aT,evs->aU,E->aV,Es->aW,Fn->aX,rd->aY,lat->aZ,Sl->bf,target->bq,dW->bw,oat->bz,FK->bA,dw->bB,Sr->bC,bnd->bD,Bin->bE,mU->bF,frees->bG,gY->bH,dX->bI,gc->bJ
section
namespace BS
open PySem PySem.Spec PyProof.Rows L2
variable{K:VE}
def dP{J:Type}{c:Prop}[Decidable c]{a b:J}(h:(if c then aa a else af)=aa b):c/\a=b:=by
 by_cases z:c
 rw[bK z]at h;exact⟨z,VN h⟩;rw[bL z]at h;exact nomatch h
def cW{J:Type}{a:J}{P:Prop}(h:(af:Option J)=aa a):P:=nomatch h
noncomputable def attrName(f:az):Bool:=(["program","asked","gap","most","kept","farthest","front","now","origins","branches","tape","named"]:List az).contains f
def vX:BT.Bi->Option (String×(aN->Bool))
 |.isInt=>aa ("int",BT.isI)|.isBool=>aa ("bool",BT.isB)|.isStr=>aa ("str",BT.isS)|.isTuple=>aa ("tuple",BT.isT)|_=>af
noncomputable def vY(sc:Wv)(x:az):Bool:=match sc.names.lookup x with
 |some .local=>ah|some .cell=>ah|some .free=>ah|_=>ai
noncomputable def d7(sc:Wv)(x:az):Bool:=sc.names.lookup x==aa .globalImplicit
noncomputable def dR(x:az):Bool:=!(x=="__debug__")&&!(x=="__classdict__")&&!(x=="__name__")
noncomputable def noStar:VI->Bool
 |.Starred _ _=>ai|_=>ah
noncomputable def nJ:VI->Bool
 |.Slice _ _ _ _=>ai|_=>ah
noncomputable def eH:VI->Bool
 |.Name _ _=>ah|.Constant _ _ _=>ah|.Subscript _ _ _=>ah|.Attribute _ _ _=>ah|.Call (.Attribute _ _ _) _ _ _=>ah|.Dict _ _ _=>ah|_=>ai
noncomputable def PC:bE->Zt
 |.add=>.Add|.sub=>.Sub|.mul=>.Mult|.mod=>.Mod|.fdiv=>.FloorDiv
def Jz(o:bE)(J:Zt):Bool:=decide (J=PC o)
noncomputable def T5:BT.Cm->CmpOp
 |.eq=>.Eq|.ne=>.NotEq|.lt=>.Lt|.le=>.LtE|.gt=>.Gt|.ge=>.GtE|.isN=>.Is|.notN=>.IsNot|.mem=>.In|.nmem=>.NotIn
def GS(o:BT.Cm)(J:CmpOp):Bool:=decide (J=T5 o)
noncomputable def JA:aN->Const->Bool
 |.aC,.none=>ah|.bl a,.bool b=>a==b|.int i,.int j=>i==j|.str x,.str y=>x==y&&PyData.strOk x|_,_=>ai
noncomputable def Du:BT.Bi->Bool->Option az
 |.len,ai=>aa "len"|.int,ai=>aa "int"|.list,_=>aa "list"|.tuple,ai=>aa "tuple"|.min1,ai=>aa "min"|_,_=>af
def JB(b:BT.Bi)(mu:Bool)(x:az):Bool:=Du b mu==aa x
noncomputable def Dv:BT.Bi->az->Bool
 |.min2,x=>x=="min"|.max2,x=>x=="max"|_,_=>ai
noncomputable def GT:VI->Option Const
 |.Constant c _ _=>aa c|_=>af
noncomputable def cInt:Const->Option Int
 |.int j=>aa j|_=>af
noncomputable def unE:VI->Option VI
 |.UnaryOp o e _=>if o=.USub then aa e else af
 |_=>af
def uw(k:Int)(e:VI):Bool:=((GT e).bind cInt==aa k&&decide (0<k))||(((unE e).bind GT).bind cInt==aa (-k)&&decide (k<0))
noncomputable def Dw:BT.Me->az
 |.append=>"append"|.pop=>"pop"|.extend=>"extend"|.tindex=>"index"|.sindex=>"index"|.dget=>"get"|.count=>"count"|.lindex=>"index"
noncomputable def yf:aV->Bool
 |.aD _=>ah|_=>ai
def Ld(m:BT.Me)(o:aV):Bool:=match m with
 |.append=>ah|.pop=>ah|.extend=>ah|.sindex=>ah|.tindex=>yf o|.dget=>ai|.count=>ah|.lindex=>ah
noncomputable def lB(c:az):Bool:=(["NoMoment","NoThing","NoRun","NoText"]:List az).contains c
def Dy(J:az):Bool:=lB J||J=="ValueError"
noncomputable def gk(N:List az):Bool:=!N.contains "_law_flags"
noncomputable def tOK:aV->Bool
 |.ite _ _ _=>ai|.not a=>tOK a|.and a b=>tOK a&&tOK b|.or a b=>tOK a&&tOK b|.aB _=>ai|.aj _ _=>ai|.obl _=>ai|.comp _ _ _ _ _ _ _=>ai|_=>ah
noncomputable def jQ:VI->Bool
 |.Set _ _ _=>ai|_=>ah
noncomputable def pq:bC->VI->Bool
 |.zip2,.Tuple _ _ _=>ah|.enu,.Tuple _ _ _=>ah|.itm,.Tuple _ _ _=>ah|.zipG,.Tuple _ _ _=>ah|.zip2,_=>ai|.enu,_=>ai|.itm,_=>ai|.zipG,_=>ai|_,_=>ah
noncomputable def fc(scope sc:Wv):Wv :=
 {scope with names:=scope.names.map λ(n,k)=>if(k==.free&&sc.kind==.function&&sc.names.lookup n==aa .cell)then(n,.cell)else(n,k)}
noncomputable def nmE:VI->Option az
 |.Name y _=>aa y|_=>af
noncomputable def Lf:VI->List VI
 |.Tuple J _ _=>J|_=>[]
def qR(sc:Wv)(tg:List az)(te:VI):Bool:=((tg.map aa==[nmE te])||(Nat.ble 2 tg.length&&tg.map aa==(Lf te).map nmE))&&tg.all λx=>sc.names.lookup x==aa .local
noncomputable def qS:List az->Bool
 |[]=>ah|x::r=>!r.contains x&&qS r
def ku(sc:Wv)(N:List az)(tg:List az)(J:List (Nat×az))(scope:Wv):Bool :=
 scope.kind==.function&&sc.kind==.function&&scope.names.all (λy=>!(y.2==.cell))&&scope.names.all (λy=>!(y.2==.local)||scope.names.lookup y.1==aa .local) &&
 scope.names.all (λy=>!(y.2==.free)||sc.names.lookup y.1==aa .cell) &&
 J.all (λq=>N[q.1]?==aa q.2&&scope.names.contains (q.2,.free)&&sc.names.lookup q.2==aa .cell&&(fc scope sc).names.lookup q.2==aa .cell)&&qS (tg++J.map (·.2))
noncomputable def dlQ:aN->PyData
 |.str x=>.str x|.int i=>.int i|_=>.none
noncomputable def PD:aN->Bool
 |.str x=>PyData.strOk x|.int _=>ah|_=>ai
def dlD(kvs:List (az×aN)):List (PyData×PyData):=kvs.map λp=>(.str p.1,dlQ p.2)
def dlV:List (az×aN)->Bool
 |[]=>ah|p::r=>PyData.strOk p.1&&PD p.2&&dlV r
def dlB(kvs:List (az×aN))(J:List (Option VI))(L:List VI):Bool:=dlV kvs&&(J.all λx=>x.isSome)&&decide (J.length=L.length)&&!J.isEmpty&&decide (J.length<=15)&&decide (kvs.length<=15)
inductive Tq
 |e(a:aV)(x:VI)|es(as:aW)(xs:List VI)|o(as:aW)(x:Option VI)|c(as:aW)(xs:List VI)|i(J:bC)(L:aW)(x:VI)
set_option autoImplicit true in
class inductive CQ:Wv->List az->Tq->Prop where
 |v(h1:N[i]?=aa x)(h2:vY sc x=ah)(J:dR x=ah):CQ sc N (.e (.v i) (.Name x p))
 |j(h:JA d c=ah):CQ sc N (.e (.j d) (.Constant c k p))
 |aD(h2:d7 sc x=ah)(J:dR x=ah):CQ sc N (.e (.aD x) (.Name x p))
 |bin(h:Jz o op=ah)(L:CQ sc N (.e a l))(J:CQ sc N (.e b r)):CQ sc N (.e (.bin o a b) (.BinOp l op r p))
 |neg(J:CQ sc N (.e a x)):CQ sc N (.e (.neg a) (.UnaryOp .USub x p))
 |not(J:CQ sc N (.e a x)):CQ sc N (.e (.not a) (.UnaryOp .Not x p))
 |and2(L:CQ sc N (.e a x))(J:CQ sc N (.e b y)):CQ sc N (.e (.and a b) (.BoolOp .And [x,y] p))
 |and3(L:CQ sc N (.e a x))(J:CQ sc N (.e b (.BoolOp .And (y::z::r) p))):CQ sc N (.e (.and a b) (.BoolOp .And (x::y::z::r) p))
 |or2(L:CQ sc N (.e a x))(J:CQ sc N (.e b y)):CQ sc N (.e (.or a b) (.BoolOp .Or [x,y] p))
 |or3(L:CQ sc N (.e a x))(J:CQ sc N (.e b (.BoolOp .Or (y::z::r) p))):CQ sc N (.e (.or a b) (.BoolOp .Or (x::y::z::r) p))
 |z(h:GS o op=ah)(L:CQ sc N (.e a l))(J:CQ sc N (.e b r))(O:abc op r=ai):CQ sc N (.e (.z o a b) (.Compare l [op] [r] p))
 |chain(h:GS o op=ah)(h':GS o' op'=ah)(L:CQ sc N (.e a l))(J:CQ sc N (.e b r))(hc:CQ sc N (.e c r'))(O:lastMarks [op,op'] [r,r']=ai):CQ sc N (.e (.chain o o' a b c) (.Compare l [op,op'] [r,r'] p))
 |ite(h:tOK c=ah)(hc:CQ sc N (.e c t))(L:CQ sc N (.e a x))(J:CQ sc N (.e b y)):CQ sc N (.e (.ite c a b) (.IfExp t x y p))
 |aB(h:CQ sc N (.es as es)):CQ sc N (.e (.aB as) (.Tuple es k p))
 |aj(h:CQ sc N (.es as es)):CQ sc N (.e (.aj mu as) (.List es p))
 |y(L:CQ sc N (.e a x))(hi:CQ sc N (.e i sl))(J:nJ sl=ah):CQ sc N (.e (.y a i) (.Subscript x sl p))
 |n{lo:aW}(L:CQ sc N (.e a x))(J:CQ sc N (.o lo l))(O:CQ sc N (.o hi u)):CQ sc N (.e (.n a lo hi) (.Subscript x (.Slice l u af p2) p))
 |call(J:d7 sc f=ah)(hn:dR f=ah)(L:CQ sc N (.es as es)):CQ sc N (.e (.call f as) (.Call (.Name f np) es [] p))
 |bi(V:gk N=ah)(O:JB b mu x=ah)(L:d7 sc x=ah)(J:noStar e=ah)(U:CQ sc N (.e a e)):CQ sc N (.e (.bi b mu (.cons a .nil)) (.Call (.Name x np) [e] [] p))
 |inst(U:vX b=aa (c,f))(O:d7 sc "isinstance"=ah)(J:d7 sc (VQ c)=ah)(L:noStar e=ah)(V:CQ sc N (.e a e)):
  CQ sc N (.e (.bi b ai (.cons a .nil)) (.Call (.Name "isinstance" np) [e,.Name (VQ c) p2] [] p))
 |isx(V:Dy cn=ah)(hn:dR cn=ah)(O:d7 sc "isinstance"=ah)(J:d7 sc cn=ah)(L:noStar e=ah)(U:CQ sc N (.e a e)):
  CQ sc N (.e (.isx cn a) (.Call (.Name "isinstance" np) [e,.Name cn p2] [] p))
 |me(h1:Ld m o=ah)(h2:name=Dw m)(L:eH oe=ah)(O:(apos.endLine==cpos.line)=ah)(U:es.length<20)(J:CQ sc N (.e o oe))(V:CQ sc N (.es as es)):
  CQ sc N (.e (.me m o as) (.Call (.Attribute oe name apos) es [] cpos))
 |comp{cond:aW}
  (V:gk N=ah) (U:ku sc N tg fv scope=ah) (O:qR (fc scope sc) tg te=ah) (hz:pq sr te=ah) (J:jQ iter=ah) (hi:CQ sc N (.i sr sa iter))
  (hc:CQ (fc scope sc) (tg++fv.map (·.2)) (.c cond ifs)) (L:CQ (fc scope sc) (tg++fv.map (·.2)) (.e elt elt')):CQ sc N (.e (.comp mu sr sa tg fv cond elt) (.ListComp elt' [⟨te,iter,ifs,0⟩] scope pos))
 |i(L:eH x=ah)(J:attrName f=ah)(O:CQ sc N (.e a x)):CQ sc N (.e (.i a f) (.Attribute x f p))
 |aE(L:eH oe=ah)(O:(apos.endLine==cpos.line)=ah)(U:es.length<20)(J:CQ sc N (.e o oe))(V:CQ sc N (.es as es)):
  CQ sc N (.e (.aE o m as) (.Call (.Attribute oe m apos) es [] cpos))
 |stp(J:uw k se=ah)(L:CQ sc N (.e a x)):CQ sc N (.e (.stp mu k a) (.Subscript x (.Slice af af (aa se) p2) p))
 |bi2(V:gk N=ah)(U:Dv b x=ah)(O:d7 sc x=ah)(L:noStar e1=ah)(J:noStar e2=ah)(h1:CQ sc N (.e a1 e1))(h2:CQ sc N (.e a2 e2)):
  CQ sc N (.e (.bi b ai (.cons a1 (.cons a2 .nil))) (.Call (.Name x np) [e1,e2] [] p))
 |make(J:d7 sc c=ah)(hn:dR c=ah)(L:CQ sc N (.es as es)):CQ sc N (.e (.make c as) (.Call (.Name c np) es [] p))
 |cat(L:CQ sc N (.e a x))(J:CQ sc N (.e b y)):CQ sc N (.e (.cat a b) (.BinOp x .Add y p))
 |obl(J:noStar e=ah)(h:CQ sc N (.e a e)):CQ sc N (.e (.obl a) (.List [e] p))
 |oba(O:eH oe=ah)(U:(apos.endLine==cpos.line)=ah)(J:noStar e=ah)(L:CQ sc N (.e o oe))(V:CQ sc N (.e a e)):CQ sc N (.e (.oba o a) (.Call (.Attribute oe "append" apos) [e] [] cpos))
 |obi(L:CQ sc N (.e a x))(hi:CQ sc N (.e i sl))(J:nJ sl=ah):CQ sc N (.e (.obi a i) (.Subscript x sl p))
 |obn(L:d7 sc "len"=ah)(J:noStar e=ah)(h:CQ sc N (.e a e)):CQ sc N (.e (.obn a) (.Call (.Name "len" np) [e] [] p))
 |sup(J:d7 sc c=ah)(hn:dR c=ah)(U:(apos.endLine==cpos.line)=ah)(L:(e::es).length<20)(O:CQ sc N (.es as (e::es))):CQ sc N (.e (.sup c as) (.Call (.Attribute (.Name c np) "__init__" apos) (e::es) [] cpos))
 |es_nil:CQ sc N (.es .nil [])
 |es_cons(J:noStar e=ah)(O:CQ sc N (.e a e))(L:CQ sc N (.es as es)):CQ sc N (.es (.cons a as) (e::es))
 |o_nil:CQ sc N (.o .nil af)
 |o_one(J:CQ sc N (.e a e)):CQ sc N (.o (.cons a .nil) (aa e))
 |c_nil:CQ sc N (.c .nil [])
 |c_one(J:tOK a=ah)(L:CQ sc N (.e a e)):CQ sc N (.c (.cons a .nil) [e])
 |rng1(L:d7 sc "range"=ah)(J:noStar e=ah)(h:CQ sc N (.e a e)):CQ sc N (.i .rng1 (.cons a .nil) (.Call (.Name "range" p) [e] [] pos))
 |rng2(O:d7 sc "range"=ah)(L:noStar x=ah)(J:noStar y=ah)(V:CQ sc N (.e a x))(U:CQ sc N (.e b y)):CQ sc N (.i .rng2 (.cons a (.cons b .nil)) (.Call (.Name "range" p) [x,y] [] pos))
 |rev(L:d7 sc "reversed"=ah)(J:noStar e=ah)(h:CQ sc N (.e a e)):CQ sc N (.i .rev (.cons a .nil) (.Call (.Name "reversed" p) [e] [] pos))
 |enu(L:d7 sc "enumerate"=ah)(J:noStar e=ah)(h:CQ sc N (.e a e)):CQ sc N (.i .enu (.cons a .nil) (.Call (.Name "enumerate" p) [e] [] pos))
 |seq(h:CQ sc N (.e a x)):CQ sc N (.i .seq (.cons a .nil) x)
noncomputable abbrev CE'(sc:Wv)(N:List az)(a:aV)(x:VI):Prop:=CQ sc N (.e a x)
noncomputable abbrev CEs(sc:Wv)(N:List az)(as:aW)(xs:List VI):Prop:=CQ sc N (.es as xs)
noncomputable abbrev CC(sc:Wv)(N:List az)(as:aW)(xs:List VI):Prop:=CQ sc N (.c as xs)
noncomputable abbrev CI(sc:Wv)(N:List az)(J:bC)(L:aW)(x:VI):Prop:=CQ sc N (.i J L x)
inductive LPa:aaD->List az->Prop
 |one{p:Pos}:LPa ⟨[],[⟨"state",af,p⟩],af,[],[],af,[]⟩ ["state"]
 |two{p q:Pos}:LPa ⟨[],[⟨"row",af,p⟩,⟨"state",af,q⟩],af,[],[],af,[]⟩ ["row","state"]
def Dz(ps fs:List az)(sc:Wv):Bool :=
 sc.kind==.function&&!sc.isCoroutine&&!sc.isGenerator&&sc.names.all (λy=>!(y.2==.cell))&&ps.all (λx=>sc.names.lookup x==aa .local) &&
 fs.all (λx=>sc.names.lookup x==aa .free&&sc.names.contains (x,.free))&&sc.names.all (λy=>!(y.2==.free)||fs.contains y.1)&&qS (ps++fs)
noncomputable def PF(sc:Wv)(N:List az)(J:List (Nat×az)):Bool:=J.all λq=>N[q.1]?==aa q.2&&sc.names.lookup q.2==aa .cell
inductive CL(sc:Wv)(N:List az):aV->az->aW->Nat->List (Nat×az)->VI->Prop
 |zero{o V:aV}{m:az}{L:Nat}{J:List (Nat×az)}{U Y:VI}{apos cpos Z:Pos}{W:aaD}{scope:Wv}{O ps:List az}(hl:BT.Lc L=aa ⟨O,O,.ret V⟩)(hp:LPa W ps)(hn:O=ps++J.map (·.2))(hk:Dz ps (J.map (·.2)) scope=ah)(hv:PF sc N J=ah)
  (ht:N.contains (BT.jm (BT.Jy L))=ah) (hc:CE' scope O V Y) (h3:eH U=ah) (h6:(apos.endLine==cpos.line)=ah) (ho:CE' sc N o U):CL sc N o m .nil L J (.Call (.Attribute U m apos) [.Lambda W Y scope Z] [] cpos)
 |one{o W a:aV}{m:az}{L:Nat}{J:List (Nat×az)}{U Y e:VI}{apos cpos Z:Pos}{V:aaD}{scope:Wv}{O ps:List az}(hl:BT.Lc L=aa ⟨O,O,.ret W⟩)(hp:LPa V ps)(hn:O=ps++J.map (·.2))(hk:Dz ps (J.map (·.2)) scope=ah)(hv:PF sc N J=ah)
  (ht:N.contains (BT.jm (BT.Jy L))=ah) (hc:CE' scope O W Y) (h3:eH U=ah) (h6:(apos.endLine==cpos.line)=ah) (ho:CE' sc N o U) (hs:noStar e=ah) (ha:CE' sc N a e):CL sc N o m (.cons a .nil) L J (.Call (.Attribute U m apos) [e,.Lambda V Y scope Z] [] cpos)
def KT(K:VE)(a:VS)(xs:List V):Prop :=
 ∃(o:aq) (J:Array aA) (n:Nat),(K.lookup a=aa o/\o.cls=.type "tuple"/\o.data=.seq J n/\J.size<=ak/\dJ xs J.toList)/\o.dict=af
def KL(K:VE)(a:VS)(xs:List V):Prop:=∃(J:List aA) (n:Nat),K.lookup a=aa {cls:=.type "list",data:=.seq J.toArray n}/\J.length<=ak/\dJ xs J
def LL(K:VE)(H:Hp)(a:VS)(xs:List V):Prop:=Rd H a (.aj xs)\/KL K a xs
def LL.sq(h:LL K H a xs):SqL K H a xs:=by
 rcases h with h|⟨its,n,h1,h2,h3⟩
 exact .inl h;exact .inr ⟨_,its.toArray,n,h1,rfl,rfl,rfl,by simpa using h2,by simpa using h3⟩
def KD(P:VV)(w:Wj)(K:VE)(a:VS)(es:List (az×V)):Prop :=
 (a==Yd)=ai/\∃J:List (Key×aA),KV (es.map λq=>(Sum.inr q.1,q.2)) J/\∀h:au,K.In h->h.DictOf (ef P w) a J
mutual
inductive RD(K:VE)(m:List VS)(H:Hp):V->aN->Prop
 |aC:RD K m H .aC .aC
 |bl(b:Bool):RD K m H (.bl b) (.bl b)
 |int(i:Int):RD K m H (.int i) (.int i)
 |str(x:az)(h:PyData.strOk x=ah):RD K m H (.str x) (.str x)
 |aB{a:VS}{vs:List V}{ds:List aN}(h:(Rd H a (.aB vs)/\a∉m)\/KT K a vs)(r:RDs K m H vs ds):RD K m H (.ref a) (.aB ds)
 |aj{a:VS}{vs:List V}{ds:List aN}(h:(Rd H a (.aj vs)/\a∉m)\/KL K a vs)(r:RDs K m H vs ds):RD K m H (.ref a) (.aj ds)
inductive RDs(K:VE)(m:List VS)(H:Hp):List V->List aN->Prop
 |nil:RDs K m H [] []
 |cons{v:V}{d:aN}{vs:List V}{ds:List aN}(r:RD K m H v d)(t:RDs K m H vs ds):RDs K m H (v::vs) (d::ds)
end
inductive RDk(K:VE):List (az×V)->List (az×aN)->Prop
 |nil:RDk K [] []
 |cons{x:az}{v:V}{d:aN}{es:List (az×V)}{kvs:List (az×aN)}(r:∀m H,RD K m H v d)(t:RDk K es kvs):RDk K ((x,v)::es) ((x,d)::kvs)
inductive RA(K:VE)(m:List VS)(H:Hp):V->aM->Prop
 |p{v:V}{d:aN}(r:RD K m H v d):RA K m H v (.p d)
 |r{a:VS}{n:Nat}(h:m[n]?=aa a):RA K m H (.ref a) (.r n)
 |o{a:VS}{n:Nat}(h:m[n]?=aa a):RA K m H (.ref a) (.o n)
def Tr(m:List VS)(H:Hp)(a:VS)(o:aq):Prop:=H a=aa (.frz o (.own 0))/\a∉m
noncomputable def T6(x:az):az:=x++".<locals>."++"<lambda>"
inductive yg(m:List VS)(H:Hp)(cl:List (az×VS)):List az->List V->Prop
 |nil:yg m H cl [] []
 |cons{x:az}{c:VS}{o:aq}{u:aA}{v:V}{xs:List az}{vs:List V}(h1:cl.lookup x=aa c)(h2:Tr m H c o)(J:o.data=.cell (aa u))(r:RelV v u)(t:yg m H cl xs vs):yg m H cl (x::xs) (v::vs)
inductive qT(m:List VS)(H:Hp)(f:VS)(L:Nat)(vs:List V):Prop
 |mk(O:_)(ps:_)(fs:_)(U:_)(Y:_)(sc:_)(cl:_)(pm:_)(J:_)(c':_)(oc:_)(os:_)(t:_)(q:_)(h1:BT.Lc L=aa ⟨ps++fs,ps++fs,.ret O⟩)(h2:LPa U ps)(h3:Dz ps fs sc=ah)(h4:CE' sc (ps++fs) O Y)(h5:(∀x y c,cl.lookup x=aa c->cl.lookup y=aa c->x=y))(h6:(∀x c,cl.lookup x=aa c->x∈fs))(h7:Tr m H f (PySem.W.kla_obj "<lambda>" q U Y sc cl pm c' J))(h8:Tr m H c' oc)(h9:oc.data=.fields os)(Z:os[1]?=aa (.str q t))(h11:yg m H cl fs vs):qT m H f L vs
inductive RCs(K:VE)(m:List VS)(H:Hp):List V->List BT.Cp->Prop
 |nil:RCs K m H [] []
 |cons{v:V}{x:BT.Cp}{vs:List V}{xs:List BT.Cp}(r:RA K m H v x.w)(t:RCs K m H vs xs):RCs K m H (v::vs) (x::xs)
def TB(K:VE)(H:Hp):Prop:=∀x∈BT.jF,∀c P,W4 K x=aa (c,P)->∃J,H P=aa (.tbl J)/\TriplesOk J.toList ∧
 ∀L v,codeAmong L J.toList=aa v->∃U O os t,v=.ref U/\H U=aa (.frz O (.own 0))/\O.data=.fields os/\os[1]?=aa (.str (T6 x) t)
def TB.mono(h:TB K H)(h1:∀P ps,H P=aa (.tbl ps)->H' P=aa (.tbl ps))(h2:∀a o vs,o.data=.fields vs->H a=aa (.frz o (.own 0))->H' a=aa (.frz o (.own 0))):TB K H':=λx W c P e=>by obtain⟨ps,e1,e2,Y⟩:=h x W c P e;refine⟨ps,h1 _ _ e1,e2,λJ v q=>?_⟩;obtain⟨Z,V,os,t,U,O,L⟩:=Y J v q;exact⟨Z,V,os,t,U,h2 _ _ _ L.1 O,L⟩
def CN(K:VE)(c:az)(C:VS):Prop:=Wp K VW c=aa (aa (.ref C))
structure XT(K:VE)(c:az)(C:VS):Prop where
 ga:Wc K (.ref C) "__getattribute__"=aa (aa (.builtin "BaseException.__getattribute__"))
 nga:Wc K (.ref C) "__getattr__"=aa af
 mrb:Zh K C (.type "BaseException")=aa ah
 dct:Xn K C=ah
 fnd:Wc K (.ref C) "__class__"=aa (aa (.builtin "object.__class__"))
 spc:Xm K (.builtin "object.__class__") "__get__"=aa (aa (.builtin "getset_descriptor.__get__"))
 tak:YM K (.builtin "object.__class__")=aa ah
 mro:Zh K C (.type "object")=aa ah
 own:∀cn,lB cn=ah->BT.ur c cn=ah->∃D,CN K cn D/\WX K (.ref C) (.ref D)=aa (BT.nG c cn)
 val:WX K (.ref C) (.type "ValueError")=aa ah
def excAt(K:VE)(c:az)(a:VS):au->Prop:=λh=>∃o C,CN K c C/\XT K c C/\h.get? a=aa o/\o.cls=.ref C
inductive RKs(K:VE)(m:List VS)(H:Hp):List (Key×V)->List (BT.Ky×aN)->Prop
 |nil:RKs K m H [] []
 |cons{k:Key}{v:V}{d:aN}{vs:List (Key×V)}{kvs:List (BT.Ky×aN)}(J:RD K m H (kV k) (BT.KJ k))(r:RD K m H v d)(t:RKs K m H vs kvs):RKs K m H ((k,v)::vs) ((k,d)::kvs)
inductive RW(P:VV)(w:Wj)(K:VE)(m:List VS)(H:Hp):V->aM->Prop
 |p{v:V}{d:aN}(r:RD K m H v d):RW P w K m H v (.p d)
 |r{a:VS}{n:Nat}(h:m[n]?=aa a):RW P w K m H (.ref a) (.r n)
 |k{a:VS}{es:List (az×V)}{kvs:List (az×aN)}(h:KD P w K a es)(r:RDk K es kvs):RW P w K m H (.ref a) (.k (.t kvs))
 |kl{a:VS}{o:aq}{vs:List (Key×V)}{kvs:List (BT.Ky×aN)}(h:H a=aa (.frz o (.dK vs))/\a∉m)(r:RKs K m H vs kvs):RW P w K m H (.ref a) (.k (.l kvs))
 |o{a:VS}{n:Nat}(h:m[n]?=aa a):RW P w K m H (.ref a) (.o n)
 |c{f:VS}{L:Nat}{vs:List V}{J:List BT.Cp}(h:qT m H f L vs)(r:RCs K m H vs J):RW P w K m H (.ref f) (.c (.l L) J)
 |x{a:VS}{c:az}(h:H a=aa (.ext (excAt K c a)))(n:a∉m)(J:∃C,XT K c C):RW P w K m H (.ref a) (.x c)
 |g{f:VS}{x:az}(h:Wp K VW x=aa (aa (.ref f)))(r:Wh K (.ref f)=ah):RW P w K m H (.ref f) (.c (.f x) [])
inductive RFs(K:VE)(m:List VS)(H:Hp):List (az×V)->List (az×aM)->Prop
 |nil:RFs K m H [] []
 |cons{f:az}{v:V}{x:aM}{vs:List (az×V)}{fs:List (az×aM)}(r:RA K m H v x)(t:RFs K m H vs fs):RFs K m H ((f,v)::vs) ((f,x)::fs)
def CN.inj(h:CN K c C)(h':CN K c C'):C=C':=by have e:=h.symm.trans h';simpa using e
structure pA(K:VE)(c:az)(C:VS):Prop where
 cn:CN K c C
 cls:Cls K C
 no:∀f,attrName f=ah->k9 K C f
 rd:ZJ K C (.type "type")=ah
inductive RBs(m:List VS):List V->List Nat->Prop
 |nil:RBs m [] []
 |cons{n:Nat}{a:VS}{vs:List V}{J:List Nat}(h:m[n]?=aa a)(t:RBs m vs J):RBs m (.ref a::vs) (n::J)
def lD(K:VE)(m:List VS)(H:Hp)(a:VS):BT.Cl->Prop
 |.l O=>∃J,H a=aa (.aj J)/\RDs K m H J O|.o c fs=>∃C V J,H a=aa (.ins C V J)/\pA K c C/\RFs K m H J fs|.d L=>∃J,H a=aa (.dK J)/\RKs K m H J L|.z=>∃ob J,H a=aa (.frz ob (.dK J))|.b U=>∃J,H a=aa (.aj J)/\RBs m J U
inductive RWs(P:VV)(w:Wj)(K:VE)(m:List VS)(H:Hp):List V->List aM->Prop
 |nil:RWs P w K m H [] []
 |cons{v:V}{x:aM}{vs:List V}{xs:List aM}(r:RW P w K m H v x)(t:RWs P w K m H vs xs):RWs P w K m H (v::vs) (x::xs)
structure RH(K:VE)(m:List VS)(H:Hp)(h:aL):Prop where
 nd:m.Nodup
 len:m.length=h.length
 cl:∀(i:Nat)(a:VS)(c:BT.Cl),m[i]?=aa a->h[i]?=aa c->lD K m H a c
 tb:TB K H
def DA(e:aZ h n=aa xs):h[n]?=aa (.l xs):=by
 unfold aZ at e;cases g:h[n]? with
 |none=>rw[g]at e;exact cW e|some c=>rw[g]at e;cases c<;>simp[BT.qE]at e;rw[e]
def DB(e:bz h n=aa (c,fs)):h[n]?=aa (.o c fs):=by
 unfold bz at e;cases g:h[n]? with
 |none=>rw[g]at e;exact cW e|some c=>rw[g]at e;cases c<;>simp[BT.sf]at e;rw[e.1,e.2]
def DC{h:aL}{n:Nat}{J:List Nat}(e:BT.bat h n=aa J):h[n]?=aa (.b J):=by
 unfold BT.bat at e;cases g:h[n]? with
 |none=>rw[g]at e;exact cW e|some c=>rw[g]at e;cases c<;>simp[BT.o8]at e;rw[e]
def RH.zy{m:List VS}{H:Hp}{h:aL}(R:RH K m H h)(i:Nat)(a:VS)(J:List Nat)(e:m[i]?=aa a)(g:BT.bat h i=aa J):∃vs,H a=aa (.aj vs)/\RBs m vs J:=R.cl i a _ e (DC g)
def RH.cell(R:RH K m H h)(i:Nat)(a:VS)(xs:List aN)(e:m[i]?=aa a)(g:aZ h i=aa xs):∃vs,H a=aa (.aj vs)/\RDs K m H vs xs:=R.cl i a _ e (DA g)
inductive OC(K:VE)(m:List VS)(H:Hp)(a:VS)(c:az)(fs:List (az×aM)):Prop
 |mk(C:VS)(dx:_)(vs:_)(h1:H a=aa (.ins C dx vs))(h2:pA K c C)(J:RFs K m H vs fs):OC K m H a c fs
def RH.tw(R:RH K m H h)(i:Nat)(a:VS)(c:az)(fs:List (az×aM))(e:m[i]?=aa a)(g:bz h i=aa (c,fs)):OC K m H a c fs:=by obtain⟨C,V,J,U,O,L⟩:=R.cl i a _ e (DB g);exact⟨C,V,J,U,O,L⟩
structure RS(P:VV)(w:Wj)(K:VE)(m:List VS)(H:Hp)(σ:L2.St)(s:bf):Prop where
 len:σ.length=s.length
 get:∀(i:Nat)(x:aM),s[i]?=aa (aa x)->∃v,σ[i]?=aa (aa v)/\RW P w K m H v x
noncomputable def JC:HO->Bool
 |.tbl _=>ah|_=>ai
structure Ext(m:List VS)(H:Hp)(m':List VS)(H':Hp):Prop where
 pre:∃e,m'=m++e/\∀a∈e,H a=af
 keep:∀a o,H a=aa o->a∉m->JC o=ai->H' a=aa o
 live:∀a,H' a=af->H a=af
 frz:∀a ob vs,H a=aa (.frz ob (.dK vs))->H' a=aa (.frz ob (.dK vs))
def Ext.refl(m:List VS)(H:Hp):Ext m H m H:=⟨⟨[],by simp,by simp⟩,λ_ _ h _ _=>h,λ_ h=>h,λ_ _ _ h=>h⟩
def Ext.jX(x:Ext m H m' H')(h:H a=aa o)(n:a∉m):a∉m':=by
 obtain⟨e,rfl,J⟩:=x.pre;intro q;rcases List.mem_append.mp q with q|q
 exact n q;rw[J a q]at h;exact cW h
def Ext.trans(x:Ext m H m1 H1)(y:Ext m1 H1 m2 H2):Ext m H m2 H2:=by
 obtain⟨e,rfl,O⟩:=x.pre;obtain⟨V,rfl,J⟩:=y.pre;refine⟨⟨e++V,by rw[WG],λa U=>?_⟩,λa o h n t=>y.keep a o (x.keep a o h n t) (x.jX h n) t,λa h=>x.live a (y.live a h),λa ob L h=>y.frz a ob L (x.frz a ob L h)⟩;rcases List.mem_append.mp U with q|q
 exact O a q;exact x.live a (J a q)
def Rd.ext(x:Ext m H m' H')(h:Rd H a u)(n:a∉m)(t:JC u=ai:=by rfl):Rd H' a u/\a∉m':=by
 rcases h with h|⟨o,h⟩
 exact⟨.inl (x.keep _ _ h n t),x.jX h n⟩;exact⟨.inr ⟨o,x.keep _ _ h n rfl⟩,x.jX h n⟩
def Tr.ext(x:Ext m H m' H')(h:Tr m H a o):Tr m' H' a o:=⟨x.keep _ _ h.1 h.2 rfl,x.jX h.1 h.2⟩
def yg.ext(x:Ext m H m' H')(r:yg m H cl xs vs):yg m' H' cl xs vs:=by
 induction r with
 |nil=>exact .nil|cons U O L r t J=>exact .cons U (O.ext x) L r J
def qT.ext(x:Ext m H m' H')(h:qT m H f L vs):qT m' H' f L vs:=by obtain⟨o,V,fs,Y,p,U,cl,W,O,n,Z,os,t,q,l,k,j,i,g,e,d,c,b,a,J⟩:=h;exact⟨o,V,fs,Y,p,U,cl,W,O,n,Z,os,t,q,l,k,j,i,g,e,d.ext x,c.ext x,b,a,J.ext x⟩
section
variable{K:VE}
mutual
theorem RD.ext(x:Ext m H m' H'):∀{v:V}{d:aN},RD K m H v d->RD K m' H' v d
 |_,_,.aC=>.aC|_,_,.bl b=>.bl b|_,_,.int i=>.int i|_,_,.str y h=>.str y h|_,_,.aB h r=>.aB (h.elim (λq=>.inl (Rd.ext x q.1 q.2)) .inr) (RDs.ext x r)|_,_,.aj h r=>.aj (h.elim (λq=>.inl (Rd.ext x q.1 q.2)) .inr) (RDs.ext x r)
theorem RDs.ext(x:Ext m H m' H'):∀{vs:List V}{ds:List aN},RDs K m H vs ds->RDs K m' H' vs ds
 |_,_,.nil=>.nil|_,_,.cons r t=>.cons (RD.ext x r) (RDs.ext x t)
end
def RA.rw(r:RA K m H v d):RW P w K m H v d:=by
 cases r with
 |p r=>exact .p r|r h=>exact .r h|o h=>exact .o h
def RW.ra(r:RW P w K m H v d)(J:BT.attrOk d=ah):RA K m H v d:=by
 cases r with
 |p r=>exact .p r|r h=>exact .r h|o h=>exact .o h|_=>exact aR J
def Ext.ix(x:Ext m H m' H'){n:Nat}(h:m[n]?=aa a):m'[n]?=aa a:=by obtain⟨e,rfl,_⟩:=x.pre;rw[VF (by rcases V9 _ m.length with q|q;exact q;rw[VP q]at h;exact cW h)];exact h
def RA.ext(x:Ext m H m' H')(r:RA K m H v d):RA K m' H' v d:=by
 cases r with
 |p r=>exact .p (r.ext x)|r h=>exact .r (x.ix h)|o h=>exact .o (x.ix h)
def RCs.ext(x:Ext m H m' H')(r:RCs K m H vs cs):RCs K m' H' vs cs:=by
 induction r with
 |nil=>exact .nil|cons r t J=>exact .cons (r.ext x) J
def RKs.ext(x:Ext m H m' H')(r:RKs K m H vs kvs):RKs K m' H' vs kvs:=by
 induction r with
 |nil=>exact .nil|cons L r t J=>exact .cons (L.ext x) (r.ext x) J
def RW.ext(x:Ext m H m' H')(r:RW P w K m H v d):RW P w K m' H' v d:=by
 cases r with
 |p r=>exact .p (r.ext x)
 |r h =>
  obtain⟨e,rfl,_⟩:=x.pre;refine .r ?_;rw[VF (by rcases V9 _ m.length with q|q;exact q;rw[VP q]at h;exact cW h)];exact h
 |k h r=>exact .k h r|kl h r=>exact .kl ⟨x.keep _ _ h.1 h.2 rfl,x.jX h.1 h.2⟩ (r.ext x)|c h r=>exact .c (h.ext x) (r.ext x)|g h r=>exact .g h r|x h n J=>exact .x (x.keep _ _ h n rfl) (x.jX h n) J
 |o h =>
  obtain⟨e,rfl,_⟩:=x.pre;refine .o ?_;rw[VF (by rcases V9 _ m.length with q|q;exact q;rw[VP q]at h;exact cW h)];exact h
def RFs.ext(x:Ext m H m' H')(r:RFs K m H vs fs):RFs K m' H' vs fs:=by
 induction r with
 |nil=>exact .nil|cons r t J=>exact .cons (r.ext x) J
def RBs.ext(x:Ext m H m' H'){vs:List V}{J:List Nat}(r:RBs m vs J):RBs m' vs J:=by
 induction r with
 |nil=>exact .nil|cons h t L=>exact .cons (x.ix h) L
def lD.ext(x:Ext m H m' H')(e:H' a=H a)(r:lD K m H a c):lD K m' H' a c:=by
 cases c with
 |o c fs=>obtain⟨C,V,J,L,O,U⟩:=r;exact⟨C,V,J,e.trans L,O,U.ext x⟩|z=>obtain⟨ob,J,L⟩:=r;exact⟨ob,J,e.trans L⟩|_=>obtain⟨J,L,O⟩:=r;exact⟨J,e.trans L,O.ext x⟩
def lD.some(r:lD K m H a c):∃o,H a=aa o:=by
 cases c with
 |o c fs=>obtain⟨C,V,L,J,O,U⟩:=r;exact⟨_,J⟩|z=>obtain⟨ob,L,J⟩:=r;exact⟨_,J⟩|_=>obtain⟨L,J,O⟩:=r;exact⟨_,J⟩
def RWs.ext(x:Ext m H m' H')(r:RWs P w K m H vs ds):RWs P w K m' H' vs ds:=by
 induction r with
 |nil=>exact .nil|cons r t J=>exact .cons (r.ext x) J
def RS.ext(x:Ext m H m' H')(r:RS P w K m H σ s):RS P w K m' H' σ s :=
 ⟨r.len,λi y e=>by obtain⟨v,h,q⟩:=r.get i y e;exact⟨v,h,q.ext x⟩⟩
theorem RDs.length:∀{vs:List V}{ds:List aN},RDs K m H vs ds->vs.length=ds.length
 |_,_,.nil=>rfl
 |_,_,.cons _ t=>by rw[VU,VU,RDs.length t]
theorem RWs.length:∀{vs:List V}{ds:List aM},RWs P w K m H vs ds->vs.length=ds.length
 |_,_,.nil=>rfl
 |_,_,.cons _ t=>by rw[VU,VU,RWs.length t]
theorem RDs.get:∀{vs:List V}{ds:List aN}{i:Nat}{d:aN},RDs K m H vs ds->ds[i]?=aa d->∃v,vs[i]?=aa v/\RD K m H v d
 |_,_,_,_,.nil,e=>by simp at e
 |_,_,0,_,.cons r _,e=>by simp at e;subst e;exact⟨_,rfl,r⟩
 |_,_,i+1,d,.cons _ t,e=>by obtain⟨u,L,J⟩:=RDs.get (i:=i) (d:=d) t (by simpa using e);exact⟨u,by simpa using L,J⟩
theorem RDs.append:∀{vs ws:List V}{ds es:List aN},RDs K m H vs ds->RDs K m H ws es->RDs K m H (vs++ws) (ds++es)
 |_,_,_,_,.nil,s=>s|_,_,_,_,.cons r t,s=>.cons r (RDs.append t s)
theorem RDs.take:∀{vs:List V}{ds:List aN}(n:Nat),RDs K m H vs ds->RDs K m H (vs.take n) (ds.take n)
 |_,_,0,_=>.nil|_,_,_+1,.nil=>.nil|_,_,n+1,.cons r t=>.cons r (RDs.take n t)
theorem RDs.drop:∀{vs:List V}{ds:List aN}(n:Nat),RDs K m H vs ds->RDs K m H (vs.drop n) (ds.drop n)
 |_,_,0,r=>r|_,_,_+1,.nil=>.nil|_,_,n+1,.cons _ t=>RDs.drop n t
theorem RDs.set(r:RD K m H v d):∀{vs:List V}{ds:List aN}(i:Nat),RDs K m H vs ds->RDs K m H (vs.set i v) (ds.set i d)
 |_,_,_,.nil=>.nil|_,_,0,.cons _ t=>.cons r t|_,_,i+1,.cons q t=>.cons q (RDs.set r i t)
theorem RDs.pick(r:RDs K m H vs ds):∀l:List Nat,RDs K m H (l.filterMap λi=>vs[i]?) (l.filterMap λi=>ds[i]?)
 |[]=>.nil
 |i::l=>by
  rw[Wl,Wl];cases g:ds[i]? with
  |none =>
   have:vs[i]?=af:=by have h:=r.length;rw[aaf]at g⊢;lia
   rw[this];exact RDs.pick r l
  |some d =>
   obtain⟨v,e,q⟩:=r.get g;rw[e];exact .cons q (RDs.pick r l)
theorem RDs.dropLast:∀{vs:List V}{ds:List aN},RDs K m H vs ds->RDs K m H vs.dropLast ds.dropLast
 |_,_,.nil=>.nil|_,_,.cons _ .nil=>.nil|_,_,.cons r (.cons q t)=>.cons r (RDs.dropLast (.cons q t))
theorem RDs.rep(r:RDs K m H vs ds):∀k:Nat,RDs K m H (V3 k vs).flatten (V3 k ds).flatten
 |0=>.nil
 |k+1=>by rw[WD,WD,Xf,Xf];exact RDs.append r (RDs.rep r k)
def tE{N:List VS}(O:N.Nodup){i j:Nat}{x:VS}(a:N[i]?=aa x)(b:N[j]?=aa x):i=j:=by
 have L:i<N.length:=by
  rcases V9 i N.length with z|z
  exact z;rw[VP z]at a;exact cW a
 have J:j<N.length:=by
  rcases V9 j N.length with z|z
  exact z;rw[VP z]at b;exact cW b
 rw[VL L]at a;rw[VL J]at b;exact(ZS O).mp ((VN a).trans (VN b).symm)
inductive RR(K:VE)(m:List VS)(H:Hp):V->aN->Prop
 |d{v:V}{d:aN}(r:RD K m H v d):RR K m H v d
 |l{a:VS}{vs:List V}{ds:List aN}(h:H a=aa (.aj vs))(r:RDs K m H vs ds):RR K m H (.ref a) (.aj ds)
def fB(J:RH K m H h)(r:RW P w K m H v x)(e:aY x h=aa d):RR K m H v d:=by
 cases r with
 |p r=>cases e;exact .d r
 |@r a n q =>
  simp only[aY]at e;cases g:aZ h n with
  |none=>rw[g]at e;exact cW e
  |some L =>
   rw[g]at e;cases e;obtain⟨V,U,O⟩:=J.cell n a L q g;exact .l U O
 |_=>exact cW e
inductive RLs(K:VE)(m:List VS)(H:Hp)(v:V)(ds:List aN):Prop
 |mk(a:VS)(vs:List V)(e:v=.ref a)(l:LL K H a vs)(r:RDs K m H vs ds):RLs K m H v ds
inductive RTs(K:VE)(m:List VS)(H:Hp)(v:V)(ds:List aN):Prop
 |mk(a:VS)(vs:List V)(e:v=.ref a)(l:SqT K H a vs)(r:RDs K m H vs ds):RTs K m H v ds
theorem RR.aj{v:V}{ds:List aN}(r:RR K m H v (.aj ds)):RLs K m H v ds:=by
 cases r with
 |d r=>cases r with|aj h r=>exact⟨_,_,rfl,h.elim (λq=>.inl q.1) .inr,r⟩
 |l h r=>exact⟨_,_,rfl,.inl (.inl h),r⟩
theorem RR.aB{v:V}{ds:List aN}(r:RR K m H v (.aB ds)):RTs K m H v ds:=by
 cases r with
 |d r=>cases r with|aB h r=>exact⟨_,_,rfl,h.elim (λq=>.inl q.1) (λ⟨o,its,n,q,_⟩=>.inr ⟨o,its,n,q⟩),r⟩
def RR.int{v:V}{i:Int}(r:RR K m H v (.int i)):v=.int i:=by cases r with|d r=>cases r;rfl
theorem RR.str{v:V}{x:az}(r:RR K m H v (.str x)):v=.str x/\PyData.strOk x=ah:=by cases r with|d r=>cases r with|str _ h=>exact⟨rfl,h⟩
def RR.bl{v:V}{b:Bool}(r:RR K m H v (.bl b)):v=.bl b:=by cases r with|d r=>cases r;rfl
def RR.aC(r:RR K m H v .aC):v=.aC:=by cases r with|d r=>cases r;rfl
def TB.new(J:H p=af)(h:TB K H):TB K (upd H p o) :=
 h.mono (λP L e=>by rw[dH (fq e J)];exact e) λa o _ _ e=>by rw[dH (fq e J)];exact e
def i6(J:H p=af):Ext m H m (upd H p o) :=
 ⟨⟨[],by simp,by simp⟩,λa q h _ _=>by rw[dH (fq h J)];exact h,λa h=>by
  by_cases e:a=p
  rw[e];exact J
  ·rw[dH e] at h;exact h,λa ob L h=>by rw[dH (fq h J)];exact h⟩
def RH.jX(R:RH K m H h)(L:H p=af):p∉m:=by
 intro q;obtain⟨i,J⟩:=Xd q;have O:i<h.length:=by
  rw[←R.len];rcases V9 i m.length with z|z
  exact z;rw[VP z]at J;exact cW J
 obtain⟨o,e⟩:=(R.cl i p h[i] J (VL O)).some;rw[e]at L;cases L
def Le(H H':Hp):Prop:=∀a u,H a=aa u->H' a=aa u
def Le.tb(q:Le H H')(t:TB K H):TB K H':=t.mono (λ_ _ e=>q _ _ e) λ_ _ _ _ e=>q _ _ e
def yh(J:H p=af):Le H (upd H p o):=λa u e=>by rw[dH (fq e J)];exact e
def RH.ext(R:RH K m H h)(x:Ext m H m H')(k:Le H H'):RH K m H' h :=
 ⟨R.nd,R.len,λi a c e1 e2=>by obtain⟨o,e⟩:=(R.cl i a c e1 e2).some;exact(R.cl i a c e1 e2).ext x (by rw[e];exact k _ _ e),k.tb R.tb⟩
noncomputable def PJ:HO->Bool
 |.aj _=>ah|.ins _ _ _=>ah|.dK _=>ah|_=>ai
noncomputable def PK:HO->Bool
 |.frz _ (.dK _)=>ah|.aj _=>ah|.ins _ _ _=>ah|.dK _=>ah|_=>ai
def RH.mu(R:RH K m H h)(V:a∈m):∃o,H a=aa o/\PK o=ah:=by
 obtain⟨i,L⟩:=Xd V;have U:i<h.length:=by
  rw[←R.len];rcases V9 i m.length with z|z
  exact z;rw[VP z]at L;exact cW L
 have z:=R.cl i a h[i] L (VL U);cases g:h[i]with
 |o c fs=>rw[g]at z;obtain⟨C,Z,O,J,W,Y⟩:=z;exact⟨_,J,rfl⟩|z=>rw[g]at z;obtain⟨ob,O,J⟩:=z;exact⟨_,J,rfl⟩|_=>rw[g]at z;obtain⟨O,J,W⟩:=z;exact⟨_,J,rfl⟩
def RH.new(R:RH K m H h)(J:H p=af):RH K m (upd H p o) h :=
 R.ext (i6 J) (yh J)
def jY(J:H p=af):Ext m H (m++[p]) (upd H p o) :=
 ⟨⟨[p],rfl,by simpa using J⟩,λa q h _ _=>by rw[dH (fq h J)];exact h,λa h=>by
  by_cases e:a=p
  rw[e];exact J
  ·rw[dH e] at h;exact h,λa ob L h=>by rw[dH (fq h J)];exact h⟩
def RH.Lg(R:RH K m H h)(J:H p=af)(r:lD K (m++[p]) (upd H p o) p c):RH K (m++[p]) (upd H p o) (h++[c]):=by
 have L:=R.jX J;have x:Ext m H (m++[p]) (upd H p o):=jY J;refine⟨List.nodup_append.mpr ⟨R.nd,by simp,λa W b O=>by simp at O;subst O;exact λe=>L (e ▸ W)⟩,by simp[R.len],λi a U e1 e2=>?_,R.tb.new J⟩
 by_cases c:i<m.length
 ·rw[VF c]at e1;rw[VF (by rw[←R.len];exact c)]at e2;have V:a≠p:=by intro e;subst e;exact L (V0 e1)
  exact(R.cl i a U e1 e2).ext x (dH V)
 ·have e:i=m.length:=by
   rcases V9 i (m++[p]).length with z|z
   simp at z;lia;rw[VP z]at e1;exact cW e1
  subst e;simp at e1;rw[R.len]at e2;simp at e2;subst e1 e2;exact r
def RH.T7(R:RH K m H h)(J:H p=af)(r:RDs K m H vs xs):RH K (m++[p]) (upd H p (.aj vs)) (h++[.l xs]) :=
 R.Lg J ⟨vs,eY,r.ext (jY J)⟩
def TB.set(L:∃u,H a=aa u/\PK u=ah)(h:TB K H):TB K (upd H a o):=by obtain⟨w,hw,J⟩:=L;refine h.mono (λP O e=>?_) λb ob _ _ e=>?_;rw[dH (λz=>by subst z;rw[hw]at e;cases e;exact aR J)];exact e;rw[dH (λz=>by subst z;rw[hw]at e;cases e;exact aR J)];exact e
def qU{a:VS}{o:HO}(V:a∈m)(J:∃u,H a=aa u/\PJ u=ah):Ext m H m (upd H a o) :=
 ⟨⟨[],by simp,by simp⟩,λb u q n _=>by
  have L:b≠a:=by intro e;subst e;exact n V
  rw[dH L];exact q,λb q=>by
  by_cases e:b=a
  subst e;rw[eY]at q;cases q
  ·rw[dH e]at q;exact q,λb ob W q=>by
  obtain ⟨u,O,U⟩:=J;rw[dH (λz=>by subst z;rw[O] at q;cases q;exact aR U)];exact q⟩
def jn(J:a∈m)(h:H a=aa (.aj us)):Ext m H m (upd H a (.aj vs)):=qU J ⟨_,h,rfl⟩
def RH.setC{h:aL}(R:RH K m H h){n:Nat}{a:VS}{o:HO}{c:BT.Cl}(hn:m[n]?=aa a)(L:∃u,H a=aa u/\PJ u=ah)(r:lD K m (upd H a o) a c):RH K m (upd H a o) (h.set n c):=by
 have x:Ext m H m (upd H a o):=qU (V0 hn) L;refine⟨R.nd,by simp[R.len],λi b J e1 e2=>?_,R.tb.set (R.mu (V0 hn))⟩
 by_cases c:i=n
 ·subst c;rw[hn]at e1;cases e1;have U:i<h.length:=by
   rw[←R.len];rcases V9 i m.length with z|z
   exact z;rw[VP z]at hn;exact cW hn
  rw[Wb U]at e2;cases e2;exact r
 ·rw[V1 (WI c)]at e2;have O:b≠a:=by intro e;subst e;exact c (tE R.nd e1 hn)
  exact(R.cl i b J e1 e2).ext x (dH O)
def RH.set(R:RH K m H h)(hn:m[n]?=aa a)(J:H a=aa (.aj us))(r:RDs K m H vs xs):RH K m (upd H a (.aj vs)) (h.set n (.l xs)) :=
 R.setC hn ⟨_,J,rfl⟩ ⟨vs,eY,r.ext (jn (V0 hn) J)⟩
end
end BS
end
section
namespace BS
open PySem PySem.Spec PyProof.Rows L2 PySem.SeqAt
def pN{E:aA->VG->Prop}(f:Nat->β->Sem (ForInStep β))(n:Nat)(I:Nat->β->VG->Prop)(Q:β->VG->Prop)
(turn:∀i b s,i<n->I i b s->ay M A (f i b) (λr s'=>match r with|.yield L=>I (i+1) L s'|.done L=>Q L s') E s)
(fin:∀b s,I n b s->Q b s)(b:β)(h:I 0 b s):ay M A (forIn [:n] b f) Q E s:=by
 rw[Std.Legacy.Range.forIn_eq_forIn_range'];have e:aa0 [:n].start [:n].size [:n].step=aa0 0 (n-0):=by simp[Std.Legacy.Range.size]
 rw[e];refine wpAny_forIn_list f (λrest b s=>∃i,i<=n/\rest=aa0 i (n-i)/\I i b s) Q (λx rest b s ⟨i,hi,hr,q⟩=>?_) (λb s ⟨i,hi,hr,q⟩=>?_) _ b ⟨0,WM _,rfl,h⟩
 ·have J:i<n:=by
   rcases V9 i n with z|z
   exact z;rw[show n-i=0 by lia]at hr;simp at hr
  rw[show n-i=(n-(i+1))+1 by lia,List.range'_succ]at hr
  injection hr with e1 e2
  subst e1;refine WJ (turn x b s J q) (λr s' z=>?_) λ_ _ z=>z;cases r with
  |yield L=>exact⟨x+1,J,e2,z⟩|done L=>exact z
 ·have:i=n:=by
   rcases V9 i n with z|z
   rw[show n-i=(n-(i+1))+1 by lia,List.range'_succ]at hr;simp at hr;lia
  subst this;exact fin b s q
def sy(l:VS)(J:Array aA)(n:Nat)(dd:Option VS)(Z:Array (Option aA))(x:aA)(e:aA->Bool)(j:Nat)(p:j<J.size)
(W:e J[j]=ah)(V:∀m (o:m<J.size),m<j->e J[m]=ai):
 Meets (Builtin.«tuple.index» ⟨[.ref l,x],[]⟩)
  (λA R s=>s.heap.get? l=aa {cls:=.type "tuple",dict:=dd,data:=.seq J n,slots:=Z}/\(∀y,y∈J->EqAt A.in1 s y x (e y))/\R (.ok (.ret (.int j s.toks))) {s with toks:=s.toks+1}) :=
 .of_wp λO w A R s h=>by
 obtain⟨a,g,d,Y,os⟩:=s;obtain⟨f,k,h⟩:=h
 wp_walk using X0 f,pN _ _ (λi b U=>i<=j/\b.1=af/\U=⟨a,g,d,Y,os⟩) _
 case turn =>
  rintro i b U hi ⟨hij,hb,rfl⟩
  have L:i<J.size:=by lia
  rw[Array.getElem?_eq_getElem L];refine VJ (k _ (Array.getElem_mem L) O w _ _ ?_)
  by_cases c:i=j
  ·subst c;rw[W]
   wp_walk
   exact⟨_,rfl,h⟩
  ·rw[V i L (by lia)]
   wp_walk
   exact⟨by lia,rfl,rfl⟩
 case fin =>
  rintro b U ⟨hij,_,_⟩
  lia
 case h=>exact⟨WM _,rfl,rfl⟩
def yi(l:VS)(J:Array aA)(n:Nat)(dd:Option VS)(a:Array (Option aA))(k:Int)(t:Tok)(h1:-1000<=k)(h2:k<=1000)(U:¬J.isEmpty=ah)(b:k≠1)(q:0<k)(hz:J.size*k.toNat<=ak):
 Meets (Builtin.«tuple.__mul__» ⟨[.ref l,.int k t],[]⟩)
  (λA R s=>s.heap.get? l=aa {cls:=.type "tuple",dict:=dd,data:=.seq J n,slots:=a}/\R (.ok (.ret (.ref s.heap.objs.size))) {s with heap:=s.heap.push {cls:=.type "tuple",data:=.seq ((V3 k.toNat J).foldl (λO L=>O++L) #[])} }) :=
 .of_wp λY w A R s h=>by
 obtain⟨o,g,d,m,os⟩:=s;obtain⟨W,h⟩:=h;have p:=aaR;have i:¬(decide (k < -2^63)||decide (k ≥ 2^63))=ah:=by simp;lia
 have v:¬(J.isEmpty||k==1)=ah:=by simp at U⊢;exact⟨U,b⟩
 have u:¬(decide (k<=0)||J.isEmpty)=ah:=by simp at U⊢;exact⟨by lia,U⟩
 have Z:(k.toNat:Int)=k:=by lia
 have f:¬((J.size:Int)*k>(2^63-1)/8):=by
  have z:((J.size*k.toNat:Nat):Int)<=(ak:Nat):=Int.ofNat_le.mpr hz;rw[Int.natCast_mul,Z]at z;have j:((ak:Nat):Int)<=(2^63-1)/8:=by decide
  lia
 have r:¬Zk ((J.size:Int)*k)=ah:=by have z:((J.size*k.toNat:Nat):Int)<=(ak:Nat):=Int.ofNat_le.mpr hz;rw[Int.natCast_mul,Z]at z;simp only[Zk,bN];lia
 have V:sizeOk (.seq ((V3 k.toNat J).foldl (λO L=>O++L) #[])):=by show((V3 k.toNat J).foldl (λO L=>O++L) #[]).size<=ak;rw[AutoListH.size_joined,Array.size_empty,XR];lia
 wp_walk using X0 W
 rw[bL i]
 wp_walk using X0 W
 refine wpAny_ite_split (λc=>bM c ?_) (λ_=>?_);intro c;have e:=f;simp at e c;lia
 wp_walk using X0 W
 refine wpAny_ite_false (bO (Nat.not_lt.mpr V)) ?_
 wp_walk
 exact⟨_,rfl,h⟩
def oJ:fillsNumberSlot (.type "tuple") "mul"=pure ai :=
 PySem.fillsNumberSlot_seq (id:="tuple.__mul__") (r:=aa (.builtin "tuple.__rmul__")) F.slot_tuple_mul.lookup (by decide +kernel) F.slot_tuple_rmul.lookup (by decide +kernel)
def ux:seqRepeat? (.type "tuple")=pure (aa (.builtin "tuple.__mul__")):=by unfold seqRepeat?;rw[PySem.seqSlot_of (T:="tuple") (name:="__mul__") (id:="tuple.__mul__") F.slot_tuple_mul.lookup (by decide +kernel),PySem.seqSlot_of (T:="tuple") (name:="__rmul__") (id:="tuple.__rmul__") F.slot_tuple_rmul.lookup (by decide +kernel)];rfl
def qV(a:Int)(t:Tok)(l:VS)(J:Array aA)(n:Nat)(dd:Option VS)(O:Array (Option aA)):
 Meets (Builtin.«int.__rmul__» ⟨[.int a t,.ref l],[]⟩) (λ_ R s=>s.heap.get? l=aa {cls:=.type "tuple",dict:=dd,data:=.seq J n,slots:=O}/\R (.ok (.ret Value.notImplemented)) s) :=
 .of_wp λL w A R s h=>by obtain⟨V,g,d,U,os⟩:=s;obtain⟨W,h⟩:=h;wp_walk;exact⟨_,rfl,h⟩
def pO(l:VS)(L:Array aA)(n:Nat)(b:VS)(J:Array aA)(a:Nat)(dd:Option VS)(Z:Array (Option aA))(c:¬(!L.isEmpty&&WR (L.size+J.size))=ah)(V:L.size<=ak)(U:L.size+J.size<=ak+1):
 Meets (Builtin.«list.extend» ⟨[.ref l,.ref b],[]⟩) (λ_ R s=>s.heap.get? l=aa {cls:=.type "list",dict:=af,data:=.seq L n,slots:=#[]}/\s.heap.get? b=aa {cls:=.type "tuple",dict:=dd,data:=.seq J a,slots:=Z}/\R (.ok (.ret XY)) {s with heap:=s.heap.update l (Zf λx=>x++J),toks:=s.toks}) :=
 .of_wp λW w A R s h=>by
  obtain⟨i,g,d,f,os⟩:=s;obtain⟨Y,e,h⟩:=h;have p:=aaR;have o:=AutoSeq1.sub_tuple_tuple;have m:=AutoSeq1.sub_list_list;have k:=AutoSeq1.sub_tuple_list;have j:=AutoSeq1.sub_list_tuple;have O:(L++J).size<=ak+1:=by rw[Array.size_append];exact U
  wp_walk using (wpAny_updateSeq Y rfl (hz:=V) (_hz':=O)),X0 Y,X0 e;exact⟨_,rfl,h⟩
end BS
end
section
namespace BS
open PySem PySem.Spec PyProof.Rows L2
inductive Bnd{α β:Type}(x:Option (α×aL))(k:α->aL->Option β)(r:β):Prop
 |mk(a:α)(g:aL)(h1:x=aa (a,g))(h2:k a g=aa r):Bnd x k r
inductive PL{α β:Type}(x:Option α)(f:α->β)(r:β):Prop
 |mk(a:α)(h1:x=aa a)(h2:f a=r):PL x f r
inductive Bind(o:bE)(x y:aM)(h:aL)(z:aM)(h':aL):Prop
 |mk(d d' q:aN)(h1:aY x h=aa d)(h2:aY y h=aa d')(J:BT.lg o d d'=aa q)(O:z=.p q)(L:h'=h):Bind o x y h z h'
def dj{L J:Type}{x:Option (L×aL)}{k:L->aL->Option J}{r:J}(h:bD x k=aa r):Bnd x k r:=by
 cases x with
 |none=>exact cW h|some q=>exact⟨q.1,q.2,rfl,h⟩
def dO{L J:Type}{x:Option L}{f:L->J}{r:J}(h:x.map f=aa r):PL x f r:=by
 cases x with
 |none=>exact cW h|some a=>exact⟨a,rfl,VN h⟩
def Post(P:VV)(w:Wj)(K:VE)(m:List VS)(H:Hp)(z:aM)(h':aL)(Q:VK):Prop :=
 ∀v J L,Ext m H L J->RH K L J h'->RW P w K L J v z->Q v J
inductive rOp(P:VV)(w:Wj)(K:VE)(f:aM->aM->aL->Option (aM×aL))(v u:V)(H:Hp)(Q:VK):Prop
 |mk(m:List VS)(h:aL)(x y z:aM)(h':aL)(R:RH K m H h)(L:RW P w K m H v x)(J:RW P w K m H u y)(e:f x y h=aa (z,h'))(p:Post P w K m H z h' Q):rOp P w K f v u H Q
def nK{o:bE}{x y:aM}{h:aL}{z:aM}{h':aL}(e:BT.um o x y h=aa (z,h')):Bind o x y h z h':=by
 unfold BT.um at e;cases e1:aY x h with
 |none=>rw[e1]at e;exact cW e
 |some d =>
  cases e2:aY y h with
  |none=>rw[e1,e2]at e;exact cW e
  |some L =>
   rw[e1,e2]at e;obtain⟨q,eq,J⟩:=dO e;cases J;exact⟨d,L,q,e1,e2,eq,rfl,rfl⟩
section
variable{X:Cx}
def gr:BT.lim<=ak:=by decide
inductive PM(s:VG)(a:VS)(xs:List V):Prop
 |mk(z:xs.length<=ak)(J:List aA)(n:Nat)(r:dJ xs J)(l:xs.length=J.length)(e:s.heap.get? a=aa {cls:=.type "list",data:=.seq J.toArray n}):PM s a xs
def rdL(I:Inv X zt σ H s)(r:LL X.K H a xs):PM s a xs:=by
 rcases r with r|⟨J,n,h1,h2,h3⟩
 ·obtain⟨z,J,n,r,e⟩:=r.ok I.aI;exact⟨z,J,n,r,r.length,e⟩
 exact⟨by rw[h3.length];exact h2,J,n,h3,h3.length,I.kIn a _ h1⟩
def vZ(I:Inv X zt σ H s)(W:LL X.K H a xs)(V:LL X.K H b ys)(hz:xs.length+ys.length<=ak)
(q:∀p,H p=af->Q (.ref p) (upd H p (.aj (xs++ys)))):ay (V4 X.prog X.w) X.A (W7 .Add (.ref a) (.ref b)) (EP X zt σ Q) X.xe s:=by
 obtain⟨z,L,n,r,d,e⟩:=rdL I W;obtain⟨Z,J,c,O,U,e2⟩:=rdL I V;refine PySem.P.add_list e e2 ?_ (by rw[VM,VM];lia);have Y:L.toArray++J.toArray=(L++J).toArray:=by simp
 rw[Y];exact⟨.ref _,_,I.OA (t':=s.toks) (r.append O) (by rw[Wg];lia),rfl,q _ I.fresh⟩
def Bg(I:Inv X zt σ H s)(f:SqT X.K H a xs)(e:SqT X.K H b ys)(hz:xs.length+ys.length<=ak)
(l:xs=[]->Q (.ref b) H)(k:ys=[]->Q (.ref a) H)(q:∀p,H p=af->Q (.ref p) (upd H p (.aB (xs++ys)))):ay (V4 X.prog X.w) X.A (W7 .Add (.ref a) (.ref b)) (EP X zt σ Q) X.xe s:=by
 by_cases c:xs=[]
 ·obtain⟨L,j,o,_⟩:=I.tuple f;obtain⟨J,u,m,_⟩:=I.tuple e;obtain⟨⟨t,dd,g,i⟩,Z,hc,n,d⟩:=id o;obtain⟨⟨h,Y,data2,W⟩,O,V,r,U⟩:=id m;simp only at hc d V U;subst hc d V U;have z:L=[]:=j.ny.mpr c;exact concat_meets ⟨_,Z,rfl⟩ ⟨_,O,rfl⟩ aah aa6 YH YE (Yy _ _)
   (tuple_addW0 a b L.toArray J.toArray n r dd Y i W (by simp[z])) ⟨Z,O,⟨.ref b,H,I,rfl,l c⟩⟩
 exact GA zt s σ H (.ref a) (.ref b) _ _ Q I rfl rfl ⟨a,b,xs,ys,rfl,rfl,f,e,c,hz,k,λ_=>q⟩
def nL(R:RH X.K m H h)(J:H p=af)(r:RDs X.K m H vs ds)(L:Post X.prog X.w X.K m H (.p (.aB ds)) h Q):Q (.ref p) (upd H p (.aB vs)) :=
 L _ _ m (i6 J) (R.new J) (.p (.aB (.inl ⟨.inl eY,R.jX J⟩) (r.ext (i6 J))))
def nM(R:RH X.K m H h)(J:H p=af)(r:RDs X.K m H vs ds)(L:Post X.prog X.w X.K m H (.p (.aj ds)) h Q):Q (.ref p) (upd H p (.aj vs)) :=
 L _ _ m (i6 J) (R.new J) (.p (.aj (.inl ⟨.inl eY,R.jX J⟩) (r.ext (i6 J))))
def zA(R:RH X.K m H h)(J:H p=af)(r:RDs X.K m H vs ds)(L:Post X.prog X.w X.K m H (.r h.length) (h++[.l ds]) Q):Q (.ref p) (upd H p (.aj vs)) :=
 L _ _ (m++[p]) (jY J) (R.T7 J r) (.r (by rw[←R.len];simp))
def qc(R:RH X.K m H h)(L:H p=af)(r:RDs X.K m H vs ds)(J:Post X.prog X.w X.K m H (BT.new mu ds h).1 (BT.new mu ds h).2 Q):Q (.ref p) (upd H p (.aj vs)):=by
 cases mu with
 |false=>exact nM R L r J|true=>exact zA R L r J
def Post.here(R:RH X.K m H h)(J:Post X.prog X.w X.K m H (.p d) h Q)(r:RD X.K m H v d):Q v H:=J v H m (.refl _ _) R (.p r)
def uy(L:PyData.strOk x=ah)(J:PyData.strOk y=ah):PyData.strOk (x++y)=ah:=by show(x.cps++y.cps).all _=ah;rw[Array.all_append];simp only[PyData.strOk]at L J;rw[L,J];rfl
def Lh:OpR X (W7 .Add) (rOp X.prog X.w X.K BT.Dn):=by
 intro n s l H v u q t Q I V W h;obtain⟨m,h,x,y,z,C,R,U,O,e,L⟩:=h;unfold BT.Dn at e;cases e1:aY x h with
 |none=>rw[e1]at e;exact cW e
 |some d =>
  cases e2:aY y h with
  |none=>rw[e1,e2]at e;cases d<;>exact cW e
  |some k =>
   rw[e1,e2]at e;have Z:=fB R U e1;have Y:=fB R O e2;cases d<;>cases k<;>first|exact cW e|skip
   simp only at e;split at e
   ·rename_i c;obtain⟨a,o,rfl,i,ra⟩:=Z.aj;obtain⟨b,r,rfl,g,J⟩:=Y.aj;cases V;cases W;have B:=ra.length;have A:=J.length;have:=gr;have j:=VN e;exact vZ I i g (by lia) λp f=>qc (mu:=ah) R f (ra.append J) (by rw[j];exact L)
   exact cW e
def Li:OpR X (W7 .Add) (rOp X.prog X.w X.K (BT.um .add)):=by
 intro j s i H v u F G Q I W Y h;obtain⟨m,h,x,y,z,M,R,o,n,e,L⟩:=h;obtain⟨d,E,q,e1,e2,J,rfl,rfl⟩:=nK e;have V:=fB R o e1;have U:=fB R n e2;cases d<;>cases E<;>first|exact cW J|simp only[BT.vP,BT.qJ,BT.mT,BT.kh,BT.qK,BT.vQ,BT.qL,BT.qM,BT.qN,BT.oF]at J
 ·cases J;cases V.int;cases U.int;exact Kf j s i H _ _ _ _ Q I W Y ⟨_,_,rfl,rfl,L.here R (.int _)⟩
 ·obtain⟨c,J⟩:=dP J;cases J;obtain⟨ev,t⟩:=V.str;obtain⟨D,A⟩:=U.str;subst ev;subst D;have:=gr;exact xR j s i H _ _ _ _ Q I W Y ⟨_,_,rfl,rfl,by lia,L.here R (.str _ (uy t A))⟩
 ·obtain⟨c,J⟩:=dP J;cases J;obtain⟨a,k,rfl,g,ra⟩:=V.aB;obtain⟨b,l,rfl,f,O⟩:=U.aB;cases W;cases Y;have C:=ra.length;have B:=O.length;have:=gr;refine Bg I g f (by lia) (λz=>?_) (λz=>?_) λp Z=>nL R Z (ra.append O) L
  ·subst z;cases ra;cases U with|d r=>exact L.here R r
  ·subst z;cases O;rw[Wz]at L;cases V with|d r=>exact L.here R r
 ·obtain⟨c,J⟩:=dP J;cases J;obtain⟨a,k,rfl,g,ra⟩:=V.aj;obtain⟨b,l,rfl,f,O⟩:=U.aj;cases W;cases Y;have C:=ra.length;have B:=O.length;have:=gr;exact vZ I g f (by lia) λp Z=>nM R Z (ra.append O) L
noncomputable def T8:bE->Bool
 |.add=>ai|.mul=>ai|_=>ah
def uz{o:bE}{d d' z:aN}(J:T8 o=ah)(e:BT.lg o d d'=aa z):∃i j,d=.int i/\d'=.int j:=by cases o<;>first|exact aR J|(cases d<;>first|exact cW e|(cases d'<;>first|exact cW e|exact⟨_,_,rfl,rfl⟩))
def Lj:OpR X (W7 .Sub) (rOp X.prog X.w X.K (BT.um .sub)):=by intro O s L H v u a b Q I Y Z h;obtain⟨m,h,x,y,z,c,R,W,V,e,U⟩:=h;obtain⟨d,f,q,e1,e2,J,rfl,rfl⟩:=nK e;obtain⟨i,j,rfl,rfl⟩:=uz rfl J;rw[BT.qK]at J;cases J;cases (fB R W e1).int;cases (fB R V e2).int;exact Kg O s L H _ _ _ _ Q I Y Z ⟨_,_,rfl,rfl,U.here R (.int _)⟩
def Lk:OpR X (W7 .Mod) (rOp X.prog X.w X.K (BT.um .mod)):=by intro O s L H v u a b Q I Y Z h;obtain⟨m,h,x,y,z,f,R,W,V,e,U⟩:=h;obtain⟨d,g,q,e1,e2,J,rfl,rfl⟩:=nK e;obtain⟨i,j,rfl,rfl⟩:=uz rfl J;rw[BT.qN]at J;obtain⟨c,J⟩:=dP J;cases J;cases (fB R W e1).int;cases (fB R V e2).int;exact Km O s L H _ _ _ _ Q I Y Z ⟨_,_,rfl,rfl,c,U.here R (.int _)⟩
def GU:OpR X (W7 .FloorDiv) (rOp X.prog X.w X.K (BT.um .fdiv)):=by intro O s L H v u a b Q I Y Z h;obtain⟨m,h,x,y,z,f,R,W,V,e,U⟩:=h;obtain⟨d,g,q,e1,e2,J,rfl,rfl⟩:=nK e;obtain⟨i,j,rfl,rfl⟩:=uz rfl J;rw[BT.oF]at J;obtain⟨c,J⟩:=dP J;simp only[VH,bN]at c;cases J;cases (fB R W e1).int;cases (fB R V e2).int;exact Gm O s L H _ _ _ _ Q I Y Z ⟨_,_,rfl,rfl,⟨c.1,c.2⟩,U.here R (.int _)⟩
def uA(h:BT.big i=ah):-(2^64)<i/\i<2^64:=by unfold BT.big at h;have:=bQ h;lia
def Bh(I:Inv X zt σ H s)(j:SqT X.K H a xs)(h1:2<=k)(h2:k<=1000)(O:xs≠[])(hz:xs.length*k.toNat<=ak)
(q:∀p,H p=af->Q (.ref p) (upd H p (.aB (V3 k.toNat xs).flatten))):ay (V4 X.prog X.w) X.A (W7 .Mult (.ref a) (.int k t)) (EP X zt σ Q) X.xe s:=by
 obtain⟨J,r,p,_⟩:=I.tuple j;obtain⟨⟨m,dd,Y,V⟩,e,hc,n,W⟩:=id p;simp only at hc W;subst hc W;have g:=r.length;have L:J.toArray.size*k.toNat<=ak:=by rw[VM,←g];exact hz
 have l:aaj (λd c=>d++c) #[] (V3 k.toNat J.toArray)=(V3 k.toNat J).flatten.toArray:=by have:=foldl_rep J k.toNat [];rw[Xo]at this;exact this
 have h:¬J.toArray.isEmpty=ah:=by
  intro z;have Z:J=[]:=by simpa using z
  exact O (r.ny.mp Z)
 refine aaK (T:="tuple") (U:="int") (by decide) ⟨_,e,rfl⟩ (λf=>typeIs_int f k t) oJ F.fills_int_mul F.slot_int_rmul ux F.slot_int_index.lookup
  (XC F.slot_int_rmul (typeIs_int s k t) F.entry_int_rmul (F.args_int_rmul_2 _ _) (qV k t a J.toArray n dd V)
   ⟨e,rfl,⟨_,e,rfl⟩,XC F.slot_tuple_mul ⟨_,e,rfl⟩ F.entry_tuple_mul (F.args_tuple_mul_2 _ _) (yi a J.toArray n dd V k t (by lia) h2 h (by lia) (by lia) L) ⟨e,?_⟩⟩)
 rw[l];have i:H s.heap.objs.size=af:=I.aI.fresh (VR _);refine⟨.ref s.heap.objs.size,_,I.laid (t':=s.toks) (o:=.aB (V3 k.toNat xs).flatten) (λb ob q=>VO _ q) (VR _) ?_,rfl,q _ i⟩;exact⟨by rw[len_rep,XR];exact hz,_,r.rep k.toNat,IsTup.new _ _⟩
def DE(I:Inv X zt σ H s)(g:LL X.K H l xs)(h1:-(2^63)<=k)(h2:k<=1000)(hz:xs.length*k.toNat<=ak)
(q:∀p,H p=af->Q (.ref p) (upd H p (.aj (V3 k.toNat xs).flatten))):ay (V4 X.prog X.w) X.A (W7 .Mult (.ref l) (.int k t)) (EP X zt σ Q) X.xe s:=by
 have c:k<2^63:=by lia
 obtain⟨z,J,n,r,f,e⟩:=rdL I g;have V:J.toArray.size*k.toNat<=ak:=by rw[VM,←f];exact hz
 have Y:¬J.toArray.size*k.toNat>(2^63-1)/8:=by
  have:(ak:Nat)<=(2^63-1)/8:=by decide
  lia
 have W:¬(!Builtin.List.listFitsIndex k)=ah:=by rw[fitsIndex_both h1 c];exact WU
 have L:¬WR (J.toArray.size*k.toNat)=ah:=by rw[qC V];exact WU
 have O:aaj (λb Z=>b++Z) #[] (V3 (if J.toArray.isEmpty=ah then 0 else k.toNat) J.toArray)=(V3 k.toNat J).flatten.toArray:=by
  have h:∀m:Nat,aaj (λb Z=>b++Z) #[] (V3 m J.toArray)=(V3 m J).flatten.toArray:=λm=>by have:=foldl_rep J m [];rw[Xo]at this;exact this
  rw[h];cases J with
  |nil=>simp|cons a i=>rw[bL (by simp)]
 refine aaK (T:="list") (U:="int") (by decide) ⟨_,e,rfl⟩ (λd=>typeIs_int d k t) noFill_list_mul F.fills_int_mul F.slot_int_rmul repeat_list F.slot_int_index.lookup
  (XC F.slot_int_rmul (typeIs_int s k t) F.entry_int_rmul (F.args_int_rmul_2 _ _) (int___rmul___int_list k t l J.toArray n)
   ⟨e,rfl,⟨_,e,rfl⟩,XC F.slot_list_mul ⟨_,e,rfl⟩ F.entry_list_mul (F.args_list_mul_2 _ _) (AutoListH.list___mul___list_int_3 l J.toArray n k t W Y L) ⟨e,?_⟩⟩)
 rw[O];exact⟨.ref _,_,I.OA (t':=s.toks) (r.rep k.toNat) (by rw[len_rep,XR];exact hz),rfl,q _ I.fresh⟩
def Ll:OpR X (W7 .Mult) (rOp X.prog X.w X.K (BT.um .mul)):=by
 intro g s f H v u n o Q I O U h;obtain⟨m,h,x,y,z,r,R,k,j,e,L⟩:=h;obtain⟨d,l,q,e1,e2,J,rfl,rfl⟩:=nK e;have W:=fB R k e1;have V:=fB R j e2;cases d<;>cases l<;>first|exact cW J|simp only[BT.vP,BT.qJ,BT.mT,BT.kh,BT.qK,BT.vQ,BT.qL,BT.qM,BT.qN,BT.oF]at J
 ·obtain⟨c,J⟩:=dP J;cases J;cases W.int;cases V.int;refine Kl g s f H _ _ _ _ Q I O U ⟨_,_,rfl,rfl,?_,L.here R (.int _)⟩;rcases Xq _ _ ▸ c with c|c
  exact .inl (uA c);exact .inr (uA c)
 ·obtain⟨c,J⟩:=dP J;simp only[VH,bN]at c;cases J;obtain⟨a,i,rfl,b,ra⟩:=W.aB;cases V.int;obtain⟨t,rfl⟩:=U;cases O;have Y:=ra.length;have:=gr;simp only[YF,List.isEmpty_eq_false_iff]at c;refine Bh I b (by lia) (by lia) (λz=>?_) (by rw[Y];lia) λp Z=>nL R Z (ra.rep _) L;subst z;cases ra;exact c.1.2 rfl
 ·obtain⟨c,J⟩:=dP J;simp only[VH,bN]at c;cases J;obtain⟨a,i,rfl,b,ra⟩:=W.aj;cases V.int;obtain⟨t,rfl⟩:=U;cases O;have Y:=ra.length;have:=gr;refine DE I b (by lia) (by lia) (by rw[Y];lia) λp Z=>nM R Z (ra.rep _) L
end
mutual
noncomputable def pd:aN->PyData
 |.aC=>.none|.bl b=>.bool b|.int i=>.int i|.str x=>.str x|.aB J=>.tuple (pds J)|.aj J=>.list (pds J)
noncomputable def pds:List aN->List PyData
 |[]=>[]|x::r=>pd x::pds r
end
mutual
theorem qW:∀x y:aN,PyData.eqv (pd x) (pd y)=aT x y
 |.aC,.aC=>rfl|.aC,.bl _=>rfl|.aC,.int _=>rfl|.aC,.str _=>rfl
 |.aC,.aB _=>by simp[pd,PyData.eqv,aT]
 |.aC,.aj _=>by simp[pd,PyData.eqv,aT]
 |.bl _,.aC=>rfl|.bl _,.bl _=>rfl|.bl _,.int _=>rfl|.bl _,.str _=>rfl
 |.bl _,.aB _=>by simp[pd,PyData.eqv,aT]
 |.bl _,.aj _=>by simp[pd,PyData.eqv,aT]
 |.int _,.aC=>rfl|.int _,.bl _=>rfl|.int _,.int _=>rfl|.int _,.str _=>rfl
 |.int _,.aB _=>by simp[pd,PyData.eqv,aT]
 |.int _,.aj _=>by simp[pd,PyData.eqv,aT]
 |.str _,.aC=>rfl|.str _,.bl _=>rfl|.str _,.int _=>rfl|.str _,.str _=>rfl
 |.str _,.aB _=>by simp[pd,PyData.eqv,aT]
 |.str _,.aj _=>by simp[pd,PyData.eqv,aT]
 |.aB _,.aC=>by simp[pd,PyData.eqv,aT]
 |.aB _,.bl _=>by simp[pd,PyData.eqv,aT]
 |.aB _,.int _=>by simp[pd,PyData.eqv,aT]
 |.aB _,.str _=>by simp[pd,PyData.eqv,aT]
 |.aB xs,.aB ys=>by simp only[pd,PyData.eqv,aT];exact uB xs ys
 |.aB _,.aj _=>by simp[pd,PyData.eqv,aT]
 |.aj _,.aC=>by simp[pd,PyData.eqv,aT]
 |.aj _,.bl _=>by simp[pd,PyData.eqv,aT]
 |.aj _,.int _=>by simp[pd,PyData.eqv,aT]
 |.aj _,.str _=>by simp[pd,PyData.eqv,aT]
 |.aj _,.aB _=>by simp[pd,PyData.eqv,aT]
 |.aj xs,.aj ys=>by simp only[pd,PyData.eqv,aT];exact uB xs ys
theorem uB:∀xs ys:List aN,PyData.eqvAll (pds xs) (pds ys)=BT.r9 xs ys
 |[],[]=>by simp[pds,PyData.eqvAll,BT.r9]
 |[],_::_=>by simp[pds,PyData.eqvAll,BT.r9]
 |_::_,[]=>by simp[pds,PyData.eqvAll,BT.r9]
 |x::xs,y::ys=>by simp only[pds,PyData.eqvAll,BT.r9];rw[qW x y,uB xs ys]
end
theorem lE:∀{xs:List aN},(∀x∈xs,(pd x).depth<=n)->PyData.depthAll (pds xs)<=n
 |[],_=>by simp[pds,PyData.depthAll]
 |x::xs,h=>by simp only[pds,PyData.depthAll];exact Nat.max_le.mpr ⟨h x V6,lE λy J=>h y (VZ _ J)⟩
theorem l6:∀(n:Nat)(d:aN),BT.dok n d=ah->(pd d).depth<=n
 |n,.aC,_=>by simp[pd,PyData.depth]
 |n,.bl _,_=>by simp[pd,PyData.depth]
 |n,.int _,_=>by simp[pd,PyData.depth]
 |n,.str _,_=>by simp[pd,PyData.depth]
 |0,.aB _,h=>by simp[BT.dok]at h
 |0,.aj _,h=>by simp[BT.dok]at h
 |n+1,.aB xs,h=>by simp only[pd,PyData.depth];rw[BT.zj,Xi]at h;exact Z0 (lE λx J=>l6 n x (h x J))
 |n+1,.aj xs,h=>by simp only[pd,PyData.depth];rw[BT.pX,Xi]at h;exact Z0 (lE λx J=>l6 n x (h x J))
section
variable{K:VE}
mutual
theorem jh:∀{v:V}{d:aN},RD K m H v d->(pd d).canLay0=ah
 |_,_,.aC=>rfl|_,_,.bl _=>rfl|_,_,.int _=>rfl
 |_,_,.str _ h=>by simpa [pd,PyData.canLay0]using h
 |_,_,.aB _ r=>by simp only[pd,PyData.canLay0];exact kB r
 |_,_,.aj _ r=>by simp only[pd,PyData.canLay0];exact kB r
theorem kB:∀{vs:List V}{ds:List aN},RDs K m H vs ds->PyData.canLayAll0 (pds ds)=ah
 |_,_,.nil=>by simp[pds,PyData.canLayAll0]
 |_,_,.cons r t=>by simp only[pds,PyData.canLayAll0];rw[jh r,kB t];rfl
end
mutual
theorem lF(I:Inv X zt σ H s):∀{v:V}{d:aN}{u:aA},RD X.K m H v d->RelV v u->∃as,Reads s.heap u (pd d) as
 |_,_,_,.aC,r=>by cases r;exact⟨_,.none⟩
 |_,_,_,.bl b,r=>by cases r;exact⟨_,.bool b⟩
 |_,_,_,.int i,r=>by obtain⟨t,rfl⟩:=r;exact⟨_,.int i t⟩
 |_,_,_,.str x _,r=>by obtain⟨t,rfl⟩:=r;exact⟨_,.str x t⟩
 |_,_,_,.aB h r,q=>by cases q;obtain⟨J,L,⟨o,e1,e2,n,O⟩,_⟩:=I.tuple (h.elim (λq=>.inl q.1) (λ⟨o,J,n,q,_⟩=>.inr ⟨o,J,n,q⟩));obtain⟨as,ra⟩:=l7 I r L;exact⟨_,.tuple e1 e2 O (by simpa using ra)⟩
 |_,_,_,.aj h r,q=>by cases q;obtain⟨z,J,n,L,_,e⟩:=rdL I (h.elim (λq=>.inl q.1) .inr);obtain⟨as,ra⟩:=l7 I r L;exact⟨_,.list e rfl rfl (by simpa using ra)⟩
theorem l7(I:Inv X zt σ H s):∀{vs:List V}{ds:List aN}{us:List aA},RDs X.K m H vs ds->dJ vs us->∃as,ReadsAll s.heap us (pds ds) as
 |_,_,_,.nil,q=>by cases q;exact⟨_,.nil⟩
 |_,_,_,.cons r t,q=>by
  cases q with
  |cons O L =>
   obtain⟨as,ra⟩:=lF I r O;obtain⟨bs,J⟩:=l7 I t L;exact⟨_,.cons ra J⟩
end
def lG(I:Inv X zt σ H s)(r:RR X.K m H v d)(q:RelV v u):∃as,Reads s.heap u (pd d) as:=by
 cases r with
 |d r=>exact lF I r q
 |l h r =>
  cases q;obtain⟨z,L,n,J,_,e⟩:=rdL I (.inl (.inl h));obtain⟨as,ra⟩:=l7 I r J;exact⟨_,.list e rfl rfl (by simpa using ra)⟩
def jZ(r:RR K m H v d):(pd d).canLay0=ah:=by
 cases r with
 |d r=>exact jh r|l h r=>simp only[pd,PyData.canLay0];exact kB r
def uC(h:BT.fL x y=ah):min (pd x).depth (pd y).depth<=100:=by
 unfold BT.fL at h;rcases Xq _ _ ▸ h with h|h
 have:=l6 100 x h;lia;have:=l6 100 y h;lia
def kC(e:bF o x y h=aa (z,h')):
 (∃kvs b,y=.k kvs/\BT.inK o x kvs=aa b/\z=.p (.bl b)/\h'=h)\/∃d d' b,aY x h=aa d/\aY y h=aa d'/\BT.iB o d d'=aa b/\z=.p (.bl b)/\h'=h:=by
 unfold bF at e;split at e
 ·rename_i kvs;obtain⟨b,e1,e2⟩:=dO e;cases e2;exact .inl ⟨kvs,b,rfl,e1,rfl,rfl⟩
 ·refine .inr ?_;cases e1:aY x h with
  |none=>rw[e1]at e;exact cW e
  |some d =>
   cases e2:aY y h with
   |none=>rw[e1,e2]at e;exact cW e
   |some d' =>
    rw[e1,e2]at e;obtain⟨q,eq,J⟩:=dO e;cases J;exact⟨d,d',q,rfl,rfl,eq,rfl,rfl⟩
def PN(l:X.A.units+150<aaM):OpR X (WE .Eq) (rOp X.prog X.w X.K (bF .eq)):=by
 intro i s g H v u j k Q I Y Z h;obtain⟨m,h,x,y,z,n,R,W,V,e,U⟩:=h;rcases kC e with⟨f,b,rfl,e1,_,_⟩|⟨d,d',b,e1,e2,J,rfl,rfl⟩
 exact bM e1 (BT.qP rfl)
 ·have O:=fB R W e1;have L:=fB R V e2;rw[BT.lZ]at J;obtain⟨c,J⟩:=dP J;cases J;obtain⟨o,ra⟩:=lG I O Y;obtain⟨bs,a⟩:=lG I L Z;have:=uC c;refine SeqAt.compareEq_reads ra a (jZ O) (jZ L) (by lia) ?_;rw[qW];exact⟨.bl _,H,I,rfl,U.here R (.bl _)⟩
def PP(l:X.A.units+150<aaM):OpR X (WE .NotEq) (rOp X.prog X.w X.K (bF .ne)):=by
 intro i s g H v u j k Q I Y Z h;obtain⟨m,h,x,y,z,n,R,W,V,e,U⟩:=h;rcases kC e with⟨f,b,rfl,e1,_,_⟩|⟨d,d',b,e1,e2,J,rfl,rfl⟩
 exact bM e1 (BT.qP rfl)
 ·have O:=fB R W e1;have L:=fB R V e2;rw[BT.zk]at J;obtain⟨c,J⟩:=dP J;cases J;obtain⟨o,ra⟩:=lG I O Y;obtain⟨bs,a⟩:=lG I L Z;have:=uC c;refine SeqAt.compareNe_reads ra a (jZ O) (jZ L) (by lia) ?_;rw[qW];exact⟨.bl _,H,I,rfl,U.here R (.bl _)⟩
noncomputable def PR:BT.Cm->Bool
 |.lt=>ah|.le=>ah|.gt=>ah|.ge=>ah|_=>ai
def GV{o:BT.Cm}{d d':aN}{b:Bool}(J:PR o=ah)(e:BT.iB o d d'=aa b):∃i j,d=.int i/\d'=.int j:=by cases o<;>first|exact aR J|(cases d<;>first|exact cW e|(cases d'<;>first|exact cW e|exact⟨_,_,rfl,rfl⟩))
def uD{o:BT.Cm}{c:CmpOp}{f:Int->Int->Bool}(Z:OpR X (WE c) (rI0 λi j=>.bl (f i j)))(g:PR o=ah)(k:BT.memC o=ai)(l:∀i j,BT.iB o (.int i) (.int j)=aa (f i j)):OpR X (WE c) (rOp X.prog X.w X.K (bF o)):=by
 intro L s J H v u n p Q I W Y h;obtain⟨m,h,x,y,z,q,R,V,U,e,O⟩:=h;rcases kC e with⟨a,b,rfl,e1,_,_⟩|⟨d,d',b,e1,e2,e3,rfl,rfl⟩
 exact bM e1 (BT.qP k)
 ·obtain⟨i,j,rfl,rfl⟩:=GV g e3;rw[l]at e3;cases e3;cases (fB R V e1).int;cases (fB R U e2).int;exact Z L s J H _ _ _ _ Q I W Y ⟨_,_,rfl,rfl,O.here R (.bl _)⟩
def zB(r:RR K m H v d):decide (v=.aC)=BT.lq d:=by
 cases r with
 |d r=>cases r<;>rfl|l h r=>rfl
def GW{v:V}{d:aN}{u:aA}{b:Bool}(r:RR K m H v d)(J:RelV v u):isSame u (.bool b)=pure (BT.ue b d):=by
 cases r with
 |d r=>cases r<;>first|(cases J;cases b<;>first|rfl|(rename_i c;cases c<;>rfl))|(obtain⟨t,rfl⟩:=J;cases b<;>rfl)
 |l h r=>cases J;rfl
def Lm:OpR X (WE .Is) (rOp X.prog X.w X.K (bF .isN)):=by
 intro L s J H v u f g Q I W Y h;obtain⟨m,h,x,y,z,i,R,V,U,e,O⟩:=h;rcases kC e with⟨c,b,rfl,e1,_,_⟩|⟨d,d',b,e1,e2,e3,rfl,rfl⟩
 exact bM e1 (BT.qP rfl)
 ·have a:=fB R V e1;have Z:=fB R U e2;cases d'<;>first|exact cW e3|simp only[BT.pY,BT.pZ,BT.qa,BT.qb,BT.nB,BT.l5,BT.jk,BT.kj,BT.jD,BT.jE]at e3
  cases e3;cases Z.aC;refine Kn L s J H _ _ _ _ Q I W Y ⟨rfl,?_⟩;rw[zB a];exact O.here R (.bl _)
def GX:OpR X (WE .IsNot) (rOp X.prog X.w X.K (bF .notN)):=by
 intro Y s W H v u f g Q I L O h;obtain⟨m,h,x,y,z,i,R,a,Z,e,J⟩:=h;rcases kC e with⟨c,b,rfl,e1,_,_⟩|⟨d,d',b,e1,e2,e3,rfl,rfl⟩
 exact bM e1 (BT.qP rfl)
 ·have V:=fB R a e1;have U:=fB R Z e2;cases d'<;>first|exact cW e3|simp only[BT.pY,BT.pZ,BT.qa,BT.qb,BT.nB,BT.l5,BT.A8,BT.jk,BT.kj,BT.jD,BT.jE]at e3
  ·cases e3;cases U.aC;refine Gn Y s W H _ _ _ _ Q I L O ⟨rfl,?_⟩;rw[zB V];exact J.here R (.bl _)
  ·cases e3;cases U.bl;cases O;exact VJ (wpAny_of_eq (GW V L) (av ⟨.bl _,H,I,rfl,J.here R (.bl _)⟩))
open Classical in
def gn(h:au)(dx:PyData)(y:aA):Bool:=if q:∃J L,Reads h y J L/\J.canLay0=ah then PyData.eqv (Classical.choose q) dx else ai
def yj(r:Reads h y J as)(c:J.canLay0=ah):gn h dx y=PyData.eqv J dx:=by have q:∃J as,Reads h y J as/\J.canLay0=ah:=⟨J,as,r,c⟩;unfold gn;rw[dif_pos q];obtain⟨O,L,U⟩:=Classical.choose_spec q;rw[SeqAt.Reads.unique _ _ _ _ _ c r L]
theorem nN(I:Inv X zt σ H s):∀{vs:List V}{ds:List aN}{us:List aA},RDs X.K m H vs ds->dJ vs us->us.any (gn s.heap (pd d))=ds.any λy=>aT y d
 |_,_,_,.nil,q=>by cases q;rfl
 |_,_,_,.cons r t,q=>by
  cases q with
  |cons L J =>
   obtain⟨O,ra⟩:=lF I r L;rw[List.any_cons,List.any_cons,nN I t J,yj ra (jh r),qW]
theorem jG(Z:X.A.units+150<aaM)(I:Inv X zt σ H s)(L:RR X.K m H v d)(O:RelV v u):∀{vs:List V}{ds:List aN}{us:List aA},RDs X.K m H vs ds->dJ vs us->(ds.all λy=>BT.fL y d)=ah →
 ∀y∈us,SeqAt.EqAt X.A.in1 s y u (gn s.heap (pd d) y)
 |_,_,_,.nil,q,_=>by cases q;intro y J;simp at J
 |_,_,_,.cons r t,q,c=>by
  cases q with
  |cons Y W =>
   rw[List.all_cons,VH]at c;intro y J;rcases List.mem_cons.mp J with rfl|J
   ·obtain⟨a,ra⟩:=lF I r Y;obtain⟨bs,U⟩:=lG I L O;rw[yj ra (jh r)];have:=uC c.1;refine SeqAt.eqAt_reads _ _ _ _ _ _ _ _ ra U (jh r) (jZ L) ?_;show X.A.units+1+_<_;lia
   exact jG Z I L O t W c.2 y J
def Ln(r:X.A.units+150 < aaM)(B:∀ {kvs:BT.Kd}{x:aM}{b:Bool}{m:List VS}{H:Hp}{v u:V}{W Y:aA}{zt σ s Q},Inv X zt σ H s->RelV v W->RelV u Y->RW X.prog X.w X.K m H v x->RW X.prog X.w X.K m H u (.k kvs)->BT.inK .mem x kvs=aa b->Q (V.bl b) H →
 ay (V4 X.prog X.w) X.A (WE .In W Y) (EP X zt σ Q) X.xe s):OpR X (WE .In) (rOp X.prog X.w X.K (bF .mem)):=by
 intro zt s σ H v u W Y Q I Z f h;obtain⟨m,h,x,y,z,C,R,o,l,e,U⟩:=h;rcases kC e with⟨kvs,b,rfl,e1,rfl,rfl⟩|⟨d,d',b,e1,e2,L,rfl,rfl⟩
 exact B I Z f o l e1 (U.here R (.bl _))
 ·have q:=fB R o e1;have p:=fB R l e2;cases d'<;>first|exact cW L|simp only[BT.pY,BT.pZ,BT.qa,BT.qb,BT.nB,BT.l5,BT.jk,BT.kj,BT.jD,BT.jE]at L
  ·obtain⟨c,L⟩:=dP L;cases L;obtain⟨a,t,rfl,j,ra⟩:=p.aB;cases f;obtain⟨J,O,g,_⟩:=I.tuple j;refine SeqAt.in_tupleAt (gn s.heap (pd d)) g (λy i=>jG r I q Z ra O c y (by simpa using i)) ⟨.bl _,H,I,rfl,?_⟩;rw[show J.toArray.any (gn s.heap (pd d))=J.any (gn s.heap (pd d)) by simp,nN I ra O];exact U.here R (.bl _)
  ·obtain⟨c,L⟩:=dP L;cases L;obtain⟨a,t,rfl,j,ra⟩:=p.aj;cases f;obtain⟨z,J,n,O,_,g⟩:=rdL I j;refine SeqAt.in_listAt (gn s.heap (pd d)) ⟨_,g,rfl,_,rfl⟩ (λy i=>jG r I q Z ra O c y (by simpa using i)) ⟨.bl _,H,I,rfl,?_⟩;rw[show J.toArray.any (gn s.heap (pd d))=J.any (gn s.heap (pd d)) by simp,nN I ra O];exact U.here R (.bl _)
def GY(r:X.A.units+150 < aaM)(B:∀ {kvs:BT.Kd}{x:aM}{b:Bool}{m:List VS}{H:Hp}{v u:V}{W Y:aA}{zt σ s Q},Inv X zt σ H s->RelV v W->RelV u Y->RW X.prog X.w X.K m H v x->RW X.prog X.w X.K m H u (.k kvs)->BT.inK .nmem x kvs=aa b->Q (V.bl b) H →
 ay (V4 X.prog X.w) X.A (WE .NotIn W Y) (EP X zt σ Q) X.xe s):OpR X (WE .NotIn) (rOp X.prog X.w X.K (bF .nmem)):=by
 intro zt s σ H v u W Y Q I Z f h;obtain⟨m,h,x,y,z,C,R,o,l,e,U⟩:=h;rcases kC e with⟨kvs,b,rfl,e1,rfl,rfl⟩|⟨d,d',b,e1,e2,L,rfl,rfl⟩
 exact B I Z f o l e1 (U.here R (.bl _))
 ·have q:=fB R o e1;have p:=fB R l e2;cases d'<;>first|exact cW L|simp only[BT.pY,BT.pZ,BT.qa,BT.qb,BT.nB,BT.l5,BT.jk,BT.kj,BT.jD,BT.jE]at L
  ·obtain⟨c,L⟩:=dP L;cases L;obtain⟨a,t,rfl,j,ra⟩:=p.aB;cases f;obtain⟨J,O,g,_⟩:=I.tuple j;refine SeqAt.notIn_tupleAt (gn s.heap (pd d)) g (λy i=>jG r I q Z ra O c y (by simpa using i)) ⟨.bl _,H,I,rfl,?_⟩;rw[show J.toArray.any (gn s.heap (pd d))=J.any (gn s.heap (pd d)) by simp,nN I ra O];exact U.here R (.bl _)
  ·obtain⟨c,L⟩:=dP L;cases L;obtain⟨a,t,rfl,j,ra⟩:=p.aj;cases f;obtain⟨z,J,n,O,_,g⟩:=rdL I j;refine SeqAt.notIn_listAt (gn s.heap (pd d)) ⟨_,g,rfl,_,rfl⟩ (λy i=>jG r I q Z ra O c y (by simpa using i)) ⟨.bl _,H,I,rfl,?_⟩;rw[show J.toArray.any (gn s.heap (pd d))=J.any (gn s.heap (pd d)) by simp,nN I ra O];exact U.here R (.bl _)
end
section
variable{P:VV}{w:Wj}{K:VE}{m m':List VS}{H H':Hp}
def Bj(e:p.1=k):bH (p::r) k=aa p.2:=by simp[bH,XU,e]
def Bk(e:¬p.1=k):bH (p::r) k=bH r k:=by simp[bH,XU,e]
def RKs.get(r:RKs K m H vs kvs)(k:Key):(bH kvs k=af/\vL vs k=af)\/∃v d,bH kvs k=aa d/\vL vs k=aa v/\RD K m H v d:=by
 induction r with
 |nil=>exact .inl ⟨rfl,rfl⟩
 |@cons j v d vs kvs L r t J =>
  by_cases c:j=k
  exact .inr ⟨v,d,Bj c,vM c,r⟩;rw[Bk (p:=(j,d)) c,vN (p:=(j,v)) c];exact J
def DF(r:RD K m H v d)(e:BT.sj d=aa k):v=kV k:=by cases r<;>cases e<;>rfl
inductive DG(X:Cx)(m:List VS)(H:Hp)(s:VG)(a:VS)(kvs:List (BT.Ky×aN))(k:Key):Prop
 |no(vs:List (Key×aA))(d:s.heap.DictOf (ef X.prog X.w) a vs)(n:(a==Yd)=ai)(e1:bH kvs k=af)(e2:valueAt vs k=af):DG X m H s a kvs k
 |is(vs:List (Key×aA))(d:s.heap.DictOf (ef X.prog X.w) a vs)(n:(a==Yd)=ai)(x:aN)(v:V)(u:aA)(e1:bH kvs k=aa x)(e2:valueAt vs k=aa u)(r:RelV v u)(q:RD X.K m H v x):DG X m H s a kvs k
def yk(I:Inv X zt σ H s)(h:Rd H a (.dK ws))(Y:RKs X.K m H ws kvs)(k:Key):DG X m H s a kvs k:=by
 obtain⟨z,W,L,O,dd⟩:=OE I.aI h;have J:=O.val k;rcases Y.get k with⟨V,U⟩|⟨v,d,V,U,g3⟩
 ·rw[U]at J;cases e:valueAt L k with
  |none=>exact .no L dd W V e|some u=>rw[e]at J;exact J.elim
 ·rw[U]at J;cases e:valueAt L k with
  |none=>rw[e]at J;exact J.elim|some u=>rw[e]at J;exact .is L dd W d v u V e J g3
end
section
variable{prog:VV}{w:Wj}{A:Wq}{E:aA->VG->Prop}{s:VG}
def Bl{Q:Int->VG->Prop}(h:Q 4238894112 {s with toks:=s.toks+1}):ay (V4 prog w) A (pyHash .none) Q E s:=by show ay _ _ (pyHashByItsType .none) _ _ _;refine PySem.W.pyHash_slot (T:="NoneType") (typeIs_none s) PySem.F.slot_NoneType_hash PySem.F.entry_NoneType_hash (PySem.F.args_NoneType_hash_1 _) (by decide) (.inl rfl) ?_;show ay _ _ (slotArgs "__hash__" 0 ⟨[XY],[]⟩ >>= λ_=>retInt 4238894112) _ _ _;rw[slotArgs.eq_1];refine VJ (av ?_);unfold retInt;refine VJ (wpAny_mkInt ?_);exact av ⟨_,_,rfl,h⟩
end
def DH:Option Key->aA->Bool
 |none,.none=>ah|none,_=>ai|some k,v=>kQ k v
def kD{v:aA}(h:DH af v=ah):v=.none:=by cases v<;>first|rfl|(exfalso;exact WU h)
def DI(a b:Key):decide (aa a=aa b)=decide (a=b):=by simp
def optKind(prog:VV)(w:Wj):PySem.KeyKind prog w (Option Key) where
 is:=DH
 hash:=λk=>match k with|none=>4238894112|some k=>NZ w k
 inj:=λv a b L J=>by
  cases a with
  |none =>
   cases kD L;cases b with
   |none=>rfl
   |some b=>rcases d9 (show kQ b .none=ah from J)with⟨i,t,rfl,e⟩|⟨x,t,rfl,e⟩<;>exact nomatch e
  |some a =>
   cases b with
   |none =>
    cases kD J;rcases d9 (show kQ a .none=ah from L)with⟨i,t,rfl,e⟩|⟨x,t,rfl,e⟩<;>exact nomatch e
   |some b=>rw[(ef prog w).inj v a b L J]
 byValue:=λk v h=>by
  cases k with
  |none=>cases kD h;rfl|some k=>exact(ef prog w).byValue k v h
 pyHash:=λ{A E s k v Q} hv h=>by
  cases k with
  |none=>cases kD hv;exact Bl h|some k=>exact(ef prog w).pyHash (k:=k) hv h
 eqBool:=λ{A E s a b u v Q} hu hv h=>by
  cases a with
  |none =>
   cases kD hu;cases b with
   |none=>cases kD hv;exact SeqAt.EqAt.same _ _ _ _ _ (by simpa using h)
   |some b =>
    have h:Q ai s:=by simpa using h
    rcases d9 (show kQ b v=ah from hv)with⟨i,t,rfl,rfl⟩|⟨x,t,rfl,rfl⟩
    exact SeqAt.EqAt.none_int i t _ _ _ _ h;exact SeqAt.EqAt.none_str x t _ _ _ _ h
  |some a =>
   cases b with
   |none =>
    cases kD hv;have h:Q ai s:=by simpa using h
    rcases d9 (show kQ a u=ah from hu)with⟨i,t,rfl,rfl⟩|⟨x,t,rfl,rfl⟩
    exact SeqAt.EqAt.int_none i t _ _ _ _ h;exact SeqAt.EqAt.str_none x t _ _ _ _ h
   |some b=>rw[DI]at h;exact(ef prog w).eqBool (a:=a) (b:=b) hu hv h
 «strs»:=λk x t v h=>by
  cases k with
  |none=>exact nomatch kD h
  |some k=>exact(ef prog w).strs k x t v h
def map_none{prog:VV}{w:Wj}{h:au}{a:VS}{vs:List (Key×aA)}(dd:h.DictOf (ef prog w) a vs):∃f,h.MapOf (optKind prog w) a f/\f af=af:=by
 obtain⟨o,L,b,W,V,Y,U,_⟩:=dd;refine⟨λk=>findBy DH L k,⟨o,L,b,W,V,Y,λe O=>?_,λk=>rfl⟩,?_⟩
 ·obtain⟨k,J,Z⟩:=U e O;exact⟨aa k,J,Z⟩
 ·show(Array.find? (λe=>DH af e.key) L).map (·.val)=af;have:Array.find? (λe=>DH af e.key) L=af:=by rw[Array.find?_eq_none];intro e O q;obtain⟨k,J,_⟩:=U e O;rw[kD q]at J;rcases d9 (show kQ k .none=ah from J)with⟨i,t,rfl,e⟩|⟨x,t,rfl,e⟩<;>exact nomatch e
  rw[this];rfl
section
def RDs.atI{K:VE}(r:RDs K m H vs ds)(e:BT.atP ds i=aa d):∃v,L2.atI vs i=aa v/\RD K m H v d:=by unfold BT.atP at e;unfold L2.atI;obtain⟨j,U,O⟩:=Option.bind_eq_some_iff.mp e;obtain⟨v,L,J⟩:=r.get O;refine⟨v,?_,J⟩;rw[r.length];show((BT.place ds.length i).bind λj=>vs[j]?)=aa v;rw[U];exact L
def GZ{x y:aM}{h:aL}{z:aM}{h':aL}(e:BT.GJ x y h=aa (z,h')):
 (∃kvs k d,x=.k (.t kvs)/\y=.p (.str k)/\BT.gi k kvs=aa d/\z=.p d/\h'=h)\/(∃kvs e k d,x=.k (.l kvs)/\y=.p e/\BT.sj e=aa k/\bH kvs k=aa d/\z=.p d/\h'=h)\/∃d d' b,aY x h=aa d/\aY y h=aa d'/\BT.dI d d'=aa b/\z=.p b/\h'=h:=by
 unfold BT.GJ at e;split at e
 ·rename_i kvs;obtain⟨b,e1,e2⟩:=dO e;cases e2;cases kvs with
  |t kvs =>
   cases y with
   |p d =>
    cases d with
    |str x=>exact .inl ⟨kvs,_,b,rfl,rfl,e1,rfl,rfl⟩|_=>exact cW e1
   |_=>exact cW e1
  |l kvs =>
   cases y with
   |p d =>
    obtain⟨k,L,J⟩:=Option.bind_eq_some_iff.mp (show(BT.sj d).bind (bH kvs)=aa b from e1);exact .inr (.inl ⟨kvs,d,k,b,rfl,rfl,L,J,rfl,rfl⟩)
   |_=>exact cW e1
 ·refine .inr (.inr ?_);cases e1:aY x h with
  |none=>rw[e1]at e;exact cW e
  |some d =>
   cases e2:aY y h with
   |none=>rw[e1,e2]at e;exact cW e
   |some d' =>
    rw[e1,e2]at e;obtain⟨q,eq,O⟩:=dO e;cases O;exact⟨d,d',q,rfl,rfl,eq,rfl,rfl⟩
theorem DJ{K:VE}:∀{es:List (az×V)}{kvs:List (az×aN)}{vs:List (Key×aA)},RDk K es kvs->KV (es.map λq=>((Sum.inr q.1:Key),q.2)) vs->BT.gi k kvs=aa d →
 ∃u v,valueAt vs (Sum.inr k)=aa u/\RelV v u/\∀m H,RD K m H v d
 |_,_,_,.nil,_,e=>by simp[BT.gi]at e
 |_,_,_,@RDk.cons _ x v dd es kvs r t,q,e=>by
  cases q with
  |@cons p z i h Z Y =>
   obtain⟨g,U⟩:=z;obtain⟨L,J⟩:=Z;simp only at L J;subst L;rw[BT.gi]at e
   by_cases c:k=x
   ·rw[bK c]at e;cases e;subst c;exact⟨U,v,by simp[valueAt],J,r⟩
   ·rw[bL c]at e;obtain⟨u,W,O,f,b⟩:=DJ t Y e;refine⟨u,W,?_,f,b⟩;have a:¬((Sum.inr x:Key)=Sum.inr k):=λz=>c (Sum.inr.inj z).symm;simp only[valueAt]at O⊢;rw[YX (by simpa using a)];exact O
def Bm(h:PyData.strOk x=ah)(hc:c∈x.cps.toList):PyData.strOk ⟨#[c]⟩=ah:=by simp only[PyData.strOk,Array.all_eq_true_iff_forall_mem]at h⊢;intro y J;simp at J;subst J;exact h y (by simpa using hc)
def Lo:IxR X (rOp X.prog X.w X.K BT.GJ):=by
 intro J L g s f H v u v' P Q I W Y h Z;obtain⟨m,h,x,y,z,h',R,i,O,e,U⟩:=h;rcases GZ e with⟨B,k,d,rfl,rfl,e1,rfl,rfl⟩|⟨B,e',k,d,rfl,rfl,e0,e1,rfl,rfl⟩|⟨d,d',b,e1,e2,e3,rfl,rfl⟩
 ·cases i with
  |@k a es _ kd l =>
   cases W;cases O with
   |p O =>
    cases O with
    |str _ ok =>
     obtain⟨t,rfl⟩:=Y;obtain⟨hm,V,S,dd⟩:=kd;obtain⟨w',z,G,E,h3⟩:=DJ l S e1;have D:=dd s.heap I.kIn;refine aa4 (ops:=[.ref a,.str k t]) D.typeIs slot_dict_getitem.lookup ?_ Z;exact wpAny_getItem_of (knd:=ef X.prog X.w) (jC _ _ k t) D.mapOf G ⟨z,H,I.tok _,E,U.here R (h3 _ _)⟩
 ·cases i with
  |@kl a ob ws _ T l =>
   cases W;cases O with
   |p O =>
    have ek:=DF O e0;subst ek;cases yk I (.inr ⟨_,T.1⟩) l k with
    |no _ _ _ F _=>rw[F]at e1;exact cW e1
    |is V dd n x N u1 F g2 g3 g4 =>
     rw[F]at e1;cases e1;refine aa4 (ops:=[.ref a,P]) dd.typeIs slot_dict_getitem.lookup ?_ Z;exact wpAny_getItem_of (knd:=ef X.prog X.w) (C5 Y) dd.mapOf g2 ⟨N,H,I.tok _,g3,U.here R g4⟩
 ·have q:=fB R i e1;have o:=fB R O e2;cases d<;>cases d'<;>first|exact cW e3|simp only[BT.eV,BT.d8,BT.lu]at e3
  ·split at e3
   ·rename_i c;obtain⟨cc,M,e5⟩:=dO e3;subst e5;obtain⟨rfl,ok⟩:=q.str;cases o.int;have:=gr;refine Kx J L g s f H _ _ _ _ Q I W Y ⟨_,_,cc,rfl,rfl,by lia,M,U.here R (.str _ (Bm ok ?_))⟩ Z;obtain⟨j,G,E⟩:=Option.bind_eq_some_iff.mp M;exact V0 E
   exact cW e3
  ·obtain⟨a,V,rfl,C,ra⟩:=q.aB;cases o.int;obtain⟨z,A,r⟩:=ra.atI e3;exact Kw J L g s f H _ _ _ _ Q I W Y ⟨a,V,_,z,rfl,rfl,C,A,U.here R r⟩ Z
  ·obtain⟨a,V,rfl,C,ra⟩:=q.aj;cases o.int;obtain⟨z,A,r⟩:=ra.atI e3;exact zg J L g s f H _ _ _ _ Q I W Y ⟨a,V,_,z,rfl,rfl,C.sq,A,U.here R r⟩ Z
def nO(n d:Nat)(o:Option Int):BT.clip n d o=HT.sIx n d o:=by
 cases o with
 |none=>rfl
 |some v =>
  simp only[BT.clip,HT.sIx];split;rfl
  ·split;lia;lia
def sA{E:aA->VG->Prop}{lo:Option Int}(J:IsTup s.heap t items)(W:s.heap.IsSliceOf sl vl vu .none)(pl:aag vl lo)(Y:aag vu hi)
(hw:HT.sIx items.size 0 lo=0/\HT.sIx items.size items.size hi=items.size)(h:Q (.ref t) s):ay (V4 prog w) A (Z7 (.ref t) (.ref sl)) Q E s:=by
 obtain⟨os,L,U,Z⟩:=id W;have V:s.TypeIs (.ref sl) "slice":=⟨os,L,U⟩;unfold Z7
 try with_reducible refine WN ?_
 first|refine VJ (av ?_)|skip
 refine VJ (wpAny_sequenceKey J.typeIs (by decide) ?_);refine VJ (aa2 (name:=VQ "__getitem__") J.typeIs W5
  (wpAny_call_entry W5 J.typeIs entry_tuple_getitem ?_ (args_tuple_getitem _ _)))
 show ay _ _ (Zl (.ref t) >>= _) _ _ s;refine VJ (tupleItemsOf_ J ?_);refine VJ (wpAny_typeOf V ?_);rw[bK (by decide)];refine VJ (HT.jV W pl Y ?_);have O:(((HT.sIx items.size 0 lo:Nat):Int)==0&&(1:Int)==1&&(HT.sIx items.size items.size hi-HT.sIx items.size 0 lo)==items.size)=ah:=by rw[hw.1,hw.2];simp
 show ay _ _ (if(((HT.sIx items.size 0 lo:Nat):Int)==0&&(1:Int)==1&&(HT.sIx items.size items.size hi-HT.sIx items.size 0 lo)==items.size)=ah then _ else _) _ _ s;rw[bK O];unfold Builtin.Tuple.tupleIsExact;refine VJ (VJ (wpAny_typeOf J.typeIs (av ?_)));rw[bK (by decide)];refine VJ (wpAny_rule ?_)
 first
  |exact av ⟨_,rfl,av h⟩
  |exact av ⟨_,rfl,h⟩
  |exact VJ (av (av ⟨_,rfl,av h⟩))
inductive rSl(P:VV)(w:Wj)(K:VE)(v:V)(lo hi:Option Int)(H:Hp)(Q:VK):Prop
 |mk(m:List VS)(h:aL)(x:aM)(d b:aN)(R:RH K m H h)(J:RW P w K m H v x)(e:aY x h=aa d)(e2:BT.qG d lo hi=aa b)(p:Post P w K m H (.p b) h Q):rSl P w K v lo hi H Q
def RDs.cut{K:VE}(r:RDs K m H vs ds)(lo hi:Option Int):RDs K m H (vJ vs lo hi) (BT.cut ds lo hi):=by unfold vJ BT.cut;rw[nO,nO,r.length];exact(r.drop _).take _
def Bo{lo:Option Int}(h1:HT.sIx ds.length 0 lo=0)(h2:HT.sIx ds.length ds.length hi=ds.length):BT.cut ds lo hi=ds:=by unfold BT.cut;rw[nO,nO,h1,h2];simp
def osl:SlR X (rSl X.prog X.w X.K):=by
 intro i s g H v y k j lo L l Q I n e Y W h;obtain⟨m,h,x,d,b,R,q,e1,e2,U⟩:=h;have V:=fB R q e1;cases d<;>simp only[BT.qG]at e2<;>try contradiction
 ·cases e2;obtain⟨a,J,rfl,O,ra⟩:=V.aB;cases n
  by_cases c:HT.sIx J.length 0 lo=0/\HT.sIx J.length J.length L=J.length
  ·obtain⟨Z,t,o,_⟩:=I.tuple O;have u:Z.toArray.size=J.length:=by rw[VM];exact t.length.symm
   refine⟨"tuple",_,PyProof.Rows.slot_tuple_getitem.lookup,o.typeIs,sA o e Y W (by rw[u];exact c) ⟨.ref a,H,I,rfl,?_⟩⟩;cases V with
   |d r =>
    refine U.here R ?_;rw[Bo (by rw[←ra.length];exact c.1) (by rw[←ra.length];exact c.2)];exact r
  exact Kv i s g H (.ref a) (.ref a) k j lo L l Q I rfl e Y W ⟨a,J,rfl,O,c,λp f=>nL R f (ra.cut lo L) U⟩
 ·cases e2;obtain⟨a,J,rfl,O,ra⟩:=V.aj;exact GB i s g H _ _ k j lo L l Q I n e Y W ⟨a,J,rfl,O.sq,λp f=>nM R f (ra.cut lo L) U⟩
end
def v7(m:BT.Me)(d:aN)(as:List aM)(h:aL):aS m (.p d) as h=(match bw as with|some ds=>(BT.meD m d ds).map λx=>(.p x,h)|none=>af):=by cases m<;>rfl
section
inductive rMe(P:VV)(w:Wj)(K:VE)(me:BT.Me)(v:V)(vs:List V)(H:Hp)(Q:VK):Prop
 |mk(m:List VS)(h:aL)(x:aM)(ws:List aM)(z:aM)(h':aL)(R:RH K m H h)(J:RW P w K m H v x)(rs:RWs P w K m H vs ws)(e:aS me x ws h=aa (z,h'))(p:Post P w K m H z h' Q):rMe P w K me v vs H Q
def getD_some{J:Type}{xs:List J}{n:Nat}{a:J}(h:xs[n]?=aa a):n<xs.length:=by
 rcases V9 n xs.length with z|z
 exact z;rw[VP z]at h;exact cW h
def Bp:MtR X "list.append" (rMe X.prog X.w X.K .append):=by
 intro Y s W H v l o q Q I j U h;obtain⟨m,h,x,f,z,A,R,i,O,e,Z⟩:=h;cases x with
 |p d=>cases f with
  |nil=>exact cW e|cons _ _=>rw[v7]at e;split at e<;>(try exact cW e)
 |r n =>
  cases O with
  |nil=>(first|exact cW e|simp[aS]at e)
  |@cons y k _ _ J t =>
   cases t with
   |cons _ _=>cases J<;>(first|exact cW e|simp[aS]at e)
   |nil =>
    cases J with
    |p J =>
     rw[BT.jj]at e;cases g:aZ h n with
     |none=>rw[g]at e;exact cW e
     |some b =>
      rw[g]at e;simp only at e;obtain⟨c,e⟩:=dP e;cases e;cases i with
      |@r a _ hn =>
       obtain⟨L,V,r⟩:=R.cell n a b hn g;have:=gr;have u:=r.length;exact sX Y s W H _ _ _ _ Q I j U ⟨a,L,y,rfl,rfl,V,by lia,Z _ _ m (jn (V0 hn) V) (R.set hn V (r.append (.cons J .nil))) (.p .aC)⟩
    |_=>(first|exact cW e|simp[aS]at e)
 |_=>(first|exact cW e|simp[aS]at e)
def DK{J:Type}{xs:List J}{d:J}(h:xs.getLast?=aa d):xs[xs.length-1]?=aa d:=by rw[←List.getLast?_eq_getElem?];exact h
def Lp:MtR X "list.pop" (rMe X.prog X.w X.K .pop):=by
 intro b s Z H v q t u Q I k O h;obtain⟨m,h,x,f,z,A,R,j,L,e,c⟩:=h;cases x with
 |p d=>cases f with
  |nil=>exact cW e|cons _ _=>rw[v7]at e;split at e<;>(try exact cW e)
 |r n =>
  cases L with
  |cons _ _=>(first|exact cW e|simp[aS]at e)
  |nil =>
   rw[BT.GI]at e;cases g:aZ h n with
   |none=>rw[g]at e;exact cW e
   |some W =>
    rw[g]at e;simp only at e;cases V:W.getLast? with
    |none=>rw[V]at e;exact cW e
    |some d =>
     rw[V]at e;cases e;cases j with
     |@r a _ hn =>
      obtain⟨J,U,r⟩:=R.cell n a W hn g;have o:=r.length;obtain⟨y,l,i⟩:=r.get (DK V);have Y:Ext m H m (upd H a (.aj J.dropLast)):=jn (V0 hn) U;exact KB b s Z H _ _ _ _ Q I k O ⟨a,J,y,rfl,rfl,U,by rw[o];exact l,c _ _ m Y (R.set hn U r.dropLast) (.p (i.ext Y))⟩
 |_=>(first|exact cW e|simp[aS]at e)
def DL(I:Inv X zt σ H s)(V:H l=aa (.aj xs))(a:LL X.K H b zs)(hz:xs.length+zs.length<=ak)(q:Q .aC (upd H l (.aj (xs++zs)))):
 ay (V4 X.prog X.w) X.A (call (.builtin "list.extend") [.ref l,.ref b]) (EP X zt σ Q) X.xe s:=by
 obtain⟨z,L,n,r,d,e⟩:=I.GD V;obtain⟨c,J,Y,W,Z,e2⟩:=rdL I a;have U:L.toArray.size+J.toArray.size<=ak:=by rw[VM,VM];lia
 have O:¬(!L.toArray.isEmpty&&WR (L.toArray.size+J.toArray.size))=ah:=by rw[qC U,Bool.and_false];exact WU
 refine XC F.slot_list_extend ⟨_,e,rfl⟩ F.entry_list_extend (F.args_list_extend_2 _ _)
  (AutoSeq1.list_extend_list_list_0 l L.toArray n b J.toArray Y O (by rw[VM];lia) (by lia)) ⟨e,e2,?_⟩
 refine⟨.aC,_,I.GC (its':=L++J) V e (by simp) (r.append W) ?_,rfl,q⟩;rw[Wg];lia
def G0(I:Inv X zt σ H s)(Y:H l=aa (.aj xs))(g:SqT X.K H b zs)(hz:xs.length+zs.length<=ak)(q:Q .aC (upd H l (.aj (xs++zs)))):
 ay (V4 X.prog X.w) X.A (call (.builtin "list.extend") [.ref l,.ref b]) (EP X zt σ Q) X.xe s:=by
 obtain⟨z,L,n,r,i,e⟩:=I.GD Y;obtain⟨J,V,c,_⟩:=I.tuple g;obtain⟨⟨h,dd,Z,a⟩,e2,hc,d,W⟩:=id c;simp only at hc W;subst hc W;have f:=V.length;have U:L.toArray.size+J.toArray.size<=ak:=by rw[VM,VM];lia
 have O:¬(!L.toArray.isEmpty&&WR (L.toArray.size+J.toArray.size))=ah:=by rw[qC U,Bool.and_false];exact WU
 refine XC F.slot_list_extend ⟨_,e,rfl⟩ F.entry_list_extend (F.args_list_extend_2 _ _)
  (pO l L.toArray n b J.toArray d dd a O (by rw[VM];lia) (by lia)) ⟨e,e2,?_⟩
 refine⟨.aC,_,I.GC (its':=L++J) Y e (by simp) (r.append V) ?_,rfl,q⟩;rw[Wg];lia
def Bq:MtR X "list.extend" (rMe X.prog X.w X.K .extend):=by
 intro E s D H v G M N Q I C U h;obtain⟨m,h,x,l,z,S,R,B,O,e,Z⟩:=h;cases x with
 |p d=>cases l with
  |nil=>exact cW e|cons _ _=>rw[v7]at e;split at e<;>(try exact cW e)
 |r n =>
  cases O with
  |nil=>(first|exact cW e|simp[aS]at e)
  |@cons y k _ _ A t =>
   cases t with
   |cons _ _=>(first|exact cW e|simp[aS]at e)
   |nil =>
    rw[BT.ya]at e;cases g:aZ h n with
    |none=>rw[g]at e;exact cW e
    |some j =>
     cases Y:(aY k h).bind BT.uf with
     |none=>rw[g,Y]at e;exact cW e
     |some F =>
      rw[g,Y]at e;simp only at e;obtain⟨c,e⟩:=dP e;cases e;obtain⟨d,e1,e2⟩:=Option.bind_eq_some_iff.mp Y;have i:=fB R A e1;cases B with
      |@r a _ hn =>
       obtain⟨q,J,r⟩:=R.cell n a j hn g;cases C;obtain⟨u,rfl,f⟩:=U.one;have:=gr;have P:=r.length;cases d<;>simp only[BT.uf]at e2<;>try contradiction
       ·cases e2;obtain⟨b,o,rfl,W,L⟩:=i.aB;cases f;have V:=L.length;exact G0 I J W (by lia) (Z _ _ m (jn (V0 hn) J) (R.set hn J (r.append L)) (.p .aC))
       ·cases e2;obtain⟨b,o,rfl,W,L⟩:=i.aj;cases f;have V:=L.length;exact DL I J W (by lia) (Z _ _ m (jn (V0 hn) J) (R.set hn J (r.append L)) (.p .aC))
 |_=>(first|exact cW e|simp[aS]at e)
def RWs.pure{K:VE}:∀{vs:List V}{ws:List aM}{ds:List aN},RWs P w K m H vs ws->bw ws=aa ds->RDs K m H vs ds:=by
 intro vs ws
 induction ws generalizing vs with
 |nil =>
  intro ds r e;cases r;cases e;exact .nil
 |cons x ws J =>
  intro ds r e;cases r with
  |cons r t =>
   cases r with
   |p r =>
    simp only[bw]at e;obtain⟨q,e1,e2⟩:=dO e;subst e2;exact .cons r (J t e1)
   |_=>exact cW e
theorem mV:∀{ds:List aN}{k j:Nat},BT.iV x ds k=aa j->∃i,j=k+i/\∃(hi:i<ds.length),aT ds[i] x=ah/\∀m (J:m<ds.length),m<i->aT ds[m] x=ai
 |[],_,_,e=>by exact cW e
 |y::r,k,j,e=>by
  simp only[BT.iV]at e;split at e
  ·rename_i c;cases e;exact⟨0,rfl,by simp,c,λm _ h=>by lia⟩
  ·rename_i c;obtain⟨i,rfl,hi,U,O⟩:=mV e;refine⟨i+1,by lia,by simp;lia,by simpa using U,λm J L=>?_⟩;cases m with
   |zero=>simpa using c|succ m=>simpa using O m (by simpa using J) (by lia)
theorem l9(I:Inv X zt σ H s):∀{vs:List V}{ds:List aN}{us:List aA},RDs X.K m H vs ds->dJ vs us->∀(i:Nat)(h1:i<us.length)(h2:i<ds.length),gn s.heap (pd d) us[i]=aT ds[i] d
 |_,_,_,.nil,q=>by cases q;intro i h1;simp at h1
 |_,_,_,.cons r t,q=>by
  cases q with
  |cons L J =>
   intro i h1 h2;cases i with
   |zero =>
    obtain⟨O,ra⟩:=lF I r L;simp only[List.getElem_cons_zero];rw[yj ra (jh r),qW]
   |succ i=>simpa using l9 I t J i (by simpa using h1) (by simpa using h2)
def Br(N:X.A.units+150<aaM):MtR X "tuple.index" (rMe X.prog X.w X.K .tindex):=by
 intro zt s σ H v vs v' us Q I C W h;obtain⟨m,h,x,f,z,h',R,U,V,e,t⟩:=h;cases x with
 |r n=>cases f with
  |_=>(first|exact cW e|simp[aS]at e)
 |p d =>
  rw[BT.qH]at e;cases g:bw f with
  |none=>rw[g]at e;exact cW e
  |some ds =>
   rw[g]at e;obtain⟨b,e1,e2⟩:=dO e;cases e2;have rds:=V.pure g;cases d<;>first|exact cW e1|skip
   rename_i xs;cases ds with
   |nil=>exact cW e1
   |cons d0 dr =>
    cases dr with
    |cons _ _=>exact cW e1
    |nil =>
     rw[BT.C6]at e1;split at e1
     ·rename_i c;obtain⟨j,e3,e4⟩:=dO e1;subst e4;obtain⟨i,rfl,T,h1,h2⟩:=mV e3;cases rds with
      |cons E rn =>
       cases rn;obtain⟨u,rfl,D⟩:=W.one;cases U with
       |p U =>
        obtain⟨a,vt,rfl,ha,ra⟩:=RR.aB (.d U);cases C;obtain⟨J,O,G,_⟩:=I.tuple ha;obtain⟨⟨cls,dd,q,B⟩,l,hc,n,o⟩:=id G;simp only at hc o;subst hc o;have hl:=O.length;have P:=ra.length;have Z:i<J.toArray.size:=by rw[VM];lia
        refine XC F.slot_tuple_index ⟨_,l,rfl⟩ F.entry_tuple_index (F.args_tuple_index_2 _ _)
         (sy a J.toArray n dd B u (gn s.heap (pd d0)) i Z ?_ ?_) ⟨l,?_,?_⟩
        rw[show J.toArray[i]=J[i]'(by lia) by simp,l9 I ra O i (by lia) T];exact h1
        ·intro k S Y;have L:k<J.length:=by simpa using S
         rw[show J.toArray[k]=J[k]'L by simp,l9 I ra O k L (by lia)];exact h2 k (by lia) Y
        ·intro y M;exact jG N I (.d E) D ra O c y (by simpa using M)
        ·refine⟨.int (((0+i:Nat):Nat):Int),H,I.tok _,⟨s.toks,?_⟩,t.here R (.int _)⟩;simp
     exact cW e1
 |_=>(first|exact cW e|simp[aS]at e)
def Bs:MtR X "str.index" (rMe X.prog X.w X.K .sindex):=by
 intro l s k H v o q A Q I a O h;obtain⟨m,h,x,V,z,B,R,J,L,e,Y⟩:=h;cases x with
 |r n=>cases V with
  |_=>(first|exact cW e|simp[aS]at e)
 |p d =>
  rw[BT.qI]at e;cases g:bw V with
  |none=>rw[g]at e;exact cW e
  |some f =>
   rw[g]at e;obtain⟨b,e1,e2⟩:=dO e;cases e2;have rds:=L.pure g;cases d<;>first|exact cW e1|skip
   cases f with
   |nil=>exact cW e1
   |cons W i =>
    cases i with
    |cons _ _=>cases W<;>exact cW e1
    |nil =>
     cases W<;>first|exact cW e1|skip
     rename_i x y;rw[BT.C7]at e1;cases U:Xx x y 0 x.length 1 with
     |nil=>rw[U]at e1;exact cW e1
     |cons j rest =>
      rw[U]at e1;cases e1;cases rds with
      |cons c rn =>
       cases rn;cases c;obtain⟨u,rfl,Z,rfl⟩:=O.one;cases J with
       |p J =>
        cases J;obtain⟨t,rfl⟩:=a;exact call_gives F.slot_str_index (typeIs_str s x t) F.entry_str_index (F.args_str_index_2 _ _) (gives_str_index x y t Z j rest U) ⟨.int j,H,I.tok _,⟨_,rfl⟩,Y.here R (.int _)⟩
 |_=>(first|exact cW e|simp[aS]at e)
end
section
inductive rBi(P:VV)(w:Wj)(K:VE)(b:BT.Bi)(mu:Bool)(vs:List V)(H:Hp)(Q:VK):Prop
 |mk(m:List VS)(h:aL)(ws:List aM)(z:aM)(h':aL)(R:RH K m H h)(rs:RWs P w K m H vs ws)(e:BT.kBi b mu ws h=aa (z,h'))(p:Post P w K m H z h' Q):rBi P w K b mu vs H Q
inductive RRs(K:VE)(m:List VS)(H:Hp):List V->List aN->Prop
 |nil:RRs K m H [] []
 |cons{v:V}{d:aN}{vs:List V}{ds:List aN}(r:RR K m H v d)(t:RRs K m H vs ds):RRs K m H (v::vs) (d::ds)
theorem lH{K:VE}(R:RH K m H h):∀{vs:List V}{ws:List aM}{ds:List aN},RWs P w K m H vs ws->aQ ws h=aa ds->RRs K m H vs ds
 |_,_,_,.nil,e=>by cases e;exact .nil
 |_,_,_,.cons r t,e=>by simp only[aQ]at e;obtain⟨d,e1,e2⟩:=Option.bind_eq_some_iff.mp e;obtain⟨q,L,J⟩:=dO e2;subst J;exact .cons (fB R r e1) (lH R t L)
inductive BiI(b:BT.Bi)(mu:Bool)(ws:List aM)(h:aL)(z:aM)(h':aL):Prop
 |mk(ds:List aN)(d:aN)(h1:aQ ws h=aa ds)(h2:BT.biD b ds=aa d)(J:(mu=ai/\z=.p d/\h'=h)\/∃xs,mu=ah/\d=.aj xs/\z=.r h.length/\h'=h++[.l xs]):BiI b mu ws h z h'
def mW(e:BT.kBi b mu ws h=aa (z,h')):BiI b mu ws h z h':=by
 unfold BT.kBi at e;cases e1:aQ ws h with
 |none=>rw[e1]at e;exact cW e
 |some J =>
  rw[e1]at e;simp only at e;cases e2:BT.biD b J with
  |none=>rw[e2]at e;exact cW e
  |some d =>
   rw[e2]at e;simp only at e;cases mu with
   |false=>cases e;exact⟨J,d,e1,e2,.inl ⟨rfl,rfl,rfl⟩⟩
   |true =>
    simp only[if_true]at e;cases d<;>simp only at e<;>try contradiction
    cases e;exact⟨J,_,e1,e2,.inr ⟨_,rfl,rfl,rfl,rfl⟩⟩
def RRs.one{K:VE}{m:List VS}{H:Hp}{vs:List V}{d:aN}(r:RRs K m H vs [d]):∃v,vs=[v]/\RR K m H v d:=by
 cases r with
 |cons r t=>cases t;exact⟨_,rfl,r⟩
def Lq:gO X (.builtin "len") (rBi X.prog X.w X.K .len ai):=by
 intro O s L H i W Q I J h;obtain⟨m,h,g,z,j,R,Y,e,U⟩:=h;obtain⟨f,d,e1,e2,⟨_,rfl,rfl⟩|⟨_,q,_⟩⟩:=mW e
 ·have Z:=lH R Y e1
  match f,e2 with
  |[.aB xs],e2 =>
   cases e2;obtain⟨v,rfl,r⟩:=Z.one;obtain⟨a,V,rfl,b,ra⟩:=r.aB;exact kg O s L H _ W Q I J ⟨a,V,rfl,.inr b,by rw[ra.length];exact U.here R (.int _)⟩
  |[.aj xs],e2 =>
   cases e2;obtain⟨v,rfl,r⟩:=Z.one;obtain⟨a,V,rfl,b,ra⟩:=r.aj;exact kg O s L H _ W Q I J ⟨a,V,rfl,.inl b.sq,by rw[ra.length];exact U.here R (.int _)⟩
  |[.str x],e2 =>
   rw[BT.Ba]at e2;split at e2
   ·rename_i c;cases e2;obtain⟨v,rfl,r⟩:=Z.one;obtain⟨rfl,_⟩:=r.str;have:=gr;exact uc O s L H _ W Q I J ⟨x,rfl,by lia,U.here R (.int _)⟩
   exact cW e2
 exact aR q
def Lr:gO X (.type "int") (rBi X.prog X.w X.K .int ai):=by
 intro U s O H b W Q I J h;obtain⟨m,h,a,z,c,R,L,e,V⟩:=h;obtain⟨Z,d,e1,e2,⟨_,rfl,rfl⟩|⟨_,q,_⟩⟩:=mW e
 ·have Y:=lH R L e1
  match Z,e2 with
  |[.int i],e2 =>
   cases e2;obtain⟨v,rfl,r⟩:=Y.one;cases r.int;exact sO U s O H _ W Q I J (.inl ⟨i,rfl,V.here R (.int _)⟩)
  |[.bl i],e2 =>
   cases e2;obtain⟨v,rfl,r⟩:=Y.one;cases r.bl;exact sO U s O H _ W Q I J (.inr ⟨i,rfl,V.here R (.int _)⟩)
 exact aR q
def zC:gO X (.type "list") (rBi X.prog X.w X.K .list mu):=by
 intro b s Z H n f Q I U h;obtain⟨m,h,l,z,o,R,W,e,c⟩:=h;obtain⟨k,d,e1,e2,j⟩:=mW e;have g:=lH R W e1;have fin:∀{p:VS}{J:List V}{O:List aN},d=.aj O->H p=af->RDs X.K m H J O->Q (.ref p) (upd H p (.aj J)):=by
  intro p J O i L r;rcases j with⟨_,rfl,rfl⟩|⟨ys,_,e3,rfl,rfl⟩
  subst i;exact nM R L r c;rw[i]at e3;cases e3;exact zA R L r c
 match k,e2 with
 |[.aB O],e2 =>
  cases e2;obtain⟨v,rfl,r⟩:=g.one;obtain⟨a,J,rfl,Y,ra⟩:=r.aB;exact nA b s Z H _ f Q I U ⟨a,J,rfl,.inr Y,λp L=>fin rfl L ra⟩
 |[.aj O],e2 =>
  cases e2;obtain⟨v,rfl,r⟩:=g.one;obtain⟨a,J,rfl,Y,ra⟩:=r.aj;exact nA b s Z H _ f Q I U ⟨a,J,rfl,.inl Y.sq,λp L=>fin rfl L ra⟩
theorem qX:∀{xs:List aN}{J:List Int},BT.intsOf xs=aa J->xs=J.map aN.int
 |[],J,h=>by cases h;rfl
 |.int i::r,J,h=>by simp only[BT.intsOf]at h;obtain⟨q,e1,e2⟩:=dO h;subst e2;rw[qX e1];rfl
 |.aC::_,_,h=>by exact cW h
 |.bl _::_,_,h=>by exact cW h
 |.str _::_,_,h=>by exact cW h
 |.aB _::_,_,h=>by exact cW h
 |.aj _::_,_,h=>by exact cW h
theorem lI{K:VE}:∀{J:List Int}{vs:List V},RDs K m H vs (J.map aN.int)->vs=J.map V.int
 |[],vs,r=>by cases r;rfl
 |n::J,vs,r=>by
  cases r with
  |cons r t=>cases r;rw[lI t];rfl
def Bt(hc:X.calm=ah):gO X (.builtin "min") (λxs H Q=>∃(a:VS) (L:List Int),xs=[.ref a]/\SqL X.K H a (L.map V.int)/\0<L.length/\∀M,M∈L->(∀z∈L,M<=z)->Q (.int M) H):=by
 intro o s n H xs w Q I r h;obtain⟨a,L,rfl,i,Y,q⟩:=h;obtain⟨u,rfl,e⟩:=vals1 r;cases e;obtain⟨f,d,p,U⟩:=I.list i;have b:=intsAre_of d;obtain⟨O,e⟩:=b.allInts.items;have J:L=O.toList.map (·.1):=by rw[←b.numsOf,←nums_intItems,←e]
 have W:0<O.size:=by have c:=Y;rw[J,V8,Xg]at c;exact c
 have Z:=p.isList;rw[e]at Z;refine min_intList (I.ok.hd hc) Z W λv A x g k=>?_;obtain⟨t,rfl⟩:=intItems_at g;obtain⟨y,m⟩:=argBest_lt (numAt O) (O.size-1);refine⟨.int _,H,I.aG k,⟨t,rfl⟩,q _ ?_ λz U=>?_⟩;rw[J,numAt_eq];exact getD_mem (by rw[V8,Xg];lia)
 ·rw[J]at U;obtain⟨j,l,rfl⟩:=mem_getD U;rw[V8,Xg]at l;rw[←numAt_eq];exact m j (by lia)
def G1(hc:X.calm=ah):gO X (.builtin "min") (rBi X.prog X.w X.K .min1 ai):=by
 intro W s V H x Z Q I L h;obtain⟨m,h,t,z,y,R,J,e,Y⟩:=h;obtain⟨o,d,e1,e2,⟨_,rfl,rfl⟩|⟨_,q,_⟩⟩:=mW e
 ·have f:=lH R J e1
  match o,e2 with
  |[.aj xs],e2 =>
   rw[BT.C9]at e2;obtain⟨U,j,i⟩:=Option.bind_eq_some_iff.mp e2;obtain⟨M,O,g⟩:=dO i;subst g;obtain⟨v,rfl,r⟩:=f.one;obtain⟨a,u,rfl,n,ra⟩:=r.aj;rw[qX j]at ra;have ev:=lI ra;subst ev;obtain⟨c,b⟩:=BT.Bb O;refine Bt hc W s V H _ Z Q I L ⟨a,U,rfl,n.sq,by cases U with|nil=>cases O|cons _ _=>exact Nat.succ_pos _,λp l k=>?_⟩;have:p=M:=Int.le_antisymm (k _ c) (b _ l);subst this;exact Y.here R (.int _)
 exact aR q
def DM:gO X (.type "tuple") (rBi X.prog X.w X.K .tuple ai):=by
 intro W s V H i Z Q I J h;obtain⟨m,h,g,z,j,R,O,e,Y⟩:=h;obtain⟨f,d,e1,e2,⟨_,rfl,rfl⟩|⟨_,q,_⟩⟩:=mW e
 ·have b:=lH R O e1
  match f,e2 with
  |[.aB xs],e2 =>
   cases e2;obtain⟨v,rfl,r⟩:=b.one;obtain⟨a,L,rfl,U,ra⟩:=r.aB;refine mJ W s V H _ Z Q I J ⟨a,L,rfl,.inr ⟨U,?_⟩⟩;cases r with
   |d r=>exact Y.here R r
  |[.aj xs],e2 =>
   cases e2;obtain⟨v,rfl,r⟩:=b.one;obtain⟨a,L,rfl,U,ra⟩:=r.aj;exact mJ W s V H _ Z Q I J ⟨a,L,rfl,.inl ⟨U.sq,λp c=>nL R c ra Y⟩⟩
 exact aR q
noncomputable def tyD:aN->String
 |.aC=>"NoneType"|.bl _=>"bool"|.int _=>"int"|.str _=>"str"|.aB _=>"tuple"|.aj _=>"list"
def G2{E:aA->VG->Prop}
(I:Inv X zt σ H s)(r:RR X.K m H v d)(J:RelV v u)(e:WX X.K (.type (tyD d)) (.type c)=aa b)(h:∀tk,Q (.bool b) {s with toks:=tk}):
 ay (V4 X.prog X.w) A (call (.builtin "isinstance") [u,.type c]) Q E s:=by
 cases d with
 |aC=>cases r.aC;cases J;exact Xk PySem.W.kitx_none I.kIn XN e (λz=>nomatch z) h|bl y=>cases r.bl;cases J;exact Xk PySem.W.kitx_bool I.kIn XN e (λz=>nomatch z) h|int i=>cases r.int;obtain⟨t,rfl⟩:=J;exact Xk PySem.W.kitx_int I.kIn XN e (λz=>nomatch z) h|str y=>obtain⟨rfl,_⟩:=r.str;obtain⟨t,rfl⟩:=J;exact Xk PySem.W.kitx_str I.kIn XN e (λz=>nomatch z) h
 |aB V =>
  obtain⟨a,Y,rfl,O,_⟩:=r.aB;cases J;obtain⟨L,_,⟨o,U,Z,_⟩,_⟩:=I.tuple O;exact Xk PySem.W.kitx_tuple I.kIn ⟨o,U,Z⟩ e (λz=>nomatch z) h
 |aj V =>
  obtain⟨a,Y,rfl,O,_⟩:=r.aj;cases J;obtain⟨_,L,n,_,_,U⟩:=rdL I O;exact Xk PySem.W.kitx_list I.kIn ⟨_,U,rfl⟩ e (λz=>nomatch z) h
def DN(K:VE)(t:String):WX K (.type t) (.type t)=aa ah:=by unfold WX;rw[bK (by simp)]
def DO(h:vX b=aa (c,f))(d:aN):BT.biD b [d]=aa (.bl (f d)):=by
 cases b<;>simp only[vX]at h<;>try contradiction
 all_goals (cases h;rfl)
def DP(h:vX b=aa (c,f))(K:VE)(d:aN):WX K (.type (tyD d)) (.type c)=aa (f d):=by
 cases b<;>simp only[vX]at h<;>try contradiction
 all_goals (cases h;cases d)
 all_goals first
  |exact DN K _
  |(simp only[tyD];unfold WX;rw[bL (by decide)];unfold PySem.W.kitCls;first|rfl|kernel_rfl|decide +kernel)
end
end BS
end
section
namespace BX
open PySem PySem.Spec PyProof.Rows
section
variable{prog:VV}{w:Wj}{A:Wq}{R:aaV->VG->Prop}{I:VS}{fp wr:List VS}{n:Nat}{P:Nat->aA->Prop}{St:Nat->au->Prop}{kw:List (az×aA)}
end
end BX
end
section
namespace BS
open PySem PySem.Spec PyProof.Rows L2
variable{K:VE}
noncomputable abbrev FT:=bA->List aM->aL->Option (aM×aL)
inductive spF(P:VV)(w:Wj)(K:VE)(g:List aM->aL->Option (aM×aL))(vs:List V)(H:Hp)(Q:VK)(E:XK):Prop
 |mk(m:List VS)(ws:List aM)(h:aL)(z:aM)(h':aL)(R:RH K m H h)(r:RWs P w K m H vs ws)(e:g ws h=aa (z,h'))(p:Post P w K m H z h' Q):spF P w K g vs H Q E
inductive tD(X:Cx)(F:FT)(G:az->Option aM)(e:aV)(σ:L2.St)(H:Hp)(Q:VK):Prop
 |mk(m:List VS)(s:bf)(h:aL)(z:aM)(h':aL)(R:RH X.K m H h)(S:RS X.prog X.w X.K m H σ s)(q:aK F G e s h=aa (z,h'))(p:Post X.prog X.w X.K m H z h' Q):tD X F G e σ H Q
inductive tDs(X:Cx)(F:FT)(G:az->Option aM)(es:aW)(σ:L2.St)(H:Hp)(Q:List V->Hp->Prop):Prop
 |mk(m:List VS)(s:bf)(h:aL)(zs:List aM)(h':aL)(R:RH X.K m H h)(S:RS X.prog X.w X.K m H σ s)(q:aU F G es s h=aa (zs,h'))(p:∀vs H' m',Ext m H m' H'->RH X.K m' H' h'->RWs X.prog X.w X.K m' H' vs zs->Q vs H'):tDs X F G es σ H Q
inductive tDT(X:Cx)(F:FT)(G:az->Option aM)(e:aV)(σ:L2.St)(H:Hp)(Q:Bool->Hp->Prop):Prop
 |mk(m:List VS)(s:bf)(h:aL)(b:Bool)(h':aL)(R:RH X.K m H h)(S:RS X.prog X.w X.K m H σ s)(q:aK F G e s h=aa (.p (.bl b),h'))(p:∀H' m',Ext m H m' H'->RH X.K m' H' h'->Q b H'):tDT X F G e σ H Q
def DQ(P:VV)(w:Wj)(K:VE)(mg:az->Option aA)(base:au)(k L:Nat)(g:List aM->aL->Option (aM×aL)):Prop :=
 ∀(A:Wq)(J:List Env)(s:VG)(H:Hp) (f:VS) (Y:List aA) (W O:List V) (m:List VS) (U:List aM) (a:List BT.Cp) (h:aL) (z:aM) (Z:aL) (Q:VK) (E:XK),fN k A->pK P w K mg base A J s H->dJ W Y →
  RH K m H h->RWs P w K m H W U->BT.noC U=ah->qT m H f L O->RCs K m H O a->g (U++a.map BT.Cp.w) h=aa (z,Z)->Post P w K m H z Z Q->ao (V4 P w) A (.call (.ref f) ⟨Y,[]⟩) (CR CX0 J P w H s Q E) s
structure LX(X:Cx)(x:az):Prop where
 mem:x∈BT.jF
 ex:∃c P,W4 X.K x=aa (c,P)/\X.env.code=.ref c/\PySem.W.CodeHd X.base c P/\∀y∈BT.jF,∀c2,W4 X.K y=aa (c2,P)->y=x
 ql:X.env.qual=x++".<locals>."
 bm:∃bm ob,X.mg "__builtins__"=aa (.ref bm)/\bm≠XX/\X.base.get? bm=aa ob/\ob.cls=.type "module"/\ob.dict=aa XX/\ob.data=.plain
noncomputable def Ls:List az:=["len","abs","int","list","tuple","isinstance","str","bool","range","reversed","enumerate","zip","min","max","sorted","sum","all","any","set","ValueError","dict"]
inductive OkC(P:VV)(w:Wj)(K:VE)(mg:az->Option aA)(base:au)(A:Wq)(f:az)(sp:Sp):Prop
 |mk(J:VS)(fd:WT)(ps:List az)(k:Nat)(h1:mg f=aa (.ref J))(h2:Wh K (.ref J)=ah)(L:Binds K fd ps [])(U:fN k A)(O:gE P w K mg base CX0 k J fd ps sp):OkC P w K mg base A f sp
inductive OkM(P:VV)(w:Wj)(K:VE)(mg:az->Option aA)(base:au)(A:Wq)(CX:CXT)(c m:az)(sp:Sp):Prop
 |mk(C g:VS)(fd:WT)(ps:List az)(k:Nat)(h1:pA K c C)(h2:AV K C m g)(J:Binds K fd ps [])(O:fN k A)(L:gE P w K mg base CX k g fd ps sp):OkM P w K mg base A CX c m sp
inductive OkN(P:VV)(w:Wj)(K:VE)(mg:az->Option aA)(base:au)(A:Wq)(c:az)(sp:Sp):Prop
 |mk(C g:VS)(fd:WT)(ps:List az)(k:Nat)(h1:pA K c C)(h2:mg c=aa (.ref C))(L:Mk K C g)(O:Binds K fd ps [])(J:fN (k+1) A)(U:gE P w K mg base CX0 k g fd ps sp):OkN P w K mg base A c sp
structure Ok(X:Cx)(F:FT)(G:az->Option aM)(sc:Wv)(N:List az):Prop where
 hsc:X.env.scope=sc
 hN:X.N=N
 nd:X.N.Nodup
 calm:gk N=ah->X.calm=ah
 hu:X.A.units+150<aaM
 own:ZZ (V4 X.prog X.w) X.A X.env X.xe
 glob:∀x z,G x=aa z->∃u v,X.mg x=aa u/\RelV v u/\∀m H,RW X.prog X.w X.K m H v z
 call:∀(f:az) ws h r,F (.f f) ws h=aa r->OkC X.prog X.w X.K X.mg X.base X.A f (spF X.prog X.w X.K (F (.f f)))
 aE:∀(c m:az) ws h r,F (.m c m) ws h=aa r->OkM X.prog X.w X.K X.mg X.base X.A CX0 c m (spF X.prog X.w X.K (F (.m c m)))
 mkc:∀(c:az) ws h r,F (.m c "__init__") ws h=aa r->OkN X.prog X.w X.K X.mg X.base X.A c (spF X.prog X.w X.K (F (.m c "__init__")))
 blt:∀x∈Ls,X.mg x=af
 lam:∀(L:Nat) ws h r,F (.l L) ws h=aa r->∃k,fN k X.A/\DQ X.prog X.w X.K X.mg X.base k L (F (.l L))
 lamx:(∀x,X.fn x=ah)->∀x,N.contains (BT.jm x)=ah->LX X x
def PE.weak(h:PE X e t)(q:∀σ H Q,t' σ H Q->t σ H Q):PE X e t':=λJ s σ H Q I hw=>h J s σ H Q I (q _ _ _ hw)
def PT.weak(h:PT X e t)(q:∀σ H Q,t' σ H Q->t σ H Q):PT X e t':=λJ s σ H Q I hw=>h J s σ H Q I (q _ _ _ hw)
def PW.weak(h:PW X e t)(q:∀σ H Q,t' σ H Q->t σ H Q):PW X e t':=λL J s σ H Q I hw=>h L J s σ H Q I (q _ _ _ hw)
def PA.weak(h:PA X es t)(q:∀σ H Q,t' σ H Q->t σ H Q):PA X es t':=λJ L s σ H Q I hw=>h J L s σ H Q I (q _ _ _ hw)
def dh(h:noStar e=ah):Wi (e::es) env=(ai,eval e env)::Wi es env:=by cases e<;>first|rfl|exact aR h
def we(h:nJ b=ah):zf b:=λo i=>by cases b<;>first|rfl|exact aR h
def mh(h:eH o=ah):Za o name env (eval o env)=eval o env:=by
 cases o with
 |Call fn L J p =>
  cases fn with
  |Attribute _ _ _=>rfl|_=>exact aR h
 |_=>first|rfl|exact cW h
def dB:List VI->Bool
 |[]=>ah|e::es=>noStar e&&dB es
theorem eS:∀{es:List VI},dB es=ah->(Xu pos (Wi es env)).any (·.1)=ai
 |[],_=>rfl
 |e::es,h=>by simp only[dB,VH]at h;rw[dh h.1];show(ai||(Xu pos (Wi es env)).any (·.1))=ai;rw[eS h.2];rfl
theorem j4:∀{es:List VI},dB es=ah->(Xu pos (Wi es env)).all (λx=>!x.1)=ah
 |[],_=>rfl
 |e::es,h=>by simp only[dB,VH]at h;rw[dh h.1];show(!ai&&(Xu pos (Wi es env)).all (λx=>!x.1))=ah;rw[j4 h.2];rfl
def PU:Tq->Prop
 |.es _ J=>dB J=ah|_=>True
def DR(h:CQ sc N t):PU t:=by
 induction h with
 |es_nil=>exact rfl
 |es_cons L _ _ _ J =>
  show(noStar _&&dB _)=ah;rw[VH];exact⟨L,J⟩
 |_=>exact XN
def gP(h:CEs sc N as es):dB es=ah:=DR h
noncomputable def noM:Tq->Prop
 |.es (.cons _ _) []=>False|_=>True
def Lu(h:CQ sc N t):noM t:=by
 induction h with
 |_=>exact XN
def mX(h:CEs sc N (.cons a r) []):False:=Lu h
section
def oK(l:∀s h,aK F G e s h=bD (aK F G a s h) (BT.k2 (aK F G b s) f))(σ:L2.St)(H:Hp)(Q:VK)(q:tD X F G e σ H Q):
 tOp (rOp X.prog X.w X.K f) (tD X F G a) (tD X F G b) σ H Q:=by
 obtain⟨m,s,h,z,n,R,S,V,W⟩:=q;rw[l]at V;obtain⟨x,U,e1,e2⟩:=dj V;simp only[BT.k2]at e2;obtain⟨y,O,p,o⟩:=dj e2;refine⟨m,s,h,x,U,R,S,e1,λv C k L t g=>?_⟩;refine⟨k,s,U,y,O,t,S.ext L,p,λu B j J R2 d=>?_⟩;exact⟨j,O,x,y,z,n,R2,g.ext J,d,o,λZ A i Y r c=>W Z A i ((L.trans J).trans Y) r c⟩
def wg(h:∀σ H Q,tD X F G e σ H Q->t σ H Q)(σ:L2.St)(H:Hp)(Q:Bool->Hp->Prop)(q:tDT X F G e σ H Q):CK t σ H Q:=by
 obtain⟨m,s,O,b,U,R,S,V,J⟩:=q;refine h σ H _ ⟨m,s,O,_,U,R,S,V,λv Y L x W r=>?_⟩;cases r with
 |p r=>cases r;exact⟨b,rfl,J Y L x W⟩
def opB(h:Jz o op=ah):OpR X (W7 op) (rOp X.prog X.w X.K (BT.um o)):=by rw[bQ h];cases o;exact Li;exact Lj;exact Ll;exact Lk;exact GU
def JD:∀{es:List (az×V)}{kvs:List (az×aN)}{K:VE},RDk K es kvs->KV (es.map λq=>((Sum.inr q.1:Key),q.2)) vs->(valueAt vs (Sum.inr k)).isSome=(BT.gi k kvs).isSome:=by
 intro es
 induction es generalizing vs with
 |nil =>
  intro kvs K r q;cases r;cases q;rfl
 |cons p es Y =>
  intro kvs K r q;cases r with
  |@cons x v dd _ kvs r t =>
   cases q with
   |@cons p z d b U O =>
    obtain⟨a,Z⟩:=z;obtain⟨J,L⟩:=U;simp only at J L;subst J;rw[BT.gi]
    by_cases c:k=x
    ·subst c;simp[valueAt]
    ·rw[bL c];have W:¬((Sum.inr x:Key)=Sum.inr k):=λz=>c (Sum.inr.inj z).symm;have:=Y t O;simp only[valueAt]at this⊢;rw[YX (by simpa using W)];exact this
def opC(O:Ok X F G sc N)(h:GS o op=ah):OpR X (WE op) (rOp X.prog X.w X.K (bF o)):=by
 rw[bQ h];cases o;exact PN O.hu;exact PP O.hu;exact uD On rfl rfl λ_ _=>rfl;exact uD Oo rfl rfl λ_ _=>rfl;exact uD Oq rfl rfl λ_ _=>rfl;exact uD Os rfl rfl λ_ _=>rfl;exact Lm;exact GX
 ·refine Ln O.hu ?_;intro J x b m H v u z A y r s Q I V W L U e q;cases J with
  |t J =>
   cases x with
   |p d =>
    cases d<;>first|exact cW e|skip
    ·obtain rfl:=VN e;cases U with
     |@k a j _ kd U =>
      cases W;cases L with
      |p L =>
       cases L;cases V;obtain⟨Y,g,i,dd⟩:=kd;obtain⟨f,B,fn⟩:=map_none (dd s.heap I.kIn);refine aat (knd:=optKind X.prog X.w) (k:=af) rfl Y B ?_;rw[fn];exact⟨.bl _,H,I.tok _,rfl,q⟩
    obtain rfl:=VN e;cases U with
    |@k a j _ kd U =>
     cases W;cases L with
     |p L =>
      cases L with
      |str x ok =>
       obtain⟨t,rfl⟩:=V;obtain⟨Y,g,i,dd⟩:=kd;have D:=dd s.heap I.kIn;refine aat (knd:=ef X.prog X.w) (jC _ _ _ t) Y D.mapOf ?_;rw[JD U i];exact⟨.bl _,H,I.tok _,rfl,q⟩
   |_=>exact cW e
  |l J =>
   cases x with
   |p d =>
    obtain⟨k,c,Z⟩:=dO (show(BT.sj d).map (λk=>(bH J k).isSome)=aa b from e);subst Z;cases U with
    |@kl a ob M _ C U =>
     cases W;cases L with
     |p L =>
      have E:=DF L c;subst E;cases yk I (.inr ⟨_,C.1⟩) U k with
      |no g dd n c Z =>
       refine aat (knd:=ef X.prog X.w) (C5 V) n dd.mapOf ?_;rw[Z];exact⟨.bl _,H,I.tok _,rfl,by rw[c]at q;exact q⟩
      |is g dd n x P R c Z T S =>
       refine aat (knd:=ef X.prog X.w) (C5 V) n dd.mapOf ?_;rw[Z];exact⟨.bl _,H,I.tok _,rfl,by rw[c]at q;exact q⟩
   |_=>exact cW e
 ·refine GY O.hu ?_;intro J x b m H v u z A y r s Q I V W L U e q;cases J with
  |t J =>
   cases x with
   |p d =>
    cases d<;>first|exact cW e|skip
    obtain rfl:=VN e;cases U with
    |@k a j _ kd U =>
     cases W;cases L with
     |p L =>
      cases L with
      |str x ok =>
       obtain⟨t,rfl⟩:=V;obtain⟨Y,g,i,dd⟩:=kd;have D:=dd s.heap I.kIn;refine wpAny_notIn_of (knd:=ef X.prog X.w) (jC _ _ _ t) Y D.mapOf ?_;rw[JD U i];exact⟨.bl _,H,I.tok _,rfl,q⟩
   |_=>exact cW e
  |l J=>exact cW e
end
section
variable{X:Cx}{F:FT}{G:az->Option aM}{sc:Wv}{N:List az}
def G3(O:Ok X F G sc N)(x:az):X.env.kindOf x=sc.names.lookup x:=by rw[←O.hsc];rfl
def fP(h:dR x=ah):(x==("__debug__":az))=ai/\(x==("__classdict__":az))=ai/\x≠"__name__":=by simp only[dR,VH,YF]at h;exact⟨h.1.1,h.1.2,λe=>by rw[e]at h;simp at h⟩
def eZ(O:Ok X F G sc N)(h:d7 sc x=ah):Gl X x:=by show X.env.kindOf x=_;rw[G3 O];exact bR h
def Lv(O:Ok X F G sc N)(h:vY sc x=ah):Vis X.env.scope x:=by
 rw[O.hsc];unfold vY at h;unfold Vis;cases e:sc.names.lookup x with
 |none=>rw[e]at h;exact aR h
 |some k=>rw[e]at h;cases k<;>first|(exact .inl rfl)|(exact .inr (.inl rfl))|(exact .inr (.inr rfl))|exact aR h
def zD(O:Ok X F G sc N)(h2:N[i]?=aa y)(W:vY sc y=ah)(V:dR y=ah):PE X (.Name y pos) (tD X F G (.v i)):=by
 obtain⟨Z,Y,_⟩:=fP V;refine PE.weak (Cr (i:=i) (by rw[O.hN];exact h2) (Lv O W) Z Y) fun a H Q q=>?_;obtain⟨m,s,h,z,b,R,S,J,L⟩:=q;simp only[aK]at J;split at J
 ·rename_i w e;cases J;obtain⟨v,U,r⟩:=S.get i _ e;exact⟨v,U,L v H m (.refl _ _) R r⟩
 exact cW J
def G4(h:JA d c=ah):PE X (.Constant c k pos) (tD X F G (.j d)):=by
 have fin:∀{v:V},(∀m H,RD X.K m H v d)->∀J H Q,tD X F G (.j d) J H Q->tC v J H Q:=λr J H Q q=>by obtain⟨m,s,h,z,U,R,S,L,O⟩:=q;simp only[aK]at L;cases L;exact O _ H m (.refl _ _) R (.p (r m H))
 cases d<;>cases c<;>first|exact aR h|skip
 exact PE.weak JW (fin λ_ _=>.aC);cases bR h;exact PE.weak N4 (fin λ_ _=>.bl _);cases bR h;exact PE.weak xM (fin λ_ _=>.int _)
 ·have h:=Bool.and_eq_true_iff.mp h;cases bR h.1;exact PE.weak JX (fin λ_ _=>.str _ h.2)
def G5(O:Ok X F G sc N)(h2:d7 sc y=ah)(Y:dR y=ah):PE X (.Name y pos) (tD X F G (.aD y)):=by obtain⟨Z,c,_⟩:=fP Y;intro U s L H Q I q;obtain⟨m,a,h,z,b,R,S,J,V⟩:=q;simp only[aK]at J;obtain⟨w,e1,e2⟩:=dO J;cases e2;obtain⟨u,v,W,r,rw⟩:=O.glob _ _ e1;exact pV (eZ O h2) W r Z U s L H Q I (V v H m (.refl _ _) R (rw m H))
def JE(c:∀s h,aK F G e s h=bD (aK F G a s h) k)(q:tD X F G e σ H Q)
(h1:∀m h x z h' v H1,RH X.K m H1 h->RW X.prog X.w X.K m H1 v x->k x h=aa (z,h')->Post X.prog X.w X.K m H1 z h' Q->R' v H1):tD X F G a σ H R':=by
 obtain⟨m,s,h,z,h',R,S,J,L⟩:=q;rw[c]at J;obtain⟨x,g,e1,e2⟩:=dj J;exact⟨m,s,h,x,g,R,S,e1,λv H1 b U f Y=>h1 b g x z h' v H1 f Y e2 λV i Z O d W=>L V i Z (U.trans O) d W⟩
def qd(b:∀s h,aK F G e s h=bD (aU F G as s h) k)(q:tD X F G e σ H Q)
(h1:∀m h xs z h' vs H1,RH X.K m H1 h->RWs X.prog X.w X.K m H1 vs xs->k xs h=aa (z,h')->Post X.prog X.w X.K m H1 z h' Q->R' vs H1):tDs X F G as σ H R':=by
 obtain⟨m,s,h,z,h',R,S,J,L⟩:=q;rw[b]at J;obtain⟨x,g,e1,e2⟩:=dj J;exact⟨m,s,h,x,g,R,S,e1,λv H1 a U d Y=>h1 a g x z h' v H1 d Y e2 λV f Z O c W=>L V f Z (U.trans O) c W⟩
def ty_list(R:RH X.K m H h)(r:RW X.prog X.w X.K m H v (.r n))(ok:BT.mG (.r n) h=ah):tyV X.K "list" v H:=by
 cases r with
 |@r a _ hn =>
  obtain⟨J,e⟩:=Option.isSome_iff_exists.mp ok;obtain⟨L,e,_⟩:=R.cell n a J hn e;exact .inl ⟨rfl,L,.inl (.inl e)⟩
def zE(e:BT.kMe m ea x h=aa r):BT.mG x h=ah/\bD (ea h) (aS m x)=aa r:=by unfold BT.kMe at e;split at e;rename_i c;exact⟨c,e⟩;exact cW e
def T9(J:m=.append\/m=.pop\/m=.extend)(e:aS m x ws h=aa (z,h')):∃n,x=.r n:=by
 cases x with
 |r n=>exact⟨n,rfl⟩
 |p d =>
  rcases J with rfl|rfl|rfl<;>cases ws<;>rw[v7]at e<;>(split at e<;>(try exact cW e))<;>exact cW e
 |k q =>
  rcases J with rfl|rfl|rfl<;>cases ws<;>(first|exact cW e|simp[aS]at e)
 |x _ =>
  rcases J with rfl|rfl|rfl<;>cases ws<;>(first|exact cW e|simp[aS]at e)
 |c _ _ =>
  rcases J with rfl|rfl|rfl<;>cases ws<;>(first|exact cW e|simp[aS]at e)
 |o q =>
  rcases J with rfl|rfl|rfl<;>cases ws<;>(first|exact cW e|simp[aS]at e)
end
section
def uE{X:Cx}{e a:aV}{k:bf->aM->aL->Option (aM×aL)}(f:∀s h,aK F G e s h=bD (aK F G a s h) (k s)){σ:L2.St}{H:Hp}{Q:VK}(q:tD X F G e σ H Q){O:V->Hp->Prop}
(h1:∀m s h x z h' v H1,RH X.K m H1 h->RS X.prog X.w X.K m H1 σ s->RW X.prog X.w X.K m H1 v x->k s x h=aa (z,h')->Post X.prog X.w X.K m H1 z h' Q->O v H1):tD X F G a σ H O:=by
 obtain⟨m,s,h,z,h',R,S,L,U⟩:=q;rw[f]at L;obtain⟨x,g,e1,e2⟩:=dj L;exact⟨m,s,h,x,g,R,S,e1,λv H1 d J j b=>h1 d s g x z h' v H1 j (S.ext J) b e2 λY l c W i Z=>U Y l c (J.trans W) i Z⟩
def Lx{X:Cx}{e a:aV}{k:bf->Bool->aL->Option (aM×aL)}{kk:bf->aM->aL->Option (aM×aL)}(f:∀s h,aK F G e s h=bD (aK F G a s h) (kk s))
(d:∀s x h r,kk s x h=aa r->∃b,x=.p (.bl b)/\k s b h=aa r){σ:L2.St}{H:Hp}{Q:VK}(q:tD X F G e σ H Q){O:Bool->Hp->Prop}
(h1:∀m s h b z h' H1,RH X.K m H1 h->RS X.prog X.w X.K m H1 σ s->k s b h=aa (z,h')->Post X.prog X.w X.K m H1 z h' Q->O b H1):tDT X F G a σ H O:=by
 obtain⟨m,s,h,z,h',R,S,L,U⟩:=q;rw[f]at L;obtain⟨x,g,e1,e2⟩:=dj L;obtain⟨b,rfl,i⟩:=d _ _ _ _ e2;exact⟨m,s,h,b,g,R,S,e1,λH1 c J l=>h1 c s g b z h' H1 l (S.ext J) i λW n Z V j Y=>U W n Z (J.trans V) j Y⟩
def oM(r:RW P w K m H v (.p (.bl b))):v=.bl b:=by cases r with|p r=>cases r;rfl
def zF(e:BT.GM eb x h=aa r):∃b,x=.p (.bl b)/\(if b=ah then eb h else aa (.p (.bl ai),h))=aa r:=by
 cases x with
 |p d =>
  cases d<;>simp only[BT.GM]at e<;>try contradiction
  exact⟨_,rfl,e⟩
 |_=>exact cW e
def DS(e:BT.kOr eb x h=aa r):∃b,x=.p (.bl b)/\(if b=ah then aa (.p (.bl ah),h)else eb h)=aa r:=by
 cases x with
 |p d =>
  cases d<;>simp only[BT.kOr]at e<;>try contradiction
  exact⟨_,rfl,e⟩
 |_=>exact cW e
def G6(e:BT.GN ea eb x h=aa r):∃b,x=.p (.bl b)/\(if b=ah then ea h else eb h)=aa r:=by
 cases x with
 |p d =>
  cases d<;>simp only[BT.GN]at e<;>try contradiction
  exact⟨_,rfl,e⟩
 |_=>exact cW e
def zG(e:BT.GL x h=aa r):∃b,x=.p (.bl b)/\r=(.p (.bl (!b)),h):=by
 cases x with
 |p d =>
  cases d<;>simp only[BT.GL]at e<;>try contradiction
  cases e;exact⟨_,rfl,rfl⟩
 |_=>exact cW e
def G7(e:BT.GK x h=aa r):∃i,x=.p (.int i)/\r=(.p (.int (-i)),h):=by
 cases x with
 |p d =>
  cases d<;>simp only[BT.GK]at e<;>try contradiction
  cases e;exact⟨_,rfl,rfl⟩
 |_=>exact cW e
def zH{X:Cx}{a b:aV}(σ:L2.St)(H:Hp)(Q:VK)(q:tD X F G (.and a b) σ H Q):Jj (tD X F G a) (tD X F G b) σ H Q:=by
 refine uE (k:=λs=>BT.GM (aK F G b s)) (λs h=>by simp only[aK]) q λm s h x z L v O R S r e J=>?_;obtain⟨c,rfl,e2⟩:=zF e;refine⟨c,oM r,?_⟩;cases c with
 |true=>rw[bK rfl]at e2⊢;exact⟨m,s,h,z,L,R,S,e2,J⟩|false=>rw[bL (by decide)]at e2⊢;cases e2;exact J.here R (.bl _)
def DT{X:Cx}{a b:aV}(σ:L2.St)(H:Hp)(Q:VK)(q:tD X F G (.or a b) σ H Q):N7 (tD X F G a) (tD X F G b) σ H Q:=by
 refine uE (k:=λs=>BT.kOr (aK F G b s)) (λs h=>by simp only[aK]) q λm s h x z L v O R S r e J=>?_;obtain⟨c,rfl,e2⟩:=DS e;refine⟨c,oM r,?_⟩;cases c with
 |true=>rw[bK rfl]at e2⊢;cases e2;exact J.here R (.bl _)|false=>rw[bL (by decide)]at e2⊢;exact⟨m,s,h,z,L,R,S,e2,J⟩
def zI(σ:L2.St)(H:Hp)(Q:Bool->Hp->Prop)(q:tDT X F G (.and a b) σ H Q):N5 (tDT X F G a) (tDT X F G b) σ H Q:=by
 obtain⟨m,s,h,c,e,R,S,V,O⟩:=q;simp only[aK]at V;obtain⟨x,g,e1,e2⟩:=dj V;obtain⟨d,rfl,J⟩:=zF e2;refine⟨m,s,h,d,g,R,S,e1,λi U L W=>?_⟩;cases d with
 |true=>rw[bK rfl]at J⊢;exact⟨U,s,g,c,e,W,S.ext L,J,λf Z Y R2=>O f Z (L.trans Y) R2⟩|false=>rw[bL (by decide)]at J⊢;cases J;exact O i U L W
def DU(σ:L2.St)(H:Hp)(Q:Bool->Hp->Prop)(q:tDT X F G (.or a b) σ H Q):tOr (tDT X F G a) (tDT X F G b) σ H Q:=by
 obtain⟨m,s,h,c,e,R,S,V,O⟩:=q;simp only[aK]at V;obtain⟨x,g,e1,e2⟩:=dj V;obtain⟨d,rfl,J⟩:=DS e2;refine⟨m,s,h,d,g,R,S,e1,λi U L W=>?_⟩;cases d with
 |true=>rw[bK rfl]at J⊢;cases J;exact O i U L W|false=>rw[bL (by decide)]at J⊢;exact⟨U,s,g,c,e,W,S.ext L,J,λf Z Y R2=>O f Z (L.trans Y) R2⟩
def G8(σ:L2.St)(H:Hp)(Q:Bool->Hp->Prop)(q:tDT X F G (.not a) σ H Q):N6 (tDT X F G a) σ H Q:=by obtain⟨m,s,h,c,V,R,S,J,L⟩:=q;simp only[aK]at J;obtain⟨x,g,e1,e2⟩:=dj J;obtain⟨d,rfl,W⟩:=zG e2;cases W;exact⟨m,s,h,d,V,R,S,e1,λZ U O Y=>L Z U O Y⟩
def G9{X:Cx}{a:aV}(σ:L2.St)(H:Hp)(Q:VK)(q:tD X F G (.not a) σ H Q):Jk (tD X F G a) σ H Q:=by refine uE (k:=λs=>BT.GL) (λs h=>by simp only[aK]) q λm s h x z L v O R S r e J=>?_;obtain⟨c,rfl,e2⟩:=zG e;cases e2;exact⟨c,oM r,J.here R (.bl _)⟩
def Ly{X:Cx}{c a b:aV}(σ:L2.St)(H:Hp)(Q:VK)(q:tD X F G (.ite c a b) σ H Q):tIf (tDT X F G c) (tD X F G a) (tD X F G b) σ H Q:=by
 refine Lx (k:=λs t h=>if t=ah then aK F G a s h else aK F G b s h) (kk:=λs=>BT.GN (aK F G a s) (aK F G b s)) (λs h=>by simp only[aK]) (λs x h r e=>G6 e) q λm s h t z L O R S e J=>?_;cases t with
 |true=>rw[bK rfl]at e⊢;exact⟨m,s,h,z,L,R,S,e,J⟩|false=>rw[bL (by decide)]at e⊢;exact⟨m,s,h,z,L,R,S,e,J⟩
def Lz{X:Cx}{a:aV}(σ:L2.St)(H:Hp)(Q:VK)(q:tD X F G (.neg a) σ H Q):tUn (rU λi=>.int (-i)) (tD X F G a) σ H Q:=by refine uE (k:=λs=>BT.GK) (λs h=>by simp only[aK]) q λm s h x z L v O R S r e J=>?_;obtain⟨c,rfl,e2⟩:=G7 e;cases e2;cases r with|p r=>cases r;exact⟨c,rfl,J.here R (.int _)⟩
def wj(σ:L2.St)(H:Hp)(Q:VK)(q:tD X F G (.chain o o' a b c) σ H Q):
 xQ (rOp X.prog X.w X.K (bF o)) (rOp X.prog X.w X.K (bF o')) (tD X F G a) (tD X F G b) (tD X F G c) σ H Q:=by
 obtain⟨m,s,h,z,h',R,S,T,C⟩:=q;simp only[aK]at T;obtain⟨x,P,e1,e2⟩:=dj T;simp only[BT.k2]at e2;obtain⟨y,U,e3,J⟩:=dj e2;refine⟨m,s,h,x,P,R,S,e1,λv H1 m1 g R1 r1=>?_⟩;refine⟨m1,s,P,y,U,R1,S.ext g,e3,λu H2 m2 e R2 E=>?_⟩;unfold BT.oCh at J;cases k:aY x U with
 |none=>rw[k]at J;exact cW J
 |some d =>
  cases y with
  |p O =>
   rw[k]at J;simp only at J;have N:∀(o:BT.Cm)(l:aM)(W:aL) dd,aY l W=aa dd->∀Y L,aY Y W=aa L->bF o l Y W=(BT.iB o dd L).map λz=>(.p (.bl z),W):=by
    intro o l W dd I Y L n;unfold bF;cases Y with
    |p _=>simp only[I,n]|r _=>simp only[I,n]|_=>exact cW n
   cases B:BT.iB o d O with
   |none=>rw[B]at J;exact cW J
   |some t =>
    rw[B]at J;refine⟨m2,U,x,.p O,.p (.bl t),U,R2,r1.ext e,E,by rw[N o x U d k (.p O) O rfl,B];rfl,λv3 H3 M Z R3 r3=>⟨t,oM r3,?_⟩⟩;cases t with
    |false =>
     rw[bL (by decide)];cases J;exact C _ H3 M ((g.trans e).trans Z) R3 (.p (.bl _))
    |true =>
     rw[bK rfl];obtain⟨i,j,e5,V⟩:=dj J;refine⟨M,s,U,i,j,R3,((S.ext g).ext e).ext Z,e5,λv4 H4 m4 D R4 r4=>?_⟩;unfold BT.OY at V;cases A:aY i j with
     |none=>rw[A]at V;exact cW V
     |some f =>
      rw[A]at V;simp only at V;refine⟨m4,j,.p O,i,z,h',R4,(E.ext Z).ext D,r4,by rw[N o' (.p O) j O rfl i f A];exact V,λv5 H5 m5 x5 R5 r5=>C v5 H5 m5 ((((g.trans e).trans Z).trans D).trans x5) R5 r5⟩
  |_=>rw[k]at J;exact cW J
def LC{lo:aW}(C:∀σ H (Q:Option Int->Hp->Prop),(∃m s h l zs h',RH X.K m H h/\RS X.prog X.w X.K m H σ s/\aU F G lo s h=aa (zs,h')/\(bw zs).bind BT.ud=aa l/\∀H' m',Ext m H m' H'->RH X.K m' H' h'->Q l H')->tl σ H Q)
(D:∀σ H (Q:Option Int->Hp->Prop),(∃m s h l zs h',RH X.K m H h/\RS X.prog X.w X.K m H σ s/\aU F G hi s h=aa (zs,h')/\(bw zs).bind BT.ud=aa l/\∀H' m',Ext m H m' H'->RH X.K m' H' h'->Q l H')->th σ H Q)
(σ:L2.St)(H:Hp)(Q:VK)(q:tD X F G (.n a lo hi) σ H Q):tSl (rSl X.prog X.w X.K) (tD X F G a) tl th σ H Q:=by
 obtain⟨m,s,h,z,h',R,S,g,j⟩:=q;simp only[aK]at g;obtain⟨x,f,e1,e2⟩:=dj g;simp only[BT.O4]at e2;obtain⟨c,e,P,i⟩:=dj e2;simp only[BT.O0]at i;obtain⟨Z,E,N,J⟩:=dj i;unfold BT.OZ at J;cases L:aY x E with
 |none=>rw[L]at J;exact cW J
 |some d =>
  cases O:(bw c).bind BT.ud with
  |none=>rw[L,O]at J;exact cW J
  |some l =>
   cases W:(bw Z).bind BT.ud with
   |none=>rw[L,O,W]at J;exact cW J
   |some u =>
    rw[L,O,W]at J;simp only at J;obtain⟨b,M,I⟩:=dO J;cases I;refine⟨m,s,h,x,f,R,S,e1,λv H1 B V R1 r=>C σ H1 _ ⟨B,s,f,l,c,e,R1,S.ext V,P,O,λH2 A U R2=>D σ H2 _ ⟨A,s,e,u,Z,h',R2,(S.ext V).ext U,N,W,λH3 y Y R3=>?_⟩⟩⟩;exact⟨y,h',x,d,b,R3,(r.ext U).ext Y,L,M,λo H5 t k T p=>j o H5 t (((V.trans U).trans Y).trans k) T p⟩
end
section
def zJ(U:sp=spF X.prog X.w X.K (F (.f f)))(q:tD X F G (.call f as) σ H Q):vE sp [] E0 (tDs X F G as) σ H Q:=by subst U;refine qd (k:=λO h=>F (.f f) O h) (λs h=>by simp only[aK]) q λm h L z V W Y R r e J=>?_;rw[Wz];exact⟨m,L,h,z,V,R,r,e,J⟩
def kE(q:tDs X F G .nil σ H Q):CV σ H Q:=by obtain⟨m,s,h,O,U,R,S,J,L⟩:=q;simp only[aU]at J;cases J;exact L [] H m (.refl _ _) R .nil
def DV(O:Ok X F G sc N)(b:d7 sc f=ah)(hn:dR f=ah)(hc:CEs sc N as es)(g:PA X es (tDs X F G as)):
 PE X (.Call (.Name f p) es [] pos) (tD X F G (.call f as)):=by
 have J:=gP hc;intro U s L H Q I q;have V:=q;obtain⟨m,l,h,z,t,R,S,d,i⟩:=q;simp only[aK]at d;obtain⟨j,o,e1,e2⟩:=dj d;obtain⟨v,u,n,k,Y,Z,c,W,ok⟩:=O.call _ _ _ _ e2;cases es with
 |nil =>
  cases as with
  |cons a r=>exact(mX hc).elim|nil=>exact(PE.weak (vF ok W (eZ O b) Y Z c .nil qD (fP hn).1) (fun L H Q z=>kE (zJ (X:=X) rfl z))) U s L H Q I V
 |cons e es =>
  simp only[dB,VH]at J;exact(PE.weak (zb ok W (eZ O b) Y Z c .nil qD g (fP hn).1 (dh J.1) (eS J.2)) (fun L H Q z=>zJ rfl z)) U s L H Q I V
def oO{id:String}(n:PlainAttrs T)(L:Slot T name id)
(Z:typeOf (.builtin id)=pure (.type "method_descriptor"))(t:MtR X id (rMe X.prog X.w X.K me))(y:eH oe=ah)(u:(apos.endLine==cpos.line)=ah)(b:es.length<20)(p:PE X oe (tD X F G o))(hc:CEs sc N as es)(P:PA X es (tDs X F G as))
(ty:∀(m:List VS)(h h2:aL)(H:Hp)(v:V) (x:aM) ws r,RH X.K m H h->RW X.prog X.w X.K m H v x->BT.mG x h=ah->aS me x ws h2=aa r->(∃σ s,RS X.prog X.w X.K m H σ s/\∃h0,aK F G o s h0=aa (x,h))->tyV X.K T v H):
 PE X (.Call (.Attribute oe name apos) es [] cpos) (tD X F G (.me me o as)):=by
 have J:=gP hc;have Y:∀σ H Q,tD X F G (.me me o as) σ H Q->tBM X.K T (rMe X.prog X.w X.K me) (tD X F G o) (tDs X F G as) σ H Q:=by intro σ H Q q;obtain⟨m,s,h,z,k,R,S,f,d⟩:=q;simp only[aK]at f;obtain⟨x,j,e1,e2⟩:=dj f;obtain⟨ok,e2⟩:=zE e2;obtain⟨ws,h2,e3,A⟩:=dj e2;refine⟨m,s,h,x,j,R,S,e1,λv g W O c U=>⟨ty W j h2 g v x ws _ c U ok A ⟨σ,s,S.ext O,h,e1⟩,W,s,j,ws,h2,c,S.ext O,e3,λvs H2 M l R2 E=>?_⟩⟩;exact⟨M,h2,x,ws,z,k,R2,U.ext l,E,A,λC H5 I B R5 D=>d C H5 I ((O.trans l).trans B) R5 D⟩
 cases es with
 |nil =>
  cases as with
  |cons a r=>exact(mX hc).elim
  |nil =>
   refine PE.weak (KA n L Z t p (mh y) u) fun σ H Q q=>?_;obtain⟨m,s,h,z,k,R,S,f,d⟩:=Y σ H Q q;exact⟨m,s,h,z,k,R,S,f,λv g W O c U=>⟨(d v g W O c U).1,kE (d v g W O c U).2⟩⟩
 |cons e es =>
  simp only[dB,VH] at J;refine PE.weak (C4 n L Z t p P (mh y) ?_ u (dh J.1) (eS J.2)) Y;rw[j4 (es:=e::es) (by simp only[dB,VH];exact J)];have i:decide ((e::es).length+([]:List YU).length+(if ([]:List YU).isEmpty then 0 else 1) < 30)=ah:=bP (by
   simp only[VU,Wu,ZR,if_true] at b ⊢;lia)
  rw[i];rfl
def pB(q:tD X F G (.bi b mu as) σ H Q):tCB (rBi X.prog X.w X.K b mu) (tDs X F G as) σ H Q:=by refine qd (k:=λO h=>BT.kBi b mu O h) (λs h=>by simp only[aK]) q λm h L z U V W R r e J=>?_;exact⟨m,h,L,z,U,R,r,e,J⟩
def LD(O:Ok X F G sc N)(Z:gk N=ah)(a:JB b mu x=ah)(L:d7 sc x=ah)(J:dB (e::es)=ah)(U:PA X (e::es) (tDs X F G as)):
 PE X (.Call (.Name x p) (e::es) [] pos) (tD X F G (.bi b mu as)):=by
 simp only[dB,VH]at J;have Y:Du b mu=aa x:=bR a;have V:=O.blt;cases b<;>cases mu<;>first|exact cW Y|(change aa _=aa _ at Y)
 all_goals (cases Y)
 exact PE.weak (iM Lq (eZ O L) (V _ (by decide)) PySem.boot_len U (by decide) (by decide) (dh J.1) (eS J.2)) (fun W H Q z=>pB z);exact PE.weak (lY Lr (eZ O L) (V _ (by decide)) (by decide +kernel) U (by decide) (by decide) (dh J.1) (eS J.2)) (fun W H Q z=>pB z);exact PE.weak (lY zC (eZ O L) (V _ (by decide)) (by decide +kernel) U (by decide) (by decide) (dh J.1) (eS J.2)) (fun W H Q z=>pB z);exact PE.weak (lY zC (eZ O L) (V _ (by decide)) (by decide +kernel) U (by decide) (by decide) (dh J.1) (eS J.2)) (fun W H Q z=>pB z);exact PE.weak (lY DM (eZ O L) (V _ (by decide)) (by decide +kernel) U (by decide) (by decide) (dh J.1) (eS J.2)) (fun W H Q z=>pB z);exact PE.weak (iM (G1 (O.calm Z)) (eZ O L) (V _ (by decide +kernel)) (by decide +kernel) U (by decide) (by decide) (dh J.1) (eS J.2)) (fun W H Q z=>pB z)
def Bu(U:vX b=aa (c,f)):gO X (.builtin "isinstance") (λvs H Q=>∃v,vs=[v,.ty c]/\rBi X.prog X.w X.K b ai [v] H Q):=by
 intro g s a H vs j Q I L h;obtain⟨v,rfl,m,h,i,z,l,R,J,e,V⟩:=h;obtain⟨u,k,rfl,Y,O⟩:=L.two;cases O;obtain⟨n,d,e1,e2,⟨_,rfl,rfl⟩|⟨_,q,_⟩⟩:=mW e
 ·have Z:=lH R J e1;cases Z with
  |cons r t =>
   cases t;rw[DO U]at e2;cases e2;exact G2 I r Y (DP U X.K _) λW=>⟨.bl _,H,I.tok W,rfl,V.here R (.bl _)⟩
 exact aR q
def DW(O:Ok X F G sc N)(V:vX b=aa (c,f))(r:d7 sc "isinstance"=ah)(J:d7 sc (VQ c)=ah)(L:noStar e=ah)(t:PE X e (tD X F G a)):
 PE X (.Call (.Name "isinstance" p) [e,.Name (VQ c) p2] [] pos) (tD X F G (.bi b ai (.cons a .nil))):=by
 have U:=O.blt;have hc:PE X (.Name (VQ c) p2) (tC (.ty c)):=by
  cases b<;>simp only[vX]at V<;>try contradiction
  all_goals (cases V)
  exact nk (eZ O J) (U _ (by decide)) (u:=.type "int") (by decide +kernel) rfl (by decide) (by decide);exact nk (eZ O J) (U _ (by decide)) (u:=.type "bool") (by decide +kernel) rfl (by decide) (by decide);exact nk (eZ O J) (U _ (by decide)) (u:=.type "str") (by decide +kernel) rfl (by decide) (by decide);exact nk (eZ O J) (U _ (by decide)) (u:=.type "tuple") (by decide +kernel) rfl (by decide) (by decide)
 refine PE.weak (iM (Bu V) (eZ O r) (U _ (by decide)) (by decide +kernel) (gX t (gX hc mS) (dh L)) (by decide) (by decide) (dh L) rfl) fun D H Q q=>?_;obtain⟨m,s,h,z,w,R,S,Y,d⟩:=q;simp only[aK,aU]at Y;obtain⟨E,W,e1,e2⟩:=dj Y;obtain⟨x,I,y,Z⟩:=dj e1;simp only[BT.nF,BT.dZ,BT.ko]at Z;cases Z;refine⟨m,s,h,x,W,R,S,y,λv K o i B l=>?_⟩;exact⟨v,rfl,o,W,[x],z,w,B,.cons l .nil,e2,λj C n g A k=>d j C n (i.trans g) A k⟩
def LF(σ:L2.St)(H:Hp)(Q:VK)(q:tD X F G (.aB as) σ H Q):Ow (tDs X F G as) σ H Q:=by
 refine qd (k:=λO h=>BT.KS O h) (λs h=>by simp only[aK]) q λm h L z Y V a R r e J=>?_;unfold BT.KS at e;cases g:bw L with
 |none=>rw[g]at e;exact cW e
 |some Z =>
  rw[g]at e;simp only at e;obtain⟨c,e⟩:=dP e;cases e;have rd:=r.pure g;have:=gr;have W:=rd.length;exact⟨by lia,λp U=>nL R U rd J⟩
def LG(σ:L2.St)(H:Hp)(Q:VK)(q:tD X F G (.aj mu as) σ H Q):Kq (tDs X F G as) σ H Q:=by
 refine qd (k:=λO h=>BT.KU mu O h) (λs h=>by simp only[aK]) q λm h L z V Z b R r e J=>?_;unfold BT.KU at e;cases g:bw L with
 |none=>rw[g]at e;exact cW e
 |some Y =>
  rw[g]at e;simp only at e;split at e
  ·rename_i c;have rd:=r.pure g;have:=gr;have a:=rd.length;have W:BT.new mu Y h=(z,V):=VN e;exact⟨by lia,λp U=>qc (mu:=mu) R U rd (by rw[W];exact J)⟩
  exact cW e
def cons_of(σ:L2.St)(H:Hp)(Q:List V->Hp->Prop)(q:tDs X F G (.cons a as) σ H Q):Jp (tD X F G a) (tDs X F G as) σ H Q:=by obtain⟨m,s,h,k,f,R,S,U,Y⟩:=q;simp only[aU]at U;obtain⟨x,O,e1,e2⟩:=dj U;simp only[BT.nF]at e2;obtain⟨Z,n,g,W⟩:=dj e2;simp only[BT.ko]at W;cases W;exact⟨m,s,h,x,O,R,S,e1,λv o e L i c=>⟨e,s,O,Z,f,i,S.ext L,g,λl j d J R2 b=>Y _ j d (L.trans J) R2 (.cons (c.ext J) b)⟩⟩
end
section
variable{K:VE}
theorem RFs.get:∀{vs:List (az×V)}{fs:List (az×aM)},RFs K m H vs fs->BT.eN f fs=aa x->∃v,vs.lookup f=aa v/\RA K m H v x
 |_,_,.nil,e=>by exact cW e
 |_,_,.cons (f:=g) r t,e=>by
  rw[BT.sZ]at e
  by_cases c:f=g
  rw[bK c]at e;cases e;subst c;exact⟨_,by simp,r⟩
  ·rw[bL c]at e;obtain⟨v,L,J⟩:=RFs.get t e;exact⟨v,by rw[XI];rw[beq_false_of_ne c];exact L,J⟩
theorem RFs.none:∀{vs:List (az×V)}{fs:List (az×aM)},RFs K m H vs fs->(BT.eN f fs).isNone=ah->vs.lookup f=af
 |_,_,.nil,_=>rfl
 |_,_,.cons (f:=g) r t,e=>by
  rw[BT.sZ]at e
  by_cases c:f=g
  rw[bK c]at e;exact aR e
  ·rw[bL c]at e;rw[XI,beq_false_of_ne c];exact RFs.none t e
theorem RFs.put(q:RA K m H v x):∀{vs:List (az×V)}{fs:List (az×aM)},RFs K m H vs fs->RFs K m H (L2.fR f v vs) (BT.fR f x fs)
 |_,_,.nil=>.cons q .nil
 |_,_,.cons (f:=g) r t=>by
  rw[L2.fR,BT.Bd]
  by_cases c:f=g
  rw[bK c,bK c.symm];subst c;exact .cons q t;rw[bL c,bL (WI c)];exact .cons r (RFs.put q t)
theorem RFs.length:∀{vs:List (az×V)}{fs:List (az×aM)},RFs K m H vs fs->vs.length=fs.length
 |_,_,.nil=>rfl
 |_,_,.cons _ t=>by rw[VU,VU,RFs.length t]
end
section
def Hf(e:BT.GO f x h=aa r):∃n c fs w,x=.o n/\bz h n=aa (c,fs)/\BT.eN f fs=aa w/\r=(w,h):=by
 cases x with
 |o n =>
  rw[BT.KZ]at e;cases g:bz h n with
  |none=>rw[g]at e;exact cW e
  |some q =>
   obtain⟨c,fs⟩:=q;rw[g]at e;obtain⟨w,e1,e2⟩:=dO e;exact⟨n,c,fs,w,rfl,g,e1,e2.symm⟩
 |_=>exact cW e
def Hg{sc:Wv}{N:List az}(V:eH x=ah)(U:attrName f=ah)(W:PE X x (tD X F G a)):PE X (.Attribute x f p) (tD X F G (.i a f)):=by
 refine PE.weak (Ko W (mh V)) fun j H Q q=>?_;refine JE (k:=BT.GO f) (λs h=>by simp only[aK]) q λm h x z t v g R r e L=>?_;obtain⟨n,c,fs,w,rfl,e1,e2,b⟩:=Hf e;cases b;cases r with
 |o hn =>
  obtain⟨C,d,O,Z,J,Y⟩:=R.tw _ _ _ _ hn e1;obtain⟨u,l,ra⟩:=Y.get e2;exact⟨_,C,d,O,u,rfl,Z,J.cls,J.no f U,l,L u g m (.refl _ _) R ra.rw⟩
def j6(Y:eH o=ah)(J:dB args=ah)(O:args.length<20)(V:(apos.endLine==pos.line)=ah):
 eval (.Call (.Attribute o m apos) args [] pos) env=(do
  let ov ←eval o env
  aau apos.atName
  let (f,first) ←Y8 [ov] (aaw ov m (do return (←importBound o env).getD ah))
  callWith pos f first (Xu pos (Wi args env)) (aao pos (Y7 [] env))):=by
 have W:methodCallForm (args.length+([]:List YU).length) (Xu pos (Wi args env)) (aao pos (Y7 [] env))=ah:=by
  unfold methodCallForm;have L:decide (args.length+([]:List YU).length+(if (aao pos (Y7 [] env)).isEmpty then 0 else 1) < 30)=ah:=bP (by
   show args.length+0+0 < 30;lia)
  rw[L,j4 J];rfl
 rw[arm_eval_Call,mh Y];unfold methodCall;rw[W];have U:methodCallPos ah o env apos pos=pure pos:=by unfold methodCallPos;rw[V];rfl
 rw[U];rfl
def DX(e:BT.Df F m ea x h=aa r):
 ∃n c fs ws g,x=.o n/\bz h n=aa (c,fs)/\(BT.eN m fs).isNone=ah/\ea h=aa (ws,g)/\F (.m c m) (.o n::ws) g=aa r:=by
 cases x with
 |o n =>
  rw[BT.GP]at e;cases g:bz h n with
  |none=>rw[g]at e;exact cW e
  |some q =>
   obtain⟨c,fs⟩:=q;rw[g]at e;simp only at e;split at e
   ·rename_i L;obtain⟨ws,J,e1,e2⟩:=dj e;exact⟨n,c,fs,ws,J,rfl,g,L,e1,e2⟩
   exact cW e
 |_=>exact cW e
def DY(O:Ok X F G sc N)(hb:eH oe=ah)(T:(apos.endLine==cpos.line)=ah)(L:es.length<20)(P:PE X oe (tD X F G o))(hc:CEs sc N as es)(ha:PA X es (tDs X F G as)):
 PE X (.Call (.Attribute oe m apos) es [] cpos) (tD X F G (.aE o m as)):=by
 have U:=gP hc;intro B s d H Q I q;obtain⟨m0,M,h,z,y,R,S,Z,f⟩:=q;simp only[aK]at Z;obtain⟨x,h1,e1,e2⟩:=dj Z;obtain⟨n,c,fs,E,g,rfl,e3,e4,e5,e6⟩:=DX e2;obtain⟨C,ga,fd,ps,k,u,hM,hB,hR,ok⟩:=O.aE _ _ _ _ _ e6;have W:za C m (spF X.prog X.w X.K (F (.m c m))) [] E0 (tD X F G o) (tDs X F G as) d H Q:=by
  refine⟨m0,M,h,.o n,h1,R,S,e1,λv H1 t Y b i=>?_⟩;cases i with
  |@o a _ hn =>
   obtain⟨C',A,vs,p,l,j⟩:=b.tw _ _ _ _ hn e3;cases l.cn.inj u.cn;refine⟨a,A,vs,rfl,p,j.none e4,t,M,h1,E,g,b,S.ext Y,e5,λus H2 m2 D R2 r2=>?_⟩;show spF X.prog X.w X.K (F (.m c m)) (V.ref a::(us++[])) H2 Q E0;rw[Wz];exact⟨m2,.o n::E,g,z,y,R2,.cons (.o (D.ix hn)) r2,e6,λv5 H5 m5 x5 R5 r5=>f v5 H5 m5 ((Y.trans D).trans x5) R5 r5⟩
 cases es with
 |nil =>
  cases as with
  |cons a r=>exact(mX hc).elim
  |nil =>
   refine vG P u.cls hM ok hR hB .nil qD (j6 hb U L T) B s d H Q I ?_;obtain⟨m,s,h,z,y,R,S,Z,f⟩:=W;refine⟨m,s,h,z,y,R,S,Z,λv H1 t Y b i=>?_⟩;obtain⟨a,A,fs,p,l,j,q4⟩:=f v H1 t Y b i;exact⟨a,A,fs,p,l,j,kE q4⟩
 |cons e es =>
  have J:=U;simp only[dB,VH]at J;exact zc P u.cls hM ok hR hB .nil qD ha (dh J.1) (eS J.2) (j6 hb U L T) B s d H Q I W
def DZ(O:Ok X F G sc N)(D:d7 sc c=ah)(hn:dR c=ah)(hc:CEs sc N as es)(ha:PA X es (tDs X F G as)):
 PE X (.Call (.Name c p) es [] pos) (tD X F G (.make c as)):=by
 have U:=gP hc;intro n s i H Q I q;obtain⟨m0,s',h,z,T,R,S,ee,zr⟩:=q;simp only[aK]at ee;obtain⟨B,V,e1,e2⟩:=dj ee;rw[BT.Dg]at e2;obtain⟨y,h2,e3,g⟩:=dj e2;have l:y=.p .aC/\(z,T)=(.o V.length,h2):=by
  cases y with
  |p d=>cases d<;>simp[BT.zu]at g;exact⟨rfl,by rw[g.1,g.2]⟩|_=>exact cW g
 obtain⟨rfl,l⟩:=l;cases l;obtain⟨C,ga,fd,ps,k,hC,f,M,P,E,ok⟩:=O.mkc _ _ _ _ e3;have b:CY C (spF X.prog X.w X.K (F (.m c "__init__"))) [] E0 (tDs X F G as) i H Q:=by
  refine⟨m0,s',h,B,V,R,S,e1,λus W L x1 R1 r1 x J nx Z ne=>?_⟩;rw[Wz];have u:Ext L W L (upd W J (.own x)):=i6 Z;have Ra:RH X.K L (upd W J (.own x)) V:=R1.new Z;have Y:upd W J (.own x) x=af:=by rw[dH (WI ne)];exact nx
  have t:Ext L (upd W J (.own x)) (L++[x]) (upd (upd W J (.own x)) x (.ins C J [])):=jY Y;have Rb:RH X.K (L++[x]) (upd (upd W J (.own x)) x (.ins C J [])) (V++[.o c []]):=Ra.Lg Y ⟨C,J,[],eY,hC,.nil⟩;have ix:(L++[x])[V.length]?=aa x:=by rw[←R1.len];simp
  refine⟨L++[x],.o V.length::B,V++[.o c []],.p .aC,T,Rb,.cons (.o ix) (r1.ext (u.trans t)),e3,λv H2 m2 A R2 j=>?_⟩;cases j with
  |p j =>
   cases j;exact⟨rfl,zr _ H2 m2 (((x1.trans u).trans t).trans A) R2 (.o (A.ix ix))⟩
 cases es with
 |nil =>
  cases as with
  |cons a r=>exact(mX hc).elim
  |nil =>
   refine CZ M ok E (eZ O D) f P .nil qD (fP hn).1 n s i H Q I ?_;exact kE b
 |cons e es =>
  simp only[dB,VH]at U;exact Gv M ok E (eZ O D) f P .nil qD ha (fP hn).1 (dh U.1) (eS U.2) n s i H Q I b
def LH(o:bE):TIp:=λx y H Q=>∃i j z,x=.int i/\y=.int j/\BT.qF o (.int i) (.int j)=aa (.int z)/\Q (.int z) H
noncomputable def D3:bE->Zt->Bool
 |.add,.Add=>ah|.sub,.Sub=>ah|.mul,.Mult=>ah|_,_=>ai
def zK(h:D3 o op=ah):PIp X op (LH o):=by
 rintro zt s σ H x y u v Q I rx ry ⟨i,j,z,rfl,rfl,e,q⟩
 obtain⟨t,rfl⟩:=(show ∃t,u=Zq i t from rx);obtain⟨J,rfl⟩:=(show ∃J,v=Zq j J from ry);cases o<;>cases op<;>cases h;cases e;exact PyProof.Rows.iadd_int ⟨.int (i+j),H,I.tok _,⟨_,rfl⟩,q⟩;cases e;exact PyProof.Rows.isub_int ⟨.int (i-j),H,I.tok _,⟨_,rfl⟩,q⟩
 ·rw[BT.vO]at e;obtain⟨c,e⟩:=dP e;cases e;have hc:Gk i j:=by
   rcases Xq _ _ ▸ c with c|c
   exact .inl (uA c);exact .inr (uA c)
  exact PyProof.Rows.imul_int ⟨.int (i*j),H,I.tok _,⟨_,rfl⟩,q⟩ hc.ok
def zL(h:BT.qF o d e=aa z):∃i j k,d=.int i/\e=.int j/\z=.int k:=by
 cases d with
 |int i =>
  cases e with
  |int j =>
   refine⟨i,j,?_⟩;cases o with
   |add=>exact⟨_,rfl,rfl,(VN h).symm⟩|sub=>exact⟨_,rfl,rfl,(VN h).symm⟩
   |mul =>
    rw[BT.vO]at h;split at h;exact⟨_,rfl,rfl,(VN h).symm⟩;exact cW h
   |_=>exact cW h
  |_=>cases o<;>exact cW h
 |_=>cases o<;>exact cW h
end
section
variable{K:VE}
end
theorem oQ(r:dJ vs us):∀l:List Nat,dJ (l.filterMap λi=>vs[i]?) (l.filterMap λi=>us[i]?)
 |[]=>.nil
 |i::l=>by
  rw[Wl,Wl];cases g:vs[i]? with
  |none =>
   have:us[i]?=af:=by have h:=r.length;rw[aaf]at g⊢;lia
   rw[this];exact oQ r l
  |some d =>
   obtain⟨v,e,q⟩:=r.get g;rw[e];exact .cons q (oQ r l)
noncomputable def wk(k:Int)(xs:List V):List V:=(YZ (Wo af af (aa k) xs.length).1 (Wo af af (aa k) xs.length).2.1 (Wo af af (aa k) xs.length).2.2).filterMap λi=>xs[i]?
section
def LJ(r:k≠0)(C:PE X e te)(n:PE X se (tC (.int k))):
 PE X (.Subscript e (.Slice af af (aa se) p2) pos) (fun σ H Q=>te σ H λx H1=>∃a xs,x=.ref a/\SqL X.K H1 a xs/\∀p,H1 p=af->Q (.ref p) (upd H1 p (.aj (wk k xs)))):=by
 intro O s σ H Q I h;refine aaU (thn (C O s σ H _ I h) λv d V=>?_);obtain⟨x,H1,E,g,a,xs,ex,m,q⟩:=V;subst ex;cases g;refine wpAny_Slice ?_;rw[aa9];refine av (av ?_);rw[evalPart_some];refine thn (n O d σ H1 (λv G=>v=.int k/\G=H1) E ⟨rfl,rfl⟩) λM J V=>?_;obtain⟨y,F,D,f,l,u⟩:=V;subst l u;obtain⟨t,rfl⟩:=f;have W:Inv X O σ F {J with heap:=J.heap.push {cls:=.type "slice",data:=.fields #[.none,.none,.int k t]} }:=D.aG (t':=J.toks) λb ob q=>VO _ q;obtain⟨L,Y,p,N⟩:=W.list m;have B:ay (V4 X.prog X.w) X.A (Z7 (.ref a) (.ref J.heap.objs.size)) (EP X O σ Q) X.xe {J with heap:=J.heap.push {cls:=.type "slice",data:=.fields #[.none,.none,.int k t]} }:=by
  have U:=Y.length;refine aaS p.isList (Z1 ..) .none .none (.int k t) (by intro z;exact r (VN z)) ?_ (by rw[VM];lia);have c:slicePick L.toArray af af (aa k)=((YZ (Wo af af (aa k) xs.length).1 (Wo af af (aa k) xs.length).2.1 (Wo af af (aa k) xs.length).2.2).filterMap λi=>L[i]?).toArray:=by unfold slicePick;rw[VM,←U];simp
  rw[c];have Z:=oQ Y (YZ (Wo af af (aa k) xs.length).1 (Wo af af (aa k) xs.length).2.1 (Wo af af (aa k) xs.length).2.2);have j:(wk k xs).length<=xs.length:=by have:=slicePick_size_le L.toArray af af (aa k);rw[c,VM,VM]at this;have e:=Z.length;unfold wk;lia
  refine⟨.ref (J.heap.push {cls:=.type "slice",data:=.fields #[.none,.none,.int k t]}).objs.size,_,W.laid (t':=J.toks) (o:=.aj (wk k xs)) (λb ob q=>VO _ q) (VR _) ?_,rfl,q _ (W.aI.fresh (VR _))⟩;exact⟨by lia,_,0,Z,Wm _ rfl⟩
 show ay (V4 X.prog X.w) X.A (aa5 e (.Slice af af (aa se) p2) (.ref a) (.ref J.heap.objs.size)) (EP X O σ Q) X.xe {J with heap:=J.heap.push {cls:=.type "slice",data:=.fields #[.none,.none,.int k t]} };exact aa4 (ops:=[.ref a,.ref J.heap.objs.size]) p.isList.typeIs slot_list_getitem.lookup B (by with_unfolding_all rfl)
def zM(h:(GT e).bind cInt=aa k):∃a b,e=.Constant (.int k) a b:=by
 cases e with
 |Constant c a b =>
  cases c with
  |int j=>cases h;exact⟨a,b,rfl⟩|_=>exact bM (show(af:Option Int)=aa _ from h) (λz=>nomatch z)
 |_=>exact bM (show(af:Option Int)=aa _ from h) (λz=>nomatch z)
def D4(h:uw k e=ah):(∃a b,e=.Constant (.int k) a b/\0<k)\/∃j a b p,e=.UnaryOp .USub (.Constant (.int j) a b) p/\k=-j/\0<j:=by
 unfold uw at h;rw[Xq,VH,VH,bN,bN]at h;rcases h with⟨J,L⟩|⟨J,L⟩
 ·obtain⟨a,b,e1⟩:=zM (bR J);exact .inl ⟨a,b,e1,L⟩
 ·have J:=bR J;cases e with
  |UnaryOp o e p =>
   by_cases c:o=.USub
   ·subst c;have O:(GT e).bind cInt=aa (-k):=J;obtain⟨a,b,rfl⟩:=zM O;exact .inr ⟨-k,a,b,p,rfl,by lia,by lia⟩
   ·have:unE (.UnaryOp o e p)=af:=bL c;rw[this]at J;exact cW J
  |_=>exact bM (show(af:Option Int)=aa _ from J) (λz=>nomatch z)
def Hh(f:uw k se=ah)(i:PE X x (tD X F G a)):PE X (.Subscript x (.Slice af af (aa se) p2) p) (tD X F G (.stp mu k a)):=by
 have L:k≠0/\PE X se (tC (.int k)):=by
  rcases D4 f with⟨a,b,rfl,h⟩|⟨j,a,b,p,rfl,rfl,h⟩
  exact⟨by lia,xM⟩;exact⟨by lia,PE.weak (Jo CH xM) fun O H Q q=>⟨_,rfl,q⟩⟩
 refine PE.weak (LJ L.1 i L.2) fun O H Q q=>?_;refine JE (k:=BT.KW mu k) (λs h=>by simp only[aK]) q λm h x z l v o R r e U=>?_;unfold BT.KW at e;cases g:aY x h with
 |none=>rw[g]at e;exact cW e
 |some d =>
  rw[g]at e;cases d with
  |aj V =>
   simp only at e;have Y:=fB R r g;obtain⟨a,W,rfl,c,J⟩:=Y.aj;have n:BT.new mu (BT.o9 k V) h=(z,l):=VN e;refine⟨a,W,rfl,c.sq,λp Z=>qc (mu:=mu) R Z ?_ (by rw[n];exact U)⟩;unfold wk BT.o9;rw[J.length];exact RDs.pick J _
  |_=>exact cW e
def D5{X:Cx}{b:BT.Bi}{g:Int->Int->Int}(c:∀ds d,BT.biD b ds=aa d->∃i j,ds=[.int i,.int j]/\d=.int (g i j)){id:String}(hc:gO X (.builtin id) (λxs H Q=>∃i j,xs=[.int i,.int j]/\Q (.int (g i j)) H)):gO X (.builtin id) (rBi X.prog X.w X.K b ai):=by
 intro U s O H k W Q I L h;obtain⟨m,h,f,z,l,R,J,e,V⟩:=h;obtain⟨ds,d,e1,e2,⟨_,rfl,rfl⟩|⟨_,q,_⟩⟩:=mW e
 ·have Z:=lH R J e1;obtain⟨i,j,rfl,rfl⟩:=c _ _ e2;cases Z with
  |cons r t =>
   cases t with
   |cons a Y =>
    cases Y;cases r.int;cases a.int;exact hc U s O H _ W Q I L ⟨i,j,rfl,V.here R (.int _)⟩
 exact aR q
def Hi{X:Cx}{sc:Wv}{N:List az}(O:Ok X F G sc N)(V:gk N=ah){b:BT.Bi}{as:aW}{x:az}{e:VI}{es:List VI}{p pos:Pos}(L:Dv b x=ah)(W:d7 sc x=ah)(J:dB (e::es)=ah)(Y:PA X (e::es) (tDs X F G as)):
 PE X (.Call (.Name x p) (e::es) [] pos) (tD X F G (.bi b ai as)):=by
 simp only[dB,VH]at J;have Z:=O.blt;cases b<;>first|exact aR L|(replace L:=bR L)
 ·subst L;refine PE.weak (iM (D5 (b:=.min2) (g:=λi j=>if j<i then j else i) (λU d h=>?_) (AR (O.calm V))) (eZ O W) (Z _ (by decide +kernel)) (by decide +kernel) Y (by decide) (by decide) (dh J.1) (eS J.2)) (fun a H Q z=>pB z)
  match U,h with
  |[.int i,.int j],h=>exact⟨i,j,rfl,(VN h).symm⟩
 ·subst L;refine PE.weak (iM (D5 (b:=.max2) (g:=λi j=>if j>i then j else i) (λU d h=>?_) (AQ (O.calm V))) (eZ O W) (Z _ (by decide +kernel)) (by decide +kernel) Y (by decide) (by decide) (dh J.1) (eS J.2)) (fun a H Q z=>pB z)
  match U,h with
  |[.int i,.int j],h=>exact⟨i,j,rfl,(VN h).symm⟩
end
section
variable{K:VE}
def PV(H H':Hp):Prop:=(∀a J,Rd H a (.aB J)->Rd H' a (.aB J))/\∀a J,Rd H a (.aj J)->Rd H' a (.aj J)
mutual
theorem RD.tr(q:PV H H'):∀{v:V}{d:aN},RD K m H v d->RD K m H' v d
 |_,_,.aC=>.aC|_,_,.bl b=>.bl b|_,_,.int i=>.int i|_,_,.str y h=>.str y h|_,_,.aB h r=>.aB (h.elim (λz=>.inl ⟨q.1 _ _ z.1,z.2⟩) .inr) (RDs.tr q r)|_,_,.aj h r=>.aj (h.elim (λz=>.inl ⟨q.2 _ _ z.1,z.2⟩) .inr) (RDs.tr q r)
theorem RDs.tr(q:PV H H'):∀{vs:List V}{ds:List aN},RDs K m H vs ds->RDs K m H' vs ds
 |_,_,.nil=>.nil|_,_,.cons r t=>.cons (RD.tr q r) (RDs.tr q t)
end
end
open Classical in
noncomputable def hid(cl:List (az×VS))(H:Hp):Hp:=λb=>if ∃x,cl.lookup x=aa b then af else H b
open Classical in
noncomputable def ret(cl:List (az×VS))(H0 H:Hp):Hp:=λb=>if ∃x,cl.lookup x=aa b then H0 b else H b
section
end
def PY(P:VV)(w:Wj)(K:VE)(mg:az->Option aA)(base:au)(N:List az)(q:az)(sc:Wv)(cl:List (az×VS))(f c':VS)(A:Wq)(outer:List Env)(s:VG)(H:Hp):Cx where
 prog:=P
 w:=w
 K:=K
 mg:=mg
 base:=base
 A:=A.deeper (YQ q sc s.heap.objs.size f (.ref c') cl)
 N:=N
 s₀:=s
 H₀:=hid cl H
 env:=YQ q sc s.heap.objs.size f (.ref c') cl
 outer:=outer
 stack:=YQ q sc s.heap.objs.size f (.ref c') cl::outer
 ex:=[]
 calm:=ah
 fn:=λ_=>ai
 pn:=[]
 xe:=λ_ _=>False
section
end
def Bv(x C:VS)(h:au):Prop:=∃o,h.get? x=aa o/\o.cls=.ref C
section
open PySem.W PySem.Calls PySem.Builtin PySem.Builtin.ObjectAttr PySem.Builtin.Getset_descriptor
variable{E:aA->VG->Prop}{K:VE}
def Bv.look(I:Bv x C h):Looks M h (typeOf (.ref x)) (.ref C):=by obtain⟨o,e,c⟩:=I;exact c ▸ (Looks.ld e).andThen .now
def LK(X:K.In s.heap)(I:Bv x C s.heap)(O:mroIn K C (.type "object")=aa ah)(h:R (.ok (.ret (.ref C))) s):ao (V4 prog w) A (.call (.builtin "getset_descriptor.__get__") ⟨[.builtin "object.__class__",.ref x,tp],[]⟩) R s:=by
 obtain⟨W,Y,Z,J,L⟩:=s;have V:=I.look (M:=V4 prog w);have U:=looks_mroIn (M:=V4 prog w) X O;refine codeAny_call_builtin KF.slot_gs.plain KF.entry_gs (KF.slot_gs.check _ _ _ _ _ _ _ _ KF.type_class (KF.args_gs _ _ _) ?_)
 (unfold Builtin.«getset_descriptor.__get__» descrGet;rw[dga_obj])
 refine VJ (av ?_)
 (unfold descrGetter descrCheckInstance descrNameAndClass isInstance;simp only[KF.owner_class])
 repeat lk
 refine⟨Code.quiet_builtin _ (by decide +kernel),codeAny_builtin KF.entry_class ?_⟩
 (unfold Builtin.«object.__class__» shownTypeOf;repeat lk)
 exact h
def Hj(X:K.In h)(h1:findIn K (.ref C) nm=aa (aa a))(h2:specialIn K a "__get__"=aa (aa g))(U:takesIn K a=aa ah):Looks M h (find (.ref x) (.ref C) nm) (.bind g a):=by have O:=looks_findIn (M:=M) X h1;have L:Looks M h (getOf (aa a)) (aa g):=looks_specialIn X h2;have J:Looks M h (dataDescriptor? (aa a) (aa g)) (aa (g,a)):=(looks_takesIn (M:=M) X U).andThen .now;exact O.andThen (L.andThen (J.andThen (Looks.tag .now)))
def PZ(X:K.In s.heap)(I:Bv x C s.heap)(c:az)(L:XT K c C)(h:R (.ok (.ret (.ref C))) s):
 ao (V4 prog w) A (.call (.builtin "BaseException.__getattribute__") ⟨[.ref x,.str "__class__" tk],[]⟩) R s:=by
 have a:=looks_mroIn (M:=V4 prog w) X L.mrb;have d:=I.look (M:=V4 prog w);have b:=Hj (M:=V4 prog w) (x:=x) X L.fnd L.spc L.tak;obtain⟨V,Y,Z,O,U⟩:=s;have W:builtinKind "BaseException.__getattribute__"=aa .slot:=by decide +kernel
 have J:splitId "BaseException.__getattribute__"=aa ("BaseException","__getattribute__"):=by decide +kernel
 have e:=PySem.F.args_bexc_ga (.ref x) (.str "__class__" tk);refine codeAny_call_builtin PySem.F.attrBase_ValueError.ga.plain PySem.F.entry_bexc_ga ?_;simp only[checkBuiltinCall,W,J];refine VJ ?_;unfold isInstance
 repeat lk
 refine wpAny_run (A:=A.in1) (h:=af) (c:=.call (.builtin "getset_descriptor.__get__") ⟨[.builtin "object.__class__",.ref x,.ref C],[]⟩) (LK (s:=⟨V,Y,Z,O,U⟩) X I L.mro ?_);exact av (av h)
def Hl(X:K.In s.heap)(I:Bv x C s.heap)(c:az)(O:XT K c C)(h:Q (aa (.ref C)) {s with toks:=s.toks+1}):ay (V4 prog w) A (getAttr? (.ref x) "__class__") Q E s:=by
 obtain⟨W,Y,Z,J,L⟩:=s;have e:=I.look (M:=V4 prog w);have d:=looks_findIn (M:=V4 prog w) X O.ga;have b:=looks_findIn (M:=V4 prog w) X O.nga;have f:=PySem.F.attrBase_ValueError.ga.bind (.ref x);have U:(Ye "BaseException.__getattribute__"==Ye "object.__getattribute__")=ai:=by decide +kernel
 have V:(onTheHeap (WK C)&&Ye "BaseException.__getattribute__"==Ye "object.__getattribute__")=ai:=by rw[U];rfl
 (unfold getAttr? getAttrBy? getAttrBy)
 refine VJ (wpAny_mkText (VJ (aa3 (WN (VJ (e.at (VJ (d.at ?_))))))));show ay _ _ (if(onTheHeap (WK C)&&Ye "BaseException.__getattribute__"==Ye "object.__getattribute__")=ah then _ else getAttrByItsOwn (.ref x) (.str "__class__" J) (.ref C) (.builtin "BaseException.__getattribute__") ai ai) _ _ (⟨W,Y,Z,J+1,L⟩:VG);rw[bL (by rw[V];exact WU)];unfold getAttrByItsOwn;refine VJ (b.at ?_);refine VJ (aa3 (WN ?_));show ay _ _ (boundAndCalled (.builtin "BaseException.__getattribute__") (.ref x) (.str "__class__" J)) _ _ _;unfold boundAndCalled;rw[f];refine VJ (av ?_);show ay _ _ (call (.builtin "BaseException.__getattribute__") [.ref x,.str "__class__" J]) _ _ _;refine WJ (aaT (PZ (s:=⟨W,Y,Z,J+1,L⟩) (R:=wants (λv a=>v=.ref C/\a=(⟨W,Y,Z,J+1,L⟩:VG)) λ_ _=>False) X I c O ⟨rfl,rfl⟩)) (λv a z=>?_) λ_ _ z=>z.elim;obtain⟨rfl,rfl⟩:=z;exact handed_on rfl (av h)
theorem D6(c:az)(J:XT K c C):KitX K (.ref x) (.ref C) (Bv x C) where
 ty:=λ_ _ _ I=>I.look
 it:=λM h X I=>by
  obtain⟨V,hc,_⟩:=any_some J.dct;unfold clsIn at hc;split at hc
  ·rename_i O;exact λd a b Z k q=>by unfold isType loadHead;exact VJ (wpAny_loadPart (k _ _ (X _ _ O)) (av q))
  exact cW hc
 ne:=λh W dd U n Y X L=>by
  obtain⟨V,hc,_⟩:=any_some J.dct;refine Bool.eq_false_iff.mpr λq=>?_;have e:=Value.ref.inj (beq_iff_eq.mp q);subst e;unfold clsIn at hc;split at hc
  ·rename_i O;exact nomatch (X _ _ O).symm.trans L
  exact cW hc
 ca:=λX I k=>Hl X I c J k
end
def D7{E:aA->VG->Prop}(I:Inv X zt σ H s)(h1:H a=aa (.ext (excAt X.K c a)))
(L:∀C,XT X.K c C->WX X.K (.ref C) cv=aa b)(q:∀tk,Q (.bool b) {s with toks:=tk}):ay (V4 X.prog X.w) X.A (call (.builtin "isinstance") [.ref a,cv]) Q E s:=by
 obtain⟨⟨o,C,_,J,e1,e2⟩,_,_⟩:=I.aI a _ h1;exact Xk (D6 c J) I.kIn ⟨o,e1,e2⟩ (L C J) (by intro z;cases z) q
section
def Ho(O:Ok X F G sc N)(P:Dy cn=ah)(hn:dR cn=ah)(hg:d7 sc "isinstance"=ah)(r:d7 sc cn=ah)(U:noStar e=ah)(ha:PE X e (tD X F G a)):
 PE X (.Call (.Name "isinstance" p) [e,.Name cn p2] [] pos) (tD X F G (.isx cn a)):=by
 have T:=O.blt;have n:∀{J:L2.St}{H:Hp}{Q:VK},tD X F G (.isx cn a) J H Q->tD X F G a J H λv V=>∃ad c,v=.ref ad/\V ad=aa (.ext (excAt X.K c ad))/\(∃C,XT X.K c C)/\BT.ur c cn=ah/\Q (.bl (BT.nG c cn)) V:=λ{J H Q} q=>by
  obtain⟨m,s,h,z,t,R,S,d,g⟩:=q;simp only[aK]at d;obtain⟨x,A,e1,e2⟩:=dj d;refine⟨m,s,h,x,A,R,S,e1,λv V l i w k=>?_⟩;cases x with
  |x c =>
   cases k with
   |x L q2 W =>
    have e2:(if BT.ur c cn=ah then aa (aM.p (.bl (BT.nG c cn)),A)else af)=aa (z,t):=e2;obtain⟨b,e2⟩:=dP e2;cases e2;exact⟨_,c,rfl,L,W,b,g _ V l i w (.p (.bl _))⟩
  |_=>exact cW e2
 by_cases hv:cn="ValueError"
 ·subst hv;have hc:PE X (.Name "ValueError" p2) (tC (.ty "ValueError")):=nk (eZ O r) (T _ (by decide)) (u:=.type "ValueError") (by decide +kernel) rfl (by decide) (by decide);have call:gO X (.builtin "isinstance") (λj H Q=>∃ad c,j=[.ref ad,.ty "ValueError"]/\H ad=aa (.ext (excAt X.K c ad))/\Q (.bl (BT.nG c "ValueError")) H):=by
   intro f s J H j us Q I Y h;obtain ⟨ad,c,rfl,L,q⟩:=h;obtain ⟨u,u2,rfl,E,Z⟩:=Y.two;cases E;cases Z;exact D7 I L (λC W=>W.val) λB=>⟨.bl _,H,I.tok B,rfl,by
    have:BT.nG c "ValueError"=ah:=by unfold BT.nG;simp
    rw[← this];exact q⟩
  refine PE.weak (iM call (eZ O hg) (T _ (by decide)) (by decide +kernel) (gX ha (gX hc mS) (dh U)) (by decide) (by decide) (dh U) rfl) fun J H Q q=>?_;obtain⟨m,s,h,z,t,R,S,d,g⟩:=n q;refine⟨m,s,h,z,t,R,S,d,λv V l i w k=>?_⟩;obtain⟨ad,c,rfl,L,_,_,M⟩:=g v V l i w k;exact⟨ad,c,rfl,L,M⟩
 ·have o:lB cn=ah:=by unfold Dy at P;rw[Xq]at P;exact P.resolve_right λz=>hv (bR z)
  have dbg:(cn==("__debug__":az))=ai:=by unfold dR at hn;simp only[VH]at hn;simpa using hn.1.1
  have hc:PE X (.Name cn p2) (fun J H Q=>∃D,X.mg cn=aa (.ref D)/\Q (.ref D) H):=λf s J H Q I ⟨D,hm,q⟩=>pV (v:=.ref D) (eZ O r) hm rfl dbg f s J H Q I q;have call:gO X (.builtin "isinstance") (λj H Q=>∃ad c D,j=[.ref ad,.ref D]/\CN X.K cn D/\BT.ur c cn=ah/\H ad=aa (.ext (excAt X.K c ad))/\Q (.bl (BT.nG c cn)) H):=by intro f s J H j us Q I Y h;obtain⟨ad,c,D,rfl,y,b,L,q⟩:=h;obtain⟨u,u2,rfl,E,Z⟩:=Y.two;cases E;cases Z;refine D7 I L (λC W=>?_) λB=>⟨.bl _,H,I.tok B,rfl,q⟩;obtain⟨D',A,h2⟩:=W.own cn o b;rw[y.inj A];exact h2
  have K2:PE X (.Call (.Name "isinstance" p) [e,.Name cn p2] [] pos) _:=iM call (eZ O hg) (T _ (by decide)) (by decide +kernel) (gX ha (gX hc mS) (dh U)) (by decide) (by decide) (dh U) rfl;intro f s0 J H Q I q;refine K2 f s0 J H Q I ?_;obtain⟨m,s,h,z,t,R,S,d,g⟩:=n q;refine⟨m,s,h,z,t,R,S,d,λv V l i w k=>?_⟩;obtain⟨ad,c,rfl,L,⟨C,W⟩,b,M⟩:=g v V l i w k;obtain⟨D,y,_⟩:=W.own cn o b;exact⟨D,Ww I.mod.kin I.mod.glob y,ad,c,D,rfl,y,b,L,M⟩
end
section
variable{X:Cx}
def Bw(D:X.A.units+150<aaM):MtR X "list.index" (rMe X.prog X.w X.K .lindex):=by
 intro zt s σ H v vs v' us Q I q W h;obtain⟨m,h,x,f,z,h',R,U,V,e,o⟩:=h;cases x with
 |r n=>cases f with
  |_=>(first|exact cW e|simp[aS]at e)
 |p d =>
  rw[BT.yb]at e;cases g:bw f with
  |none=>rw[g]at e;exact cW e
  |some ds =>
   rw[g]at e;obtain⟨b,e1,e2⟩:=dO e;cases e2;have rds:=V.pure g;cases d<;>first|exact cW e1|skip
   rename_i xs;cases ds with
   |nil=>exact cW e1
   |cons d0 dr =>
    cases dr with
    |cons _ _=>exact cW e1
    |nil =>
     rw[BT.uh]at e1;split at e1
     ·rename_i c;obtain⟨j,e3,T⟩:=dO e1;subst T;obtain⟨i,rfl,M,S,P⟩:=mV e3;cases rds with
      |cons B rn =>
       cases rn;obtain⟨u,rfl,t⟩:=W.one;cases U with
       |p U =>
        obtain⟨a,vt,rfl,N,ra⟩:=RR.aj (.d U);cases q;obtain⟨zz,J,n,O,_,l⟩:=rdL I N;have sl:ak=16777216:=sizeLine_eq;have hl:=O.length;have E:=ra.length;have Z:i<J.toArray.size:=by rw[VM];lia
        refine XC F.slot_list_index ⟨_,l,rfl⟩ F.entry_list_index (F.args_list_index_2 _ _)
         (SeqAt.list_indexAt a J.toArray n af #[] u (gn s.heap (pd d0)) i Z (by lia) ?_ ?_) ⟨l,?_,?_⟩
        rw[show J.toArray[i]=J[i]'(by lia) by simp,l9 I ra O i (by lia) M];exact S
        ·intro k G Y;have L:k<J.length:=by simpa using G
         rw[show J.toArray[k]=J[k]'L by simp,l9 I ra O k L (by lia)];exact P k (by lia) Y
        ·intro y C;exact jG D I (.d B) t ra O c y (by simpa using C)
        ·refine⟨.int (((0+i:Nat):Nat):Int),H,I.tok _,⟨s.toks,?_⟩,o.here R (.int _)⟩;simp
     exact cW e1
 |_=>(first|exact cW e|simp[aS]at e)
def D8(N:X.A.units+150<aaM):MtR X "list.count" (rMe X.prog X.w X.K .count):=by
 intro zt s σ H v vs v' us Q I D W h;obtain⟨m,h,x,k,z,h',R,U,V,e,C⟩:=h;cases x with
 |r n=>cases k with
  |_=>(first|exact cW e|simp[aS]at e)
 |p d =>
  rw[BT.A7]at e;cases g:bw k with
  |none=>rw[g]at e;exact cW e
  |some ds =>
   rw[g]at e;obtain⟨b,e1,e2⟩:=dO e;cases e2;have rds:=V.pure g;cases d<;>first|exact cW e1|skip
   rename_i O;cases ds with
   |nil=>exact cW e1
   |cons L dr =>
    cases dr with
    |cons _ _=>exact cW e1
    |nil =>
     rw[BT.ug]at e1;obtain⟨c,e1⟩:=dP e1;cases e1;cases rds with
     |cons G rn =>
      cases rn;obtain⟨u,rfl,E⟩:=W.one;cases U with
      |p U =>
       obtain⟨a,vt,rfl,S,ra⟩:=RR.aj (.d U);cases D;obtain⟨zz,J,n,Y,_,o⟩:=rdL I S;have hl:=Y.length;have P:=ra.length;have T:J.countP (gn s.heap (pd L))=O.countP λy=>aT y L:=by
        have Z:J.map (gn s.heap (pd L))=O.map λy=>aT y L:=by refine List.ext_getElem (by rw[V8,V8];lia) λi t q=>?_;rw[V8]at t q;rw[List.getElem_map,List.getElem_map];exact l9 I ra Y i t q
        have B:∀{j:Type}(f:j->Bool)(l:List j),l.countP f=(l.map f).countP id:=λf l=>by rw[List.countP_map];rfl
        rw[B,B (λy=>aT y L),Z]
       refine XC F.slot_list_count ⟨_,o,rfl⟩ F.entry_list_count (F.args_list_count_2 _ _) (SeqAt.list_countAt a J.toArray n af #[] u (gn s.heap (pd L))) ⟨o,?_,?_⟩
       ·intro y M;exact jG N I (.d G) E ra Y c y (by simpa using M)
       ·refine⟨.int ((O.countP λy=>aT y L:Nat):Int),H,I.tok _,⟨s.toks,?_⟩,C.here R (.int _)⟩;rw[←T]
 |_=>(first|exact cW e|simp[aS]at e)
end
structure sC(K:VE)(J:It)(m0:List VS)(H0:Hp)(ds:List aN)(C:aL->Prop):Prop where
 go:∀m H h (i:Nat),Ext m0 H0 m H->RH K m H h->C h->i<ds.length->J.go i H
 yld:∀m H h (i:Nat) x H' d,Ext m0 H0 m H->RH K m H h->C h->ds[i]?=aa d->J.yld i H x H'->Ext m H m H'/\Le H H'/\RD K m H' x d
 stop:∀m H h,Ext m0 H0 m H->RH K m H h->C h->J.stop ds.length H
def wm(J:bC)(ws:List aM):Prop:=BT.gU ws=ah\/((J=.seq\/J=.enu)/\∃q,ws=[.r q])
def mH(J:bC)(ws:List aM)(ds:List aN)(h:aL):Prop:=∀q,ws=[.r q]->BT.kT J q h=aa ds
def wm.p{J:bC}{ws:List aM}(h:wm J ws)(n:¬(J=.seq\/J=.enu)):BT.gU ws=ah:=h.resolve_right λz=>n z.1
def LM{q:Nat}{ds:List aN}{h:aL}(e:BT.kT .seq q h=aa ds):aZ h q=aa ds:=by
 unfold BT.kT at e;cases g:aZ h q with
 |none=>rw[g]at e;exact cW e|some J=>rw[g]at e;exact e
def kF{J:bC}{ws:List aM}{ds:List aN}{h:aL}(a:BT.gU ws=ah):mH J ws ds h:=λq e=>by subst e;exact aR a
noncomputable def Itv(K:VE)(a:VS)(n:Nat):It :=
 ⟨λi H=>i<n/\∃J,SqL K H a J/\J.length=n,λi H x L=>L=H/\∀J,SqL K H a J->J[n-1-i]?=aa x,λi H=>i=n⟩
theorem D9(a L:VS)(n:Nat):Turn P w K tg (Itv K a n) [L] L (λi h=>h.IsRevIter L a ((n:Int)-1-i)) where
 mem:=by simp
 obj:=λi h st b U=>by
  have e:b=L:=by simpa using U
  subst e;obtain⟨o,e,c,d⟩:=st;exact⟨o,e,λv z=>by rw[d]at z;cases z⟩
 keep:=λi h Y st k=>st.at λo e=>k L (by simp) o e
 item:=by
  intro X Z hw f hc i t s r H E I W st V;subst Z hw f;obtain⟨hi,C,A,hx⟩:=V;obtain⟨G,y,p,hz⟩:=I.list A;have hl:=y.length;have B:n-1-i<C.length:=by lia
  obtain⟨u,N,F⟩:=y.get (VL B);obtain⟨q,m,Q,l,j,g⟩:=W L (by simp);have R:((n:Int)-1-(i:Int))=(((n-1-i:Nat)):Int):=by lia
  have O:s.heap.IsRevIter L a (((n-1-i:Nat)):Int):=by rw[←R];exact st
  refine wpAny_pyNext_rev_item O p.isList (x:=u) (by simpa using N) λY J D=>?_;have T:Inv X t r H {s with heap:=Y}:=I.turned (t':=s.toks) (λb o U e=>(D.2 b U).trans e) q m l j g;obtain⟨o,e,c,d⟩:=id J;refine⟨u,rfl,yY (s:={s with heap:=Y}) e c d (by decide) ⟨_,H,T,F,⟨rfl,λys M=>by rw[I.qu M A];exact VL B⟩,?_,λb U=>(W b U).1⟩⟩;have e2:(((n-1-i:Nat)):Int)-1=(n:Int)-1-((i+1:Nat):Int):=by lia
  rw[e2]at J;exact J
 done:=by
  intro X Z hw f hc i t s r H E I W st V;subst Z hw f;have V:i=n:=V;subst V;obtain⟨q,m,Q,l,j,g⟩:=W L (by simp);have e1:(i:Int)-1-(i:Int)=-1:=by lia
  have O:s.heap.IsRevIter L a (-1):=by rw[←e1];exact st
  exact wpAny_pyNext_rev_end (I.ok.hd hc) O λY S=>⟨rfl,I.turned (t':=s.toks) (λb o U e=>S b o U e) q m l j g⟩
 self:=λ_ _ _ _ _ st h=>wpAny_pyIter_revIter st h
def Inv.Hq{X:Cx}{zt:List (VS×aq)}{σ:L2.St}{H H':Hp}{s:VG}{h':au}{fp:List VS}{tk:Nat}(I:Inv X zt σ H s)(O:∀b∈fp,qv X zt H b)
(k:∀b o,b∉fp->s.heap.get? b=aa o->h'.get? b=aa o)(L:∀b,b<s.heap.objs.size->H' b=H b)(aI:HOk X.prog X.w H' h'):Inv X zt σ H' {s with heap:=h',toks:=tk}:=by
 have J:∀b u,H b=aa u->H' b=aa u:=λb u e=>by rw[L b (I.aI.lt e)];exact e
 refine I.step (g':=s.gens) (d':=s.drawn) (ch:=fp) (λb W=>?_) (λb o _ _ hc e _=>k b o hc e) (λb o _ _ hc e _=>⟨o.slots,k b o hc e⟩) (λb o _ e n=>by rw[L b (VT e)];exact n)
  (λb o hc e=>⟨o,k b o hc e⟩) (λb g e=>J b _ e) (λb o u e=>J b _ e) (λb h e=>⟨#[],by rw[J b _ e];simp⟩) (λm V=>?_) aI I.bare
 ·obtain⟨_,c,_,a,Z,Y⟩:=O b W;exact⟨a,c,Z,Y⟩
 ·obtain⟨o,d,f,U,r⟩:=V;exact⟨o,d,f,k _ o (λz=>(O _ z).2.1 rfl) U,r⟩
inductive iD(X:Cx)(F:FT)(G:az->Option aM)(sr:bC)(sa:aW)(σ:L2.St)(H:Hp)(R:It->Hp->Prop):Prop
 |mk(m:List VS)(s:bf)(h:aL)(ws:List aM)(h':aL)(ds:List aN)(RR:RH X.K m H h)(S:RS X.prog X.w X.K m H σ s)(e:aU F G sa s h=aa (ws,h'))(e2:(aQ ws h').bind (bJ sr)=aa ds)(L:wm sr ws)
  (p:∀H' m' J,Ext m H m' H'->RH X.K m' H' h'->sC X.K J m' H' ds (mH sr ws ds)->R J H'):iD X F G sr sa σ H R
def PI.weak(h:PI X tg e t)(q:∀σ H R,t' σ H R->t σ H R):PI X tg e t':=λJ s σ H R I hw=>h J s σ H R I (q _ _ _ hw)
section
def Hr(h:(Rd H0 a (.aj vs)/\a∉m0)\/KL K a vs)(r:RDs K m0 H0 vs ds):sC K (Itl K a) m0 H0 ds C:=by
 have k:∀{m H},Ext m0 H0 m H->SqL K H a vs:=λx=>LL.sq (h.elim (λq=>.inl (Rd.ext x q.1 q.2).1) .inr);refine⟨λm H L i x _ _ J=>?_,λm H L i v W d x RR _ O y=>?_,λm H _ x _ _=>⟨vs,k x,by rw[r.length];exact VR _⟩⟩;exact⟨vs,_,k x,VL (by rw[r.length];exact J)⟩
 ·obtain⟨rfl,y⟩:=y;obtain⟨u,V,U⟩:=(r.ext x).get O;have:=y vs (k x);rw[V]at this;cases this;exact⟨.refl _ _,λ_ _ e=>e,U⟩
def LN(h:(Rd H0 a (.aB vs)/\a∉m0)\/KT K a vs)(r:RDs K m0 H0 vs ds):sC K (Itt K a) m0 H0 ds C:=by
 have k:∀{m H},Ext m0 H0 m H->SqT K H a vs:=λx=>h.elim (λq=>.inl (Rd.ext x q.1 q.2).1) λ⟨o,its,n,q,_⟩=>.inr ⟨o,its,n,q⟩;refine⟨λm H L i x _ _ J=>?_,λm H L i v W d x RR _ O y=>?_,λm H _ x _ _=>⟨vs,k x,by rw[r.length];exact VR _⟩⟩;exact⟨vs,_,k x,VL (by rw[r.length];exact J)⟩
 ·obtain⟨rfl,y⟩:=y;obtain⟨u,V,U⟩:=(r.ext x).get O;have:=y vs (k x);rw[V]at this;cases this;exact⟨.refl _ _,λ_ _ e=>e,U⟩
def LP(h:(Rd H0 a (.aj vs)/\a∉m0)\/KL K a vs)(r:RDs K m0 H0 vs ds):sC K (Itv K a ds.length) m0 H0 ds.reverse C:=by
 have k:∀{m H},Ext m0 H0 m H->SqL K H a vs:=λx=>LL.sq (h.elim (λq=>.inl (Rd.ext x q.1 q.2).1) .inr);refine⟨λm H U i x _ _ J=>?_,λm H U i v Y d x RR _ O y=>?_,λm H _ x _ _=>by show ds.reverse.length=ds.length;simp⟩;exact⟨by simpa using J,vs,k x,r.length⟩
 ·obtain⟨rfl,y⟩:=y;have J:i<ds.length:=by have:=getD_some O;simpa using this
  have L:ds[ds.length-1-i]?=aa d:=by rw[List.getElem?_reverse J]at O;exact O
  obtain⟨u,W,V⟩:=(r.ext x).get L;have:=y vs (k x);rw[W]at this;cases this;exact⟨.refl _ _,λ_ _ e=>e,V⟩
def Ea(lo:Int)(n:Nat):sC K (Itr lo n) m0 H0 (BT.upto lo n) C:=by
 have O:(BT.upto lo n).length=n:=by simp[BT.upto]
 refine⟨λm H U i x _ _ J=>by rw[O]at J;exact J,λm H U i v V d x RR _ L y=>?_,λm H _ x _ _=>by rw[O];exact VR n⟩;obtain⟨rfl,rfl⟩:=y;have:d=.int (lo+i):=by
  have J:i<n:=by have:=getD_some L;rw[O]at this;exact this
  simp only[BT.upto,VY]at L;rw[Yo J]at L;simpa using L.symm
 subst this;exact⟨.refl _ _,λ_ _ e=>e,.int _⟩
def zN:∀{ws:List aM},BT.gU ws=ah->∃ds:List aN,ws=ds.map aM.p:=by
 intro ws
 induction ws with
 |nil=>exact λ_=>⟨[],rfl⟩
 |cons w ws J =>
  intro h;cases w with
  |p d =>
   obtain⟨ds,rfl⟩:=J h;exact⟨d::ds,rfl⟩
  |_=>exact aR h
def Eb(h:aL)(ds:List aN):aQ (ds.map aM.p) h=aa ds:=by
 induction ds with
 |nil=>rfl
 |cons d ds J =>
  show(aQ (ds.map aM.p) h).map (d :: ·)=_;rw[J];rfl
def Ec(L:sr=.seq\/sr=.rev\/sr=.rng1)(e:(aQ ws h).bind (bJ sr)=aa ds)(O:BT.gU ws=ah):∃d,ws=[.p d]/\bJ sr [d]=aa ds:=by
 obtain⟨J,rfl⟩:=zN O;rw[Eb,Wr]at e;cases J with
 |nil=>rcases L with rfl|rfl|rfl<;>exact cW e
 |cons d J =>
  cases J with
  |nil=>exact⟨d,rfl,e⟩
  |cons U J=>rcases L with rfl|rfl|rfl<;>cases d<;>exact cW e
def uF(e:aU F G (.cons a .nil) s h=aa (ws,h')):∃w,ws=[w]/\aK F G a s h=aa (w,h'):=by simp only[aU]at e;obtain⟨w,g,e1,e2⟩:=dj e;simp only[BT.nF,BT.dZ,BT.ko]at e2;cases e2;exact⟨w,rfl,e1⟩
def Hs{O:List VS}{H0:Hp}{a:VS}{q:Nat}{ds:List aN}(U:O[q]?=aa a):sC K (Itl K a) O H0 ds (mH .seq [.r q] ds):=by
 have k:∀{m H h},Ext O H0 m H->RH K m H h->mH .seq [.r q] ds h->∃J,SqL K H a J/\RDs K m H J ds:=λ{m H h} x RR c=>by
  obtain⟨e,rfl,_⟩:=x.pre;have e1:(O++e)[q]?=aa a:=by rw[VF (List.getElem?_eq_some_iff.mp U).1];exact U
  obtain⟨J,g,f⟩:=RR.cell q a ds e1 (LM (c q rfl));exact⟨J,LL.sq (.inl (.inl g)),f⟩
 refine⟨λm H V i x RR c W=>?_,λm H V i v j d x RR c Y y=>?_,λm H V x RR c=>?_⟩
 ·obtain⟨J,L,k2⟩:=k x RR c;exact⟨J,_,L,VL (by rw[k2.length];exact W)⟩
 ·obtain⟨J,L,k2⟩:=k x RR c;obtain⟨rfl,y⟩:=y;obtain⟨u,b,Z⟩:=k2.get Y;have:=y J L;rw[b]at this;cases this;exact⟨.refl _ _,λ_ _ e=>e,Z⟩
 ·obtain⟨J,L,k2⟩:=k x RR c;exact⟨J,L,by rw[k2.length];exact VR _⟩
def Hu(k:PE X x (tD X F G a)):PI X tg x (iD X F G .seq (.cons a .nil)):=by
 intro f s c H R I q;obtain⟨m,j,h,A,W,u,RR,S,e,e2,l,i⟩:=q;rcases l with l|⟨_,q,rfl⟩
 case inr =>
  obtain⟨w,t,Z⟩:=uF e;cases t;have g:aZ W q=aa u:=by
   simp only[aQ,aY,XQ]at e2;cases g:aZ W q with
   |none=>rw[g]at e2;exact cW e2|some z=>rw[g]at e2;cases e2;rfl
  refine yZ k f s c H R I ⟨m,j,h,_,W,RR,S,Z,λv Y V O L J=>?_⟩;cases J with
  |@r a n hn =>
   obtain⟨U,y,B⟩:=L.cell q a u hn g;exact⟨a,rfl,⟨U,LL.sq (.inl (.inl y))⟩,i Y V _ O L (Hs hn)⟩
 obtain⟨d,rfl,b⟩:=Ec (.inl rfl) e2 l;obtain⟨w,t,Z⟩:=uF e;cases t;rw[BT.Dc]at b;cases d<;>simp only[BT.uf]at b<;>try contradiction
 ·cases b;refine Ka k f s c H R I ⟨m,j,h,_,W,RR,S,Z,λv Y V O L J=>?_⟩;cases J with
  |p J =>
   cases J with
   |@aB a U _ h r=>exact⟨a,rfl,⟨U,h.elim (λq=>.inl q.1) λ⟨o,its,n,q,_⟩=>.inr ⟨o,its,n,q⟩⟩,i Y V _ O L (LN h r)⟩
 ·cases b;refine yZ k f s c H R I ⟨m,j,h,_,W,RR,S,Z,λv Y V O L J=>?_⟩;cases J with
  |p J =>
   cases J with
   |@aj a U _ h r=>exact⟨a,rfl,⟨U,LL.sq (h.elim (λq=>.inl q.1) .inr)⟩,i Y V _ O L (Hr h r)⟩
def Ed(O:Ok X F G sc N)(b:d7 sc "range"=ah)(a:noStar e=ah)(L:PA X [e] (tDs X F G sa)):PI X tg (.Call (.Name "range" p) [e] [] pos) (iD X F G .rng1 sa):=by
 refine PI.weak (AM (eZ O b) (O.blt _ (by decide)) L (dh a)) fun k H R q=>?_;obtain⟨m,W,h,l,f,o,RR,S,e,e2,L,U⟩:=q;obtain⟨d,rfl,J⟩:=Ec (.inr (.inr rfl)) e2 (L.p (by rintro (z|z)<;>cases z));refine⟨m,W,h,_,f,RR,S,e,λn i Z V g Y=>?_⟩;obtain⟨j,rfl⟩:∃j:Int,d=.int j:=by
  cases d with
  |int j=>exact⟨j,rfl⟩|_=>exact bM (show(af:Option (List aN))=aa _ from J) (λz=>nomatch z)
 rw[BT.jW]at J;obtain⟨c,J⟩:=dP J;simp only[VH,bN]at c;cases J;cases Y with
 |cons r t =>
  cases t;cases r with
  |p r =>
   cases r;exact⟨j,rfl,by lia,by lia,U i Z _ V g (Ea 0 j.toNat)⟩
def P0(e:(aQ ws h).bind (bJ .rng2)=aa ds)(O:BT.gU ws=ah):∃i j:Int,ws=[.p (.int i),.p (.int j)]/\(-100000<=i/\i<=100000/\-100000<=j/\j<=100000)/\ds=BT.upto i (j-i).toNat:=by
 obtain⟨J,rfl⟩:=zN O;rw[Eb,Wr]at e;have L:∃i j:Int,J=[.int i,.int j]:=by
  match J,e with
  |[.int i,.int j],_=>exact⟨i,j,rfl⟩
 obtain⟨i,j,rfl⟩:=L;rw[BT.oH]at e;obtain⟨c,e⟩:=dP e;simp only[VH,bN]at c;cases e;exact⟨i,j,rfl,⟨c.1.1.1,c.1.1.2,c.1.2,c.2⟩,rfl⟩
def Ef(O:Ok X F G sc N)(f:d7 sc "range"=ah)(d:noStar x=ah)(J:noStar y=ah)(U:PA X [x,y] (tDs X F G sa)):PI X tg (.Call (.Name "range" p) [x,y] [] pos) (iD X F G .rng2 sa):=by
 refine PI.weak (AN (eZ O f) (O.blt _ (by decide)) U (by rw[dh d,dh J];rfl) (by rw[dh J];rfl)) fun n H R q=>?_;obtain⟨m,Z,h,o,g,u,RR,S,e,e2,U,V⟩:=q;obtain⟨i,j,rfl,c,rfl⟩:=P0 e2 (U.p (by rintro (z|z)<;>cases z));refine⟨m,Z,h,_,g,RR,S,e,λs l b W k a=>?_⟩;cases a with
 |cons r t =>
  cases t with
  |cons L Y =>
   cases Y;cases r with
   |p r =>
    cases r;cases L with
    |p L =>
     cases L;exact⟨i,j,rfl,⟨by lia,by lia,by lia,by lia⟩,V l b _ W k (Ea i (j-i).toNat)⟩
def Hv(O:Ok X F G sc N)(D:d7 sc "reversed"=ah)(k:noStar e=ah)(E:PE X e (tD X F G a)):PI X tg (.Call (.Name "reversed" p) [e] [] pos) (iD X F G .rev (.cons a .nil)):=by
 intro x s t H R I q;obtain⟨m,A,h,ws,l,ds,RR,S,e,e2,P,y⟩:=q;obtain⟨d,rfl,n⟩:=Ec (.inr (.inl rfl)) e2 (P.p (by rintro (z|z)<;>cases z));obtain⟨w,T,e4⟩:=uF e;cases T;obtain⟨U,rfl⟩:∃U:List aN,d=.aj U:=by
  cases d with
  |aj U=>exact⟨U,rfl⟩|_=>exact bM (show(af:Option (List aN))=aa _ from n) (λz=>nomatch z)
 ·cases n;refine Call_ (kZ (u:=.type "reversed") I (eZ O D) (O.blt _ (by decide)) (by decide +kernel) (WC (thn (gX E mS (dh k) pos x s t H (λj L=>∃a W,j=[.ref a]/\∃J,Ext m H J L/\RH X.K J L l/\((Rd L a (.aj W)/\a∉J)\/KL X.K a W)/\RDs X.K J L W U) I ?_) λus s1 ⟨j,L,I1,Z,q1⟩=>?_) (dh k) rfl))
  ·refine⟨m,A,h,_,l,RR,S,e4,λv L J g i Z=>?_⟩;cases Z with
   |p Z =>
    cases Z with
    |@aj a W _ f r=>exact⟨a,W,rfl,J,g,i,f,r⟩
  ·obtain⟨a,W,rfl,J,g,i,f,r⟩:=q1;obtain⟨u,rfl,B⟩:=vals1 Z;cases B;obtain⟨z,V,nn,rv,C,ee⟩:=rdL I1 (f.elim (λq=>.inl q.1) .inr);have Q:s1.heap.IsList a V.toArray:=⟨_,ee,rfl,_,rfl⟩;have c:=r.length;refine call_reversed_list Q ?_;have Y:({s1 with heap:=s1.heap.push (revObj a ((V.toArray.size:Int)-1))}:VG).heap.IsRevIter s1.heap.objs.size a ((U.length:Int)-1-((0:Nat):Int)):=by refine⟨_,Wm _ rfl,rfl,?_⟩;show Data.fields #[.ref a,rawInt ((V.toArray.size:Int)-1)]=_;rw[VM,←C,c];simp
   refine wpAny_pyIter_revIter Y ?_;refine⟨s1.heap.objs.size,[s1.heap.objs.size],_,_,L,rfl,I1.aG (t':=s1.toks) λb o e=>VO _ e,D9 a _ U.length,Y,λb M=>?_,y L J _ g i (LP f r)⟩;have e:b=s1.heap.objs.size:=by simpa using M
   subst e;exact I1.CF (VR _) (I1.aI.fresh (VR _))
end
section
variable{K:VE}
end
section
variable{X:Cx}{F:FT}{G:az->Option aM}
def Vo:V->V->V->Hp->(Hp->Prop)->Prop:=λo i v H Q=>∃p J k,o=.ref p/\i=kV k/\H p=aa (.dK J)/\J.length<ak/\Q (upd H p (.dK (putK J k v)))
end
section
variable{E:aA->VG->Prop}
end
section
variable{X:Cx}{F:FT}{G:az->Option aM}
end
section
variable{X:Cx}{F:FT}{G:az->Option aM}{K:VE}{m:List VS}{H:Hp}
end
section
variable{F:FT}{G:az->Option aM}
end
section
variable{F:FT}{G:az->Option aM}
end
section
variable{X:Cx}{F:FT}{G:az->Option aM}
def TyX(X:Cx)(T:String)(k:BT.Tx):Prop:=∀(O:List (VS×aq)) (s:VG) (L:L2.St) (H:Hp) (v:V) (J:aA) (m:List VS) (x:aM) (U:List aM) (h:aL) (r:aM×aL),
 Inv X O L H s->RelV v J->RW X.prog X.w X.K m H v x->BT.kTx k (x::U) h=aa r->s.TypeIs J T/\∀a,J=.ref a->∃ob,s.heap.get? a=aa ob/\ob.dict=af
def Hw{k:BT.Tx}{ws:List aM}{h:aL}{z:aM}{h':aL}(J:k≠.dget)(e:BT.kTx k ws h=aa (z,h')):∃ds d,aQ ws h=aa ds/\BT.txD k ds=aa d/\z=.p d/\h'=h:=by
 have e:((aQ ws h).bind λds=>(BT.txD k ds).map λd=>(aM.p d,h))=aa (z,h'):=by
  cases k with
  |dget=>exact bM rfl J|_=>exact e
 obtain⟨ds,e1,e2⟩:=Option.bind_eq_some_iff.mp e;obtain⟨d,O,L⟩:=dO e2;cases L;exact⟨ds,d,e1,O,rfl,rfl⟩
def Eg{J:Type}{c:Prop}[Decidable c]{a:Option J}{b:J}(h:(if c then a else af)=aa b):c/\a=aa b:=by
 by_cases z:c
 rw[bK z]at h;exact⟨z,h⟩;rw[bL z]at h;exact cW h
def P4{ds:List aN}{d:aN}(e:BT.txD .join ds=aa d):∃x ys ts,ds=[.str x,.aj ys]/\BT.strsOf ys=aa ts/\(ts.length<=4000/\x.length<=10/\∀t∈ts,t.length<=4000)/\d=.str (Str.join x ts):=by
 match ds,e with
 |[.str x,.aj ys],e =>
  obtain⟨ts,e1,e2⟩:=Option.bind_eq_some_iff.mp (show((BT.strsOf ys).bind λts=>if ts.length<=4000/\x.length<=10/\∀t∈ts,t.length<=4000 then aa (aN.str (Str.join x ts))else af)=aa d from e);obtain⟨c,J⟩:=dP e2;exact⟨x,ys,ts,rfl,e1,c,J.symm⟩
def NP{ds:List aN}{d:aN}(e:BT.txD .split ds=aa d):∃x y,ds=[.str x,.str y]/\(y.length=1/\x.length<=BT.lim)/\d=.aj ((Txt.split x y).map .str):=by
 match ds,e with
 |[.str x,.str y],e =>
  obtain⟨c,J⟩:=dP (show(if y.length=1/\x.length<=BT.lim then aa (aN.aj ((Txt.split x y).map .str))else af)=aa d from e);exact⟨x,y,rfl,c,J.symm⟩
def LQ{w:aM}{h:aL}{x:az}(e:aY w h=aa (.str x)):w=.p (.str x):=by
 cases w with
 |p d=>exact bS aM.p (VN e)|r n=>obtain⟨_,_,q⟩:=dO (show(aZ h n).map aN.aj=aa (.str x) from e);cases q|_=>exact cW e
def Eh{w:aM}{ws:List aM}{h:aL}{ds:List aN}(e:aQ (w::ws) h=aa ds):∃d r,ds=d::r/\aY w h=aa d/\aQ ws h=aa r:=by
 cases g:aY w h with
 |none=>simp[aQ,g]at e
 |some d =>
  cases J:aQ ws h with
  |none=>simp[aQ,g,J]at e|some r=>simp[aQ,g,J]at e;exact⟨d,r,e.symm,rfl,rfl⟩
def ty_str{k:BT.Tx}(V:k≠.dget)(h:∀ds d,BT.txD k ds=aa d->∃x r,ds=.str x::r):TyX X "str" k:=by
 intro Z s Y H v b m x a f r I L J e;obtain⟨ds,d,e1,e2,_,_⟩:=Hw V e;obtain⟨y,r,rfl⟩:=h _ _ e2;obtain⟨g,c,U,O,_⟩:=Eh e1;cases U;have W:=LQ O;subst W;cases J with
 |p r =>
  cases r with
  |str _ ok =>
   obtain⟨t,rfl⟩:=L;exact⟨typeIs_str s y t,λ_ e=>nomatch e⟩
inductive rTx(P:VV)(w:Wj)(K:VE)(k:BT.Tx)(vs:List V)(H:Hp)(Q:VK):Prop
 |mk(m:List VS)(h:aL)(ws:List aM)(z:aM)(h':aL)(R:RH K m H h)(rs:RWs P w K m H vs ws)(e:BT.kTx k ws h=aa (z,h'))(p:Post P w K m H z h' Q):rTx P w K k vs H Q
def oTx(k:BT.Tx)(x y:aM)(h:aL):Option (aM×aL):=BT.kTx k [x,y] h
inductive JF(X:Cx)(m:List VS)(H:Hp)(s:VG)(a:VS)(o:Option aN)(k:Key):Prop
 |mk(vs:List (Key×aA))(dd:s.heap.DictOf (ef X.prog X.w) a vs)(n:(a==Yd)=ai)(h:(o=af/\valueAt vs k=af)\/∃x v u,o=aa x/\valueAt vs k=aa u/\RelV v u/\RD X.K m H v x):JF X m H s a o k
def P5{m:List VS}{H:Hp}{vs:List (Key×aA)}{k:az}:∀{es:List (az×V)}{kvs:List (az×aN)},RDk K es kvs->KV (es.map λq=>((Sum.inr q.1:Key),q.2)) vs->(BT.gi k kvs=af/\valueAt vs (Sum.inr k)=af)\/∃x v u,BT.gi k kvs=aa x/\valueAt vs (Sum.inr k)=aa u/\RelV v u/\RD K m H v x:=by
 intro es
 induction es generalizing vs with
 |nil =>
  intro kvs r q;cases r;cases q;exact .inl ⟨rfl,rfl⟩
 |cons p es Z =>
  intro kvs r q;cases r with
  |@cons x v dd _ kvs r t =>
   cases q with
   |@cons p z d b W U =>
    obtain⟨a,O⟩:=z;obtain⟨L,J⟩:=W;simp only at L J;subst L;rw[BT.gi]
    by_cases c:k=x
    ·subst c;rw[bK rfl];exact .inr ⟨dd,v,O,rfl,by simp[valueAt],J,r m H⟩
    ·rw[bL c];have Y:¬((Sum.inr x:Key)=Sum.inr k):=λz=>c (Sum.inr.inj z).symm;have:=Z t U;simp only[valueAt]at this⊢;rw[YX (by simpa using Y)];exact this
def kdG:BT.Kd->az->Option aN
 |.t kvs,x=>BT.gi x kvs|.l kvs,x=>bH kvs (.inr x)
def LR{zt:List (VS×aq)}{σ:L2.St}{H:Hp}{s:VG}{m:List VS}{q:BT.Kd}{v:V}{u:aA}(I:Inv X zt σ H s)(r:RW X.prog X.w X.K m H v (.k q))(Y:RelV v u)(x:az):
 ∃a,u=.ref a/\JF X m H s a (kdG q x) (.inr x):=by
 cases r with
 |@k a i O kd L =>
  cases Y;obtain⟨d,J,c,dd⟩:=kd;exact⟨a,rfl,J,dd s.heap I.kIn,d,P5 L c⟩
 |@kl a ob h O e L =>
  cases Y;refine⟨a,rfl,?_⟩;cases yk I (.inr ⟨_,e.1⟩) L (.inr x)with
  |no J dd n W U=>exact⟨J,dd,n,.inl ⟨W,U⟩⟩|is J dd n y Z b W U g f=>exact⟨J,dd,n,.inr ⟨y,Z,b,W,U,g,f⟩⟩
def Ei{x:aM}{ws:List aM}{h:aL}{z:aM}{h':aL}(e:BT.kTx .dget (x::ws) h=aa (z,h')):∃q y,x=.k q/\h'=h/\((ws=[.p .aC]/\z=.p .aC/\∃kvs,q=.t kvs)\/(ws=[.p (.str y)]/\z=.p ((kdG q y).getD .aC))\/∃d,ws=[.p (.str y),.p d]/\z=.p ((kdG q y).getD d)):=by
 have no:∀(o:Option (List aN)),(o.bind λJ=>(BT.txD .dget J).map λd=>(aM.p d,h))=aa (z,h')->False:=by intro o e;obtain⟨J,_,e2⟩:=Option.bind_eq_some_iff.mp e;obtain⟨d,L,_⟩:=dO e2;exact cW (P:=False) (show(af:Option aN)=aa d from by rw[←L];unfold BT.txD;rfl)
 cases x with
 |k q =>
  cases q with
  |t kvs =>
   have e:BT.Dm kvs ws h=aa (z,h'):=e;unfold BT.Dm at e;split at e;cases e;exact⟨_,"",rfl,rfl,.inl ⟨rfl,rfl,_,rfl⟩⟩;cases e;exact⟨_,_,rfl,rfl,.inr (.inl ⟨rfl,rfl⟩)⟩;cases e;exact⟨_,_,rfl,rfl,.inr (.inr ⟨_,rfl,rfl⟩)⟩;exact cW e
  |l kvs =>
   have e:BT.ye kvs ws h=aa (z,h'):=e;unfold BT.ye at e;split at e;cases e;exact⟨_,_,rfl,rfl,.inr (.inl ⟨rfl,rfl⟩)⟩;cases e;exact⟨_,_,rfl,rfl,.inr (.inr ⟨_,rfl,rfl⟩)⟩;exact cW e
 |p d=>exact(no (aQ (.p d::ws) h) e).elim|r n=>exact(no (aQ (.r n::ws) h) e).elim|o n=>exact(no (aQ (.o n::ws) h) e).elim|c f O=>exact(no (aQ (.c f O::ws) h) e).elim|x c=>exact(no (aQ (.x c::ws) h) e).elim
def ty_dict:TyX X "dict" .dget:=by intro Y s W H v d m x Z f r I L J e;obtain⟨z,g⟩:=r;obtain⟨q,y,rfl,_,_⟩:=Ei e;obtain⟨a,rfl,c,dd,n,_⟩:=LR I J L y;refine⟨dd.typeIs,λb V=>?_⟩;cases V;obtain⟨o,h,i,U,O,_⟩:=dd;exact⟨o,U,O.2.1⟩
end
section
end
section
variable{F:FT}{G:az->Option aM}
end
end BS
end
section
namespace BX
open PySem PyProof.Rows
section
variable{prog:VV}{w:Wj}{A:Wq}{E:aA->VG->Prop}{s:VG}{R:aaV->VG->Prop}
end
section
variable{E:aA->VG->Prop}
end
end BX
namespace BS
open PySem PySem.Spec PyProof.Rows L2
section
end
end BS
end
section
namespace BS
open PySem PySem.Spec PyProof.Rows L2
variable{K:VE}
def Ite(K:VE)(l:VS):It :=
 ⟨λi H=>∃ J x,SqL K H l J/\J[i]?=aa x,
  λi H v L=>∃t x,v=.ref t/\H t=af/\L=upd H t (.aB [.int (i:Nat),x])/\∀J,SqL K H l J->J[i]?=aa x,
  λi H=>∃ J,SqL K H l J/\J.length<=i⟩
def LS(e L l:VS)(i:Nat)(h:au):Prop:=(∃J,IsEnum h e L ((i:Nat):Int) J)/\h.IsListIter L l i
theorem By(Z:e≠it):Turn P w K (.Tuple elts kk tp) (Ite K l) [e,it] e (LS e it l) where
 mem:=by simp
 obj:=λi h st b J=>by
  obtain⟨⟨L,O⟩,⟨D,e1,G,d1⟩⟩:=st;simp only[Xa,WA,or_false]at J;rcases J with rfl|rfl
  exact⟨_,O,λv q=>by cases (show Data.fields _=Data.cell v from q)⟩;exact⟨D,e1,λv q=>by rw[d1]at q;cases q⟩
 keep:=λi h d st k=>by obtain⟨⟨L,O⟩,W⟩:=st;exact⟨⟨L,k _ (by simp) _ O⟩,W.at λo e=>k _ (by simp) o e⟩
 item:=by
  intro X A hw B hc i N s M H E I a st y;subst A hw B;obtain⟨R,x,g,r⟩:=y;obtain⟨n,m,p,T⟩:=I.list g;obtain⟨u,hu,S⟩:=m.get r;obtain⟨⟨L,O⟩,W⟩:=st;refine wpAny_pyNext_enum_item O W p.isList (x:=u) (by simpa using hu) Z λd b1 b2 b3 b4 C=>?_;refine⟨_,rfl,wpAny_letOwnedTupleGo_enum b1 λj G f=>?_⟩;have f:WZ e d j:=f;have U:∀b o,b∉[e,it]->s.heap.get? b=aa o->j.get? b=aa o:=λb o J q=>by simp only[Xa,WA,or_false,not_or]at J;exact f.extBut b o J.1 (C b o J.1 J.2 q)
  have neT:s.heap.objs.size≠e:=Zd (VT O);have V:j.get? s.heap.objs.size=aa {cls:=.type "tuple",data:=.seq #[.int ((i:Nat):Int) s.toks,u]}:=f.extBut _ _ neT b3;have Y:H s.heap.objs.size=af:=I.aI.fresh (VR _);have aI:HOk X.prog X.w (upd H s.heap.objs.size (.aB [.int ((i:Nat):Int),x])) j:=λb v q=>by
   by_cases F:b=s.heap.objs.size
   ·subst F;rw[eY]at q;cases q;exact⟨by show 2<=ak;decide,[.int ((i:Nat):Int) s.toks,u],.cons ⟨s.toks,rfl⟩ (.cons S .nil),_,V,rfl,_,rfl⟩
   ·rw[dH F]at q;refine(I.aI b v q).stay (λc v hc z=>U c v (λJ=>?_) z) (λc z=>?_) λc l z=>?_
    ·have:=(a c J).1;rcases hc with rfl|hc
     rw[this]at q;cases q;rw[this]at hc;cases hc
    rw[dH (We (I.aI.lt z))];exact z;rw[dH (We (I.aI.lt z))];exact z
  refine⟨.ref s.heap.objs.size,_,Inv.Hq (s:=s) (tk:=s.toks+1) I a U (λb J=>dH (We J)) aI,rfl,⟨_,x,rfl,Y,rfl,λQ d=>by rw[I.qu d g];exact r⟩,?_,λb J=>?_⟩
  ·refine⟨⟨u,?_⟩,b2.extBut f.extBut (WI Z)⟩;have e3:(((i+1:Nat)):Int)=((i:Nat):Int)+1:=by simp
   rw[e3];exact G
  ·have t:b<s.heap.objs.size:=by
    obtain⟨D,e1,_⟩:=W;simp only[Xa,WA,or_false]at J;rcases J with rfl|rfl
    exact VT O;exact VT e1
   rw[dH (We t)];exact(a b J).1
 done:=by intro X A hw B hc i N s M H E I a st y;subst A hw B;obtain⟨R,g,r⟩:=y;obtain⟨n,m,p,T⟩:=I.list g;obtain⟨⟨L,O⟩,W⟩:=st;have n1:=m.length;refine wpAny_pyNext_enum_end (I.ok.hd hc) O W p.isList (by simp;lia) λd C=>⟨rfl,?_⟩;obtain⟨f0,f1,f2,f3,f4,f5⟩:=a it (by simp);exact I.turned (t':=s.toks) (λb o J q=>C b o J q) f0 f1 f3 f4 f5
 self:=λ_ _ _ _ _ st h=>by obtain⟨⟨L,O⟩,_⟩:=st;exact wpAny_pyIter_enum O h
def LU(h:(Rd H0 a (.aj vs)/\a∉m0)\/KL K a vs)(r:RDs K m0 H0 vs ds):sC K (Ite K a) m0 H0 (bB 0 ds) C:=by
 have k:∀{m H},Ext m0 H0 m H->SqL K H a vs:=λx=>LL.sq (h.elim (λq=>.inl (Rd.ext x q.1 q.2).1) .inr);have len:∀(ds:List aN)(n:Nat),(bB n ds).length=ds.length:=by
  intro ds
  induction ds with
  |nil=>intro n;rfl|cons d ds J=>intro n;simp[bB,J]
 have get:∀(ds:List aN)(n i:Nat)(d:aN),(bB n ds)[i]?=aa d->∃x,ds[i]?=aa x/\d=.aB [.int ((n+i:Nat):Int),x]:=by
  intro ds
  induction ds with
  |nil=>intro n i d e;simp[bB]at e
  |cons l ds J =>
   intro n i d e;cases i with
   |zero=>simp[bB]at e;exact⟨l,rfl,by simp[←e]⟩
   |succ i =>
    simp[bB]at e;obtain⟨x,g,f⟩:=J (n+1) i d e;exact⟨x,by simpa using g,by rw[f];simp;lia⟩
 have p:=r.length;have O:=len ds 0;refine⟨λm H b i x _ _ Z=>?_,λm H b i v u d x RR _ c y=>?_,λm H _ x _ _=>⟨vs,k x,by rw[O];lia⟩⟩
 ·rw[O]at Z;exact⟨vs,_,k x,VL (by lia)⟩
 ·obtain⟨t,V,rfl,hn,rfl,U⟩:=y;obtain⟨s,e1,rfl⟩:=get ds 0 i d c;obtain⟨o,j,W⟩:=(r.ext x).get e1;have:=U vs (k x);rw[j]at this;cases this;have Y:=RR.jX hn;have L:Ext m H m (upd H t (.aB [.int ((i:Nat):Int),V])):=i6 hn;refine⟨L,yh hn,.aB (.inl ⟨.inl eY,Y⟩) (.cons ?_ (.cons (W.ext L) .nil))⟩;rw[X7];exact .int _
def Hx{V:List VS}{H0:Hp}{a:VS}{q:Nat}{ds:List aN}(Z:V[q]?=aa a):sC K (Ite K a) V H0 ds (mH .enu [.r q] ds):=by
 have len:∀(ds:List aN)(n:Nat),(bB n ds).length=ds.length:=by
  intro ds
  induction ds with
  |nil=>intro n;rfl|cons d ds W=>intro n;simp[bB,W]
 have get:∀(ds:List aN)(n i:Nat)(d:aN),(bB n ds)[i]?=aa d->∃x,ds[i]?=aa x/\d=.aB [.int ((n+i:Nat):Int),x]:=by
  intro ds
  induction ds with
  |nil=>intro n i d e;simp[bB]at e
  |cons A ds W =>
   intro n i d e;cases i with
   |zero=>simp[bB]at e;exact⟨A,rfl,by simp[←e]⟩
   |succ i =>
    simp[bB]at e;obtain⟨x,w,u⟩:=W (n+1) i d e;exact⟨x,by simpa using w,by rw[u];simp;lia⟩
 have k:∀{m H h},Ext V H0 m H->RH K m H h->mH .enu [.r q] ds h->∃J L,SqL K H a J/\RDs K m H J L/\ds=bB 0 L:=λ{m H h} x RR c=>by
  obtain⟨e,rfl,_⟩:=x.pre;have e1:(V++e)[q]?=aa a:=by rw[VF (List.getElem?_eq_some_iff.mp Z).1];exact Z
  have U:=c q rfl;unfold BT.kT at U;cases g:aZ h q with
  |none=>rw[g]at U;exact cW U
  |some L =>
   rw[g]at U;cases U;obtain⟨J,C,B⟩:=RR.cell q a L e1 g;exact⟨J,L,LL.sq (.inl (.inl C)),B,rfl⟩
 refine⟨λm H b i x RR c p=>?_,λm H b i v F d x RR c s y=>?_,λm H b x RR c=>?_⟩
 ·obtain⟨J,L,O,k2,rfl⟩:=k x RR c;rw[len]at p;exact⟨J,_,O,VL (by have:=k2.length;lia)⟩
 ·obtain⟨J,L,O,k2,rfl⟩:=k x RR c;obtain⟨t,j,rfl,hn,rfl,f⟩:=y;obtain⟨E,e1,rfl⟩:=get L 0 i d s;obtain⟨D,z,l⟩:=k2.get e1;have:=f J O;rw[z]at this;cases this;have o:=RR.jX hn;have Y:Ext m H m (upd H t (.aB [.int ((i:Nat):Int),j])):=i6 hn;refine⟨Y,yh hn,.aB (.inl ⟨.inl eY,o⟩) (.cons ?_ (.cons (l.ext Y) .nil))⟩;rw[X7];exact .int _
 ·obtain⟨J,L,O,k2,rfl⟩:=k x RR c;exact⟨J,O,by rw[len];have:=k2.length;lia⟩
section
def P6(e:(aQ ws h).bind (bJ .enu)=aa ds)(J:BT.gU ws=ah):∃xs,ws=[.p (.aj xs)]/\ds=bB 0 xs:=by
 obtain⟨V,e1,e2⟩:=Option.bind_eq_some_iff.mp e
 match ws,e1,J with
 |[],e1,_=>cases e1;exact cW e2
 |[.p d],e1,_ =>
  cases e1;cases d with
  |aj xs=>rw[BT.De]at e2;cases e2;exact⟨xs,rfl,rfl⟩|_=>exact cW e2
 |.p d::.p d2::r,e1,_ =>
  simp only[aQ,aY]at e1;simp only[Wr]at e1;obtain⟨q,U,O⟩:=dO e1;obtain⟨W,Y,L⟩:=dO U;subst O L;cases d<;>exact cW e2
 |.r _::_,_,J=>cases J|.k _::_,_,J=>cases J|.c _ _::_,_,J=>cases J|.x _::_,_,J=>cases J|.p _::.r _::_,_,J=>cases J|.p _::.k _::_,_,J=>cases J
def Hy(O:Ok X F G sc N)(Q:d7 sc "enumerate"=ah)(M:noStar ex=ah)(hA:PA X [ex] (tDs X F G sa)):
 PI X (.Tuple elts kk tp) (.Call (.Name "enumerate" p) [ex] [] pos) (iD X F G .enu sa):=by
 intro z s y H R I q;obtain ⟨m,C,h,ws,i,ds,RR,S,e,e2,T,l⟩:=q;refine Call_ (kZ (u:=.type "enumerate") I (eZ O Q) (O.blt _ (by decide)) (by decide +kernel) (WC (thn (hA pos z s y H (λU L=>∃ a Y,U=[.ref a]/\LL X.K L a Y/\R (Ite X.K a) L) I
  ⟨m,C,h,_,i,RR,S,e,λU L x w k Z=>?_⟩) λus s1 ⟨U,L,I1,Z,q1⟩=>?_) (dh M) rfl))
 ·rcases T with ca|⟨_,q,rfl⟩
  ·obtain⟨J,rfl,rfl⟩:=P6 e2 ca;cases Z with
   |cons ra t =>
    cases t;cases ra with
    |p ra =>
     cases ra with
     |@aj a Y _ d ra=>exact⟨a,Y,rfl,d.elim (λq=>.inl q.1) .inr,l L x _ w k (LU d ra)⟩
  ·cases Z with
   |cons ra t =>
    cases t;cases ra with
    |@r a n hn =>
     obtain⟨J,g1,g2⟩:∃J,aZ i q=aa J/\ds=bB 0 J:=by
      simp only[aQ,aY,XQ]at e2;cases g:aZ i q with
      |none=>rw[g]at e2;exact cW e2|some J=>rw[g]at e2;cases e2;exact⟨J,rfl,rfl⟩
     obtain⟨U,c1,c2⟩:=k.cell q a J hn g1;exact⟨a,U,rfl,.inl (.inl c1),l L x _ w k (Hx hn)⟩
 ·obtain⟨a,Y,rfl,d,E⟩:=q1;obtain⟨u1,rfl,f⟩:=vals1 Z;cases f;obtain⟨z1,V,n1,D,P,j⟩:=rdL I1 d;have L1:s1.heap.IsList a V.toArray:=⟨_,j,rfl,_,rfl⟩;refine call_enumerate_list L1 λh2' v B y3 A=>?_;refine wpAny_pyIter_enum v ?_;refine⟨_,_,_,_,L,rfl,I1.aG (t':=s1.toks) λb o e=>A b o e,By (Nat.succ_ne_self _),⟨⟨_,v⟩,B⟩,λc hc=>?_,E⟩;have W:s1.heap.objs.size<=c:=by
   simp only[Xa,WA,or_false]at hc;rcases hc with rfl|rfl
   exact W0 _;exact VR _
  exact I1.CF W (I1.aI.fresh W)
end
noncomputable def qY(sc:Wv)(x:az):Bool:=match sc.names.lookup x with
 |some .local=>ah|some .cell=>ah|_=>ai
inductive CTs(sc:Wv)(N:List az):List (Nat×az)->List VI->Prop
 |nil:CTs sc N [] []
 |cons{i:Nat}{x:az}{p:Pos}{tg:List (Nat×az)}{es:List VI}(h1:N[i]?=aa x)(h2:qY sc x=ah)(r:CTs sc N tg es):CTs sc N ((i,x)::tg) (.Name x p::es)
inductive CT(sc:Wv)(N:List az):List (Nat×az)->VI->Prop
 |one{i:Nat}{x:az}{p:Pos}(h1:N[i]?=aa x)(h2:qY sc x=ah):CT sc N [(i,x)] (.Name x p)
 |aB{tg:List (Nat×az)}{es:List VI}{p:Pos}{k:Nat}(J:Nat.ble 2 tg.length=ah)(h:CTs sc N tg es):CT sc N tg (.Tuple es k p)
section
def RS.set(S:RS P w K m H σ s)(r:RW P w K m H v z):RS P w K m H (σ.set i (aa v)) (s.set i (aa z)):=by
 refine⟨by simp[S.len],λj y e=>?_⟩
 by_cases c:i=j
 ·subst c;have J:i<s.length:=by
   rcases V9 i s.length with q|q
   exact q;rw[VP (by simpa using q)]at e;exact cW e
  rw[Wb J]at e;cases e;exact⟨v,by rw[Wb (by rw[S.len];exact J)],r⟩
 ·rw[V1 c]at e;obtain⟨u,O,L⟩:=S.get j y e;exact⟨u,by rw[V1 c];exact O,L⟩
def qZ(O:Ok X F G sc N)(h:qY sc x=ah):L2.Loc X.env.scope x:=by
 rw[O.hsc];unfold qY at h;unfold L2.Loc;cases e:sc.names.lookup x with
 |none=>rw[e]at h;exact aR h
 |some k=>rw[e]at h;cases k<;>first|(exact .inl rfl)|(exact .inr rfl)|exact aR h
def qe(h:jQ e=ah):∀x,Z8 e env x=pure x:=by intro x;cases e<;>first|rfl|exact aR h
def GOk(X:Cx)(tg:List (Nat×az))(g:TG):Prop:=∀(m:List VS)(H:Hp)(L:L2.St)(s:bf) (x:V) (d:aN) (O:List aN) (Q:L2.St->Hp->Prop),RS X.prog X.w X.K m H L s->RD X.K m H x d->bq tg.length d=aa O →
 (∀J,RS X.prog X.w X.K m H J (BT.sets tg O s)->Q J H)->g x L H Q
def Ua(K:VE)(n:Nat)(t:TGs):TG:=λv L H Q=>∃a J,v=.ref a/\(SqT K H a J\/LL K H a J)/\J.length=n/\t J L H Q
def LV{X:Cx}{es:List VI}{k:Nat}{t:TGs}{n:Nat}{pos:Pos}(hc:X.calm=ah)(h:PGs X es t)(hn:(XD es X.env).length=n)(J:(XD es X.env).findIdx? (·.1)=af):PG X (.Tuple es k pos) (Ua X.K n t):=by
 intro O s L H v u Q I r hw;obtain⟨a,Y,rfl,V|V,Z,hw⟩:=hw;exact J2 hc h hn J O s L H _ u Q I r ⟨a,Y,rfl,V,Z,hw⟩
 ·cases r;obtain⟨z,U,j,c,d,e⟩:=rdL I V;rw[assign_Tuple];refine VJ (Yu ?_);unfold unpack;rw[hn,J];refine VJ (WN ?_);have sz:n=U.toArray.size:=by rw[VM,←Z];exact d
  rw[sz];refine PySem.W.kun_itemsOf (I.ok.hd hc) ⟨_,e,rfl,_,rfl⟩ λg f=>?_;have i:Inv X O L H {s with heap:=g}:=I.aG (t':=s.toks) λb o e=>f b o (We (VT e)) e;exact h O _ L H Y _ Q i (by simpa using c) hw
inductive GsO(X:Cx)(tg:List (Nat×az))(es:List VI):Prop
 |mk(J:TGs)(h:PGs X es J)(hn:(XD es X.env).length=tg.length)(L:(XD es X.env).findIdx? (·.1)=af)
  (ok:∀(m:List VS)(H:Hp)(σ:L2.St)(s:bf) (vs:List V) (ds:List aN) (Q:L2.St->Hp->Prop),RS X.prog X.w X.K m H σ s->RDs X.K m H vs ds->ds.length=tg.length->(∀σ',RS X.prog X.w X.K m H σ' (BT.sets tg ds s)->Q σ' H)->J vs σ H Q):GsO X tg es
def Ub{X:Cx}{sc:Wv}{N:List az}(O:Ok X F G sc N){tg:List (Nat×az)}{es:List VI}(h:CTs sc N tg es)(W:∀q∈tg,X.fn q.2=ah\/X.env.scope.names.lookup q.2=aa .local):GsO X tg es:=by
 induction h with
 |nil =>
  refine⟨Oe,Gi,rfl,rfl,λm H V s J U Q S r L q=>?_⟩;cases r with
  |nil=>exact⟨rfl,q _ S⟩|cons _ _=>cases L
 |@cons i x p tg es e c r Y =>
  obtain⟨f,b,hn,Z,ok⟩:=Y λq a=>W q (VZ _ a);refine⟨_,Cw (yX (i:=i) O.nd (by rw[O.hN];exact e) (qZ O c) (W (i,x) (by simp))) b,bS (·+1) hn,?_,λm H V s J U Q S r L q=>?_⟩
  ·show((ai,ZW (.Name x p) X.env)::XD es X.env).findIdx? (·.1)=af;rw[List.findIdx?_cons];show(if ai=ah then _ else _)=_;rw[bL (by decide),Z];rfl
  ·cases r with
   |nil=>cases L|@cons v d J U ra t=>exact⟨v,J,rfl,ok m H (V.set i (aa v)) (s.set i (aa (.p d))) J U Q (S.set (.p ra)) t (Nat.succ.inj L) q⟩
def sCT(O:Ok X F G sc N)(hc:X.calm=ah)(h:CT sc N tg te)(U:∀q∈tg,X.fn q.2=ah\/X.env.scope.names.lookup q.2=aa .local):∃g,PG X te g/\GOk X tg g:=by
 cases h with
 |@one i x p b V =>
  refine⟨_,yX (i:=i) O.nd (by rw[O.hN];exact b) (qZ O V) (U (i,x) (by simp)),?_⟩;intro m H L s v d f Q S r e q;simp only[VU,Wu,X7,BT.nC]at e;cases e;exact q _ (S.set (.p r))
 |@aB tg l p k Y h =>
  obtain⟨j,Z,hn,W,ok⟩:=Ub O h U;refine⟨_,LV (n:=tg.length) hc Z hn W,?_⟩;intro m H L s v d f Q S r e q;have V:=aaP Y;unfold bq at e;rw[bL (by lia)]at e;cases r with
  |@aB a J dd h r =>
   rw[BT.vS]at e;obtain⟨c,e⟩:=dP e;subst e;exact⟨a,J,rfl,.inl (h.elim (λq=>.inl q.1) λ⟨o,its,n,q,_⟩=>.inr ⟨o,its,n,q⟩),by rw[r.length];exact c,ok m H L s J _ Q S r c q⟩
  |@aj a J dd h r =>
   rw[BT.vR]at e;obtain⟨c,e⟩:=dP e;subst e;exact⟨a,J,rfl,.inr (h.elim (λq=>.inl q.1) .inr),by rw[r.length];exact c,ok m H L s J _ Q S r c q⟩
  |_=>exact cW e
end
end BS
end
section
namespace BC
open PySem
section
def BA{target:VI}(I:Nat->VG->Prop)
(turn:∀ n s,I n s->ay (V4 prog w) A (pyNext it) (λr L=>match r with
  |none=>R (.ok .next) L
  | some v=>ay (V4 prog w) A (YD target it v) (λ_ s₀=>ay (V4 prog w) A (ZW target env v) (λ_ W =>
   ay (V4 prog w) A (forIn ifs ah λc r=>if r=ah then do let ok ← isTrue c env (eval c env);pure (YK ok) else pure (YK r)) (λok J =>
    if ok=ah then ay (V4 prog w) A (eval elt env) (λx V =>
     ay (V4 prog w) A (call (.builtin "list.append") [acc,x]) (λ_ U=>∃ m,m < n/\I m U) (λ_ _=>False) V) (λ_ _=>False) J
    else ∃ m,m < n/\I m J) (λ_ _=>False) W) (λ_ _=>False) s₀) (λ_ _=>False) L) (λ_ _=>False) s)
(n:Nat)(h:I n s):ao (V4 prog w) A (.compLoop (.ListComp elt [⟨target,iter,ifs,0⟩] scope pos) 0 it acc env) R s:=by
 refine codeAny_loop rfl I (λn s f=>?_) n h;show ay _ A ((compTurn (.ListComp elt [⟨target,iter,ifs,0⟩] scope pos) 0 it acc env).onRaise (λx=>do ZU x env;theTreesLotGoes x)) _ _ s;refine wpAny_noted ?_;rw[compTurn_list];refine VJ (Yu (VJ (WJ (turn n s f) (λr L Z=>?_) λ_ _ O=>O.elim)));cases r with
 |none=>exact av Z
 |some v =>
  refine VJ (WJ Z (λ_ s₀ a=>?_) λ_ _ O=>O.elim);refine VJ (WJ a (λ_ W e=>VJ (WJ e (λok J Y=>?_) λ_ _ O=>O.elim)) λ_ _ O=>O.elim);cases ok with
  |false=>exact av ⟨rfl,Y⟩
  |true =>
   exact VJ (VJ (WJ Y (λx V d=>VJ (WJ d (λ_ U b=>av (av ⟨rfl,b⟩)) λ_ _ O=>O.elim)) λ_ _ O=>O.elim))
end
noncomputable def jR(cells:List (az×VS)):List (az×X4)->List (az×VS)->List (az×VS)
 |[],acc=>acc
 |(n,k)::r,acc=>if k==.free then(match cells.lookup n with|some c=>jR cells r ((n,c)::acc)|none=>jR cells r acc)else jR cells r acc
def uG(cells:List (az×VS))(names:List (az×X4)):Prop:=∀x∈names,x.2=.free->∃c,cells.lookup x.1=aa c
theorem rj:∀(names:List (az×X4)) (J:List (az×VS)),uG env.cells names →
 (forIn names J λx (r:List (az×VS))=>(if x.2==.free then do let c ←cellOf env x.1;pure (YK ((x.1,c)::r))else pure (YK r):Sem (ForInStep (List (az×VS)))))=pure (jR env.cells names J)
 |[],J,_=>rfl
 |(n,k)::r,J,h=>by
  have L:=λJ=>rj (env:=env) r J λx O=>h x (VZ _ O);rw[List.forIn_cons]
  by_cases c:k=.free
  ·subst c;obtain⟨a,e⟩:=h (n,.free) V6 rfl;have e:env.cells.lookup n=aa a:=e;simp only[jR,e];show(cellOf env n >>= _) >>= _=_;unfold cellOf;rw[e];exact L _
  ·have U:(k==WW)=ai:=by simpa using c
   simp only[jR,U];exact L _
def oR{J L:Type}{m m':Sem J}{f:J->Sem L}(h:m=m'):(m >>= f)=(m' >>= f):=by rw[h]
def rm{scope:Wv}{env:Env}(h:uG env.cells scope.names):closureFor scope env=pure (jR env.cells scope.names []):=by have:=rj (env:=env) scope.names [] h;unfold closureFor;exact(oR this).trans rfl
theorem uH:∀{names:List (az×X4)}{J:List (az×VS)},(∀x c,J.lookup x=aa c->cells.lookup x=aa c)->∀x c,(jR cells names J).lookup x=aa c->cells.lookup x=aa c
 |[],J,h,x,c,e=>h x c e
 |(n,k)::r,J,h,x,c,e=>by
  rw[jR]at e;split at e
  ·split at e
   ·rename_i a O;refine uH (λy b q=>?_) x c e;rw[XI]at q;split at q
    ·rename_i L;have:y=n:=by simpa using L
     subst this;cases q;exact O
    exact h y b q
   exact uH h x c e
  exact uH h x c e
theorem qf:∀{names:List (az×X4)}{J:List (az×VS)},(∃c,J.lookup x=aa c)->∃c,(jR cells names J).lookup x=aa c
 |[],J,h=>h
 |(n,k)::r,J,h=>by
  rw[jR];split
  ·split
   ·refine qf ?_;rw[XI];split;exact⟨_,rfl⟩;exact h
   exact qf h
  exact qf h
theorem uI:∀{names:List (az×X4)}{J:List (az×VS)},(x,WW)∈names->(∃c,cells.lookup x=aa c)->∃c,(jR cells names J).lookup x=aa c
 |[],J,h,_=>nomatch h
 |(n,k)::r,J,h,q=>by
  rw[jR];rcases List.mem_cons.mp h with e|e
  ·cases e;obtain⟨c,L⟩:=q;rw[bK (by rfl),L];refine qf ?_;exact⟨c,by simp⟩
  ·split
   ·split;exact uI e q;exact uI e q
   exact uI e q
end BC
end
section
namespace BS
open PySem PySem.Spec PyProof.Rows L2
variable{cond:aW}
def rA(F:FT)(G:az->Option aM)(sc:Wv)(N:List az)(cond:aW)(J:List VI):Prop :=
 (cond=.nil/\J=[])\/∃c O,cond=.cons c .nil/\J=[O]/\∀L,Ok L F G sc N->PT L O (tDT L F G c)
structure wo(sc:Wv)(N tg:List az)(fv:List (Nat×az))(scope:Wv):Prop where
 k1:scope.kind=.function
 k2:sc.kind=.function
 cell:∀y∈scope.names,y.2≠.cell
 loc:∀y∈scope.names,y.2=.local->scope.names.lookup y.1=aa .local
 free:∀y∈scope.names,y.2=.free->sc.names.lookup y.1=aa .cell
 fvs:∀q∈fv,N[q.1]?=aa q.2/\(q.2,WW)∈scope.names/\sc.names.lookup q.2=aa .cell/\(fc scope sc).names.lookup q.2=aa .cell
 nd:(tg++fv.map (·.2)).Nodup
theorem tF:∀{l:List az},qS l=ah->l.Nodup
 |[],_=>List.nodup_nil
 |x::r,h=>by simp only[qS,VH,YF]at h;refine List.nodup_cons.mpr ⟨λz=>?_,tF h.2⟩;have:=h.1;simp[z]at this
def JG(h:ku sc N tg fv scope=ah):wo sc N tg fv scope:=by
 simp only[ku,VH]at h;obtain⟨⟨⟨⟨⟨⟨f,Z⟩,V⟩,U⟩,O⟩,L⟩,Y⟩:=h;rw[Xi]at V U O L;refine⟨bR f,bR Z,λy J e=>?_,λy J e=>?_,λy J e=>?_,λq W=>?_,tF Y⟩
 ·have:=V y J;rw[e]at this;simp at this
 ·have:=U y J;rw[e]at this;simpa using this
 ·have:=O y J;rw[e]at this;simpa using this
 ·have:=L q W;simp only[VH]at this;obtain⟨⟨⟨a,b⟩,c⟩,d⟩:=this;exact⟨by simpa using a,by simpa using b,by simpa using c,by simpa using d⟩
theorem mY{sc:Wv}{x:az}{k:X4}(V:k=.cell\/k=.free):∀{names:List (az×X4)},(∀y∈names,y.2≠.cell) →
 (names.map λ(n,k)=>if(k==WW&&sc.kind==.function&&sc.names.lookup n==aa .cell)then(n,Zg)else(n,k)).lookup x=aa k->(x,WW)∈names
 |[],_,h=>by simp at h
 |(n,q)::r,hc,h=>by
  have Y:=mY (sc:=sc) (x:=x) V (names:=r) λy Z=>hc y (VZ _ Z);replace h:XM x ((if(q==WW&&sc.kind==.function&&sc.names.lookup n==aa .cell)=ah then(n,Zg)else(n,q))::(r.map λ(n,k)=>if(k==WW&&sc.kind==.function&&sc.names.lookup n==aa .cell)then(n,Zg)else(n,k)))=aa k:=h;have W:∀(J:X4),(J=q\/(J=.cell/\q=.free))->XM x ((n,J)::(r.map λ(n,k)=>if(k==WW&&sc.kind==.function&&sc.names.lookup n==aa .cell)then(n,Zg)else(n,k)))=aa k->(x,WW)∈(n,q)::r:=by
   intro J a L;rw[XI]at L;split at L
   ·rename_i O;have O:x=n:=by simpa using O
    subst O;have e:J=k:=VN L;have U:q=.free:=by
     rcases a with rfl|⟨_,e2⟩
     ·rcases V with z|z
      exact bM (e.trans z) (hc (x,J) V6);exact e.trans z
     exact e2
    rw[U];exact V6
   exact VZ _ (Y L)
  by_cases c:(q==WW&&sc.kind==.function&&sc.names.lookup n==aa .cell)=ah
  ·rw[bK c]at h;refine W .cell (.inr ⟨rfl,?_⟩) h;simp only[VH]at c;exact bR c.1.1
  ·rw[bL c]at h;exact W q (.inl rfl) h
def blk(X:Cx)(J:List az)(s2:VG)(H1:Hp)(scope:Wv)(C:VS)(fp:List VS):Cx :=
 {X with N:=J,s₀:=s2,H₀:=H1,env:=aan scope (BC.jR X.env.cells scope.names []) C X.env,outer:=X.stack,stack:=X.stack,ex:=fp,fn:=λ_=>ai,pn:=[],xe:=λ_ _=>False}
section
variable{X:Cx}{F:FT}{G:az->Option aM}{sc:Wv}{N:List az}{zt:List (VS×aq)}{σ:L2.St}{H1:Hp}{s2:VG}
def mK{scope:Wv}{x:az}{c:VS}(e:(BC.jR X.env.cells scope.names []).lookup x=aa c):X.env.cells.lookup x=aa c :=
 BC.uH (λ_ _ z=>by simp at z) x c e
def wu(J:X.env.scope=sc)(x:az):(aan scope (BC.jR X.env.cells scope.names []) C X.env).kindOf x=(fc scope sc).names.lookup x:=by subst J;rfl
def zO(U:Inv X zt σ H1 s2)(J:X.env.scope=sc)(O:wo sc N tg fv scope)(L:(x,WW)∈scope.names):∃c,(BC.jR X.env.cells scope.names []).lookup x=aa c:=by refine BC.uI L (U.ok.has x (.inl ?_));have:=O.free _ L rfl;rw[←J]at this;exact this
theorem LW(J:Inv X zt σ H1 s2)(O:X.env.scope=sc){scope:Wv}{tg:List az}{f:List (Nat×az)}(V:wo sc N tg f scope){g:List az}{C:VS}{fp:List VS}(Z:C=s2.heap.objs.size+1)
(U:∀b∈fp,qv X zt H1 b)(Y:∀b∈fp,b<s2.heap.objs.size):(blk X g s2 H1 scope C fp).Ok where
 mod:=J.ok.mod
 kind:=V.k1
 glob:=J.ok.glob
 blt:=J.ok.blt
 above:=by show s2.heap.objs.size<=C;rw[Z];exact W0 _
 inj:=λx y c a b=>J.ok.inj x y c (mK a) (mK b)
 has:=λx d=>by
  refine zO J O V ?_;have W:(fc scope sc).names.lookup x=aa .cell\/(fc scope sc).names.lookup x=aa .free:=by rw[←wu O (C:=C)];exact d
  rcases W with e|e
  exact mY (.inl rfl) V.cell e;exact mY (.inr rfl) V.cell e
 cab:=λx c z=>by cases z
 hd:=J.ok.hd
 frames:=J.ok.frames
 stk:=.inl rfl
 exf:=λb L=>⟨λz=>by have l:=Y b L;have z:b=C:=z;rw[z,Z]at l;exact bM l (Nat.not_lt.mpr (W0 _)),λx c e=>(U b L).2.2.2.2.1 x c (mK e)⟩
 bs:=J.bs
 bsz:=Wa J.ok.bsz J.sz
 noex:=λb o e L=>by
  have q:=(J.ok.bs b o e).1;rcases (U b L).2.2.2.1 with z|z
  exact J.ok.noex b o e z;exact bM (VT q) (Nat.not_lt.mpr z)
 exfs:=λb L z=>by
  rcases List.mem_cons.mp (J.kY b z)with e|e
  exact(U b L).2.1 e;exact(U b L).2.2.1 e
 jA:=J.stack
 frf:=J.tX
end
noncomputable def lobj(us:List aA)(n:Nat):aq:={cls:=.type "list",data:=.seq us.toArray n}
section
variable{X:Cx}{F:FT}{G:az->Option aM}{sc:Wv}{N:List az}{zt:List (VS×aq)}{σ:L2.St}{H1:Hp}{s2:VG}
noncomputable def mZ(n:Nat)(σ:L2.St)(J:List (Nat×az)):L2.St:=V3 n af++J.map λq=>(σ[q.1]?).getD af
theorem zP(L:Inv X zt σ H1 s2)(J:X.env.scope=sc)(A:X.N=N)(h:wo sc N tg fv scope)(d:C=s2.heap.objs.size+1)
(y:∀b∈fp,qv X zt H1 b)(Y:∀b∈fp,b<s2.heap.objs.size)(O:∀b o,s2.heap.get? b=aa o->h1.get? b=aa o)(W:h1.Ns C m)(B:h1.get? s2.heap.objs.size=aa (lobj [] 0)):
 Inv (blk X (tg++fv.map (·.2)) s2 H1 scope C fp) [(s2.heap.objs.size,lobj [] 0)] (mZ tg.length σ fv) H1 {s2 with heap:=h1,toks:=tk} where
 ok:=LW L J h d y Y
 os:=rfl
 bare:=L.bare
 base:=Un.aG O
 loc:=by
  refine⟨m,W,λi x v e1 e2 H=>?_⟩;have e1:(tg++fv.map (·.2))[i]?=aa x:=e1;unfold mZ at e2
  by_cases c:i<tg.length
  ·rw[VF (by simpa using c),WY,bK c]at e2;cases e2
  ·rw[V7 (by simpa using c)]at e2;rw[V7 (by simpa using c)]at e1;simp only[X6,VY]at e1 e2;cases g:fv[i-tg.length]? with
   |none=>rw[g]at e1;exact cW e1
   |some q =>
    rw[g]at e1 e2;simp only[XQ,Yk]at e1 e2;subst e1;obtain⟨F,E,l,D⟩:=h.fvs q (V0 g);have f:σ[q.1]?=aa (aa v):=by
     cases j:σ[q.1]? with
     |none=>rw[j]at e2;exact cW e2|some o=>rw[j]at e2;simp only[ZD]at e2;rw[e2]
    obtain⟨G,w,Z⟩:=L.loc;obtain⟨u,n,r⟩:=Z q.1 q.2 v (by rw[A];exact F) f (by rw[J];exact .inr (.inl l));refine⟨u,n,?_⟩;have s:X.env.kindOf q.2=aa .cell:=by show X.env.scope.names.lookup q.2=_;rw[J];exact l
    rcases r with⟨k,_⟩|⟨k,c,ec,o,U,a⟩
    rw[s]at k;cases k
    ·obtain⟨I,V⟩:=zO L J h E;have:=mK V;rw[ec]at this;cases this;refine .inr ⟨.inl ?_,c,V,o,O c o U,a⟩;show(aan scope (BC.jR X.env.cells scope.names []) C X.env).kindOf q.2=_;rw[wu J];exact D
 cell:=λx c e=>by obtain⟨v,o,U,a⟩:=L.cell x c (mK e);exact⟨v,o,O c o U,a⟩
 free:=L.aI.fresh (by show s2.heap.objs.size<=C;rw[d];exact W0 _)
 freeC:=λx c e=>L.freeC x c (mK e)
 pin:=λp t=>by
  have e:p=(s2.heap.objs.size,lobj [] 0):=by have:p∈[]++[(s2.heap.objs.size,lobj [] 0)]:=t;simpa using this
  subst e;refine⟨B,L.aI.fresh (VR _),?_,?_,λv z=>by cases (show Data.seq _ _=Data.cell v from z)⟩
  ·show s2.heap.objs.size≠C;rw[d];exact We (W8 _)
  ·intro z;obtain⟨_,o,U,_⟩:=L.stack.mem z;exact bM (VT U) (WB _)
 aI:=L.aI.aG O
 len:=by show(mZ tg.length σ fv).length=(tg++fv.map (·.2)).length;simp[mZ]
end
noncomputable def tgF:Nat->List az->List (Nat×az)
 |_,[]=>[]|k,x::r=>(k,x)::tgF (k+1) r
noncomputable abbrev tgI(tg:List az):List (Nat×az):=tgF 0 tg
theorem uJ:∀(tg:List az)(k:Nat),(tgF k tg).length=tg.length
 |[],_=>rfl|_::r,k=>bS (·+1) (uJ r (k+1))
theorem zQ{q:Nat×az}:∀{tg:List az}{k:Nat},q∈tgF k tg->q.2∈tg
 |x::r,k,h=>by
  rcases List.mem_cons.mp h with rfl|h
  exact V6;exact VZ _ (zQ h)
def zR(h:nmE te=aa x):∃p,te=.Name x p:=by
 cases te with
 |Name y p=>cases h;exact⟨p,rfl⟩|_=>exact bM (show(af:Option az)=aa _ from h) (λz=>nomatch z)
def Ej(h:Lf te=a::l):∃k p,te=.Tuple (a::l) k p:=by
 cases te with
 |Tuple J k p=>cases h;exact⟨k,p,rfl⟩|_=>exact bM (show([]:List VI)=_::_ from h) (λz=>nomatch z)
theorem Ek{sc:Wv}{fs:List az}:∀(tg:List az){pre:List az}{es:List VI},tg.map aa=es.map nmE->(∀x∈tg,qY sc x=ah)->CTs sc (pre++(tg++fs)) (tgF pre.length tg) es
 |[],pre,es,e,_=>by
  cases es with
  |nil=>exact .nil|cons _ _=>cases e
 |x::r,pre,es,e,h=>by
  cases es with
  |nil=>cases e
  |cons a es =>
   obtain⟨p,rfl⟩:=zR (aar e).symm;have q:=Ek (fs:=fs) r (pre:=pre++[x]) (List.tail_eq_of_cons_eq e) λy J=>h y (VZ _ J);rw[WG,Wg]at q;exact .cons (by simp) (h x V6) q
def zS(h:qR sc tg te=ah):CT sc (tg++fs) (tgI tg) te/\(tgI tg).length=tg.length/\∀q∈tgI tg,sc.names.lookup q.2=aa .local:=by
 have st:∀{x:az},sc.names.lookup x=aa .local->qY sc x=ah:=λe=>by unfold qY;rw[e]
 unfold qR at h;rw[VH,Xq,VH,Xi]at h;obtain⟨h,O⟩:=h;have lo:∀{x},x∈tg->sc.names.lookup x=aa .local:=λ{x} J=>bR (O x J);rcases h with h|⟨h1,h2⟩
 ·have e:=bR h;cases tg with
  |nil=>exact bM (bS Zj e) (by simp)
  |cons x r =>
   cases r with
   |cons _ _=>exact bM (bS Zj e) (by simp)
   |nil =>
    obtain⟨p,rfl⟩:=zR (aar e).symm;have l:sc.names.lookup x=aa .local:=lo V6;exact⟨.one rfl (st l),rfl,λq L=>by rw[List.mem_singleton.mp L];exact l⟩
 ·have e:=bR h2;cases g:Lf te with
  |nil=>rw[g]at e;cases tg with
   |nil=>exact aR h1|cons _ _=>cases e
  |cons a l =>
   rw[g]at e;obtain⟨k,p,rfl⟩:=Ej g;exact⟨.aB (by rw[uJ];exact h1) (Ek (pre:=[]) tg e λx J=>st (lo J)),uJ _ _,λq L=>lo (zQ L)⟩
theorem zT:∀(tg:List az)(k:Nat)(ds:List aN)(J:bf),ds.length=tg.length->k+tg.length<=J.length->BT.sets (tgF k tg) ds J=J.take k++(ds.map BT.fT++J.drop (k+tg.length))
 |[],k,ds,J,h,_=>by cases List.length_eq_zero_iff.mp h;exact(List.take_append_drop k J).symm
 |x::r,k,ds,J,h,hl=>by
  cases ds with
  |nil=>cases h
  |cons d ds =>
   rw[VU]at hl;have kl:k<J.length:=by lia
   show BT.sets (tgF (k+1) r) ds (J.set k (aa (.p d)))=_;rw[zT r (k+1) ds _ (Nat.succ.inj h) (by rw[Ws];lia),List.drop_set_of_lt (by lia),List.take_succ,Wb kl,List.take_set,List.set_eq_of_length_le (by rw[XJ];lia),WG,show k+1+r.length=k+(x::r).length by rw[VU];lia];rfl
def yl{n:Nat}{d:aN}{ds:List aN}(h:bq n d=aa ds):ds.length=n:=by
 unfold bq at h
 by_cases c:n=1
 rw[bK c]at h;cases h;exact c.symm
 ·rw[bL c]at h;cases d with
  |aB J=>rw[BT.vS]at h;obtain⟨c,h⟩:=dP h;rw[←h];exact c|aj J=>rw[BT.vR]at h;obtain⟨c,h⟩:=dP h;rw[←h];exact c|_=>exact cW h
def zU(h:(tgI tg).length=tg.length)(V:tg≠[])(O:bq tg.length d0=aa ds)(U:sl.length=tg.length+fs.length)(L:sl.drop tg.length=fs):
 BT.sets (tgI tg) ds sl=ds.map BT.fT++fs/\(ds.map BT.fT++fs).length=tg.length+fs.length/\(ds.map BT.fT++fs).drop tg.length=fs:=by
 have hn:=yl O;have g:=zT tg 0 ds sl hn (by lia);rw[X7,L]at g;have J:(ds.map BT.fT).length=tg.length:=by rw[V8];exact hn
 exact⟨g,by rw[Wg,J],by rw[←J];exact List.drop_left⟩
theorem mj:∀{J:List (Nat×az)}{fs:bf},bG s J=aa fs->fs.length=J.length/\∀(i:Nat)(q:Nat×az),J[i]?=aa q->fs[i]?=s[q.1]?
 |[],fs,e=>by simp[bG]at e;subst e;exact⟨rfl,λi q z=>by simp at z⟩
 |q::r,fs,e=>by
  simp only[bG]at e;cases g:s[q.1]? with
  |none=>rw[g]at e;exact cW e
  |some w =>
   rw[g]at e;obtain⟨U,e1,e2⟩:=dO e;subst e2;obtain⟨O,L⟩:=mj e1;refine⟨by simp[O],λi p z=>?_⟩;cases i with
   |zero=>simp at z;subst z;simp[g]|succ i=>simpa using L i p (by simpa using z)
def tG{K:VE}(S:RS P w K m H σ s)(U:bG s fv=aa fs):RS P w K m H (mZ n σ fv) (V3 n af++fs):=by
 obtain⟨J,V⟩:=mj U;refine⟨by simp[mZ,J],λi y e=>?_⟩
 by_cases c:i<n
 ·rw[VF (by simpa using c),WY,bK c]at e;cases e
 ·rw[V7 (by simpa using c)]at e;simp only[X6]at e;have O:i-n<fv.length:=by
   rw[←J];rcases V9 (i-n) fs.length with z|z
   exact z;rw[VP z]at e;exact cW e
  have g:=VL O;rw[V _ _ g]at e;obtain⟨v,L,r⟩:=S.get _ _ e;refine⟨v,?_,r⟩;unfold mZ;rw[V7 (by simpa using c)];simp only[X6,VY,g,XQ,L,ZD]
def Hz{rest:List aN}(e:BT.eW f n (d::r) h=aa (rest,h2)):
 ∃xs o L J,bq n d=aa xs/\f xs h=aa (o,L)/\BT.eW f n r L=aa (J,h2)/\rest=(match o with|some x=>x::J|none=>J):=by
 rw[BT.eW]at e;cases g:bq n d with
 |none=>rw[g]at e;exact cW e
 |some xs =>
  rw[g]at e;obtain⟨o,L,e1,e2⟩:=dj e;unfold BT.Bc at e2;obtain⟨J,V,U,O⟩:=dj e2;unfold BT.vU at O;cases O;exact⟨xs,o,L,J,rfl,e1,U,rfl⟩
theorem Un.behind(u:Un fs ex H H' h h1)(a:∀b,b<h.objs.size->H2 b=H' b)(lt:∀b o,H b=aa o->b<h.objs.size)(k:∀b o,b<h.objs.size->h1.get? b=aa o->h2.get? b=aa o):Un fs ex H H2 h h2 where
 keep:=λb o e n c d=>k b o (VT e) (u.keep b o e n c d)
 slot:=λb o e n c d=>by obtain⟨O,q⟩:=u.slot b o e n c d;exact⟨O,k b _ (VT e) q⟩
 free:=λb o e n d=>by rw[a b (VT e)];exact u.free b o e n d
 there:=λb o e d=>by obtain⟨J,q⟩:=u.there b o e d;exact⟨J,k b J (VT e) q⟩
 tups:=λb L e=>by rw[a b (lt b _ e)];exact u.tups b L e
 frzs:=λb o w e=>by rw[a b (lt b _ e)];exact u.frzs b o w e
 tbls:=λb U e=>by rw[a b (lt b _ e)];exact u.tbls b U e
section
theorem El(O:Ok X F G sc N)(hu:gk N=ah)(J:wo sc N tg fv scope):
 Ok (blk X (tg++fv.map (·.2)) s2 H1 scope C fp) F G (fc scope sc) (tg++fv.map (·.2)) where
 hsc:=by have:=O.hsc;subst this;rfl
 hN:=rfl
 nd:=J.nd
 calm:=λ_=>O.calm hu
 hu:=O.hu
 own:=YI
 glob:=O.glob
 call:=O.call
 aE:=O.aE
 mkc:=O.mkc
 blt:=O.blt
 lam:=O.lam
 lamx:=λh=>bM (show ai=ah from h "") (by decide)
def Em{mu:Bool}{J:bC}{n:Nat}{fs:bf}{Y:bf->aL->Option (List aM×aL)}{W:bf->BT.EH}{ws:List aM}{h:aL}{z:aM×aL}{ds:List aN}(e:BT.nE mu J n (aa fs) Y W ws h=aa z)(g:(aQ ws h).bind (bJ J)=aa ds):
 wm J ws/\∃d,(∀xs h r,d xs h=aa r->BT.fO Y W fs xs h=aa r/\mH J ws ds r.2)/\mH J ws ds h/\bD (BT.eW d n ds h) (BT.iN mu)=aa z:=by
 unfold BT.nE at e;rw[g]at e;simp only at e
 by_cases U:BT.gU ws=ah
 ·rw[bK U]at e;exact⟨.inl U,_,λxs h r q=>⟨q,kF U⟩,kF U,e⟩
 ·rw[bL U]at e;have two:(J=.seq\/J=.enu)/\∃q,ws=[.r q]:=by unfold BT.qQ at e;split at e;exact⟨.inl rfl,_,rfl⟩;exact⟨.inr rfl,_,rfl⟩;exact cW e
  obtain⟨sq,q,rfl⟩:=two;have a:BT.kT J q h=aa ds:=by
   unfold BT.kT;simp only[aQ,aY,XQ]at g;cases b:aZ h q with
   |none=>rw[b]at g;exact cW g|some xs=>rw[b]at g;exact g
  rcases sq with rfl|rfl
  ·rw[BT.Dh]at e;refine⟨.inr ⟨.inl rfl,q,rfl⟩,_,λxs h r q=>?_,λZ L=>by cases L;exact a,e⟩;unfold BT.chk at q;cases O:BT.fO Y W fs xs h with
   |none=>rw[O]at q;exact cW q
   |some V =>
    rw[O]at q;simp only at q;split at q
    ·rename_i c;cases q;exact⟨rfl,λZ L=>by cases L;unfold BT.kT;rw[c];rfl⟩
    exact cW q
  ·rw[BT.vW]at e;refine⟨.inr ⟨.inr rfl,q,rfl⟩,_,λxs h r q=>?_,λZ L=>by cases L;exact a,e⟩;unfold BT.yd at q;cases O:BT.fO Y W fs xs h with
   |none=>rw[O]at q;exact cW q
   |some V =>
    rw[O]at q;simp only at q;split at q
    ·rename_i c;cases q;refine⟨rfl,λZ L=>?_⟩;cases L;rw[←c];show(aZ V.2 q).bind (λxs=>bJ .enu [.aj xs])=(aZ V.2 q).map (bB 0);cases aZ V.2 q<;>rfl
    exact cW q
inductive LI(X:Cx)(F:FT)(G:az->Option aM)(scope:Wv)(tg:List az)(fv:List (Nat×az))(cond:aW)(elt:aV)(s2:VG)(H1:Hp)(C:VS)(fp:List VS)(tn:Nat->au->Prop)(m1:List VS)(ds outs:List aN)(fs:bf)(h2:aL)(f':List aN->aL->Option (Option aN×aL))(Cc:aL->Prop)(n:Nat)(s:VG):Prop
 |mk(i:Nat)(U:L2.St)(H':Hp)(m':List VS)(L:aL)(J rest:List aN)(vs:List V)(us:List aA)(Y:Nat)(O:bf)(p0:i<=ds.length)(p1:n=ds.length-i)(p2:Inv (blk X (tg++fv.map (·.2)) s2 H1 scope C fp) [(s2.heap.objs.size,lobj us Y)] U H' s)(p3:tn i s.heap)(p4:(∀b∈fp,H' b=af))(p5:Ext m1 H1 m' H')(p6:RH X.K m' H' L)(p7:RS X.prog X.w X.K m' H' U O)(p8:O.length=tg.length+fs.length)(p9:O.drop tg.length=fs)(p10:dJ vs us)(p11:RDs X.K m' H' vs J)(W:BT.eW f' tg.length (ds.drop i) L=aa (rest,h2))(Z:J++rest=outs)(p14:Cc L):LI X F G scope tg fv cond elt s2 H1 C fp tn m1 ds outs fs h2 f' Cc n s
structure Apart(X:Cx)(zt:List (VS×aq))(H:Hp)(C:VS):Prop where
 fr:H C=af
 lo:C≠X.env.locals
 ab:X.s₀.heap.objs.size<=C
 ce:∀x c,X.env.cells.lookup x=aa c->c≠C
 pi:∀p∈X.pn++zt,p.1≠C
def tH(O:Ok X F G sc N)(hu:gk N=ah)
(hk:ku sc N tg fv scope=ah)(ht:qR (fc scope sc) tg te=ah)(hset:jQ iter=ah)(hI:PI X te iter (iD X F G sr sa))(hC:rA F G (fc scope sc) (tg++fv.map (·.2)) cond ifs)
(hE:∀X',Ok X' F G (fc scope sc) (tg++fv.map (·.2))->PE X' elt' (tD X' F G elt)):∀(zt:List (VS×aq)) (s:VG) (σ:L2.St) (H:Hp) (Q:VK) (use:Option (aA->Sem Unit)) (Q':aA->VG->Prop),Inv X zt σ H s->tD X F G (.comp mu sr sa tg fv cond elt) σ H Q →
 (∀(f:VG)(H6:Hp)(C D:VS)(m:az->Option aA),Inv X zt σ H6 f->f.heap.Ns C m->Apart X zt H6 C->Q (.ref D) H6->compPost (V4 X.prog X.w) X.A X.xe use Q' (.ref D) C (.ok .next) f) →
 ay (V4 X.prog X.w) X.A (ZV (.ListComp elt' [⟨te,iter,ifs,0⟩] scope pos) scope X.env (firstIterPos [⟨te,iter,ifs,0⟩] pos) (newList []) ai (eval iter X.env) use) Q' X.xe s:=by
 have cf:=JG hk;obtain⟨ct,tl,tloc⟩:=zS (fs:=fv.map (·.2)) ht;have t0:tg≠[]:=by
  rintro rfl
  simp[qR]at ht
 intro zt s σ H Q use Q' I q hfin;obtain⟨m,s',h,z,h',R,S,ee,zr⟩:=q;simp only[aK]at ee;obtain⟨ws,h1,e1,e2⟩:=dj ee;cases g1:(aQ ws h1).bind (bJ sr)with
 |none=>unfold BT.nE at e2;rw[g1]at e2;exact cW e2
 |some Z =>
  cases g2:bG s' fv with
  |none=>unfold BT.nE at e2;rw[g1,g2]at e2;exact cW e2
  |some fs =>
   rw[g2]at e2;obtain⟨ca,f',hf',c1,e2⟩:=Em e2 g1;obtain⟨U,h2,e3,e4⟩:=dj e2;unfold BT.iN at e4
   by_cases cl:U.length<=BT.lim
   case neg=>rw[bL cl]at e4;exact cW e4
   rw[bK cl] at e4;have ez:BT.new mu U h2=(z,h'):=VN e4;have hfree:BC.uG X.env.cells scope.names:=λx hx e=>I.ok.has x.1 (.inl (by
    have:=cf.free x hx e;show X.env.scope.names.lookup x.1=_;rw[O.hsc];exact this))
   refine wpAny_comprehension_free (use:=use) rfl (qe hset) (BC.rm hfree) cf.k1 cf.loc
    (thn (hI zt s σ H (λJ H1=>∃m1,Ext m H m1 H1/\RH X.K m1 H1 h1/\sC X.K J m1 H1 Z (mH sr ws Z)) I ⟨m,s',h,ws,h1,Z,R,S,e1,g1,ca,λH1 m1 J x1 R1 it=>⟨m1,x1,R1,it⟩⟩) λv s1 hv=>thn hv λitv s2 h2'=>?_)
   obtain⟨it,fp,tn,J,H1,rfl,I1,T,st,hf,m1,x1,R1,ito⟩:=h2';have hlt:∀b∈fp,b<s2.heap.objs.size:=λb L=>by obtain⟨o,ho,_⟩:=T.obj 0 _ st b L;exact VT ho
   refine XA (wpAny_newFunctionEnv cf.cell (by intro y hy;simp at hy) (λh3 hns hsb=>?_) cf.k1);dsimp only at hns hsb⊢;generalize hH2:s2.heap.push {cls:=.type "list",dict:=af,data:=.seq ([]:List aA).toArray}=H2 at hns hsb⊢;have M:H2.objs.size=s2.heap.objs.size+1:=by rw[←hH2,Zi]
   have old:∀b o,s2.heap.get? b=aa o->h3.get? b=aa o:=λb o e=>hsb.extBut b o (by rw[M];exact We (YJ (VT e))) (VO _ (hH2 ▸ VO _ e));have hacc:h3.get? s2.heap.objs.size=aa (lobj [] 0):=hsb.extBut _ _ (by rw[M];exact We (W8 _)) (VO _ (hH2 ▸ Wm _ rfl));have I4:=zP (tk:=s2.toks+([]:List (az×aA)).length) I1 O.hsc O.hN cf M hf hlt old hns hacc;have O':=El (s2:=s2) (H1:=H1) (C:=H2.objs.size) (fp:=fp) O hu cf;obtain⟨g,hg1,hg2⟩:=sCT O' (O.calm hu) ct λq hq=>.inr (by rw[O'.hsc];exact tloc q hq);have hfl:fs.length=fv.length:=(mj g2).1;have B:∀{H':Hp}{o:aq},(∀b∈fp,H' b=af)->∀b∈fp,qv (blk X (tg++fv.map (·.2)) s2 H1 scope H2.objs.size fp) [(s2.heap.objs.size,o)] H' b:=λ{H' o} hn b L=>by
    refine⟨hn b L,?_,?_,.inl L,λx c e=>(hf b L).2.2.2.2.1 x c (mK e),λp hp=>?_⟩
    ·show b≠H2.objs.size;rw[M];exact We (YJ (hlt b L))
    ·intro j;rcases List.mem_cons.mp (I1.kY b j)with e|e
     exact(hf b L).2.1 e;exact(hf b L).2.2.1 e
    ·have hp':p=(s2.heap.objs.size,o):=by have:p∈[]++[(s2.heap.objs.size,o)]:=hp;simpa using this
     rw[hp'];show s2.heap.objs.size≠b;exact Zd (hlt b L)
   have loop:∀s4:VG,s4={s2 with heap:=h3,toks:=s2.toks+([]:List (az×aA)).length} →
    ao (V4 X.prog X.w) X.A (.compLoop (.ListComp elt' [⟨te,iter,ifs,0⟩] scope pos) 0 (.ref it) (.ref s2.heap.objs.size) (aan scope (BC.jR X.env.cells scope.names []) H2.objs.size X.env))
     (compPost (V4 X.prog X.w) X.A X.xe use Q' (.ref s2.heap.objs.size) H2.objs.size) s4:=by
    rintro s4 rfl
    refine BC.BA (LI X F G scope tg fv cond elt s2 H1 H2.objs.size fp tn m1 Z U fs h2 f' (mH sr ws Z)) ?_
     Z.length ⟨0,_,H1,m1,h1,[],U,[],[],0,_,WM _,rfl,I4,T.keep 0 _ _ st (λb L o e=>old b o e),λb L=>(hf b L).1,.refl _ _,R1,tG (S.ext x1) g2,by simp,by simp,.nil,.nil,by rw[YA];exact e3,rfl,c1⟩
    rintro n s5 ⟨i,σ5,H5,m5,hh,out,rest,vs,us,nn,sl,hi,rfl,I5,st5,fr5,x5,R5,S5,sl1,sl2,rv5,rd5,go5,ou5,cc5⟩
    by_cases c:i<Z.length
    ·rw[Xz c]at go5;obtain⟨xs,o,hA,E,eT,eF,eG,eR⟩:=Hz go5;obtain⟨eF,cA⟩:=hf' _ _ _ eF;refine thn (T.item (blk X (tg++fv.map (·.2)) s2 H1 scope H2.objs.size fp) rfl rfl rfl (O.calm hu) i _ s5 σ5 H5 _ I5 (B fr5) st5 (ito.go m5 H5 hh i x5 R5 cc5 c)) λr f hr=>?_;obtain⟨u,rfl,hr⟩:=hr;refine thn hr λ_ s7 zq=>?_;obtain⟨x,H7,I7,r7,y7,st7,fr7⟩:=zq;obtain⟨x7,k7,rd7⟩:=ito.yld m5 H5 hh i x H7 Z[i] x5 R5 cc5 (VL c) y7;have R7:=R5.ext x7 k7;have I7':=I7.pinned (B fr7) (T.obj _ _ st7);obtain⟨sq1,sq2,sq3⟩:=zU tl t0 eT sl1 sl2;refine thn (hg1 _ s7 σ5 H7 x u (fun V H8=>H8=H7/\RS X.prog X.w X.K m5 H7 V (xs.map BT.fT++fs)) I7' r7 (hg2 m5 H7 σ5 sl x Z[i] xs _ (S5.ext x7) rd7 (by rw[tl];exact eT) fun V S8=>⟨rfl,by rw[←sq1];exact S8⟩)) λ_ s8 h8=>?_;obtain⟨V,H8,I8,rfl,S8⟩:=h8;have aG:∀{s9:VG}{σ9:L2.St}{t:Hp},Inv (blk X (tg++fv.map (·.2)) s2 H1 scope H2.objs.size fp) ([(s2.heap.objs.size,lobj us nn)]++mR fp s7.heap) σ9 t s9->tn (i+1) s9.heap/\∀b∈fp,t b=af:=λ{s9 σ9 t} I9=>by refine⟨T.keep _ _ _ st7 λb L o e=>(I9.pin (b,o) (Wd _ (Wd _ (iE L e)))).1,λb L=>?_⟩;obtain⟨o,e,_⟩:=T.obj _ _ st7 b L;exact(I9.pin (b,o) (Wd _ (Wd _ (iE L e)))).2.1
     have elem:∀{s9:VG}{t:Hp}{m9:List VS}{h9:aL}{w:aM}{hB:aL}{d:aN},Inv (blk X (tg++fv.map (·.2)) s2 H1 scope H2.objs.size fp) ([(s2.heap.objs.size,lobj us nn)]++mR fp s7.heap) V t s9->Ext m5 H8 m9 t->RH X.K m9 t h9 →
      aK F G elt (xs.map BT.fT++fs) h9=aa (w,hB)->BT.pM w hB=aa (aa d,hA)->o=aa d →
      ay (V4 X.prog X.w) X.A (eval elt' (aan scope (BC.jR X.env.cells scope.names []) H2.objs.size X.env)) (λx s₄ =>
       ay (V4 X.prog X.w) X.A (call (.builtin "list.append") [.ref s2.heap.objs.size,x]) (λ_ s₅=>∃ m,m < Z.length - i/\LI X F G scope tg fv cond elt s2 H1 H2.objs.size fp tn m1 Z U fs h2 f' (mH sr ws Z) m s₅) (λ_ _=>False) s₄) (λ_ _=>False) s9:=by
      intro s9 t m9 h9 w hB d I9 x9 R9 eE Y eO;have ew:w=.p d/\hB=hA:=by
       unfold BT.pM at Y;cases w with
       |p d'=>cases Y;exact⟨rfl,rfl⟩|_=>exact cW Y
      obtain⟨rfl,rfl⟩:=ew;refine thn (hE _ O' _ s9 V t (λv Ha=>∃P,Ext m9 t P Ha/\RH X.K P Ha hB/\RD X.K P Ha v d) I9 ⟨m9,_,h9,_,hB,R9,S8.ext x9,eE,λv Ha P xa Ra ra=>by cases ra with|p ra=>exact⟨P,xa,Ra,ra⟩⟩) λu10 s10 ⟨v10,H10,I10,r10,m10,x10,R10,rd10⟩=>?_
      obtain⟨pD,nD,k,nfD,_⟩:=I10.pin (s2.heap.objs.size,lobj us nn) (by simp);have lus:=rv5.length;have lvs:=rd5.length;have lou:out.length<=U.length:=by rw[←ou5];simp
      have lle:=gr;have cl':U.length<=BT.lim:=cl;refine aa1 ⟨nn,pD⟩ (λh11 W a=>?_) (by rw[VM];lia);obtain⟨nn',W⟩:=W;have W:h11.get? s2.heap.objs.size=aa (lobj (us++[u10]) nn'):=by rw[W];simp[lobj]
      have a:WZ s2.heap.objs.size s10.heap h11:=a;obtain⟨st10,fr10⟩:=aG I10;have I11:Inv (blk X (tg++fv.map (·.2)) s2 H1 scope H2.objs.size fp) [] V H10 {s10 with heap:=h11} :=
       Inv.turned (t':=s10.toks) (I10.lX (λp hp=>by cases hp)) (λb o L e=>(a.2 b L).trans e) nD k (.inr (VR _)) (λx c e j=>by obtain⟨v,o,ho,_⟩:=I1.cell x c (mK e);have:=VT ho;rw[j]at this;exact bM this (WB _)) λp hp=>by cases hp
      have I12:Inv (blk X (tg++fv.map (·.2)) s2 H1 scope H2.objs.size fp) [(s2.heap.objs.size,lobj (us++[u10]) nn')] V H10 {s10 with heap:=h11}:=I11.lX λp hp=>by simp only[Yz]at hp;subst hp;exact⟨W,nD,k,nfD,λv j=>by cases (show Data.seq _ _=Data.cell v from j)⟩
      have xt:Ext m5 H5 m10 H10:=(x7.trans x9).trans x10;refine⟨Z.length-(i+1),by lia,i+1,V,H10,m10,hB,out++[d],E,vs++[v10],us++[u10],nn',_,c,rfl,I12,?_,fr10,x5.trans xt,R10,(S8.ext x9).ext x10,sq2,sq3,rv5.append (.cons r10 .nil),(rd5.ext xt).append (.cons rd10 .nil),eG,?_,cA⟩
      ·refine T.keep _ _ _ st10 λb L o' e=>(a.2 b ?_).trans e;exact We (hlt b L)
      rw[←ou5,eR,eO,WG];rfl
     unfold BT.fO at eF;obtain⟨cs,hc,eC,Y⟩:=dj eF;rcases hC with⟨rfl,rfl⟩|⟨cc,cc',rfl,rfl,hCC⟩
     ·simp only[aU]at eC;cases eC;have Y:=(show bD _ BT.pM=_ from Y);obtain⟨w,hB,eE,eL⟩:=dj Y;refine wpAny_tests_nil ?_;rw[bK rfl];have:∃d,o=aa d:=by
       unfold BT.pM at eL;cases w with
       |p d'=>cases eL;exact⟨_,rfl⟩|_=>exact cW eL
      obtain⟨d,rfl⟩:=this;exact elem I8 (.refl _ _) R7 eE eL rfl
     ·simp only[aU]at eC;obtain⟨wc,hc2,eC1,eC2⟩:=dj eC;simp only[BT.nF,BT.dZ,BT.ko]at eC2;cases eC2;have L:∃b,wc=.p (.bl b):=by
       cases wc with
       |p d =>
        cases d<;>first|exact⟨_,rfl⟩|exact cW Y
       |_=>exact cW Y
      obtain⟨b,rfl⟩:=L;refine wpAny_tests_one (thn (hCC _ O' _ s8 V H8 (λb' Ha=>b'=b/\∃P,Ext m5 H8 P Ha/\RH X.K P Ha hc) I8 ⟨m5,_,hh,b,hc,R7,S8,eC1,λHa P xa Ra=>⟨rfl,P,xa,Ra⟩⟩) λb' s9 zq=>?_);obtain⟨t,I9,hbb,m9,x9,R9⟩:=zq;subst hbb;cases b' with
      |false =>
       have Y:=(show aa ((af:Option aN),hc)=aa _ from Y);cases Y;rw[bL (by decide)];obtain⟨st9,fr9⟩:=aG I9;have xt:Ext m5 H5 m9 t:=x7.trans x9;refine⟨Z.length-(i+1),by lia,i+1,V,t,m9,hA,out,E,vs,us,nn,_,c,rfl,I9.nu,st9,fr9,x5.trans xt,R9,S8.ext x9,sq2,sq3,rv5,rd5.ext xt,eG,?_,cA⟩;rw[←ou5,eR]
      |true =>
       have Y:=(show bD _ BT.pM=_ from Y);rw[bK rfl];obtain⟨w,hB,eE,eL⟩:=dj Y;have:∃d,o=aa d:=by
        unfold BT.pM at eL;cases w with
        |p d'=>cases eL;exact⟨_,rfl⟩|_=>exact cW eL
       obtain⟨d,rfl⟩:=this;exact elem I9 x9 R9 eE eL rfl
    ·have ei:i=Z.length:=by lia
     subst ei;rw[YS,BT.eW]at go5;cases go5;rw[Wz]at ou5;subst ou5;refine thn (T.done (blk X (tg++fv.map (·.2)) s2 H1 scope H2.objs.size fp) rfl rfl rfl (O.calm hu) _ _ s5 σ5 H5 _ I5 (B fr5) st5 (ito.stop m5 H5 _ x5 R5 cc5)) λr f zq=>?_;obtain⟨hr,I6⟩:=zq;subst hr;obtain⟨mm,hmm,_⟩:=I6.loc;obtain⟨pD,nD,k,nfD,_⟩:=I6.pin (s2.heap.objs.size,lobj us nn) (by simp);have k:s2.heap.objs.size≠H2.objs.size:=k;have hos:f.os=s2.os:=I6.os;have lus:=rv5.length;have lvs:=rd5.length;have lle:=gr;have cl':out.length<=BT.lim:=cl;have aI:HOk X.prog X.w (upd H5 s2.heap.objs.size (.aj vs)) f.heap:=λb u e=>by
      by_cases eb:b=s2.heap.objs.size
      ·subst eb;rw[eY]at e;cases e;exact⟨by lia,us,nn,rv5,pD⟩
      ·rw[dH eb]at e;refine(I6.aI b u e).stay (λc v hc q=>q) (λc q=>?_) λc l q=>?_;rw[dH (λj=>by rw[j,nD]at q;exact cW q)];exact q;rw[dH (λj=>by rw[j,nD]at q;exact cW q)];exact q
     have u7:Un (frs X.stack) fp H1 (upd H5 s2.heap.objs.size (.aj vs)) s2.heap f.heap:=Un.behind (h1:=f.heap) I6.base (λb L=>dH (We L)) (λb o e=>I1.aI.lt e) λb o L e=>e;have I7:=I1.call (g':=f.gens) (t':=f.toks) (d':=f.drawn) (ch:=fp) u7 aI I6.bare λb L=>⟨(hf b L).2.2.2.1,(hf b L).2.1,(hf b L).2.2.2.2.1,(hf b L).2.2.2.2.2⟩;have fr6:H5 H2.objs.size=af:=I6.free;have ltC:s2.heap.objs.size<H2.objs.size:=by rw[M];exact W8 _
     have ap:Apart X zt (upd H5 s2.heap.objs.size (.aj vs)) H2.objs.size:=by
      refine⟨by rw[dH (WI k)];exact fr6,?_,?_,λx c e j=>?_,λp hp j=>?_⟩;exact Zd (aaO I1.lt ltC);exact Wa I1.sz (X8 ltC)
      ·obtain⟨v,o,ho,_⟩:=I1.cell x c e;have l:=VT ho;rw[j]at l;exact bM (aaO l ltC) (WB _)
      ·have l:=VT (I1.pin p hp).1;rw[j]at l;exact bM (aaO l ltC) (WB _)
     refine hfin f _ _ _ mm ?_ hmm ap (qc (mu:=mu) R5 nD rd5 (by rw[ez];exact λv' H' m' xx RR rr=>zr v' H' m' ((x1.trans x5).trans xx) RR rr));obtain⟨hp6,g6,d6,t6,os6⟩:=f;have hos:os6=s2.os:=hos;subst hos;exact I7
   exact codeAny_compStart_list (loop _ rfl) (T.self _ 0 _ _ _ (T.keep 0 _ _ st (λb L o e=>old b o e)) (loop _ rfl))
def HA(O:Ok X F G sc N)(a:gk N=ah)
(f:ku sc N tg fv scope=ah)(c:qR (fc scope sc) tg te=ah)(L:jQ iter=ah)(h:PI X te iter (iD X F G sr sa))(j:rA F G (fc scope sc) (tg++fv.map (·.2)) cond ifs)
(i:∀V,Ok V F G (fc scope sc) (tg++fv.map (·.2))->PE V elt' (tD V F G elt)):PE X (.ListComp elt' [⟨te,iter,ifs,0⟩] scope pos) (tD X F G (.comp mu sr sa tg fv cond elt)):=by
 intro Z s Y H Q I q;rw[eval_ListComp];refine tH O a f c L h j i Z s Y H Q af _ I q λW n C D m l hn U d=>?_;refine⟨m,hn,λk J=>?_⟩;have J:WZ C W.heap k:=J;exact⟨.ref D,n,Inv.turned (t':=W.toks) l (λb o g e=>(J.2 b g).trans e) U.fr U.lo (.inr U.ab) U.ce U.pi,rfl,d⟩
def HB(O:Ok X F G sc N)(p:gk N=ah)
(u:ku sc N tg fv scope=ah)(r:qR (fc scope sc) tg te=ah)(U:jQ iter=ah)(x:PI X te iter (iD X F G sr sa))(E:rA F G (fc scope sc) (tg++fv.map (·.2)) cond ifs)
(B:∀c,Ok c F G (fc scope sc) (tg++fv.map (·.2))->PE c elt' (tD c F G elt))(n:N[i]?=aa y)(h:sc.names.lookup y=aa .local)
(W:YC (.ListComp elt' [⟨te,iter,ifs,0⟩] scope pos) (aa (.Name y py)) spos.line X.env=pure ah):
 PS X (.Assign [.Name y py] (.ListComp elt' [⟨te,iter,ifs,0⟩] scope pos) spos) (Cy (tD X F G (.comp mu sr sa tg fv cond elt)) (yW i)):=by
 intro d s k H D I q;rw[exec_Assign_Name_used _ _ _ _ W];refine VJ (Yu (VJ ?_));show ay _ X.A (do let _ ←ZV (.ListComp elt' [⟨te,iter,ifs,0⟩] scope pos) scope X.env _ (newList []) ai (eval iter X.env) (aa (ZW (.Name y py) X.env))) _ _ s;refine VJ (thn (tH O p u r U x E B d s k H _ (aa (ZW (.Name y py) X.env)) (λ_ g=>SP X d D .next g) I q λR Q C j m P hn L Y=>?_) λ_ g Y=>av (av Y));show ay _ X.A (ZW (.Name y py) X.env (.ref j)) _ _ _;refine wpAny_assign_Name (oz P O.nd (by rw[O.hN];exact n) (.inl (by rw[O.hsc];exact h)) (v:=.ref j) rfl (λf M t=>?_) (.inr (by rw[O.hsc];exact h)));obtain⟨a,l,Z⟩:=t;have V:C≠a:=by
  rcases Z with rfl|Z
  exact L.lo;exact λz=>L.ce y a Z z.symm
 refine⟨m,hn.sameBut l V,λK J=>?_⟩;have J:WZ C f.heap K:=J;exact⟨_,Q,Inv.turned (t':=f.toks) M (λb o w e=>(J.2 b w).trans e) L.fr L.lo (.inr L.ab) L.ce L.pi,Y⟩
end
section
variable{E:aA->VG->Prop}
end
section
end
end BS
end
section
namespace L2
open PySem PySem.Spec PyProof.Rows
section
variable{X:Cx}{tg:ZF}
end
end L2
namespace BS
open PySem PySem.Spec PyProof.Rows L2
section
variable{F:FT}{G:az->Option aM}
end
end BS
end
section
namespace BS
open PySem PySem.Spec PyProof.Rows L2
section
variable{E:aA->VG->Prop}
end
section
variable{prog:VV}{w:Wj}{A:Wq}{s:VG}{R:aaV->VG->Prop}{xs ys:Array aA}{z TI TO i1 i2 l1 l2 S:VS}
end
section
variable{prog:VV}{w:Wj}{A:Wq}{E:aA->VG->Prop}{s:VG}{R:aaV->VG->Prop}{xs ys:Array aA}{z TI TO i1 i2 l1 l2 S:VS}
end
section
variable{E:aA->VG->Prop}
end
section
end
inductive ZK
 |l(a:VS)|t(a:VS)|s(x:az)(k:Tok)
noncomputable def ZK.ty:ZK->String
 |.l _=>"list_iterator"|.t _=>"tuple_iterator"|.s x _=>strIterType x
noncomputable def ZK.val:ZK->aA
 |.l a=>.ref a|.t a=>.ref a|.s x k=>.str x k
def ZK.at(q:ZK)(J:VS)(i:Nat)(h:au):Prop:=match q with
 |.l a=>h.IsListIter J a i|.t a=>h.IsTupleIter J a i|.s x k=>h.IsStrIter J (strIterType x) x k i
def ZK.item(q:ZK)(i:Nat)(h:au)(u:aA):Prop:=match q with
 |.l a=>∃J:List aA,h.IsList a J.toArray/\J[i]?=aa u|.t a=>∃J:List aA,h.IsTuple a J.toArray/\J[i]?=aa u|.s x _=>∃c t,x.cps[i]?=aa c/\u=.str ⟨#[c]⟩ t
def ZK.done(q:ZK)(i:Nat)(h:au):Prop:=match q with
 |.l a=>∃J:List aA,h.IsList a J.toArray/\J.length<=i|.t a=>∃J:List aA,h.IsTuple a J.toArray/\J.length<=i|.s x _=>x.cps.size<=i
section
variable{prog:VV}{w:Wj}{A:Wq}{E:aA->VG->Prop}{s:VG}
end
def ZK.ob(q:ZK):aq:={cls:=.type q.ty,data:=.fields #[q.val,.int 0 0]}
def ZK.here(q:ZK)(h:au):Prop:=match q with
 |.l a=>∃J:List aA,h.IsList a J.toArray|.t a=>∃J:List aA,h.IsTuple a J.toArray|.s _ _=>True
section
variable{prog:VV}{w:Wj}{A:Wq}{E:aA->VG->Prop}{s:VG}
end
section
variable{prog:VV}{w:Wj}{A:Wq}{E:aA->VG->Prop}{s:VG}
end
def ZK.has(q:ZK)(K:VE)(H:Hp)(i:Nat):Prop:=match q with
 |.l a=>∃J x,SqL K H a J/\J[i]?=aa x|.t a=>∃J x,SqT K H a J/\J[i]?=aa x|.s x _=>∃c,x.cps[i]?=aa c
def ZK.is(q:ZK)(K:VE)(H:Hp)(i:Nat)(v:V):Prop:=match q with
 |.l a=>∀J,SqL K H a J->J[i]?=aa v|.t a=>∀J,SqT K H a J->J[i]?=aa v|.s x _=>∃c,x.cps[i]?=aa c/\v=.str ⟨#[c]⟩
def ZK.over(q:ZK)(K:VE)(H:Hp)(i:Nat):Prop:=match q with
 |.l a=>∃J,SqL K H a J/\J.length<=i|.t a=>∃J,SqT K H a J/\J.length<=i|.s x _=>x.cps.size<=i
section
variable{X:Cx}{zt:List (VS×aq)}{σ:L2.St}{H:Hp}{s:VG}
end
section
variable{F:FT}{G:az->Option aM}
end
section
variable{prog:VV}{w:Wj}{A:Wq}{E:aA->VG->Prop}{s:VG}
end
section
variable{F:FT}{G:az->Option aM}
end
section
variable{X:Cx}{F:FT}{G:az->Option aM}
end
noncomputable def dV:aN->V
 |.str x=>.str x|.int i=>.int i|_=>.aC
section
variable{X:Cx}{F:FT}{G:az->Option aM}
end
section
variable{m:List VS}
def RBs.length{vs:List V}{J:List Nat}(r:RBs m vs J):vs.length=J.length:=by
 induction r with
 |nil=>rfl|cons _ _ L=>rw[VU,VU,L]
theorem RBs.get:∀{vs:List V}{J:List Nat}{i n:Nat},RBs m vs J->J[i]?=aa n->∃a,vs[i]?=aa (.ref a)/\m[n]?=aa a
 |_,_,_,_,.nil,e=>by simp at e
 |_,_,0,_,.cons r _,e=>by simp at e;subst e;exact⟨_,rfl,r⟩
 |_,_,i+1,d,.cons _ t,e=>by obtain⟨u,O,L⟩:=RBs.get (i:=i) (n:=d) t (by simpa using e);exact⟨u,by simpa using O,L⟩
theorem RBs.add{n:Nat}{a:VS}(h:m[n]?=aa a):∀{vs:List V}{J:List Nat},RBs m vs J->RBs m (vs++[.ref a]) (J++[n])
 |_,_,.nil=>.cons h .nil|_,_,.cons r t=>.cons r (RBs.add h t)
def RBs.atI{vs:List V}{J:List Nat}{i:Int}{d:Nat}(r:RBs m vs J)(e:BT.atP J i=aa d):∃a,L2.atI vs i=aa (.ref a)/\m[d]?=aa a:=by unfold BT.atP at e;unfold L2.atI;obtain⟨j,W,U⟩:=Option.bind_eq_some_iff.mp e;obtain⟨v,O,L⟩:=r.get U;refine⟨v,?_,L⟩;rw[r.length];show((BT.place J.length i).bind λj=>vs[j]?)=_;rw[W];exact O
end
section
variable{F:FT}{G:az->Option aM}
def LY{X:Cx}{a:aV}(σ:L2.St)(H:Hp)(Q:VK)(q:tD X F G (.obl a) σ H Q):Kq (tDs X F G (.cons a .nil)) σ H Q:=by
 obtain⟨m,s,h,z,d,R,S,L,U⟩:=q;simp only[aK]at L;obtain⟨x,Z,e1,e2⟩:=dj L;cases x with
 |o n =>
  cases e2;refine⟨m,s,h,[.o n],Z,R,S,by simp only[aU,e1,BT.dZ,BT.nF,BT.ko],λc b Y V O W=>?_⟩;cases W with
  |cons r t =>
   cases t;cases r with
   |o hn =>
    refine⟨by show 1<=_;decide,λp J=>?_⟩;refine U _ _ (Y++[p]) (V.trans (jY J)) (O.Lg J ⟨_,eY,.cons ((jY (H:=b) (o:=.own 0) J).ix hn) .nil⟩) (.r ?_);rw[←O.len];simp
 |_=>exact cW e2
def LZ{X:Cx}:IxR X (rOp X.prog X.w X.K BT.K3):=by
 intro J L V s U H v u A B Q I c f h l;obtain⟨m,h,x,y,z,D,R,Z,O,e,W⟩:=h;cases Z with
 |@r a n hn =>
  cases O with
  |p O =>
   cases O with
   |int i =>
    rw[BT.GQ]at e;obtain⟨C,g,e⟩:=Option.bind_eq_some_iff.mp e;obtain⟨d,e1,e2⟩:=dO e;cases e2;obtain⟨Y,t,q⟩:=R.zy _ _ _ hn g;obtain⟨b,k,j⟩:=q.atI e1;exact zg J L V s U H _ _ _ _ Q I c f ⟨a,Y,i,_,rfl,rfl,.inl (.inl t),k,W _ _ m (.refl _ _) R (.o j)⟩ l
   |_=>exact cW e
  |_=>exact cW e
 |_=>exact cW e
def L0{X:Cx}{sc:Wv}{N:List az}(O:Ok X F G sc N){a:aV}{e:VI}{p pos:Pos}(j:d7 sc "len"=ah)(i:noStar e=ah)(k:PA X [e] (tDs X F G (.cons a .nil))):PE X (.Call (.Name "len" p) [e] [] pos) (tD X F G (.obn a)):=by
 refine PE.weak (iM kg (eZ O j) (O.blt _ (by decide)) PySem.boot_len k (by decide) (by decide) (dh i) rfl) fun o H Q q=>?_;obtain⟨m,s,h,z,l,R,S,L,V⟩:=q;simp only[aK]at L;obtain⟨x,w,e1,e2⟩:=dj L;cases x with
 |r n =>
  rw[BT.K6]at e2;obtain⟨v,g,J⟩:=Option.bind_eq_some_iff.mp e2;obtain⟨c,J⟩:=dP J;cases J;refine⟨m,s,h,[.r n],l,R,S,by simp only[aU,e1,BT.dZ,BT.nF,BT.ko],λu y f W U Z=>?_⟩;cases Z with
  |cons r t =>
   cases t;cases r with
   |r hn =>
    obtain⟨Y,d,b⟩:=U.zy _ _ _ hn g;refine⟨_,Y,rfl,.inl (.inl (.inl d)),?_⟩;rw[b.length];exact V _ _ f W U (.p (.int _))
 |_=>exact cW e2
def L3{X:Cx}{o a:aV}{V e:VI}{apos cpos:Pos}(M:eH V=ah)(I:(apos.endLine==cpos.line)=ah)(d:noStar e=ah)(E:PE X V (tD X F G o))(N:PA X [e] (tDs X F G (.cons a .nil))):PE X (.Call (.Attribute V "append" apos) [e] [] cpos) (tD X F G (.oba o a)):=by
 refine PE.weak (C4 WH Yx Yw sX E N (mh M) (by rw[j4 (es:=[e]) (by simp[dB,d])];rfl) I (dh d) rfl) fun σ H Q q=>?_;obtain⟨m,s,h,z,h',R,S,i,k⟩:=q;simp only[aK]at i;obtain⟨x,W,e1,e2⟩:=dj i;cases x with
 |r n =>
  rw[BT.K5]at e2;have c:(BT.bat W n).isSome=ah:=Decidable.byContradiction λz=>by rw[bL z]at e2;exact cW e2
  rw[bK c]at e2;obtain⟨y,P,e3,L⟩:=dj e2;obtain⟨B,T⟩:=Option.isSome_iff_exists.mp c;refine⟨m,s,h,.r n,W,R,S,e1,λv H1 D Z j w=>?_⟩;cases w with
  |r hn =>
   obtain⟨O,A,_⟩:=j.zy _ _ _ hn T;refine⟨.inl ⟨rfl,O,.inl (.inl A)⟩,D,s,W,[y],P,j,S.ext Z,by simp only[aU,e3,BT.dZ,BT.nF,BT.ko],λvs H2 C Y R2 u=>?_⟩;cases u with
   |cons r t =>
    cases t;cases r with
    |o K =>
     rw[BT.K4]at L;obtain⟨ns,g,L⟩:=Option.bind_eq_some_iff.mp L;obtain⟨c2,L⟩:=dP L;cases L;have J:=Y.ix hn;obtain⟨l,U,b⟩:=R2.zy _ _ _ J g;have:=gr;have f:=b.length;exact⟨_,l,_,rfl,rfl,U,by lia,k _ _ C ((Z.trans Y).trans (jn (V0 J) U)) (R2.setC J ⟨_,U,rfl⟩ ⟨_,eY,b.add K⟩) (.p .aC)⟩
    |_=>exact cW L
 |_=>exact cW e2
def BB{K:VE}{C f:VS}(h:Wc K (.ref C) "__init__"=aa (aa (.ref f)))(h2:YO K (.ref f)=ah):abf K (.ref C) (.type "type") "__init__"=aa (.val (.ref f)):=by unfold abf;rw[show Wc K (.type "type") "__init__"=aa (aa (.builtin "type.__init__")) from(by decide +kernel:Wc [] (.type "type") "__init__"=aa (aa (.builtin "type.__init__")))];simp only[Wr];rw[show Xm K (.builtin "type.__init__") "__get__"=aa (aa (.builtin "wrapper_descriptor.__get__")) from(by decide +kernel:Xm [] (.builtin "type.__init__") "__get__"=aa (aa (.builtin "wrapper_descriptor.__get__")))];simp only[Wr];rw[show YM K (.builtin "type.__init__")=aa ai from(by decide +kernel:YM [] (.builtin "type.__init__")=aa ai)];simp only[Wr];rw[h];simp only[Wr];rw[bL (show ¬Builtin.heldUnderItsOwnName "__init__" (.ref f)=ah from λz=>nomatch z),bR h2];simp only[Wr];rw[bK (by decide +kernel)]
def L4{X:Cx}{sc:Wv}{N:List az}(O:Ok X F G sc N){c:az}{as:aW}{e:VI}{es:List VI}{M apos cpos:Pos}(hg:d7 sc c=ah)(hn:dR c=ah)(hl:(apos.endLine==cpos.line)=ah)(V:(e::es).length<20)(U:dB (e::es)=ah)(ha:PA X (e::es) (tDs X F G as)):
 PE X (.Call (.Attribute (.Name c M) "__init__" apos) (e::es) [] cpos) (tD X F G (.sup c as)):=by
 intro i s Y H Q I q;obtain⟨m0,B,h,z,h',R,S,n,p⟩:=q;simp only[aK]at n;obtain⟨j,l,e1,e2⟩:=dj n;obtain⟨C,ga,fd,ps,k,g,d,hB,hR,ok⟩:=O.aE _ _ _ _ _ e2;obtain⟨C',_,_,_,_,f,b,_,_,_,_⟩:=O.mkc _ _ _ _ e2;cases g.cn.inj f.cn;have Z:vE (spF X.prog X.w X.K (F (.m c "__init__"))) [] E0 (tDs X F G as) Y H Q:=by refine⟨m0,B,h,j,l,R,S,e1,λus o T y R1 E=>?_⟩;rw[Wz];exact⟨T,j,l,z,h',R1,E,e2,λA H5 P t R5 D=>p A H5 P (y.trans t) R5 D⟩
 have L:=g.rd;simp only[ZJ,VH,beq_iff_eq]at L;have a:Xm X.K (.ref C) "__getattribute__"=aa (aa (.builtin "type.__getattribute__")):=by unfold Xm;rw[L.1.1.1.2];exact L.1.1.2
 have J:=U;simp only[dB,VH]at J;refine YN (thn (pV (v:=.ref C) (eZ O hg) b rfl (fP hn).1 i s Y H (λv H'=>v=.ref C/\H'=H) I ⟨rfl,rfl⟩) λu s1 ⟨x,o,I1,rx,ex,eh⟩=>?_) (j6 rfl U V hl);subst ex eh;obtain rfl:u=WK C:=rx;refine PySem.W.method_cls I1.kIn a (PySem.W.cls_value I1.kIn g.rd (BB d.at_ d.fn) rfl ?_);have I2:=I1.tok (s1.toks+1);refine Xh (first:=[]) (h₀:=X.base) I.ok.mod.kin d.kp (thn (ha cpos i _ Y o _ I2 Z) λus s2 ⟨vs,H2,I3,r,q2⟩=>⟨I3.kIn,?_⟩) (dh J.1) (eS J.2);exact qz (us:=us) (vs:=vs) ok hR hB .nil qD I3 r q2
end
section
def BD{X:Cx}{v:V}{ds:List aN}(r:∀m H,RW X.prog X.w X.K m H v (.p (.aB ds))):∃a vs,v=.ref a/\KT X.K a vs:=by
 have z:=r [] (λ_=>af);cases z with
 |p z =>
  cases z with
  |@aB a vs _ h _ =>
   rcases h with⟨h,_⟩|h
   ·rcases h with h|⟨o,h⟩<;>exact cW h
   exact⟨a,vs,rfl,h⟩
def BE{X:Cx}{sc:Wv}{N:List az}(O:Ok X F G sc N){x:az}{as:aW}{es:List VI}{np apos cpos:Pos}(h2:d7 sc x=ah)(h3:dR x=ah)(hl:(apos.endLine==cpos.line)=ah)(Z:es.length<20)(hc:CEs sc N as es)(ha:PA X es (tDs X F G as)):
 PE X (.Call (.Attribute (.Name x np) "index" apos) es [] cpos) (tD X F G (.me .tindex (.aD x) as)):=by
 have J:=gP hc;intro A s y H Q I q;obtain⟨m,K,h,z,h',R,S,t,B⟩:=q;simp only[aK]at t;obtain⟨w,g,e1,e2⟩:=dj t;obtain⟨_,e2⟩:=zE e2;obtain⟨W,l,j,L⟩:=dj e2;obtain⟨w',e5,e6⟩:=dO e1;cases e6;obtain⟨u,v0,hm,M,Y⟩:=O.glob _ _ e5;have hT:∃U V,bw W=aa U/\w=.p (.aB V)/\U≠[]:=by
  cases w with
  |p d =>
   rw[BT.qH]at L;cases c:bw W with
   |none=>rw[c]at L;exact cW L
   |some U =>
    rw[c]at L;obtain⟨b,v,e8⟩:=dO L;cases d with
    |aB V=>refine⟨U,V,rfl,rfl,λz=>?_⟩;subst z;exact cW v|_=>cases U<;>exact cW v
  |_=>cases W<;>(first|exact cW L|simp[aS]at L)
 obtain⟨U,V,c,rfl,f⟩:=hT;obtain⟨a,vt,rfl,o,its,n,⟨k1,k2,k3,k4,k5⟩,k6⟩:=BD Y;cases es with
 |nil =>
  cases as with
  |cons a r=>exact(mX hc).elim|nil=>simp only[aU]at j;cases j;simp[bw]at c;exact bM c f
 |cons e es =>
  simp only[dB,VH] at J;have i:decide ((e::es).length+([]:List YU).length+(if ([]:List YU).isEmpty then 0 else 1) < 30)=ah:=bP (by
   simp only[VU,Wu,ZR,if_true] at Z ⊢;lia)
  refine (C4 PySem.F.plainAttrs_tuple PySem.F.slot_tuple_index PySem.F.type_tuple_index (Br O.hu) (pV (eZ O h2) hm M (fP h3).1) ha rfl (by
   rw[j4 (es:=e::es) (by simp only[dB,VH];exact J),i];rfl) hl (dh J.1) (eS J.2)) A s y H Q I ?_
  refine⟨.inr (.inl ⟨rfl,o,k1,k2,k6⟩),m,K,h,W,l,R,S,j,λvs H2 k D R2 T=>?_⟩;exact⟨k,l,.p (.aB V),W,z,h',R2,Y k H2,T,L,λE H5 m5 C R5 P=>B E H5 m5 (D.trans C) R5 P⟩
def L5{X:Cx}{me:BT.Me}(L:me=.append\/me=.pop\/me=.extend){o:aV}:∀(m:List VS)(h h2:aL)(H:Hp)(v:V) (x:aM) ws r,RH X.K m H h->RW X.prog X.w X.K m H v x->BT.mG x h=ah->aS me x ws h2=aa r->(∃σ s,RS X.prog X.w X.K m H σ s/\∃O,aK F G o s O=aa (x,h))->tyV X.K "list" v H:=by intro m h h2 H v x ws r R J ok e _;obtain⟨n,rfl⟩:=T9 L e;exact ty_list R J ok
def Uc{X:Cx}{o:aV}:∀(m:List VS)(h h2:aL)(H:Hp)(v:V) (x:aM) ws r,RH X.K m H h->RW X.prog X.w X.K m H v x->BT.mG x h=ah->aS .sindex x ws h2=aa r->(∃σ s,RS X.prog X.w X.K m H σ s/\∃L,aK F G o s L=aa (x,h))->tyV X.K "str" v H:=by
 intro m h h2 H v x ws r R J _ e _;cases x with
 |p d =>
  rw[BT.qI]at e;cases g:bw ws with
  |none=>rw[g]at e;exact cW e
  |some U =>
   rw[g]at e;obtain⟨b,O,W⟩:=dO e;cases d with
   |str y=>cases J with|p r=>cases r;exact rfl
   |_=>cases U<;>exact cW O
 |_=>cases ws<;>(first|exact cW e|simp[aS]at e)
def P7{X:Cx}{me:BT.Me}(O:me=.count\/me=.lindex){o:aV}:∀(m:List VS)(h h2:aL)(H:Hp)(v:V) (x:aM) ws r,RH X.K m H h->RW X.prog X.w X.K m H v x->BT.mG x h=ah->aS me x ws h2=aa r->(∃σ s,RS X.prog X.w X.K m H σ s/\∃Y,aK F G o s Y=aa (x,h))->tyV X.K "list" v H:=by
 intro m h h2 H v x ws r R W _ e _;have J:∃L,x=.p (.aj L):=by
  cases x with
  |p d =>
   rw[v7]at e;cases g:bw ws with
   |none=>rw[g]at e;exact cW e
   |some c =>
    rw[g]at e;obtain⟨b,Z,f⟩:=dO e;cases d with
    |aj y=>exact⟨y,rfl⟩
    |_=>rcases O with rfl|rfl<;>cases c<;>exact cW Z
  |_=>rcases O with rfl|rfl<;>cases ws<;>(first|exact cW e|simp[aS]at e)
 obtain⟨L,rfl⟩:=J;cases W with
 |p r =>
  cases r with
  |@aj a U _ h _=>exact .inl ⟨rfl,U,LL.sq (h.elim (λq=>.inl q.1) .inr)⟩
def Ud(σ:L2.St)(H:Hp)(Q:Bool->Hp->Prop)(q:tDT X F G e σ H Q):tB (tD X F G e) σ H Q:=by obtain⟨m,s,O,b,U,R,S,V,J⟩:=q;refine⟨m,s,O,_,U,R,S,V,λv Y L x W r=>?_⟩;exact⟨b,oM r,J Y L x W⟩
def XE(F:FT)(G:az->Option aM)(X:Cx)(e':aV)(e:VI):Prop:=PE X e (tD X F G e')/\(tOK e'=ah->PT X e (tDT X F G e')/\∀L J p,e=.BoolOp L J p->PW X e (tDT X F G e'))
def XO(F:FT)(G:az->Option aM)(X:Cx)(J:aW)(o:Option VI):Prop:=∃t,PO X o t ∧
 ∀O H (Q:Option Int->Hp->Prop),(∃m s h l U W,RH X.K m H h/\RS X.prog X.w X.K m H O s/\aU F G J s h=aa (U,W)/\(bw U).bind BT.ud=aa l/\∀L V,Ext m H V L->RH X.K V L W->Q l L)->t O H Q
def gq(p:PE X e (tD X F G e'))(U:∀L vs q,e≠.BoolOp L vs q)(O:∀J,isTrue e X.env J=(do let v ←J;aau e.pos;Y8 [v] (truthy v)):=by intro _;rfl):XE F G X e' e :=
 ⟨p,λ_=>⟨PT.weak (JY p O) Ud,λL vs q z=>bM z (U L vs q)⟩⟩
def L6:XO F G X .nil af:=⟨_,Gy,fun L H Q q=>by obtain⟨m,s,h,l,O,U,R,S,e1,e2,J⟩:=q;simp only[aU]at e1;cases e1;simp[bw,BT.ud]at e2;subst e2;exact J H m (.refl _ _) R⟩
def L7(W:PE X e (tD X F G a)):XO F G X (.cons a .nil) (aa e):=by
 refine⟨_,Gz W,fun d H Q q=>?_⟩;obtain⟨m,s,h,l,f,Y,R,S,e1,e2,L⟩:=q;simp only[aU]at e1;obtain⟨x,g,Z,J⟩:=dj e1;simp only[BT.nF,BT.dZ,BT.ko]at J;cases J;refine⟨m,s,h,x,Y,R,S,Z,λv c V O b U=>?_⟩;cases U with
 |p r =>
  cases r<;>simp[bw,BT.ud]at e2;subst e2;exact⟨_,rfl,L c V O b⟩
 |_=>simp[bw]at e2
def m6(Z:PE X e (tD X F G a))(Y:noStar e=ah):PA X [e] (tDs X F G (.cons a .nil)) :=
 PA.weak (gX Z mS (dh Y)) fun J H Q q=>by obtain⟨m,s,h,O,b,R,S,c,L⟩:=cons_of J H Q q;exact⟨m,s,h,O,b,R,S,c,λv f W U d V=>kE (L v f W U d V)⟩
def En(U:PE X e (tD X F G a))(O:PE X f (tD X F G b))(L:noStar e=ah)(J:noStar f=ah):PA X [e,f] (tDs X F G (.cons a (.cons b .nil))) :=
 PA.weak (gX U (m6 O J) (dh L)) cons_of
def P8(sc:Wv)(J:VI)(o:aV):Prop:=∃x p,o=.aD x/\J=.Name x p/\d7 sc x=ah/\dR x=ah
def Ue(sc:Wv):Tq->Prop
 |.e o J=>yf o=ai\/P8 sc J o|_=>True
def HC(h:CQ sc N t):Ue sc t:=by
 induction h with
 |aD J hn=>exact .inr ⟨_,_,rfl,rfl,J,hn⟩
 |_=>first|exact .inl rfl|exact XN
def L8(h:CE' sc N o oe):yf o=ai\/P8 sc oe o:=HC h
def sMe(O:Ok X F G sc N)(h1:Ld m o=ah)(h2:name=Dw m)(Y:eH oe=ah)(V:(apos.endLine==cpos.line)=ah)(U:es.length<20)(Z:CE' sc N o oe)(J:CEs sc N as es)(W:PE X oe (tD X F G o))(L:PA X es (tDs X F G as)):
 PE X (.Call (.Attribute oe name apos) es [] cpos) (tD X F G (.me m o as)):=by
 subst h2;cases m with
 |append=>exact oO (sc:=sc) (N:=N) WH Yx Yw Bp Y V U W J L (L5 (.inl rfl))|pop=>exact oO (sc:=sc) (N:=N) WH PySem.F.slot_list_pop PySem.F.type_list_pop Lp Y V U W J L (L5 (.inr (.inl rfl)))|extend=>exact oO (sc:=sc) (N:=N) WH PySem.F.slot_list_extend PySem.F.type_list_extend Bq Y V U W J L (L5 (.inr (.inr rfl)))|sindex=>exact oO (sc:=sc) (N:=N) PySem.F.plainAttrs_str PySem.F.slot_str_index PySem.F.type_str_index Bs Y V U W J L Uc
 |tindex =>
  rcases L8 Z with z|⟨x,p,rfl,rfl,hg,hn⟩
  exact Bool.noConfusion (z.symm.trans h1);exact BE O hg hn V U J L
 |dget=>simp[Ld]at h1|count=>exact oO (sc:=sc) (N:=N) WH PySem.F.slot_list_count PySem.F.type_list_count (D8 O.hu) Y V U W J L (P7 (.inl rfl))|lindex=>exact oO (sc:=sc) (N:=N) WH PySem.F.slot_list_index PySem.F.type_list_index (Bw O.hu) Y V U W J L (P7 (.inr rfl))
def sIe(O:Ok X F G sc N)(U:d7 sc "enumerate"=ah)(J:noStar x=ah)(V:PE X x (tD X F G a))(hz:pq .enu tg=ah):PI X tg (.Call (.Name "enumerate" p) [x] [] pos) (iD X F G .enu (.cons a .nil)):=by
 cases tg with
 |Tuple L Y W=>exact Hy O U J (m6 V J)|_=>exact aR hz
def P9(L:PE X (.BoolOp .And (x::r) p) (tD X F G (.and a b)))(w:tOK (.and a b)=ah->PW X (.BoolOp .And (x::r) p) (tDT X F G (.and a b))):XE F G X (.and a b) (.BoolOp .And (x::r) p) :=
 ⟨L,λJ=>⟨(w J).pt,λ_ _ _ e=>by cases e;exact w J⟩⟩
def sOr(L:PE X (.BoolOp .Or (x::r) p) (tD X F G (.or a b)))(w:tOK (.or a b)=ah->PW X (.BoolOp .Or (x::r) p) (tDT X F G (.or a b))):XE F G X (.or a b) (.BoolOp .Or (x::r) p) :=
 ⟨L,λJ=>⟨(w J).pt,λ_ _ _ e=>by cases e;exact w J⟩⟩
def qh(h:tOK (.and a b)=ah):tOK a=ah/\tOK b=ah:=by have h:(tOK a&&tOK b)=ah:=h;simpa only[VH]using h
def uK(h:tOK (.or a b)=ah):tOK a=ah/\tOK b=ah:=by have h:(tOK a&&tOK b)=ah:=h;simpa only[VH]using h
def MX(F:FT)(G:az->Option aM)(sc:Wv)(N:List az):Tq->Prop
 |.e W e=>∀(X:Cx),Ok X F G sc N->XE F G X W e|.es Y es=>∀(X:Cx),Ok X F G sc N->PA X es (tDs X F G Y)|.o L o=>∀(X:Cx),Ok X F G sc N->XO F G X L o|.c cond J=>rA F G sc N cond J|.i U V iter=>∀(X:Cx),Ok X F G sc N->∀(O:VI),pq U O=ah->PI X O iter (iD X F G U V)
def sQ(h:CQ sc N t):MX F G sc N t:=by
 refine @CQ.rec (λsc N t _=>MX F G sc N t)
  (λx n a X O=>gq (zD O x n a) (λ_ _ _ z=>nomatch z))
  (λh X O=>gq (G4 h) (λ_ _ _ z=>nomatch z))
  (λn a X O=>gq (G5 O n a) (λ_ _ _ z=>nomatch z))
  (λh _ _ J U X O=>gq (PE.weak (Jm (opB h) (J _ O).1 (U _ O).1) (oK λs h=>by simp only[aK])) (λ_ _ _ z=>nomatch z))
  (λ_ J X O=>gq (PE.weak (Jo CH (J _ O).1) Lz) (λ_ _ _ z=>nomatch z))
  (λ_ J X O=>⟨PE.weak (J1 (J _ O).1) G9,λV=>⟨PT.weak (J0 ((J _ O).2 V).1) G8,λ_ _ _ e=>nomatch e⟩⟩)
  (λ_ _ J U X O=>P9 (PE.weak (Cu (J _ O).1 (Ct (U _ O).1)) zH) λV=>PW.weak (Cs ((J _ O).2 (qh V).1).1 (Ge ((U _ O).2 (qh V).2).1)) zI)
  (λ_ _ J U X O=>P9 (PE.weak (Cu (J _ O).1 (U _ O).1) zH) λV=>PW.weak (Cs ((J _ O).2 (qh V).1).1 (((U _ O).2 (qh V).2).2 _ _ _ rfl)) zI)
  (λ_ _ J U X O=>sOr (PE.weak (Jl (J _ O).1 (Ct (U _ O).1)) DT) λV=>PW.weak (Ji ((J _ O).2 (uK V).1).1 (JZ ((U _ O).2 (uK V).2).1)) DU)
  (λ_ _ J U X O=>sOr (PE.weak (Jl (J _ O).1 (U _ O).1) DT) λV=>PW.weak (Ji ((J _ O).2 (uK V).1).1 (((U _ O).2 (uK V).2).2 _ _ _ rfl)) DU)
  (λh _ _ l J U X O=>⟨PE.weak (Gp (opC O h) (J _ O).1 (U _ O).1 l) (oK λs h=>by simp only[aK]),λ_=>⟨PT.weak (Gq (opC O h) (J _ O).1 (U _ O).1 l) (wg (oK λs h=>by simp only[aK])),λ_ _ _ e=>nomatch e⟩⟩)
  (λh A _ _ _ l J U f X O=>⟨PE.weak (CM (opC O h) (opC O A) (J _ O).1 (U _ O).1 (f _ O).1 l) wj,λ_=>⟨PT.weak (CO (opC O h) (opC O A) (J _ O).1 (U _ O).1 (f _ O).1 l) (wg wj),λ_ _ _ e=>nomatch e⟩⟩)
  (λh _ _ _ f J U X O=>⟨PE.weak (Cv ((f _ O).2 h).1 (J _ O).1 (U _ O).1) Ly,λV=>nomatch V⟩)
  (λ_ J X O=>⟨PE.weak (Kr (J _ O)) LF,λV=>nomatch V⟩)
  (λ_ J X O=>⟨PE.weak (CW (J _ O)) LG,λV=>nomatch V⟩)
  (λ_ _ L J i X O=>gq (PE.weak (Jq Lo (J _ O).1 (i _ O).1 (we L)) (oK λs h=>by simp only[aK])) (λ_ _ _ z=>nomatch z))
  (λ_ _ _ J D B X O=>gq (by
   obtain ⟨tl,v,u⟩:=D _ O;obtain ⟨S,r,p⟩:=B _ O;exact PE.weak (C3 osl (J _ O).1 v r) (LC u p)) (λ_ _ _ z=>nomatch z))
  (λW hn Z J X O=>gq (DV O W hn Z (J _ O)) (λ_ _ _ z=>nomatch z))
  (λj c W L _ J X O=>gq (LD O j c W (by simp[dB,L]) (m6 (J _ O).1 L)) (λ_ _ _ z=>nomatch z))
  (λc W b L _ J X O=>gq (DW O c W b L (J _ O).1) (λ_ _ _ z=>nomatch z))
  (λI hn W b L _ J X O=>gq (Ho O I hn W b L (J _ O).1) (λ_ _ _ z=>nomatch z))
  (λx n a d m K Z g J X O=>gq (sMe O x n a d m K Z (g _ O).1 (J _ O)) (λ_ _ _ z=>nomatch z))
  (λj w V o L _ _ _ i f E X O=>⟨HA O j w V L (i _ O _ o) f λP y=>(E _ y).1,λV=>nomatch V⟩)
  (λc M _ J X O=>gq (Hg (sc:=sc) (N:=N) c M (J _ O).1) (λ_ _ _ z=>nomatch z))
  (λa d m _ Z g J X O=>gq (DY O a d m (g _ O).1 Z (J _ O)) (λ_ _ _ z=>nomatch z))
  (λw _ J X O=>gq (Hh w (J _ O).1) (λ_ _ _ z=>nomatch z))
  (λj c W k Y _ _ J U X O=>gq (Hi O j c W (by simp[dB,k,Y]) (En (J _ O).1 (U _ O).1 k Y)) (λ_ _ _ z=>nomatch z))
  (λW hn Z J X O=>gq (DZ O W hn Z (J _ O)) (λ_ _ _ z=>nomatch z))
  (λ_ _ J U X O=>gq (PE.weak (Jm Lh (J _ O).1 (U _ O).1) (oK λs h=>by simp only[aK])) (λ_ _ _ z=>nomatch z))
  (λL _ J X O=>⟨PE.weak (CW (m6 (J _ O).1 L)) LY,λV=>nomatch V⟩)
  (λa d L _ _ g J X O=>gq (L3 a d L (g _ O).1 (m6 (J _ O).1 L)) (λ_ _ _ z=>nomatch z))
  (λ_ _ L J i X O=>gq (PE.weak (Jq LZ (J _ O).1 (i _ O).1 (we L)) (oK λs h=>by simp only[aK])) (λ_ _ _ z=>nomatch z))
  (λW L _ J X O=>gq (L0 O W L (m6 (J _ O).1 L)) (λ_ _ _ z=>nomatch z))
  (λW hn d m Z J X O=>gq (L4 O W hn d m (gP Z) (J _ O)) (λ_ _ _ z=>nomatch z))
  (λX O=>PA.weak mS fun R H Q q=>kE q)
  (λL _ _ J C X O=>PA.weak (gX (J _ O).1 (C _ O) (dh L)) cons_of)
  (λX O=>L6)
  (λ_ J X O=>L7 (J _ O).1)
  (.inl ⟨rfl,rfl⟩)
  (λV _ J=>.inr ⟨_,_,rfl,rfl,λP y=>((J _ y).2 V).1⟩)
  (λW L _ J X O _ _=>Ed O W L (m6 (J _ O).1 L))
  (λW L Y _ _ J U X O _ _=>Ef O W L Y (En (J _ O).1 (U _ O).1 L Y))
  (λW L _ J X O _ _=>Hv O W L (J _ O).1)
  (λW L _ J X O _ o=>sIe O W L (J _ O).1 o)
  (λ_ J X O _ _=>Hu (J _ O).1)
  sc N t h
def sE(h:CE' sc N e' e)(O:Ok X F G sc N):PE X e (tD X F G e'):=(sQ h X O).1
def sT(h:CE' sc N e' e)(O:Ok X F G sc N)(L:tOK e'=ah):PT X e (tDT X F G e')/\∀J vs p,e=.BoolOp J vs p->PW X e (tDT X F G e'):=(sQ h X O).2 L
def sCC{cond:aW}(h:CC sc N cond ifs):rA F G sc N cond ifs:=sQ h
def sCI(h:CI sc N sr sa iter)(O:Ok X F G sc N)(hz:pq sr tg=ah):PI X tg iter (iD X F G sr sa):=sQ h X O tg hz
end
end BS
end
section
namespace BS
open PySem PySem.Spec PyProof.Rows L2
open Classical in
section
end
section
variable{F:FT}{G:az->Option aM}
section
variable{X:Cx}{cl:List (az×VS)}{H3 H5:Hp}{s3 s5:VG}{m2 m5:List VS}
end
end
end BS
end
section
namespace BS
open PySem PySem.Spec PyProof.Rows L2
variable{K:VE}{st:V2}{xe':aA->VG->Prop}
noncomputable def lJ:VI->Bool
 |.ListComp _ _ _ _=>ai|.SetComp _ _ _ _=>ai|.DictComp _ _ _ _ _=>ai|_=>ah
noncomputable def swB(sc scope:Wv)(x:az)(J pos:Pos):Bool :=
 (if sc.kind.isAnnotationScope then ScopeKind.function else sc.kind)==.function&&sc.names.lookup x==aa .local&&J.line==pos.line&&!(scope.names.any λ(n,k)=>n==x&&(k==.local||k==.cell))
mutual
inductive CS(sc:Wv)(N:List az):BT.S->V2->Prop
 |setc{i:Nat}{x:az}{mu:Bool}{V:bC}{W:aW}{tg:List az}{U:List (Nat×az)}{cond:aW}{L:aV}{te iter J:VI}{O:List VI}{scope:Wv}{pos Y p:Pos}(hu:gk N=ah)(h1:N[i]?=aa x)(h3:(sc.names.lookup x==aa .cell||swB sc scope x Y pos)=ah)
  (hk:ku sc N tg U scope=ah) (ht:qR (fc scope sc) tg te=ah) (hz:pq V te=ah) (Z:jQ iter=ah) (hi:CI sc N V W iter) (hc:CC (fc scope sc) (tg++U.map (·.2)) cond O) (he:CE' (fc scope sc) (tg++U.map (·.2)) L J) :
  CS sc N (.set i (.comp mu V W tg U cond L)) (.Assign [.Name x Y] (.ListComp J [⟨te,iter,O,0⟩] scope pos) p)
 |set{i:Nat}{x:az}{e:aV}{v:VI}{J p:Pos}(h1:N[i]?=aa x)(h2:qY sc x=ah)(L:lJ v=ah)(O:CE' sc N e v):CS sc N (.set i e) (.Assign [.Name x J] v p)
 |unp{tg:List (Nat×az)}{e:aV}{es:List VI}{k:Nat}{L:VI}{args:List VI}{kw:List YU}{J O p:Pos}(W:gk N=ah)(U:CT sc N tg (.Tuple es k J))(V:CE' sc N e (.Call L args kw O)):CS sc N (.unp tg e) (.Assign [.Tuple es k J] (.Call L args kw O) p)
 |put{i:Nat}{x:az}{k e:aV}{J v:VI}{L sp p:Pos}(h1:N[i]?=aa x)(h2:vY sc x=ah)(O:dR x=ah)(U:lJ v=ah)(Y:nJ J=ah)(W:CE' sc N k J)(V:CE' sc N e v):CS sc N (.put i k e) (.Assign [.Subscript (.Name x L) J sp] v p)
 |aug{i:Nat}{x:az}{o:bE}{J:Zt}{e:aV}{v:VI}{L p:Pos}(h1:N[i]?=aa x)(h2:qY sc x=ah)(O:D3 o J=ah)(U:CE' sc N e v):CS sc N (.aug i o e) (.AugAssign (.Name x L) J v p)
 |setf{o e:aV}{f:az}{J v:VI}{L p:Pos}(h1:attrName f=ah)(h2:lJ v=ah)(O:CE' sc N o J)(U:CE' sc N e v):CS sc N (.setf o f e) (.Assign [.Attribute J f L] v p)
 |augf{o e:aV}{f:az}{b:bE}{J:Zt}{L v:VI}{O p:Pos}(h1:attrName f=ah)(V:D3 b J=ah)(U:CE' sc N o L)(W:CE' sc N e v):CS sc N (.augf o f b e) (.AugAssign (.Attribute L f O) J v p)
 |ex{e:aV}{v:VI}{p:Pos}(h:lJ v=ah)(J:CE' sc N e v):CS sc N (.ex e) (.Expr v p)
 |ret{e:aV}{v:VI}{p:Pos}(J:CE' sc N e v):CS sc N (.ret e) (.Return (aa v) p)
 |v{c:aV}{a b:BT.S}{t:VI}{xs ys:List V2}{p:Pos}(h:tOK c=ah)(hc:CE' sc N c t)(L:CSs sc N a xs)(J:CSs sc N b ys):CS sc N (.v c a b) (.If t xs ys p)
 |j{c:aV}{b:BT.S}{t:VI}{xs:List V2}{p:Pos}(h:tOK c=ah)(hc:CE' sc N c t)(J:CSs sc N b xs):CS sc N (.j c b) (.While t xs [] p)
 |for{tg:List (Nat×az)}{J:bC}{L:aW}{b:BT.S}{te iter:VI}{xs:List V2}{p:Pos}(W:gk N=ah)(V:CT sc N tg te)(hi:CI sc N J L iter)(hz:pq J te=ah)(O:jQ iter=ah)(U:CSs sc N b xs):CS sc N (.for tg J L b) (.For te iter xs [] p)
 |bad{st:V2}:CS sc N .bad st
 |rai{st:V2}{c:az}{e:aV}:CS sc N (.rai c e) st
 |rai2{st:V2}{c:az}{a e:aV}:CS sc N (.rai2 c a e) st
 |tryr{e:aV}{v:VI}{p q:Pos}{L:Z2}{J:List Z2}(O:CE' sc N e v):CS sc N (.ret e) (.Try [.Return (aa v) p] (L::J) [] [] q)
inductive CSs(sc:Wv)(N:List az):BT.S->List V2->Prop
 |nil:CSs sc N .nil []
 |one{s:BT.S}{st:V2}(h:CS sc N s st):CSs sc N s [st]
 |cons{a b:BT.S}{st J:V2}{r:List V2}(h:CS sc N a st)(L:CSs sc N b (J::r)):CSs sc N (.seq a b) (st::J::r)
end
def nP(X:Cx)(m:List VS)(H:Hp)(W:BT.Fl)(D:Ends):Prop:=match W with
 |.nx V U=>∀L J O,Ext m H O J->RH X.K O J U->RS X.prog X.w X.K O J L V->D.nx L J|.rt z U=>∀v J O,Ext m H O J->RH X.K O J U->RW X.prog X.w X.K O J v z->D.rt v J|.bk V U=>∀L J O,Ext m H O J->RH X.K O J U->RS X.prog X.w X.K O J L V->D.bk L J|.ct V U=>∀L J O,Ext m H O J->RH X.K O J U->RS X.prog X.w X.K O J L V->D.ct L J
def nP.ext{D:Ends}(x:Ext m H m' H')(p:nP X m H fl D):nP X m' H' fl D:=by cases fl<;>exact λa b c y=>p a b c (x.trans y)
inductive tDS(X:Cx)(F:FT)(G:az->Option aM)(S:BT.S)(D:Ends)(σ:L2.St)(H:Hp):Prop
 |mk(m:List VS)(s:bf)(h:aL)(J:BT.Fl)(R:RH X.K m H h)(r:RS X.prog X.w X.K m H σ s)(e:aP F G S s h=aa J)(p:nP X m H J D):tDS X F G S D σ H
def PS.weak(h:PS X st t)(q:∀D σ H,t' D σ H->t D σ H):PS X st t':=λJ s σ H D I hw=>h J s σ H D I (q _ _ _ hw)
def PSs.weak{st:List V2}(h:PSs X st t)(q:∀D σ H,t' D σ H->t D σ H):PSs X st t':=λJ s σ H D I hw=>h J s σ H D I (q _ _ _ hw)
section
def Eo(D:Ends)(σ:L2.St)(H:Hp)(q:tDS X F G (.seq a b) D σ H):N9 (tDS X F G a) (tDS X F G b) D σ H:=by
 obtain⟨m,s,h,Z,R,S,e,J⟩:=q;simp only[aP]at e;cases g:aP F G a s h with
 |none=>rw[g]at e;exact cW e
 |some L =>
  rw[g]at e;refine⟨m,s,h,L,R,S,g,?_⟩;cases L with
  |nx V Y=>exact fun O f W U d c=>⟨W,V,Y,Z,d,c,e,J.ext U⟩
  |_=>cases e;exact J
def nQ{X:Cx}{U:BT.S}{a:aV}{k:bf->aM->aL->Option BT.Fl}(c:∀s h,aP F G U s h=bD (aK F G a s h) (k s)){D:Ends}{σ:L2.St}{H:Hp}(q:tDS X F G U D σ H){W:V->Hp->Prop}
(h1:∀m s h x J v H1,RH X.K m H1 h->RS X.prog X.w X.K m H1 σ s->RW X.prog X.w X.K m H1 v x->k s x h=aa J->nP X m H1 J D->W v H1):tD X F G a σ H W:=by
 obtain⟨m,s,h,J,R,S,O,Y⟩:=q;rw[c]at O;obtain⟨x,g,e1,e2⟩:=dj O;exact⟨m,s,h,x,g,R,S,e1,λv H1 b L d Z=>h1 b s g x J v H1 d (S.ext L) Z e2 (Y.ext L)⟩
def zV(h:BT.tst x k=aa fl):∃b g,x=aa (.p (.bl b),g)/\k b g=aa fl:=by
 unfold BT.tst at h;obtain⟨w,g,e1,e2⟩:=dj h;unfold BT.Pi at e2;cases w with
 |p d =>
  cases d<;>simp only at e2<;>try contradiction
  exact⟨_,g,e1,e2⟩
 |_=>exact cW e2
def kG(h:lJ e=ah):YC e t l env=pure ai:=by cases e<;>first|rfl|exact aR h
def HD(h:lJ e=ah):swapsWithSole [t] e l env=pure ai:=kG h
def ym(h:nJ i=ah):∀ v,ZW (.Subscript o i pos) env v=(do
 let ov ←Y8 [v] (eval o env)
 let iv ←Y8 [v,ov] (eval i env)
 aau pos
 Y8 [v,ov,iv] (setItem ov iv v)
 release [v,ov,iv] []):=by
 intro v;cases i<;>first|rfl|exact aR h
def Ma(D:Ends)(σ:L2.St)(H:Hp)(q:tDS X F G (.j c b) D σ H):CB (tDT X F G c) (tDS X F G b) D σ H:=by
 obtain⟨A,s,h,o,R,S,e,L⟩:=q;simp only[aP]at e;refine⟨λn σ H=>∃m s h,RH X.K m H h/\RS X.prog X.w X.K m H σ s/\BT.eU (aK F G c) (aP F G b) n s h=aa o/\nP X m H o D,⟨BT.turns,A,s,h,R,S,e,L⟩,?_⟩
 rintro n σ1 H1 ⟨m,s,h,R,S,e,L⟩
 cases n with
 |zero=>exact cW e
 |succ n =>
  rw[BT.eU]at e;obtain⟨t,g,e1,e2⟩:=zV e;refine⟨m,s,h,t,g,R,S,e1,λB u U R2=>?_⟩;cases t with
  |false =>
   rw[BT.lA]at e2;cases e2;rw[bL (by decide)];exact L σ1 B u U R2 (S.ext U)
  |true =>
   rw[BT.kq]at e2;rw[bK rfl];refine⟨fun Y p=>∃Z k l,RH X.K Z p l/\RS X.prog X.w X.K Z p Y k/\BT.eU (aK F G c) (aP F G b) n k l=aa o/\nP X Z p o D,fun Y p ⟨Z,k,l,a1,a2,a3,a4⟩=>⟨n,W8 n,Z,k,l,a1,a2,a3,a4⟩,?_⟩;cases r:aP F G b s g with
   |none=>rw[r]at e2;exact cW e2
   |some x =>
    rw[r]at e2;refine⟨u,s,g,x,R2,S.ext U,r,?_⟩;cases x with
    |nx i a=>exact fun J f V O W d=>⟨V,i,a,W,d,e2,(L.ext U).ext O⟩
    |ct i a=>exact fun J f V O W d=>⟨V,i,a,W,d,e2,(L.ext U).ext O⟩
    |bk i a=>cases e2;exact fun J f V O W d=>L J f V (U.trans O) W d
    |rt z a=>cases e2;exact λv f V O W y=>L v f V (U.trans O) W y
def Mb(D:Ends)(σ:L2.St)(H:Hp)(q:tDS X F G (.aug i o e) D σ H):Oh i (tD X F G e) (LH o) D σ H:=by
 obtain⟨m,s,h,r,R,S,Y,Z⟩:=q;simp only[aP]at Y;obtain⟨y,g,e1,e2⟩:=dj Y;unfold BT.Pu at e2;have n:∃d V z,s[i]?=aa (aa (.p d))/\y=.p V/\BT.qF o d V=aa z/\r=.nx (s.set i (aa (.p z))) g:=by
  cases J:s[i]? with
  |none=>rw[J]at e2;cases y<;>exact cW e2
  |some f =>
   cases f with
   |none=>rw[J]at e2;cases y<;>exact cW e2
   |some c =>
    rw[J]at e2;cases c<;>cases y<;>simp only at e2<;>try contradiction
    obtain⟨z,L,t⟩:=dO e2;exact⟨_,_,z,rfl,rfl,L,t.symm⟩
 obtain⟨d,V,z,J,rfl,L,rfl⟩:=n;obtain⟨a,b,k,rfl,rfl,rfl⟩:=zL L;obtain⟨v,l,O⟩:=S.get i _ J;have ev:v=.int a:=by cases O with|p O=>cases O;rfl
 subst ev;refine⟨_,l,m,s,h,_,g,R,S,e1,λu x j W w U=>?_⟩;cases U with
 |p U =>
  cases U;exact⟨a,b,k,rfl,rfl,L,Z _ x j W w ((S.ext W).set (.p (.int k)))⟩
def BH(e:BT.uu s f v x h=aa fl):∃n c fs,x=.o n/\bz h n=aa (c,fs)/\BT.attrOk v=ah/\fs.length<1000/\fl=.nx s (h.set n (.o c (BT.fR f v fs))):=by
 cases x with
 |o n =>
  rw[BT.Dq]at e;cases g:bz h n with
  |none=>rw[g]at e;exact cW e
  |some q =>
   obtain⟨c,fs⟩:=q;rw[g]at e;simp only at e;obtain⟨J,e⟩:=dP e;cases e;simp only[VH,bN]at J;exact⟨n,c,fs,rfl,g,J.1,J.2,rfl⟩
 |_=>exact cW e
def wA{D:Ends}(R:RH X.K m H h)(S:RS X.prog X.w X.K m H σ s)(hn:m[n]?=aa a)(h1:H a=aa (.ins C dx vs))(h2:pA X.K c C)(L:RFs X.K m H vs fs)(ra:RA X.K m H v y)
(J:nP X m H (.nx s (h.set n (.o c (BT.fR f y fs)))) D):D.nx σ (upd H a (.ins C dx (L2.fR f v vs))):=by
 have x:Ext m H m (upd H a (.ins C dx (L2.fR f v vs))):=qU (V0 hn) ⟨_,h1,rfl⟩;exact J σ _ m x (R.setC hn ⟨_,h1,rfl⟩ ⟨C,dx,_,eY,h2,(RFs.put ra L).ext x⟩) (S.ext x)
def HE{X:Cx}{o e:aV}{f:az}(b:attrName f=ah)(D:Ends)(σ:L2.St)(H:Hp)(q:tDS X F G (.setf o f e) D σ H):Ou X.K (tD X F G o) (tD X F G e) f D σ H:=by
 refine nQ (k:=λs=>BT.Dr (aK F G o s) s f) (λs h=>by simp only[aP]) q λm s h y p v w R S r e1 V=>?_;rw[BT.Ds]at e1;obtain⟨x,g,e2,i⟩:=dj e1;obtain⟨n,c,fs,rfl,d,ok,Z,rfl⟩:=BH i;refine⟨m,s,h,.o n,g,R,S,e2,λu t l J R2 Y=>?_⟩;cases Y with
 |@o a _ hn =>
  obtain⟨C,j,W,U,L,O⟩:=R2.tw _ _ _ _ hn d;exact⟨a,C,j,W,rfl,U,L.cls,L.no f b,by rw[O.length];exact Z,wA R2 (S.ext J) hn U L O ((r.ext J).ra ok) (V.ext J)⟩
def Ep(e:BT.zw ee s f op x h=aa fl):∃n c fs d y g fs' z,x=.o n/\bz h n=aa (c,fs)/\BT.eN f fs=aa (.p d)/\ee h=aa (.p y,g)/\bz g n=aa (c,fs')/\BT.qF op d y=aa z/\fs'.length<1000/\fl=.nx s (g.set n (.o c (BT.fR f (.p z) fs'))):=by
 cases x with
 |o n =>
  rw[BT.GR]at e;cases U:bz h n with
  |none=>rw[U]at e;exact cW e
  |some q =>
   obtain⟨c,fs⟩:=q;rw[U]at e;simp only at e;cases O:BT.eN f fs with
   |none=>rw[O]at e;exact cW e
   |some W =>
    rw[O]at e;cases W with
    |p d =>
     simp only at e;obtain⟨y,g,e1,e2⟩:=dj e;cases y with
     |p y =>
      rw[BT.Dt]at e2;cases L:bz g n with
      |none=>rw[L]at e2;exact cW e2
      |some q =>
       obtain⟨Y,fs'⟩:=q;rw[L]at e2;simp only at e2;cases J:BT.qF op d y with
       |none=>rw[J]at e2;exact cW e2
       |some z =>
        rw[J]at e2;simp only at e2;obtain⟨V,e2⟩:=dP e2;cases e2;obtain⟨rfl,V⟩:=V;exact⟨n,Y,fs,d,y,g,fs',z,rfl,U,O,e1,L,J,V,rfl⟩
     |_=>exact cW e2
    |_=>exact cW e
 |_=>exact cW e
def HF{X:Cx}{o e:aV}{f:az}{b:bE}(I:attrName f=ah)(D:Ends)(σ:L2.St)(H:Hp)(q:tDS X F G (.augf o f b e) D σ H):y9 X.K (tD X F G o) (tD X F G e) (LH b) f D σ H:=by
 refine nQ (k:=λs=>BT.zw (aK F G e s) s f b) (λs h=>by simp only[aP]) q λm s h y fl v H1 R S r e1 w=>?_;obtain⟨n,c,fs,d,y,g,Q,z,rfl,P,N,e2,M,t,E,rfl⟩:=Ep e1;obtain⟨i,j,k,rfl,rfl,rfl⟩:=zL t;cases r with
 |@o a _ hn =>
  obtain⟨C,dx,x,B,U,A⟩:=R.tw _ _ _ _ hn P;obtain⟨u,l,ra⟩:=A.get N;have T:u=.int i:=by cases ra with|p ra=>cases ra;rfl
  subst T;refine⟨a,C,dx,x,_,rfl,B,U.cls,U.no f I,l,m,s,h,_,g,R,S,e2,λu2 H2 m2 J R2 O=>?_⟩;cases O with
  |p O =>
   cases O;obtain⟨C',V,L,Z,Y,W⟩:=R2.tw _ _ _ _ (J.ix hn) M;cases Y.cn.inj U.cn;exact⟨i,j,k,rfl,rfl,t,V,L,Z,by rw[W.length];exact E,wA R2 (S.ext J) (J.ix hn) Z Y W (.p (.int k)) (w.ext J)⟩
def Mc{X:Cx}{i:Nat}{k e:aV}(D:Ends)(σ:L2.St)(H:Hp)(q:tDS X F G (.put i k e) D σ H):Cy (tD X F G e) (Og (tD X F G (.v i)) (tD X F G k) Jr) D σ H:=by
 refine nQ (k:=λs=>BT.Lb (aK F G k s) s i) (λs h=>by simp only[aP]) q λm s h y K v N R S r e1 A=>?_;unfold BT.Lb at e1;cases y with
 |p d =>
  cases g:s[i]? with
  |none=>rw[g]at e1;exact cW e1
  |some o =>
   cases o with
   |none=>rw[g]at e1;exact cW e1
   |some B =>
    cases B with
    |r n =>
     rw[g]at e1;simp only at e1;obtain⟨q,w,e2,J⟩:=dj e1;refine⟨m,s,h,.r n,h,R,S,by simp only[aK,g],λo M E O R2 C=>⟨E,s,h,q,w,R2,S.ext O,e2,λI z Y L x U=>?_⟩⟩;unfold BT.Jx at J;cases q with
     |p dk =>
      cases c:aZ w n with
      |none=>rw[c]at J;cases dk<;>exact cW J
      |some f =>
       rw[c]at J;cases dk with
       |int j =>
        simp only at J;cases b:BT.place f.length j with
        |none=>rw[b]at J;exact cW J
        |some W =>
         rw[b]at J;cases J;have V:=C.ext L;cases V with
         |@r a _ hn =>
          cases U with
          |p U =>
           cases U;obtain⟨t,Z,u⟩:=x.cell n a f hn c;refine⟨a,t,j,W,rfl,rfl,Z,by rw[u.length];exact b,?_⟩;have l:Ext Y z Y (upd z a (.aj (t.set W v))):=jn (V0 hn) Z;cases r with
           |p r=>exact A σ _ Y ((O.trans L).trans l) (x.set hn Z (RDs.set ((r.ext O).ext L) W u)) (((S.ext O).ext L).ext l)
       |_=>exact cW J
     |_=>exact cW J
    |_=>rw[g]at e1;exact cW e1
 |_=>exact cW e1
end
noncomputable def cxT(X:Cx)(zt:List (VS×aq))(xe':aA->VG->Prop):Cx:={X with pn:=X.pn++zt,xe:=xe'}
def Er{X:Cx}{zt:List (VS×aq)}{σ:L2.St}{H:Hp}{s:VG}(I:Inv X zt σ H s):Inv (cxT X zt xe') [] σ H s :=
 ⟨⟨I.ok.mod,I.ok.kind,I.ok.glob,I.ok.blt,I.ok.above,I.ok.inj,I.ok.has,I.ok.cab,I.ok.hd,I.ok.frames,I.ok.stk,I.ok.exf,I.ok.bs,I.ok.bsz,I.ok.noex,I.ok.exfs,I.ok.jA,I.ok.frf⟩,
  I.os,I.bare,I.base,I.loc,I.cell,I.free,I.freeC,λp J=>I.pin p (by simpa [cxT] using J),I.aI,I.len⟩
def zW{X:Cx}{zt J:List (VS×aq)}{σ:L2.St}{H:Hp}{s:VG}(ok:X.Ok)(I:Inv (cxT X zt xe') J σ H s):Inv X zt σ H s :=
 ⟨ok,I.os,I.bare,I.base,I.loc,I.cell,I.free,I.freeC,λp L=>I.pin p (Xc _ L),I.aI,I.len⟩
def Mf{X:Cx}{F:FT}{G:az->Option aM}{sc:Wv}{N:List az}{zt:List (VS×aq)}(O:Ok X F G sc N)(own:ZZ (V4 X.prog X.w) X.A X.env xe'):Ok (cxT X zt xe') F G sc N :=
 ⟨O.hsc,O.hN,O.nd,O.calm,O.hu,own,O.glob,O.call,O.aE,O.mkc,O.blt,O.lam,λU x J=>let L:=O.lamx U x J;⟨L.mem,L.ex,L.ql,L.bm⟩⟩
def HG{X:Cx}{F:FT}{G:az->Option aM}{sc:Wv}{N:List az}(O:Ok X F G sc N){e:aV}{v:VI}{p q:Pos}{b:Z2}{a:List Z2}(i:∀Y:Cx,Ok Y F G sc N->PE Y v (tD Y F G e)):
 PS X (.Try [.Return (aa v) p] (b::a) [] [] q) (tDS X F G (.ret e)):=by
 intro zt s Z H D I q;obtain⟨m,f,h,c,R,S,e1,W⟩:=q;refine wpAny_Try_except ?_;have n:=Mf (zt:=zt) O (Yr (K:=λe U=>ay (V4 X.prog X.w) X.A (setFlight e af) (λ_ L=>ay (V4 X.prog X.w) X.A (handleBy e X.env (b::a)) (SP X zt D) X.xe L) X.xe U) (E₁:=X.xe));have l:PS _ (.Return (aa v) p) (tDS (cxT X zt _) F G (.ret e)):=PS.weak (xN (i _ n)) λD Z H q =>
  nQ (k:=λs=>BT.Be) (λs h=>by simp only[aP]) q λm s h y c v o R S r e1 W=>by simp only[BT.Be]at e1;cases e1;exact W v o m (.refl _ _) R r
 refine thn (nq l [] s Z H {nx:=λ_ _=>False,rt:=D.rt} (Er I) ⟨m,f,h,c,R,S,e1,?_⟩) λj x q=>?_
 ·simp only[aP]at e1;obtain⟨y,B,e2,d⟩:=dj e1;simp only[BT.Be]at d;cases d;exact W
 ·cases j with
  |ret u =>
   obtain⟨v,V,t,J,g,z⟩:=q;exact⟨v,V,t,zW I.ok J,g,z⟩
  |_=>obtain⟨_,_,_,z⟩:=q;exact z.elim
section
def HJ{J:bC}{b:bf->aL->Option BT.Fl}{tg:List (Nat×az)}{s:bf}{ws:List aM}{ds:List aN}{h:aL}{U:BT.Fl}(e:(if BT.gU ws=ah then BT.gj b tg ds s h else BT.zx b tg J s ws ds h)=aa U)(g:(aQ ws h).bind (bJ J)=aa ds):
 wm J ws/\∃Z,(∀s h r,Z s h=aa r->b s h=aa r/\(∀s' h',r=.nx s' h'->mH J ws ds h')/\∀s' h',r=.ct s' h'->mH J ws ds h')/\mH J ws ds h/\BT.gj Z tg ds s h=aa U:=by
 by_cases L:BT.gU ws=ah
 ·rw[bK L]at e;exact⟨.inl L,_,λs h r q=>⟨q,λ_ _ _=>kF L,λ_ _ _=>kF L⟩,kF L,e⟩
 ·rw[bL L]at e;have two:∃q,(J=.seq\/J=.enu)/\ws=[.r q]/\BT.gj (BT.su J q ds b) tg ds s h=aa U:=by unfold BT.zx at e;split at e;exact⟨_,.inl rfl,rfl,e⟩;exact⟨_,.inr rfl,rfl,e⟩;exact cW e
  obtain⟨q,sq,rfl,d⟩:=two;have a:BT.kT J q h=aa ds:=by
   unfold BT.kT;simp only[aQ,aY,XQ]at g;cases Y:aZ h q with
   |none=>rw[Y]at g;exact cW g|some i=>rw[Y]at g;exact g
  refine⟨.inr ⟨sq,q,rfl⟩,_,λs h r z=>?_,λV O=>by cases O;exact a,d⟩;unfold BT.su at z;cases W:b s h with
  |none=>rw[W]at z;exact cW z
  |some f =>
   rw[W]at z;cases f with
   |nx s' h' =>
    simp only at z;split at z
    ·rename_i c;cases z;exact⟨rfl,λ_ _ y V O=>by cases y;cases O;exact c,(λ_ _ y=>nomatch y)⟩
    exact cW z
   |ct s' h' =>
    simp only at z;split at z
    ·rename_i c;cases z;exact⟨rfl,(λ_ _ y=>nomatch y),λ_ _ y V O=>by cases y;cases O;exact c⟩
    exact cW z
   |_=>cases z;exact⟨rfl,(λ_ _ y=>nomatch y),(λ_ _ y=>nomatch y)⟩
def Mg(hg:GOk X tg g)(D:Ends)(σ:L2.St)(H:Hp)(q:tDS X F G (.for tg sr sa b) D σ H):Kc (iD X F G sr sa) g (tDS X F G b) D σ H:=by
 obtain⟨m,s,h,A,R,S,e,N⟩:=q;simp only[aP]at e;obtain⟨k,o,e1,e2⟩:=dj e;unfold BT.kFor at e2;cases j:(aQ k o).bind (bJ sr)with
 |none=>rw[j]at e2;exact cW e2
 |some L =>
  rw[j] at e2;simp only at e2;obtain ⟨P,C,hb,c1,e2⟩:=HJ e2 j;refine ⟨m,s,h,k,o,L,R,S,e1,j,P,λH1 u J t R1 l=>?_⟩;refine ⟨λi n σ H=>i<=L.length/\n=L.length - i/\∃ m s h,Ext u H1 m H/\RH X.K m H h/\RS X.prog X.w X.K m H σ s/\mH sr k L h/\BT.gj C tg (L.drop i) s h=aa A/\nP X m H A D,
   ⟨L.length,WM _,rfl,u,s,o,.refl _ _,R1,S.ext t,c1,by rw[YA];exact e2,N.ext t⟩,?_⟩
  rintro i n σ2 H2 ⟨hi,rfl,m2,s2,h2,x2,R2,S2,c2,e3,post2⟩
  by_cases c:i<L.length
  ·refine .inr ⟨l.go m2 H2 h2 i x2 R2 c2 c,_,fun M H' z=>⟨L.length-(i+1),by lia,c,rfl,z⟩,λx E y=>?_⟩;obtain⟨U,k3,T⟩:=l.yld m2 H2 h2 i x E L[i] x2 R2 c2 (VL c) y;rw[Xz c,BT.gj]at e3;cases r:bq tg.length L[i]with
   |none=>rw[r]at e3;exact cW e3
   |some dd =>
    rw[r]at e3;simp only at e3;have R3:=R2.ext U k3;refine hg m2 E σ2 s2 x L[i] dd _ (S2.ext U) T r fun I S4=>?_;cases p:C (BT.sets tg dd s2) h2 with
    |none=>rw[p]at e3;exact cW e3
    |some B =>
     rw[p]at e3;obtain⟨g4,cn,cc⟩:=hb _ _ _ p;refine⟨m2,_,h2,B,R3,S4,g4,?_⟩;cases B with
     |nx f Z=>exact fun V d W O Y a=>⟨W,f,Z,(x2.trans U).trans O,Y,a,cn _ _ rfl,e3,(post2.ext U).ext O⟩
     |ct f Z=>exact fun V d W O Y a=>⟨W,f,Z,(x2.trans U).trans O,Y,a,cc _ _ rfl,e3,(post2.ext U).ext O⟩
     |bk f Z=>cases e3;exact fun V d W O Y a=>post2 V d W (U.trans O) Y a
     |rt z Z=>cases e3;exact λv d W O Y Q=>post2 v d W (U.trans O) Y Q
  ·have ei:i=L.length:=by lia
   subst ei;refine .inl ⟨l.stop m2 H2 h2 x2 R2 c2,?_⟩;rw[YS,BT.gj]at e3;cases e3;exact post2 σ2 H2 m2 (.refl _ _) R2 S2
def Qa{X:Cx}{sc:Wv}{N:List az}(O:Ok X F G sc N){x:az}{L pos p:Pos}{J:VI}{U:List Z4}{scope:Wv}(h:swB sc scope x L pos=ah):YC (.ListComp J U scope pos) (aa (.Name x L)) p.line X.env=pure ah:=by have e:YC (.ListComp J U scope pos) (aa (.Name x L)) p.line X.env=pure (swB X.env.scope scope x L pos):=rfl;rw[e,O.hsc,h]
def HK(c:(sc.names.lookup x==aa .cell)=ah):qY sc x=ah:=by unfold qY;rw[bR c]
def Et(h:swB sc scope x np pos=ah):sc.names.lookup x=aa .local:=by unfold swB at h;simp only[VH]at h;exact bR h.1.1.2
def Qc{X:Cx}{sc:Wv}{N:List az}(O:Ok X F G sc N){x:az}{L pos p:Pos}{J:VI}{U:List Z4}{scope:Wv}(c:(sc.names.lookup x==aa .cell)=ah):YC (.ListComp J U scope pos) (aa (.Name x L)) p.line X.env=pure ai:=by
 have e:YC (.ListComp J U scope pos) (aa (.Name x L)) p.line X.env=pure (swB X.env.scope scope x L pos):=rfl;have z:swB sc scope x L pos=ai:=by
  cases h:swB sc scope x L pos with
  |false=>rfl
  |true =>
   have:=Et h;rw[bR c]at this;cases this
 rw[e,O.hsc,z]
def Eu:PSs X [] (tDS X F G .nil):=PSs.weak Gf λD J H q=>by obtain⟨m,s,h,O,R,S,e,L⟩:=q;simp only[aP]at e;cases e;exact L J H m (.refl _ _) R S
def sS(O:Ok X F G sc N)(z:∀x,X.fn x=ah)(hh:CS sc N s st):PS X st (tDS X F G s) :=
 CS.rec (motive_1:=λs st _=>PS X st (tDS X F G s)) (motive_2:=λs sts _=>PSs X sts (tDS X F G s))
  (@λi x mu sr sa u fv cond A te iter elt' ifs b T np p f V Z M j C E P hc J=>by
   have K:∀(D:Ends)(U:L2.St)(H:Hp),tDS X F G (.set i (.comp mu sr sa u fv cond A)) D U H->Cy (tD X F G (.comp mu sr sa u fv cond A)) (yW i) D U H:=λD U H q =>
    nQ (k:=λs=>BT.Do s i) (λs h=>rfl) q λm s h y a v W R S r e1 L=>by simp only[BT.Do]at e1;cases e1;exact L _ W m (.refl _ _) R (S.set r)
   by_cases c:(sc.names.lookup x==aa .cell)=ah
   exact PS.weak (CA (i:=i) O.nd (by rw[O.hN];exact V) (qZ O (HK c)) (sE (CQ.comp f M j C E P hc J) O) (Qc O c) (.inl (z x))) K
   ·have Q:swB sc b x np T=ah:=by rw[Xq]at Z;exact Z.resolve_left c
    exact PS.weak (HB O f M j E (sCI P O C) (sCC hc) (λX' O'=>sE J O') V (Et Q) (Qa O Q)) K)
  (@λi x e v np p V o Z J=>PS.weak (CA (i:=i) O.nd (by rw[O.hN];exact V) (qZ O o) (sE J O) (kG Z) (.inl (z x))) λD U H q =>
   nQ (k:=λs=>BT.Do s i) (λs h=>by simp only[aP]) q λm s h y a v W R S r e1 L=>by simp only[BT.Do] at e1;cases e1;exact L _ W m (.refl _ _) R (S.set r))
  (@λu e es k fe args kw tp cp p f j J=>by
   obtain⟨g,n,l⟩:=sCT O (O.calm f) j λq _=>.inl (z q.2);exact PS.weak (Cz (sE J O) n rfl rfl) λD U H q=>nQ (k:=λs=>BT.La s u) (λs h=>by simp only[aP]) q λm s h y a v W R S r e1 L=>by
    cases r with
    |p r =>
     simp only[BT.La]at e1;rename_i d;cases g1:BT.unpack u.length d with
     |none=>rw[g1]at e1;exact cW e1
     |some ds =>
      rw[g1]at e1;cases e1;refine l m W U s _ d ds _ S r ?_ fun σ' S'=>L _ W m (.refl _ _) R S';cases j with
      |aB hl _ =>
       unfold bq;rw[bL (by have:=aaP hl;lia)];exact g1
    | _=>exact cW e1)
  (λV o Z Q h5 M J=>PS.weak (Cz (sE J O) (J3 (zD O V o Z) (sE M O) set_list (ym h5)) (HD Q) rfl) Mc)
  (λV o Z J=>PS.weak (J4 O.nd (by rw[O.hN];exact V) (qZ O o) (sE J O) (zK Z) (.inl (z _))) Mb)
  (λV o ho J=>PS.weak (Kp (sE ho O) (sE J O) (kG o)) (HE V))
  (λV Z ho J=>PS.weak (AW (sE ho O) (sE J O) (zK Z)) (HF V))
  (λh J=>PS.weak (Gg (sE J O) (kG h)) λD U H q =>
   nQ (k:=λs=>BT.kEx s) (λs h=>by simp only[aP]) q λm s h y a v W R S r e1 L=>by simp only[BT.kEx] at e1;cases e1;exact L U W m (.refl _ _) R S)
  (λJ=>PS.weak (xN (sE J O)) λD U H q =>
   nQ (k:=λs=>BT.Be) (λs h=>by simp only[aP]) q λm s h y a v W R S r e1 L=>by simp only[BT.Be] at e1;cases e1;exact L v W m (.refl _ _) R r)
  (λh hc ha hb ia w=>PS.weak (Ob (sT hc O h).1 ia w) λD U H q=>by
   obtain⟨m,s,h,a,R,S,e,L⟩:=q;simp only[aP]at e;obtain⟨t,g,e1,e2⟩:=zV e;refine⟨m,s,h,t,g,R,S,e1,λW m1 B R1=>?_⟩;simp only[BT.kIf]at e2;cases t with
   |true=>exact⟨m1,s,g,a,R1,S.ext B,e2,L.ext B⟩
   | false=>exact ⟨m1,s,g,a,R1,S.ext B,e2,L.ext B⟩)
  (λh hc hb w=>PS.weak (CD O.own (sT hc O h).1 w) Ma)
  (λf j P C E hb w=>by obtain⟨g,n,l⟩:=sCT O (O.calm f) j (λq _=>.inl (z q.2));exact PS.weak (CG O.own (O.calm f) (sCI P O C) n w (qe E)) (Mg l))
  (λzt s U H D I q=>by obtain⟨m,s,h,a,R,S,e,L⟩:=q;simp only[aP]at e;exact cW e)
  (λzt s U H D I q=>by obtain⟨m,s,h,a,R,S,e,L⟩:=q;simp only[aP]at e;exact cW e)
  (λzt s U H D I q=>by obtain⟨m,s,h,a,R,S,e,L⟩:=q;simp only[aP]at e;exact cW e)
  (λJ=>HG O λY O2=>sE J O2)
  Eu
  (λ_ ih=>nq ih)
  (λ_ _ ih ir=>PSs.weak (vC ih ir) Eo)
  hh
def sSs(O:Ok X F G sc N)(J:∀x,X.fn x=ah){sts:List V2}(U:CSs sc N s sts):PSs X sts (tDS X F G s):=by refine CSs.rec (motive_1:=λ_ _ _=>True) (motive_2:=λs sts _=>PSs X sts (tDS X F G s)) ?_ ?_ ?_ ?_ ?_ ?_ ?_ ?_ ?_ ?_ ?_ ?_ ?_ ?_ ?_ ?_ Eu (λh _=>nq (sS O J h)) (λh _ _ L=>PSs.weak (vC (sS O J h) L) Eo) U<;>(intros;trivial)
end
section
variable{K:VE}
mutual
theorem RD.shrink(x:∀a∈m,a∈m'):∀{v:V}{d:aN},RD K m' H v d->RD K m H v d
 |_,_,.aC=>.aC|_,_,.bl b=>.bl b|_,_,.int i=>.int i|_,_,.str y h=>.str y h|_,_,.aB h r=>.aB (h.elim (λq=>.inl ⟨q.1,λz=>q.2 (x _ z)⟩) .inr) (RDs.shrink x r)|_,_,.aj h r=>.aj (h.elim (λq=>.inl ⟨q.1,λz=>q.2 (x _ z)⟩) .inr) (RDs.shrink x r)
theorem RDs.shrink(x:∀a∈m,a∈m'):∀{vs:List V}{ds:List aN},RDs K m' H vs ds->RDs K m H vs ds
 |_,_,.nil=>.nil|_,_,.cons r t=>.cons (RD.shrink x r) (RDs.shrink x t)
end
end
theorem RFs.shrink{K:VE}:∀{J vs:List (az×V)}{fs:List (az×aM)},RFs K m H J fs->RFs K (m++ex) H' vs fs->RFs K m H' vs fs
 |_,_,_,.nil,.nil=>.nil
 |_,_,_,.cons r0 t0,.cons r t=>by
  refine .cons ?_ (RFs.shrink t0 t);have back:∀{n:Nat}{a b:VS},m[n]?=aa b->(m++ex)[n]?=aa a->m[n]?=aa a:=λ{n a b} h1 h2=>by rw[VF (getD_some h1)]at h2;exact h2
  cases r with
  |p r=>exact .p (r.shrink λa O=>Xc _ O)
  |r h=>cases r0 with|r L=>exact .r (back L h)
  |o h=>cases r0 with|o L=>exact .o (back L h)
def RKs.shrink{K:VE}(sub:∀a∈m,a∈m')(r:RKs K m' H vs kvs):RKs K m H vs kvs:=by
 induction r with
 |nil=>exact .nil|cons L r t J=>exact .cons (L.shrink sub) (r.shrink sub) J
def RBs.shrink{m ex:List VS}{J:List V}{L:List Nat}(W:RBs m J L):∀{vs:List V},RBs (m++ex) vs L->RBs m vs L:=by
 induction W with
 |nil=>intro vs r;cases r;exact .nil
 |cons h t Y =>
  intro vs r;cases r with
  |cons O U =>
   rw[VF (getD_some h)]at O;exact .cons O (Y U)
def gQ(e:BT.fin h y g=aa (z,h'))(R:RH K m H h)(x:Ext m H m' H')(O:RH K m' H' g)(r:RW P w K m' H' v y):
 ∃m2,Ext m H m2 H'/\RH K m2 H' h'/\RW P w K m2 H' v z:=by
 unfold BT.fin at e;split at e;cases e;exact⟨m',x,O,r⟩
 ·split at e
  ·rename_i N G;obtain⟨ex,rfl,M⟩:=x.pre;have sub:∀a∈m,a∈m++ex:=λa t=>Xc _ t;have Y:Ext m H m H':=⟨⟨[],by simp,by simp⟩,x.keep,x.live,x.frz⟩;have R2:RH K m H' h:=by
    refine⟨R.nd,R.len,λi a V e1 e2=>?_,O.tb⟩;have q:i<m.length:=getD_some e1;have k:i<h.length:=by rw[←R.len];exact q
    have D:g[i]?=aa V:=by rw[←G,Xe k]at e2;exact e2
    have z:=O.cl i a V (by rw[VF q];exact e1) D;cases V with
    |o c fs =>
     obtain⟨Q,E,d,_,_,f⟩:=R.cl i a _ e1 e2;obtain⟨C,F,U,L,J,s⟩:=z;exact⟨C,F,U,L,J,f.shrink s⟩
    |z=>exact z
    |b I =>
     obtain⟨d,_,f⟩:=R.cl i a _ e1 e2;obtain⟨U,L,J⟩:=z;exact⟨U,L,f.shrink J⟩
    |_=>obtain⟨U,L,J⟩:=z;exact⟨U,L,J.shrink sub⟩
   cases r with
   |p r=>cases e;exact⟨m,Y,R2,.p (r.shrink sub)⟩
   |@o a n hn =>
    simp only at e;split at e
    ·rename_i Z;cases e;refine⟨m,Y,R2,.o ?_⟩;rw[VF (by rw[R.len];exact Z)]at hn;exact hn
    cases e;exact⟨m++ex,x,O,.o hn⟩
   |@r a n hn =>
    simp only at e;split at e
    ·rename_i Z;cases e;refine⟨m,Y,R2,.r ?_⟩;rw[VF (by rw[R.len];exact Z)]at hn;exact hn
    ·rename_i Z;obtain⟨V,B,A⟩:=dO e;cases A;obtain⟨U,L,J⟩:=O.cell n a V hn B;refine⟨m,Y,R2,.p (.aj (.inl ⟨.inl L,λz=>?_⟩) (J.shrink sub))⟩;obtain⟨j,l⟩:=Xd z;have W:=getD_some l;have u:(m++ex)[j]?=aa a:=by rw[VF W];exact l
     have:=tE O.nd u hn;rw[R.len]at W;lia
   |_=>exact cW e
  cases e;exact⟨m',x,O,r⟩
def j7(r:RWs P w K m H vs ws):RS P w K m H (L2.start N vs) (bI N.length ws):=by
 have L:=r.length;refine⟨by simp[L2.start,bI,L],λi y e=>?_⟩;simp only[bI]at e
 by_cases c:i<ws.length
 ·rw[VF (by simpa using c),VY]at e;obtain⟨z,e1,e2⟩:=dO e;cases e2;have:∀{vs:List V}{ws:List aM}{i:Nat},RWs P w K m H vs ws->ws[i]?=aa y->∃v,vs[i]?=aa v/\RW P w K m H v y:=by
   intro vs ws i r
   induction r generalizing i with
   |nil=>intro e;simp at e
   |cons r t J =>
    intro e;cases i with
    |zero=>simp at e;subst e;exact⟨_,rfl,r⟩|succ i=>simpa using J (by simpa using e)
  obtain⟨v,U,O⟩:=this r e1;refine⟨v,?_,O⟩;unfold L2.start;rw[VF (by simp;lia),VY,U];rfl
 ·rw[V7 (by simpa using c),WY]at e;split at e<;>cases e
def kU(K:VE)(q:az)(fd:WT)(fn:aX):Prop:=∀y,fn.ns.contains (BT.jm y)=ah->q=y/\y∈BT.jF ∧
 (∃c P,W4 K y=aa (c,P)/\fd.code=.ref c/\Zv K c P=ah/\∀z∈BT.jF,∀L,W4 K z=aa (L,P)->z=y) ∧
 ∃J ob,Wp K VW "__builtins__"=aa (aa (.ref J))/\J≠XX/\K.lookup J=aa ob/\ob.cls=.type "module"/\ob.dict=aa XX/\ob.data=.plain
inductive Qd(K:VE)(mg:az->Option aA)(x:az)(fn:aX):Prop
 |mk(f:VS)(fd:WT)(st:V2)(h1:mg x=aa (.ref f))(h2:Fun K x x st f fd)(L:eX fn.ns fn.ps (cY st))(O:Binds K fd fn.ps [])(J:CSs (cY st) fn.ns fn.body (dD st))(U:kU K x fd fn):Qd K mg x fn
structure Def(K:VE)(mg:az->Option aA)(x:az)(fn:aX):Prop where
 ex:Qd K mg x fn
inductive JH(K:VE)(mg:az->Option aA)(c m:az)(fn:aX):Prop
 |mk(C f:VS)(fd:WT)(x qual:az)(st:V2)(h1:pA K c C)(h2:mg c=aa (.ref C))(J:AV K C m f)(O:(m="__init__"->Mk K C f))(Y:Fun K x qual st f fd)(U:eX fn.ns fn.ps (cY st))(W:Binds K fd fn.ps [])(V:CSs (cY st) fn.ns fn.body (dD st))(L:kU K qual fd fn):JH K mg c m fn
structure Ew(K:VE)(mg:az->Option aA)(c m:az)(fn:aX):Prop where
 ex:JH K mg c m fn
structure Txt(P:VV)(w:Wj)(K:VE)(mg:az->Option aA)(T:bA->Option aX)(G:az->Option aM):Prop where
 defs:∀x fn,T (.f x)=aa fn->Def K mg x fn
 meths:∀c m fn,T (.m c m)=aa fn->Ew K mg c m fn
 lams:∀L fn,T (.l L)=aa fn->False
 glob:∀x z,G x=aa z->∃u v,mg x=aa u/\RelV v u/\∀m H,RW P w K m H v z
 blt:∀x∈Ls,mg x=af
def zX(e:aO T G k x ws h=aa r):∃fn,T x=aa fn:=by
 cases k with
 |zero=>exact cW e
 |succ k =>
  rw[aO]at e;cases q:T x with
  |none=>rw[q]at e;exact cW e|some fn=>exact⟨fn,rfl⟩
def zY(F:Fun K x qual st f fd)(S:eX N ps (cY st))(len:∀vs H Q E,sp vs H Q E->vs.length=ps.length)
(J:∀ (cdv:aA) (A:Wq) (outer:List Env) (s:VG) (H:Hp) (vs:List V) (Q:VK) (E:XK),fd.code=cdv->fN k (A.deeper (Xr qual (cY st) s.heap.objs.size f cdv))->Mod K mg base->sp vs H Q E →
  ∃ t,PSs (dU CX0 P w K mg base N qual (cY st) f cdv A outer s H E).nox (dD st) t/\t { nx:=λ_ H'=>Q .aC H',rt:=Q } (L2.start N vs) H):gE P w K mg base CX0 (k+1) f fd ps sp:=by
 obtain⟨l,j,kV,Y,b,g,cdv,ct,osl,rfl,c,W⟩:=F.ex;refine⟨len,λA outer s H L a vs Q E U Z e r d=>?_⟩;have i:gE P w K mg base CX0 (k+1) f (WL x qual (gC st) (dD st) (cY st) .none kV Y b g cdv ct) ps sp:=C1 c W S len λA outer s H vs Q E U O=>by obtain⟨t,h,q⟩:=J cdv A outer s H vs Q E rfl U Z.mod O;exact⟨t,h.nox,q⟩
 exact i.run A outer s H L a vs Q E U Z e r d
def zZ(X:Txt P w K mg T G)
(p:∀(x:bA)(fn:aX),T x=aa fn->∀(f:VS)(fd:WT)(nm qual:az)(st:V2),Fun K nm qual st f fd->eX fn.ns fn.ps (cY st)->CSs (cY st) fn.ns fn.body (dD st)->kU K qual fd fn->gE P w K mg base CX0 (2*k) f fd fn.ps (spF P w K (aO T G k x)))
(B:∀L,(∃fn,T (.l L)=aa fn)->DQ P w K mg base (2*k) L (aO T G k (.l L)))
(e1:Y.prog=P)(e2:Y.w=w)(H:Y.K=K)(F:Y.mg=mg)(E:Y.base=base)(q:Y.env.scope=sc)(D:Y.N=N)(y:Y.N.Nodup)(I:Y.calm=ah)(a:fN (2*k+1) Y.A)(own:ZZ (V4 Y.prog Y.w) Y.A Y.env Y.xe)
(z:(∀x,Y.fn x=ah)->∀x,N.contains (BT.jm x)=ah->LX Y x):Ok Y (aO T G k) G sc N:=by
 subst e1 e2 H F E;refine⟨q,D,y,λ_=>I,?_,own,X.glob,λg n h r e=>?_,λc g n h r e=>?_,λc n h r e=>?_,X.blt,λL n h r e=>⟨2*k,a.mono (W0 _),B L (zX e)⟩,z⟩
 ·have:=a.un;lia
 ·obtain⟨J,O⟩:=zX e;obtain⟨W,U,V,M,Z,j,i,d,b⟩:=(X.defs g J O).ex;exact⟨W,U,J.ps,2*k,M,Z.kp,i,a.mono (W0 _),p _ J O W U g g V Z j d b⟩
 ·obtain⟨J,O⟩:=zX e;obtain⟨C,W,U,m,o,V,s,v,u,t,Z,j,i,d,b⟩:=(X.meths c g J O).ex;exact⟨C,W,U,J.ps,2*k,s,u,i,a.mono (W0 _),p _ J O W U m o V Z j d b⟩
 ·obtain⟨J,O⟩:=zX e;obtain⟨C,W,U,m,o,V,s,v,u,t,Z,j,i,d,b⟩:=(X.meths c _ J O).ex;exact⟨C,W,U,J.ps,2*k,s,v,t rfl,i,a,p _ J O W U m o V Z j d b⟩
def mq(X:Txt P w K mg T G):
 ∀(k:Nat),(∀(x:bA)(fn:aX),T x=aa fn->∀(f:VS)(fd:WT)(nm qual:az)(st:V2),Fun K nm qual st f fd->eX fn.ns fn.ps (cY st)->CSs (cY st) fn.ns fn.body (dD st)->kU K qual fd fn->gE P w K mg base CX0 (2*k) f fd fn.ps (spF P w K (aO T G k x))) ∧
  ∀L,(∃fn,T (.l L)=aa fn)->DQ P w K mg base (2*k) L (aO T G k (.l L)):=by
 intro k
 induction k with
 |zero =>
  refine⟨λx fn V f fd nm qual st h2 B h5 h6=>?_,λL S=>?_⟩
  ·have no:∀U H Q E,¬spF P w K (aO T G 0 x) U H Q E:=λU H Q E h=>by obtain⟨m,Y,h,z,C,_,_,e,_⟩:=h;exact cW e
   exact⟨λU H Q E h=>bM h (no U H Q E),λA J s H args us U Q E _ _ _ _ h=>bM h (no U H Q E)⟩
  ·intro A J s H f us U cvs m Y cs h z C Q E N e0 rv R rw nc la rc e W;exact cW e
 |succ k t =>
  obtain⟨ih,il⟩:=t;refine⟨λx fn V f fd nm qual st h2 B h5 h6=>?_,λL S=>?_⟩
  ·show gE P w K mg base CX0 (2*k+1+1) f fd fn.ps (spF P w K (aO T G (k+1) x));refine zY h2 B (λU H Q E h=>?_) λF A J s H U Q E u N Z h=>?_
   ·obtain⟨m,Y,h,z,C,R,r,e,W⟩:=h;rw[aO,V]at e;simp only at e;split at e;rename_i c;rw[r.length];exact c;exact cW e
   ·obtain⟨m,Y,h,z,C,R,r,e,W⟩:=h;rw[aO,V]at e;simp only at e;split at e
    ·have O:Ok (dU CX0 P w K mg base fn.ns qual (cY st) f F A J s H E).nox (aO T G k) G (cY st) fn.ns:=by refine zZ X ih il rfl rfl rfl rfl rfl rfl rfl B.nd rfl N YI λ_ y hy=>?_;obtain⟨t1,t2,⟨c,Pt,t3,t4,t5,t6⟩,bm,ob,t7,t8,t9,o,n,j⟩:=h6 y hy;exact⟨t2,⟨c,Pt,t3,u.symm.trans t4,Yg Z.kin t5,t6⟩,by show qual++".<locals>."=_;rw[t1],bm,ob,Ww Z.kin Z.glob t7,t8,Z.kin _ _ t9,o,n,j⟩
     refine⟨_,sSs O (λ_=>rfl) h5,?_⟩;cases D:aP (aO T G k) G fn.body (bI fn.ns.length Y) h with
     |none=>rw[D]at e;exact cW e
     |some fl =>
      rw[D]at e;refine⟨m,_,h,fl,R,j7 r,D,?_⟩;cases fl with
      |rt y g =>
       intro v M m' i I r';obtain⟨q,d,b,a⟩:=gQ e R i I r';exact W v M q d b a
      |nx s' g =>
       intro σ' M m' i I _;obtain⟨q,d,b,a⟩:=gQ (v:=.aC) e R i I (.p .aC);exact W .aC M q d b a
      |_=>exact cW e
    exact cW e
  ·obtain⟨fn,V⟩:=S;exact(X.lams L fn V).elim
end BS
end
section
end
section
namespace BS
open PySem PySem.Spec PyProof.Rows L2
variable{B:au}
inductive CX1(P:VV)(w:Wj)(outer:List Env)(H:Hp)(s:VG)(E:XK)(e:aA)(s':VG):Prop
 |mk(x C:VS)(H':Hp)(B G:au)(L:aA)(W:e=.ref x)(os:s'.os=s.os)(J:ZP s'.gens)(un:Un (frs outer) [] H H' s.heap s'.heap)(Y:HOk P w H' s'.heap)(V:Heap.FlyingW B outer x (.ref C) L s'.heap)
  (O:∀b o,s.heap.get? b=aa o->b∉frs outer->∃o',B.get? b=aa o'/\(H b=af->o'=o)) (U:HOk P w H' G) (Z:∀b o,H' b≠af->G.get? b=aa o->B.get? b=aa o) (q:E (.ref C) af H'):CX1 P w outer H s E e s'
def uL{P:VV}{w:Wj}{H:Hp}{G h:au}(x:HOk P w H G)(k:∀b o,H b≠af->G.get? b=aa o->B.get? b=aa o)(st:B.StaysIn h):HOk P w H h:=λb u e =>
 (x b u e).stay (λc v hc q=>st c v (k c v (by rcases hc with rfl|hc<;>simp[*]) q)) (λ_ q=>q) λ_ _ q=>q
section
variable{K:VE}{E:XK}
def yo{zt:List (VS×aq)}{σ:L2.St}{H1:Hp}{W:VG}{h':au}(I:Inv (dU CX P w K mg base N qual scope f cd A outer s H E) zt σ H1 W)
(L:∀b o,s.heap.get? b=aa o->b∉frs outer->∃o',B.get? b=aa o'/\(H b=af->o'=o))(st:B.StaysIn h')(Z:W.heap.UpToSlots h'):Un (frs outer) [] H H1 s.heap h':=by
 have Y:∀b o,s.heap.get? b=aa o->H b=af->b∈frs outer->∃V,h'.get? b=aa {o with slots:=V}:=λb o e n J=>by obtain⟨V,q⟩:=I.base.slot b o e n J (by simp[dU]);obtain⟨_,c,O,d⟩:=I.ok.jA.mem J;have O:s.heap.get? b=aa c:=O;rw[e]at O;cases O;obtain⟨U,a⟩:=Z b _ q d;exact⟨U,a⟩
 refine⟨λb o e n J _=>?_,λb o e n J _=>Y b o e n J,λb o e n _=>I.base.free b o e n (by simp[dU]),λb o e _=>?_,I.base.tups,I.base.frzs,I.base.tbls⟩
 ·obtain⟨o',q,r⟩:=L b o e J;rw[r n]at q;exact st b o q
 ·by_cases J:b∈frs outer
  ·obtain⟨V,q⟩:=Y b o e (I.ok.frf b J) J;exact⟨_,q⟩
  ·obtain⟨o',q,_⟩:=L b o e J;exact⟨o',st b o' q⟩
def iO(I:Inv (dU CX P w K mg base N qual scope f cd A outer s H E) zt σ H1 s1)(e:s.heap.get? b=aa o)(J:b∉frs outer):
 b∉frs (dU CX P w K mg base N qual scope f cd A outer s H E).stack:=λz=>by
 rcases List.mem_cons.mp (I.kY b z)with q|q
 ·have:s.heap.objs.size<=b:=by rw[q];exact I.ok.above
  exact bM (VT e) (Nat.not_lt.mpr this)
 exact J q
end
section
variable{K:VE}{E:XK}
def HL(I:Inv (dU (CX1 P w) P w K mg base N qual scope f cd A outer s H E) zt σ H1 s1)
(a:X5 s1.heap h2 x (.ref C) args)(g:E (.ref C) af H1):(dU (CX1 P w) P w K mg base N qual scope f cd A outer s H E).xe (.ref x) {s1 with heap:=h2}:=by
 show ay (V4 P w) (A.deeper (Xr qual scope s.heap.objs.size f cd)) (aa8 (Xr qual scope s.heap.objs.size f cd) (.ref x)) _ _ _;have Z:∀J∈(Xr qual scope s.heap.objs.size f cd::outer),∀b,J.frame=aa b->b∈frs (Xr qual scope s.heap.objs.size f cd::outer):=λJ d b V=>List.mem_filterMap.mpr ⟨J,d,V⟩;refine wpAny_leaves_madeW (s:={s1 with heap:=h2}) (base:=WS s1.heap (frs (Xr qual scope s.heap.objs.size f cd::outer))) (h:=s1.heap) I.ok.frames rfl (λb o q=>Yl _ q) (PySem.W.funFrames_hide I.stack Z) a λk t Y j i c=>?_;have O:∀b o,s.heap.get? b=aa o->b∉frs outer->∃U,(WS s1.heap (frs (Xr qual scope s.heap.objs.size f cd::outer))).get? b=aa U/\(H b=af->U=o):=λb o e V=>by obtain⟨U,q⟩:=I.base.there b o e (by simp[dU]);refine⟨U,Xw _ q (iO I e V),λn=>?_⟩;have:=I.base.keep b o e n V (by simp[dU]);rw[q]at this;exact VN this
 have L:∀b o,H1 b≠af->s1.heap.get? b=aa o->(WS s1.heap (frs (Xr qual scope s.heap.objs.size f cd::outer))).get? b=aa o:=λb o n e=>Xw _ e λz=>n (I.tX b z);exact⟨x,C,H1,_,s1.heap,.ref t,rfl,I.os,I.bare,yo I O Y.1 ((Heap.UpToSlots.of_keeps a.keeps).trans c),uL I.aI L Y.1,Y,O,I.aI,L,g⟩
def Qe(u:∀C H',E1 (.ref C) af H'->E (.ref C) af H'):iU (CX1 P w) (dU (CX1 P w) P w K mg base N qual scope f cd A outer s H E) E1:=by
 intro g d M D e j I h;obtain⟨x,C,H',B,G,y,rfl,e1,e2,un,t,v,Y,a,O,W⟩:=h;show ay (V4 P w) (A.deeper (Xr qual scope s.heap.objs.size f cd)) (aa8 (Xr qual scope s.heap.objs.size f cd) (.ref x)) _ _ _;have J:Inv (dU (CX1 P w) P w K mg base N qual scope f cd A outer s H E) g d H' j:=I.yV (ch:=[]) e1 un t e2 (λb z=>bM z (by simp));refine wpAny_leaves_onW (Q:=λ_ V=>CX1 P w outer H s E (.ref x) V) I.ok.frames rfl v λF U i=>?_;have L:∀b o,s.heap.get? b=aa o->b∉frs outer->∃Z,B.get? b=aa Z/\(H b=af->Z=o):=λb o e c=>by obtain⟨r,q⟩:=I.base.there b o e (by simp[dU]);obtain⟨p,m,l⟩:=Y b r q (iO I e c);refine⟨p,m,λn=>?_⟩;have k:=I.base.keep b o e n c (by simp[dU]);rw[q]at k;rw[l (I.base.free b o e n (by simp[dU]))];exact VN k
 exact⟨x,C,H',B,G,y,rfl,J.os,J.bare,yo J L U.1 i,uL a O U.1,U,L,a,O,u C H' W⟩
end
def mz{i:Int}(h:i.natAbs<2^64):i.natAbs.log2<1920:=by
 by_cases z:i.natAbs=0
 rw[z];decide
 ·have:=(Nat.log2_lt z).mpr h;lia
structure nR(K:VE)(C:VS):Prop where
 ok:aac K C [.type "ValueError",.type "Exception",.type "BaseException",.type "object"] "ValueError.__new__"=ah
inductive Qf(K:VE)(C:VS)(h:au):Prop
 |mk(bm:List aA)(N:VS)(nm J:az)(bs:List aA)(hdct:Bool)(sn:List az)(sub:List aA)(ab:Bool)(col:Option Bool)(dd:Option VS)(k0 k1 k2 k3 k5:Option aA)(mN:az->Option aA)(V:h.get? C=aa (Y9 nm J C N bs bm hdct sn sub ab col dd k0 k1 k2 k3 k5 "ValueError.__new__"))
  (O:h.Ns N mN) (L:mN "__init__"=af) (T:OwnTail h [.type "ValueError",.type "Exception",.type "BaseException",.type "object"] bm) (U:K.lookup C=aa (Y9 nm J C N bs bm hdct sn sub ab col dd k0 k1 k2 k3 k5 "ValueError.__new__")):Qf K C h
def nR.obj{K:VE}(X:K.In h)(q:nR K C):Qf K C h:=by
 have q:=q.ok;unfold aac at q;split at q
 ·rename_i dd r Y e;split at q
  ·rename_i u s c b k2 a n Z f d;simp only[VH,beq_iff_eq,YF]at q;obtain⟨⟨⟨⟨⟨rfl,rfl⟩,J⟩,m⟩,V⟩,L⟩:=q;obtain⟨nm,bs,k,j,i,o,g,sub,t,U,p⟩:=r;dsimp only at f J V L;subst f J;have O:Y=#[c,b,k2,a,aa (.builtin "ValueError.__new__"),Z]:=by obtain⟨l⟩:=Y;simp only at d;rw[d]
   subst O;exact⟨s,j,nm,i,bs,o,g,sub,t,U,dd,c,b,k2,a,Z,_,X _ _ e,.of_isNs (PySem.W.isNs_of_in X V),PySem.W.nsMap_none_of_in X V L,PySem.W.tail_of_in X m,e⟩
  exact aR q
 exact aR q
inductive wB:V->Prop
 |int{i:Int}(h:i.natAbs<2^64):wB (.int i)
 |str{x:az}(h:(reprText x).length<=50000):wB (.str x)
 |aC:wB .aC
 |bl{b:Bool}:wB (.bl b)
def Ex{P:VV}{w:Wj}{v:V}{u:aA}(h:wB v)(r:RelV v u):∃x:az,x.length<=50000/\∀{A:Wq}{E:aA->VG->Prop}{s:VG}{Q:aA->VG->Prop},Q (.str x s.toks) {s with toks:=s.toks+1}->ay (V4 P w) A (pyReprObj u) Q E s:=by
 have L:(50000:Nat)<=ak:=by decide
 cases h with
 |@int i W =>
  obtain⟨J,rfl⟩:=r;have Y:(VQ (toString i)).length<=1921:=by rw[aay];exact int_text_length_le (by decide) (mz W)
  have O:(VQ (toString i)).length<=50000:=Wa Y (by decide);exact⟨_,O,λq=>Zn (T:="int") rfl PySem.F.slot_int_repr PySem.F.entry_int_repr (PySem.F.args_int_repr_1 _) (gives_int_repr i J (mz W)) q rfl (Wa O L)⟩
 |@str x U =>
  obtain⟨J,rfl⟩:=r;exact⟨_,U,λq=>wpAny_pyReprObj_str q (Wa U L)⟩
 |aC =>
  obtain rfl:=r;exact⟨_,by decide,λq=>Zn (T:="NoneType") rfl PySem.F.slot_NoneType_repr PySem.F.entry_NoneType_repr (PySem.F.args_NoneType_repr_1 _) gives_none_repr q rfl (by decide)⟩
 |@bl b =>
  obtain rfl:=r;exact⟨_,by cases b<;>decide,λq=>Zn (T:="bool") rfl PySem.F.slot_bool_repr PySem.F.entry_bool_repr (PySem.F.args_bool_repr_1 _) (gives_bool_repr b) q rfl (by cases b<;>decide)⟩
def Ey(M:Gl X x)(hn:dR x=ah)(G:X.mg x=aa (.ref C))(E:nR X.K C)(hc:X.calm=ah)(hl:c.length<=1000)(R:PE X e t)
(I:Inv X zt σ H s)
(h:t σ H λv H1=>wB v/\∀V h2 a args,Inv X zt σ H1 V->X5 V.heap h2 a (.ref C) args->X.xe (.ref a) {V with heap:=h2}):
 ay (V4 X.prog X.w) X.A (exec (.Raise (aa (.Call (.Name x np) [.JoinedStr [.Constant (.str c) j p1,.FormattedValue e 114 af p2] p3] [] cpos)) af pos) X.env) Q X.xe s:=by
 obtain⟨bm,N,nm,i,bs,hdct,sn,sub,ab,col,dd,k0,k1,k2,k3,k5,mN,hC,S,d,T,_⟩:=E.obj I.mod.kin;have f:(x==("__debug__":az))=ai:=by unfold dR at hn;simp only[VH]at hn;simpa using hn.1.1
 refine wpAny_Raise_call_subT (C:=C) (nm:=nm) (q:=i) (N:=N) (bs:=bs) (bm:=bm) (hdct:=hdct) (sn:=sn) (sub:=sub) (ab:=ab) (col:=col) (dd:=dd) (k0:=k0) (k1:=k1) (k2:=k2) (k3:=k3) (k5:=k5)
  ZQ (mN:=mN) (T.hasType PySem.F.excBase_ValueError.hasBase) (I.ok.hd hc) rfl d (iZ I M G ⟨rfl,?_⟩ f)
 refine Yc (Xj (wpAny_JoinedStr (pos:=p3) ?_));show ay _ _ (eval (.Constant (.str c) j p1) X.env) _ _ s;have lz:(1000:Nat)+50000<=ak:=by decide
 have z:(XG++c).length<=1000:=by rw[Yv];show 0+c.length<=1000;lia
 refine Yt ⟨_,_,rfl,Wa z (by lia),?_⟩;show ay _ _ (eval (.FormattedValue e 114 af p2) X.env) _ _ _;refine aaL (thn (R zt _ σ H _ (I.tok _) h) λu V n=>?_);obtain⟨v,H1,l,p,D,m⟩:=n;obtain⟨g,r,o⟩:=Ex (P:=X.prog) (w:=X.w) D p;refine o ?_;have k:((XG++c)++g).length<=ak:=by rw[Yv];lia
 have fin:∀ (Z:Tok) (b:VG),Inv X zt σ H1 b->∃ y t,(Xv (g) Z)=.str y t/\(XG++c++y).length<=ak/\Joins (V4 X.prog X.w) X.A X.xe [] (XG++c++y) (λU O=>U.length<=ak/\ay (V4 X.prog X.w) X.A (aav (Xu cpos (Wi [] X.env))) (λY L=>(⟨Xv U O.toks::Y,[]⟩:Args).kw=[]/\(⟨Xv U O.toks::Y,[]⟩:Args).pos.length<=ak/\L.heap.get? C=aa (Y9 nm i C N bs bm hdct sn sub ab col dd k0 k1 k2 k3 k5 "ValueError.__new__")/\L.heap.Ns N mN/\OwnTail L.heap [.type "ValueError",.type "Exception",.type "BaseException",.type "object"] bm ∧
  ∀ W e,X5 L.heap W e (.ref C) (⟨Xv U O.toks::Y,[]⟩:Args).pos->X.xe (.ref e) { L with heap:=W }) X.xe { O with toks:=O.toks+1 }) b:=λZ b J=>by
  refine⟨_,Z,rfl,k,k,Zx ?_⟩;exact⟨rfl,by show 1<=ak;decide,J.bk _ _ hC,S.keeps J.bk,T.keeps J.bk,λW a B=>m _ W a _ (J.tok _) B⟩
 refine wpAny_formatField_str (fin _ _ (l.tok _)) (fin _ _ ((l.tok _).tok _)) (Wa r (by lia))
def BI{X:Cx}{x:az}{C:VS}{c V:az}{e e2:VI}{t n:TE}{j E:Nat}{np B p2 z r p cpos pos:Pos}(hg:Gl X x)(hn:dR x=ah)(hm:X.mg x=aa (.ref C))(hq:nR X.K C)(hc:X.calm=ah)(hl:c.length<=1000)(hl2:V.length<=1000)(he:PE X e t)(g:PE X e2 n)
{zt:List (VS×aq)}{s:VG}{σ:L2.St}{H:Hp}{Q:Flow->VG->Prop}(I:Inv X zt σ H s)
(h:t σ H λl H0=>(∃i:Int,l=.int i/\i.natAbs<2^64)/\n σ H0 λv H1=>wB v/\∀W h2 a args,Inv X zt σ H1 W->X5 W.heap h2 a (.ref C) args->X.xe (.ref a) {W with heap:=h2}):
 ay (V4 X.prog X.w) X.A (exec (.Raise (aa (.Call (.Name x np) [.JoinedStr [.Constant (.str c) j B,.FormattedValue e (-1) af p2,.Constant (.str V) E r,.FormattedValue e2 114 af p] z] [] cpos)) af pos) X.env) Q X.xe s:=by
 obtain⟨bm,N,nm,o,bs,hdct,sn,sub,ab,col,dd,k0,k1,k2,k3,k5,mN,hC,hN,f,T,_⟩:=hq.obj I.mod.kin;have k:(x==("__debug__":az))=ai:=by unfold dR at hn;simp only[VH]at hn;simpa using hn.1.1
 refine wpAny_Raise_call_subT (C:=C) (nm:=nm) (q:=o) (N:=N) (bs:=bs) (bm:=bm) (hdct:=hdct) (sn:=sn) (sub:=sub) (ab:=ab) (col:=col) (dd:=dd) (k0:=k0) (k1:=k1) (k2:=k2) (k3:=k3) (k5:=k5)
  ZQ (mN:=mN) (T.hasType PySem.F.excBase_ValueError.hasBase) (I.ok.hd hc) rfl f (iZ I hg hm ⟨rfl,?_⟩ k)
 refine Yc (Xj (wpAny_JoinedStr (pos:=z) ?_));show ay _ _ (eval (.Constant (.str c) j B) X.env) _ _ s;have lz:(1000:Nat)+1921+1000+50000<=ak:=by decide
 have l0:(XG++c).length<=1000:=by rw[Yv];show 0+c.length<=1000;lia
 refine Yt ⟨_,_,rfl,Wa l0 (by lia),?_⟩;show ay _ _ (eval (.FormattedValue e (-1) af p2) X.env) _ _ _;refine wpAny_FormattedValue_plain (thn (he zt _ σ H _ (I.tok _) h) λu0 s0 ⟨l,H0,I0,r0,⟨i,hv0,hi⟩,post0⟩=>?_);subst hv0;obtain⟨tk,rfl⟩:=r0;have lf:(VQ (toString i)).length<=1921:=by rw[aay];exact int_text_length_le (by decide) (mz hi)
 refine wpAny_formatField_int (mz hi) ?_;have l1:((XG++c)++VQ (toString i)).length<=1000+1921:=by rw[Yv];lia
 refine⟨_,_,rfl,Wa l1 (by lia),?_⟩;show ay _ _ (eval (.Constant (.str V) E r) X.env) _ _ _;have l2:((XG++c)++VQ (toString i)++V).length<=1000+1921+1000:=by rw[Yv];lia
 refine Yt ⟨_,_,rfl,Wa l2 (by lia),?_⟩;show ay _ _ (eval (.FormattedValue e2 114 af p) X.env) _ _ _;refine aaL (thn (g zt _ σ H0 _ (((I0.tok _).tok _).tok _) post0) λu W R=>?_);obtain⟨v,H1,G,r1,hv,M⟩:=R;obtain⟨m,li,S⟩:=Ex (P:=X.prog) (w:=X.w) hv r1;refine S ?_;have D:((XG++c)++VQ (toString i)++V++m).length<=ak:=by rw[Yv];lia
 have fin:∀ (b:Tok) (d:VG),Inv X zt σ H1 d->∃ y t,(Xv (m) b)=.str y t/\(XG++c++VQ (toString i)++V++y).length<=ak/\Joins (V4 X.prog X.w) X.A X.xe [] (XG++c++VQ (toString i)++V++y) (λU O=>U.length<=ak/\ay (V4 X.prog X.w) X.A (aav (Xu cpos (Wi [] X.env))) (λZ L=>(⟨Xv U O.toks::Z,[]⟩:Args).kw=[]/\(⟨Xv U O.toks::Z,[]⟩:Args).pos.length<=ak/\L.heap.get? C=aa (Y9 nm o C N bs bm hdct sn sub ab col dd k0 k1 k2 k3 k5 "ValueError.__new__")/\L.heap.Ns N mN/\OwnTail L.heap [.type "ValueError",.type "Exception",.type "BaseException",.type "object"] bm ∧
  ∀ Y e,X5 L.heap Y e (.ref C) (⟨Xv U O.toks::Z,[]⟩:Args).pos->X.xe (.ref e) { L with heap:=Y }) X.xe { O with toks:=O.toks+1 }) d:=λb d J=>by
  refine⟨_,b,rfl,D,D,Zx ?_⟩;exact⟨rfl,by show 1<=ak;decide,J.bk _ _ hC,hN.keeps J.bk,T.keeps J.bk,λY a hx=>M _ Y a _ (J.tok _) hx⟩
 refine wpAny_formatField_str (fin _ _ (G.tok _)) (fin _ _ ((G.tok _).tok _)) (Wa li (by lia))
section
variable{K:VE}{E:XK}
def z4{h h':au}{c:VS}{v:Option aA}(x:h.IsCell c v)(u:h.UpToSlots h'):h'.IsCell c v:=by
 obtain⟨o,L,J⟩:=x;obtain⟨U,q⟩:=u c o L λO z=>by rw[J]at z;cases z
 exact⟨_,q,J⟩
def z5{zt:List (VS×aq)}{σ:L2.St}{H1 H2:Hp}{Z s2:VG}{G h':au}(I:Inv (dU CX P w K mg base N qual scope f cd A outer s H E) zt σ H1 Z)(J:Inv (dU CX P w K mg base N qual scope f cd A outer s H E) zt σ H2 s2)
(O:∀b o,Z.heap.get? b=aa o->b∉frs (dU CX P w K mg base N qual scope f cd A outer s H E).stack->∃o',B.get? b=aa o'/\(H1 b=af->o'=o))(M:HOk P w H2 G)(Y:∀b o,H2 b≠af->G.get? b=aa o->B.get? b=aa o)
(st:B.StaysIn h')(U:s2.heap.UpToSlots h'):Inv (dU CX P w K mg base N qual scope f cd A outer s H E) zt σ H2 {s2 with heap:=h'}:=by
 have L:∀b o,s.heap.get? b=aa o->b∉frs outer->∃o',B.get? b=aa o'/\(H b=af->o'=o):=λb o e g=>by obtain⟨t,q⟩:=I.base.there b o e (by simp[dU]);obtain⟨l,j,h⟩:=O b t q (iO I e g);refine⟨l,j,λn=>?_⟩;have k:=I.base.keep b o e n g (by simp[dU]);rw[q]at k;rw[h (I.base.free b o e n (by simp[dU]))];exact VN k
 refine⟨J.ok,J.os,J.bare,yo J L st U,?_,λx c e=>?_,J.free,J.freeC,λp a=>?_,uL M Y st,J.len⟩
 ·obtain⟨m,hn,F⟩:=J.loc;refine⟨m,U.ns hn,λi x v S R Q=>?_⟩;obtain⟨u,r,q⟩:=F i x v S R Q;refine⟨u,r,?_⟩;rcases q with q|⟨k,c,e,z⟩
  exact .inl q;exact .inr ⟨k,c,e,z4 z U⟩
 ·obtain⟨v,z⟩:=J.cell x c e;exact⟨v,z4 z U⟩
 ·obtain⟨e,n,C,y,d⟩:=J.pin p a;obtain⟨e1,D,W,V,T⟩:=I.pin p a;have ns:p.1∉frs (dU CX P w K mg base N qual scope f cd A outer s H E).stack:=λz=>by
   rcases List.mem_cons.mp (I.kY p.1 z)with q|q
   exact W q;exact V q
  obtain⟨o',q,r⟩:=O p.1 p.2 e1 ns;rw[r D]at q;exact⟨st _ _ q,n,C,y,d⟩
end
section
variable{E:aA->VG->Prop}
variable{D:VS}{hdct hdct2:Bool}{ab ab2:Bool}{dd:Option VS}{k2:Option aA}
def rC{os:OsState}
(Z:h.get? C=aa (Y9 nm q C N bs bm hdct sn sub ab col dd k0 k1 k2 k3 k5 newId))(V:h.get? D=aa (Y9 nm2 q2 D N2 bs2 bm2 hdct2 sn2 sub2 ab2 col2 dd2 j0 j1 j2 j3 j5 newId2))(Y:h.get? e=aa oe)(L:oe.cls=.ref C)(J:bm2.contains (.type "BaseException")=ah)
(O:(WK C::bm).contains (.ref D)=ah)(W:Q ah ⟨h,g,d,t,os⟩):ay M A (excMatches (.ref e) (.ref D)) Q E ⟨h,g,d,t,os⟩:=by
 have U:(WK D::bm2).contains (.type "BaseException")=ah:=by rw[Zu,J,Bool.or_true]
 have f:=tc_notTuple;unfold excMatches
 repeat (first|(with_reducible refine wpAny_loadPart_at Y ?_;rw[L])|with_reducible refine wpAny_loadPart_at V ?_|(with_reducible refine wpAny_isSubtype_exc V ?_;rw[U])|(with_reducible refine wpAny_isSubtype_exc Z ?_;rw[O])|wp_step)
 exact W
end
def Ez(I:Inv X zt σ H s)(hn:h'.Ns X.env.locals m')(J:WZ X.env.locals s.heap h'):
 Inv X zt (V3 X.N.length af) H {s with heap:=h',toks:=tk}:=by
 have O:∀b o,X.s₀.heap.get? b=aa o->b≠X.env.locals:=λb o e z=>by have:=I.ok.above;rw[←z]at this;exact bM (VT e) (Nat.not_lt.mpr this)
 have W:∀b u,H b=aa u->b≠X.env.locals:=λb u e z=>by rw[z,I.free]at e;exact cW e
 refine⟨I.ok,I.os,I.bare,⟨λb o e n U L=>(J.2 b (O b o e)).trans (I.base.keep b o e n U L),λb o e n U L=>?_,I.base.free,λb o e L=>?_,I.base.tups,I.base.frzs,I.base.tbls⟩,⟨m',hn,λi x v l V k=>?_⟩,λx c e=>?_,I.free,I.freeC,λp g=>?_,λb u e=>?_,by simp⟩
 ·obtain⟨Z,q⟩:=I.base.slot b o e n U L;exact⟨Z,(J.2 b (O b o e)).trans q⟩
 ·obtain⟨a,q⟩:=I.base.there b o e L;exact⟨a,(J.2 b (O b o e)).trans q⟩
 ·rw[WY]at V;split at V<;>cases V
 ·obtain⟨v,o,h,j⟩:=I.cell x c e;exact⟨v,o,(J.2 c (I.cne x c e)).trans h,j⟩
 ·obtain⟨e,n,Y,f,d⟩:=I.pin p g;exact⟨(J.2 p.1 Y).trans e,n,Y,f,d⟩
 ·exact(I.aI b u e).stay (λc v hc q=>(J.2 c (by rcases hc with rfl|hc;exact W _ _ e;exact W _ _ hc)).trans q) (λ_ q=>q) λ_ _ q=>q
noncomputable def uM(K:VE)(C D:VS):Bool:=match K.lookup C with
 |some ⟨_,_,.cls cd,_⟩=>cd.mro.contains (.ref D)|_=>ai
def obj_some(x:iC P w H h a o):∃q,h.get? a=aa q:=by
 cases o with
 |aj J=>obtain⟨_,_,_,_,e⟩:=x;exact⟨_,e⟩|aB J=>obtain⟨_,_,_,ob,e,_⟩:=x;exact⟨_,e⟩|set S n=>obtain⟨o,_,_,_,e,_⟩:=x;exact⟨_,e⟩|ins C V fs=>obtain⟨_,_,_,e,_⟩:=x;exact⟨_,e⟩|own y=>exact x|xd fs=>obtain⟨_,⟨_,_,_,e,_⟩,_⟩:=x;exact⟨_,e⟩|rng lo U=>obtain⟨_,_,_,e⟩:=x;exact⟨_,e⟩|frz ob u=>obtain⟨e,_⟩:=x;exact⟨_,e⟩|tbl O=>exact⟨_,show h.get? a=aa _ from x⟩|met f y=>exact⟨_,show h.get? a=aa _ from x⟩|ext L=>exact x.2.1|_=>obtain⟨_,_,_,_,o,_,_,e,_⟩:=x;exact⟨_,e⟩
section
variable{K:VE}{E:XK}
end
end BS
end
section
namespace BT
open PySem
noncomputable abbrev XF:=FK->List W->HH->Option (az×HH)
def rsM(R:XF)(m:az)(O:HH->Option (List W×HH))(x:W)(h:HH):Option (az×HH):=match x with
 | .o n=>(match oat h n with
  | some (c,fs)=>(match eN m fs with
   |none=>bnd (O h) λJ L=>R (.m c m) (.o n::J) L
   | some _=>af)
  | none=>af)
 |_=>af
def Ug(R:XF)(m:az)(V:HH->Option (List W×HH))(L:Nat)(J:Option (List Cp))(x:W)(h:HH):Option (az×HH):=match x with
 | .o n=>(match oat h n with
  | some (c,fs)=>(match eN m fs with
   | none=>bnd (V h) λO U=>(match J with
    |some Y=>R (.m c m) (.o n::(O++[.c (.l L) Y])) U
    | none=>af)
   | some _=>af)
  | none=>af)
 |_=>af
noncomputable def rsI(x:Option (W×HH))(a b:HH->Option (az×HH)):Option (az×HH):=match x with
 |some (.p (.bl ah),h)=>a h|some (.p (.bl ai),h)=>b h|_=>af
noncomputable def rsC(x:Option (List W×HH))(k:List W->HH->Option (az×HH))(d:Option (az×HH)):Option (az×HH):=match x with
 |some (ws,g)=>k ws g|none=>d
noncomputable def rsA(x:Option (W×HH))(k:HH->Option (az×HH))(d:Option (az×HH)):Option (az×HH):=match x with
 |some (_,g)=>k g|none=>d
def nS:D->Bool
 |.int i=>big i|.str x=>decide ((reprText x).length<=50000)|.aC=>ah|.bl _=>ah|_=>ai
@[simp]theorem Sd(i:Int):nS (.int i)=big i:=rfl
@[simp]theorem Se:nS .aC=ah:=rfl
@[simp]theorem Sf(b:Bool):nS (.bl b)=ah:=rfl
@[simp]theorem Sg(x:az):nS (.str x)=decide ((reprText x).length<=50000):=rfl
def rsV(R:XF)(o:Option (Option W))(ws:List W)(h:HH):Option (az×HH):=match o with
 |some (aa (.c k cs))=>if noC ws then R k (ws++cs.map Cp.w) h else af
 |_=>af
@[simp]theorem Vp(R:XF)(k:FK)(J:List Cp)(ws:List W)(h:HH):rsV R (aa (aa (.c k J))) ws h=if noC ws then R k (ws++J.map Cp.w) h else af:=rfl
noncomputable def oS:S->Bool
 |.rai _ _=>ah|.rai2 _ _ _=>ah
 |.seq a b=>oS a||oS b
 |.v _ a b=>oS a||oS b
 |_=>ai
noncomputable def orX(x:Option (az×HH))(y:Option (az×HH)):Option (az×HH):=match x with
 |some r=>aa r|none=>y
theorem Qg(y:Option (az×HH)):orX af y=y:=rfl
noncomputable def Qh(x:Option Fl)(k:Sl->HH->Option (az×HH))(d:Option (az×HH)):Option (az×HH):=match x with
 |some (.nx s h)=>k s h|some (.ct s h)=>k s h|some _=>af|none=>d
def EA(b:Sl->HH->Option Fl)(rb:Sl->HH->Option (az×HH))(tg:List (Nat×az)):List aN->Sl->HH->Option (az×HH)
 |[],_,_=>af
 |d::r,s,h=>match target tg.length d with
  |some J=>Qh (b (sets tg J s) h) (EA b rb tg r) (rb (sets tg J s) h)|none=>af
def wC(b:Sl->HH->Option Fl)(rb:Sl->HH->Option (az×HH))(tg:List (Nat×az))(J:Sr)(s:Sl)(ws:List W)(h:HH):Option (az×HH):=match (rds ws h).bind (gc J)with
 |some L=>if gU ws then EA b rb tg L s h else af
 |none=>af
def rD(f:List aN->HH->Option (Option aN×HH))(g:List aN->HH->Option (az×HH))(n:Nat):List aN->HH->Option (az×HH)
 |[],_=>af
 |d::r,h=>match target n d with
  | some J=>(match f J h with
   |some (_,h')=>rD f g n r h'
   | none=>g J h)
  |none=>af
def oU(L:Sr)(n:Nat)(fs:Option Sl)(V:Sl->HH->Option (List W×HH))(U:Sl->EH)(O:Sl->HH->Option (az×HH))(ws:List W)(h:HH):Option (az×HH) :=
 match (rds ws h).bind (gc L),fs with
 |some ds,aa fs=>if gU ws=ah/\ds.length<=lim then rD (fO V U fs) (λJ h=>O (J.map fT++fs) h) n ds h else af
 |_,_=>af
def rsQ(m:Me)(x:Option (W×HH))(k:HH->Option (az×HH)):Option (az×HH):=match m,x with
 |.append,aa (.r n,h)=>if mG (.r n) h then k h else af
 |_,_=>af
section
variable(F:FK->List W->HH->Option (W×HH))(R:XF)(D:az->Bool)(G:az->Option W)
mutual
noncomputable def rsE:E->Sl->HH->Option (az×HH)
 |.aE o m as,s,h=>bnd (ev F G o s h) (rsM R m (evs F G as s))|.methL o m as L fv,s,h=>bnd (ev F G o s h) (Ug R m (evs F G as s) L (caps s fv))|.bi _ _ as,s,h=>jS as s h|.call f as,s,h=>rsC (evs F G as s h) (R (.f f)) (if D f then jS as s h else af)|.y a _,s,h=>rsE a s h|.bin _ a _,s,h=>rsE a s h|.z _ a _,s,h=>rsE a s h|.ite c a b,s,h=>rsI (ev F G c s h) (rsE a s) (rsE b s)|.aj _ as,s,h=>jS as s h|.callv i as,s,h=>rsC (evs F G as s h) (rsV R s[i]?) af|.me m o as,s,h=>rsQ m (ev F G o s h) (jS as s)|.comp _ sr sa tg fv _ elt,s,h=>rsC (evs F G sa s h) (oU sr tg.length (frees s fv) (evs F G .nil) (ev F G elt) (rsE elt)) af|_,_,_=>af
noncomputable def jS:Es->Sl->HH->Option (az×HH)
 |.cons a r,s,h=>rsA (ev F G a s h) (jS r s) (rsE a s h)|.nil,_,_=>af
end
def rsS:S->Sl->HH->Option (az×HH)
 | .rai c e,s,h=>(match ev F G e s h with
  |some (.p d,h')=>if nS d then aa (c,h')else af
  | _=>af)
 | .rai2 c a e,s,h=>(match ev F G a s h with
  | some (.p (.int i),h1)=>if big i then (match ev F G e s h1 with
   |some (.p d,h')=>if nS d then aa (c,h')else af
   | _=>af) else af
  | _=>af)
 | .seq a b,s,h=>(match evS F G a s h with
  |some (.nx s' h')=>rsS b s' h'|some _=>af
  | none=>rsS a s h)
 |.v c a b,s,h=>rsI (ev F G c s h) (rsS a s) (rsS b s)|.ex e,s,h=>rsE F R D G e s h|.ret e,s,h=>rsE F R D G e s h|.set _ e,s,h=>rsE F R D G e s h|.j c _,s,h=>rsE F R D G c s h|.for tg sr sa b,s,h=>orX (jS F R D G sa s h) (if oS b then rsC (evs F G sa s h) (wC (evS F G b) (rsS b) tg sr s) af else af)|_,_,_=>af
end
section
variable{F:FK->List W->HH->Option (W×HH)}{R:XF}{D:az->Bool}{G:az->Option W}{s:Sl}{h:HH}
theorem xe1:rsE F R D G (.aE o m as) s h=bnd (ev F G o s h) (rsM R m (evs F G as s)):=rfl
theorem xe3:rsE F R D G (.bi b mu as) s h=jS F R D G as s h:=rfl
theorem xe4:rsE F R D G (.call f as) s h=rsC (evs F G as s h) (R (.f f)) (if D f then jS F R D G as s h else af):=rfl
theorem xe8:rsE F R D G (.ite c a b) s h=rsI (ev F G c s h) (rsE F R D G a s) (rsE F R D G b s):=rfl
theorem xa1:jS F R D G (.cons a r) s h=rsA (ev F G a s h) (jS F R D G r s) (rsE F R D G a s h):=rfl
theorem xa2:jS F R D G .nil s h=af:=rfl
theorem xs1:rsS F R D G (.rai c e) s h=(match ev F G e s h with
 |some (.p d,h')=>if nS d then aa (c,h')else af
 | _=>af):=rfl
theorem xs2:rsS F R D G (.seq a b) s h=(match evS F G a s h with
 |some (.nx s' h')=>rsS F R D G b s' h'|some _=>af
 | none=>rsS F R D G a s h):=rfl
theorem xs3:rsS F R D G (.v c a b) s h=rsI (ev F G c s h) (rsS F R D G a s) (rsS F R D G b s):=rfl
theorem xs4:rsS F R D G (.ex e) s h=rsE F R D G e s h:=rfl
theorem xs5:rsS F R D G (.ret e) s h=rsE F R D G e s h:=rfl
theorem xs6:rsS F R D G (.set i e) s h=rsE F R D G e s h:=rfl
theorem xs9{tg:List (Nat×az)}{L:Sr}{J:Es}{b:S}:rsS F R D G (.for tg L J b) s h=orX (jS F R D G J s h) (if oS b then rsC (evs F G J s h) (wC (evS F G b) (rsS F R D G b) tg L s) af else af):=rfl
theorem xeQ{m:Me}{o:E}{as:Es}:rsE F R D G (.me m o as) s h=rsQ m (ev F G o s h) (jS F R D G as s):=rfl
theorem xeC{mu:Bool}{L:Sr}{O:Es}{tg:List az}{U:List (Nat×az)}{cond:Es}{J:E}:rsE F R D G (.comp mu L O tg U cond J) s h=rsC (evs F G O s h) (oU L tg.length (frees s U) (evs F G .nil) (ev F G J) (rsE F R D G J)) af:=rfl
theorem xsR{c:az}{a e:E}:rsS F R D G (.rai2 c a e) s h=(match ev F G a s h with
 | some (.p (.int i),h1)=>if big i then (match ev F G e s h1 with
  |some (.p d,h')=>if nS d then aa (c,h')else af
  | _=>af) else af
 | _=>af):=rfl
end
noncomputable def dk(T:FK->Option Fn)(f:az):Bool:=(T (.f f)).isSome
def gu(T TX:FK->Option Fn)(G:az->Option W):Nat->FK->List W->HH->Option (az×HH)
 |0,_,_,_=>af
 |k+1,f,ws,h=>match TX f with
  |some fn=>if ws.length=fn.ps.length then rsS (runN T G k) (gu T TX G k) (dk T) G fn.body (dX fn.ns.length ws) h else af
  |none=>af
def kH(L:TX f=aa fn)(J:ws.length=fn.ps.length):
 gu T TX G (k+1) f ws h=rsS (runN T G k) (gu T TX G k) (dk T) G fn.body (dX fn.ns.length ws) h:=by
 rw[gu,L];exact bK J
end BT
end
section
namespace BS
open PySem PySem.Spec PyProof.Rows L2
variable{K:VE}{st:V2}{xe':aA->VG->Prop}
def XW(K:VE)(E:XK)(m:List VS)(H:Hp)(c:az)(h':aL):Prop:=∀J L,Ext m H L J->RH K L J h'->∀C,CN K c C->E (.ref C) af J
def XW.ext{E:XK}{m J:List VS}{H H1:Hp}{c:az}{h':aL}(w:XW K E m H c h')(x:Ext m H J H1):XW K E J H1 c h':=λU L y R C O=>w U L (x.trans y) R C O
inductive spX(P:VV)(w:Wj)(K:VE)(g:List aM->aL->Option (az×aL))(vs:List V)(H:Hp)(Q:VK)(E:XK):Prop
 |mk(m:List VS)(ws:List aM)(h:aL)(c:az)(h':aL)(R:RH K m H h)(r:RWs P w K m H vs ws)(e:g ws h=aa (c,h'))(p:XW K E m H c h'):spX P w K g vs H Q E
inductive Qi(P:VV)(w:Wj)(K:VE)(mg:az->Option aA)(base:au)(A:Wq)(f:az)(sp:Sp):Prop
 |mk(J:VS)(fd:WT)(ps:List az)(k:Nat)(h1:mg f=aa (.ref J))(h2:Wh K (.ref J)=ah)(L:Binds K fd ps [])(U:fN k A)(O:gE P w K mg base (CX1 P w) k J fd ps sp):Qi P w K mg base A f sp
def Mh(P:VV)(w:Wj)(K:VE)(mg:az->Option aA)(base:au)(k L:Nat)(g:List aM->aL->Option (az×aL)):Prop :=
 ∀(A:Wq)(J:List Env)(s:VG)(H:Hp) (f:VS) (Y:List aA) (W O:List V) (m:List VS) (U:List aM) (a:List BT.Cp) (h:aL) (c:az) (Z:aL) (Q:VK) (E:XK),
  fN k A->pK P w K mg base A J s H->dJ W Y->RH K m H h->RWs P w K m H W U->BT.noC U=ah->qT m H f L O->RCs K m H O a->g (U++a.map BT.Cp.w) h=aa (c,Z)->XW K E m H c Z →
  ao (V4 P w) A (.call (.ref f) ⟨Y,[]⟩) (CR (CX1 P w) J P w H s Q E) s
structure OkX(X:Cx)(R:BT.XF)(D:az->Bool)(E:XK):Prop where
 aE:∀(c m:az) ws h r,R (.m c m) ws h=aa r->OkM X.prog X.w X.K X.mg X.base X.A (CX1 X.prog X.w) c m (spX X.prog X.w X.K (R (.m c m)))
 call:∀(f:az) ws h r,R (.f f) ws h=aa r->Qi X.prog X.w X.K X.mg X.base X.A f (spX X.prog X.w X.K (R (.f f)))
 aD:∀f,D f=ah->∃fa,X.mg f=aa (.ref fa)/\Wh X.K (.ref fa)=ah
 pass:iU (CX1 X.prog X.w) X E
 lam:∀(L:Nat) ws h r,R (.l L) ws h=aa r->∃k,fN k X.A/\Mh X.prog X.w X.K X.mg X.base k L (R (.l L))
def PXE(X:Cx)(e:VI)(t:L2.St->Hp->Prop):Prop:=∀(L:List (VS×aq)) (s:VG) (J:L2.St) (H:Hp) (Q:aA->VG->Prop),Inv X L J H s->t J H->ay (V4 X.prog X.w) X.A (eval e X.env) Q X.xe s
def PXS(X:Cx)(st:V2)(t:L2.St->Hp->Prop):Prop:=∀(L:List (VS×aq)) (s:VG) (J:L2.St) (H:Hp) (Q:Flow->VG->Prop),Inv X L J H s->t J H->ay (V4 X.prog X.w) X.A (exec st X.env) Q X.xe s
def PXA(X:Cx)(es:List VI)(t:L2.St->Hp->Prop):Prop:=∀(J:Pos)(O:List (VS×aq)) (s:VG) (L:L2.St) (H:Hp) (Q:List aA->VG->Prop),Inv X O L H s->t L H->ay (V4 X.prog X.w) X.A (aav (Xu J (Wi es X.env))) Q X.xe s
def Uh(X:Cx)(st:List V2)(t:L2.St->Hp->Prop):Prop:=∀(L:List (VS×aq)) (s:VG) (J:L2.St) (H:Hp) (Q:Flow->VG->Prop),Inv X L J H s->t J H->ay (V4 X.prog X.w) X.A (execs st X.env) Q X.xe s
inductive xD(X:Cx)(E:XK)(g:bf->aL->Option (az×aL))(σ:L2.St)(H:Hp):Prop
 |mk(m:List VS)(s:bf)(h:aL)(c:az)(h':aL)(R:RH X.K m H h)(S:RS X.prog X.w X.K m H σ s)(e:g s h=aa (c,h'))(p:XW X.K E m H c h'):xD X E g σ H
def cpX(M:Model)(A:Wq)(E:aA->VG->Prop)(Q:aA->VG->Prop)(J:aA)(C:VS)(L:Option VS)(r:aaV)(z:VG):Prop :=
 match r with
 |.ok _=>∃m,z.heap.Ns C m/\∀g,WZ C z.heap g->Q J {z with heap:=g}|.error x=>∃m,z.heap.Ns C m/\∀g,WZ C z.heap g->∀ce:Env,ce.locals=C->ce.frame=L->ay M A (PySem.passOn "comprehension.variables-let-go" x ce:Sem aA) (λ_ _=>False) E {z with heap:=g}
section
variable{M:Model}{A:Wq}{E:aA->VG->Prop}{s:VG}{env:Env}
def EB{e:VI}{scope:Wv}{pos:Pos}{Z d:Sem aA}{g:Z4}{q:List Z4}{cl:List (az×VS)}{Q:aA->VG->Prop}
(h1:clausesOf e=g::q)(h2:∀x,Z8 g.iter env x=pure x)(p:closureFor scope env=pure cl)(c:scope.kind=.function)(o:∀x∈scope.names,x.2=.local->scope.names.lookup x.1=aa .local)
(h:ay M A d (λx Y=>ay M A (pyIter x) (λa s2=>ay M A Z (λJ s3=>ay M A (newFunctionEnv scope env.globals cl [] env.qual af .none (aa env)) (λce W =>
  ce.frame=env.frame/\ao M A (.compStart e 0 a J { ce with scope:=relabel scope env }) (cpX M A E Q J ce.locals env.frame) W) E s3) E s2) E Y) E s):ay M A (ZV e scope env pos Z ai d af) Q E s:=by
 unfold ZV;rw[p,h1];refine VJ (thn h λx Y k=>VJ (Yu (VJ (wpAny_of_eq (h2 x) (VJ (WN (thn k λa s2 k2=>wpAny_standIf (VJ (thn k2 λJ s3 j=>VJ (av (VJ (thn j λce W U=>?_))))))))))));obtain⟨i,U⟩:=U;dsimp only;have b:∀x∈(scope.names.filter λx=>(x.2==.local||x.2==.cell)&&x.1 != (".0":az)).reverse,x.2=.local->Env.kindOf {ce with scope:=relabel scope env} x.1=aa .local :=
  λx l n=>lookup_relabel_local (o x (List.mem_filter.mp (List.mem_reverse.mp l)).1 n)
 refine WN (VJ (aa3 (WN (wpAny_run (YL U λr z L=>?_)))));cases r with
 |ok f =>
  obtain⟨m,hn,L⟩:=L;exact VJ (WN (wpAny_comp_letGo (cenv:={ce with scope:=relabel scope env}) c _ z m b hn λV _ _ O=>av (L V O)))
 |error x =>
  obtain⟨m,hn,L⟩:=L;exact VJ (WN (wpAny_comp_letGo (cenv:={ce with scope:=relabel scope env}) c _ z m b hn λV _ _ O=>WJ (L V O _ rfl i) (λ_ _ f=>f.elim) λ_ _ y=>y))
end
section
variable{prog:VV}{w:Wj}{A:Wq}{s:VG}
def yp{J target iter:VI}{scope:Wv}{pos:Pos}{O L:aA}{env:Env}{R:aaV->VG->Prop}(I:Nat->VG->Prop)
(turn:∀ n s,I n s->ay (V4 prog w) A (pyNext O) (λr U=>match r with
  |none=>R (.ok .next) U
  | some v=>ay (V4 prog w) A (YD target O v) (λ_ s0=>ay (V4 prog w) A (ZW target env v) (λ_ s2 =>
   ay (V4 prog w) A (eval J env) (λx V=>ay (V4 prog w) A (call (.builtin "list.append") [L,x]) (λ_ s5=>∃ m,m < n/\I m s5) (λ_ _=>False) V) (notedBy (V4 prog w) A env λx s'=>R (.error x) s') s2) (λ_ _=>False) s0) (λ_ _=>False) U) (λ_ _=>False) s)
(n:Nat)(h:I n s):ao (V4 prog w) A (.compLoop (.ListComp J [⟨target,iter,[],0⟩] scope pos) 0 O L env) R s:=by
 refine codeAny_loop rfl I (λn s b=>?_) n h;show ay _ A ((compTurn (.ListComp J [⟨target,iter,[],0⟩] scope pos) 0 O L env).onRaise (λx=>do ZU x env;theTreesLotGoes x)) _ _ s;refine wpAny_noted ?_;rw[compTurn_list];refine VJ (Yu (VJ (WJ (turn n s b) (λr U W=>?_) λ_ _ z=>z.elim)));cases r with
 |none=>exact av W
 |some v =>
  refine VJ (WJ W (λ_ s0 a=>?_) λ_ _ z=>z.elim);refine VJ (WJ a (λ_ s2 k2=>VJ (wpAny_tests_nil ?_)) λ_ _ z=>z.elim);exact VJ (VJ (thn k2 λx V Z=>VJ (WJ Z (λ_ s5 Y=>av (av ⟨rfl,Y⟩)) λ_ _ z=>z.elim)))
end
def BJ{B h1 h2:au}{l:List Env}{e L C:VS}{cls g:aA}(x:aak B l e cls g L h1)(hc:∃o,B.get? C=aa o)(J:WZ C h1 h2):aak (WS B [C]) l e cls g L h2:=by
 obtain⟨D,hc⟩:=hc;have O:∀{b:VS},B.get? b=af->b≠C:=λ{b} q z=>by rw[z,hc]at q;exact cW q.symm
 have hn:∀{b:VS},B.get? b=af->(WS B [C]).get? b=af:=λ{b} q=>by
  cases z:(WS B [C]).get? b with
  |none=>rfl
  |some o=>have:=Yl _ z;rw[q]at this;exact cW this
 obtain⟨V,k2,t,n,i,T,p,j,e1,e2,f,d,U,c,a,Z,Y⟩:=x;refine⟨λb o q=>?_,hn k2,?_,n,i,T,p,j,(J.2 e (O k2)).trans e1,e2,f,d,hn U,c,(J.2 T (O U)).trans a,Z,Y⟩
 ·have s:b≠C:=λz=>by rw[z,aap [C] (by simp)]at q;exact cW q
  exact(J.2 b s).trans (V b o (Yl _ q))
 ·clear e1 e2 f d U c a Z Y V k2
  induction l with
  |nil=>trivial
  |cons A r u =>
   obtain⟨m,⟨h,o,y,W,w,v⟩,k⟩:=t;exact⟨m,⟨h,o,y,hn W,(J.2 h (O W)).trans w,v⟩,u k⟩
def wD{M:Model}{A:Wq}{E:aA->VG->Prop}{s:VG}{B:au}{l:List Env}{e L:VS}{cls i:aA}{Q:Unit->VG->Prop}(x:aak B l e cls i L s.heap)
(q:∀g,aak B l e cls i L g->s.heap.UpToSlots g->Q () {s with heap:=g}):ay M A (setFlight (.ref e) (aa L)) Q E s:=by
 obtain⟨m,k2,k,j,V,T,p,Y,e1,e2,h,d,c,a,W,U,n⟩:=x;have sz:3<Y.size:=(Array.getElem?_eq_some_iff.mp n).1;have oth:∀b,b≠T->(s.heap.update T (Obj.mapFields (·.setIfInBounds 3 ((aa L).elim XY λf=>rawInt f)))).get? b=s.heap.get? b:=λb O=>YY _ _ (WI O);have Z:∀b o,s.heap.get? b=aa o->(∀V,o.data≠.fields V)->b≠T:=λb o O J z=>by rw[z,W]at O;cases O;exact J Y U
 unfold setFlight;refine VJ (ZH e1 h d ?_);rw[bK (show(WK T != XY)=ah by simp)];refine wpAny_setField W U sz (q _ ⟨λb o z=>(oth b λw=>by rw[w,c]at z;exact cW z).trans (m b o z),k2,k.of_keeps λb o O J=>⟨o,(oth b (Z b o O J)).trans O,rfl⟩,?_⟩ λb o O J=>⟨o.slots,(oth b (Z b o O J)).trans O⟩);exact⟨j,V,T,_,_,(oth e (WI a)).trans e1,e2,h,d,c,a,aaI _ W (Obj.isFreed_of_fields (Obj.data_mapFields U _)),Obj.data_mapFields U _,by simp[sz]⟩
def EC(X:Cx)(E:XK):Prop:=∀(W:List (VS×aq)) (V:L2.St) (O:Hp) (J:VG) (e:aA) (U:VG) (C:VS) (m:az->Option aA) (ce:Env) (Q:aA->VG->Prop) (L:aA),Inv X W V O J->CX1 X.prog X.w X.stack O J E e U →
 J.heap.Ns C m->O C=af->X.s₀.heap.get? C=af->C∉frs X.stack->ce.frame=X.env.frame->notedBy (V4 X.prog X.w) X.A ce (λx z=>cpX (V4 X.prog X.w) X.A X.xe Q L C X.env.frame (.error x) z) e U
section
variable{P:VV}{w:Wj}{K:VE}{mg:az->Option aA}{base:au}{N:List az}{qual:az}{scope:Wv}{f:VS}{cd:aA}{A:Wq}{outer:List Env}{s:VG}{H:Hp}{E:XK}
def HM{E1:XK}(hE:∀C H',E1 (.ref C) af H'->E (.ref C) af H'):EC (dU (CX1 P w) P w K mg base N qual scope f cd A outer s H E) E1:=by
 intro zt σ H1 s1 e s' a mC ce Q acc I h hns hH h0 X hf;obtain⟨x,C,H',B,G,a0,rfl,e1,e2,un,ho,fl,p,hg,cv2,hE1⟩:=h;have J:Inv (dU (CX1 P w) P w K mg base N qual scope f cd A outer s H E) zt σ H' s':=I.yV (ch:=[]) e1 un ho e2 (λb z=>bM z (by simp));have h0:s.heap.get? a=af:=h0;obtain⟨oN,es,ep,j,hdN,rN⟩:=hns;obtain⟨R,qB,rB⟩:=p a oN j X;have eB:R=oN:=rB hH;subst eB;have hn:ZU (.ref x) ce=ZU (.ref x) (Xr qual scope s.heap.objs.size f cd):=by unfold ZU PySem.frameOf;rw[hf];rfl
 unfold notedBy;rw[hn];refine wpAny_looks_onW I.ok.frames rfl fl λh4 W y=>?_;refine⟨mC,⟨R,es,ep,W.1 _ _ qB,hdN,rN⟩,λg sb ce' _ hf'=>?_⟩;have V:=BJ W ⟨_,qB⟩ sb;obtain⟨_,_,_,oe,vs,T,oT,ts,he,hc,hd,h1,_⟩:=id V;unfold PySem.passOn;refine VJ (ZH he hd h1 ?_);rw[bL (show ¬((WK T==XY)=ah) by simp)];refine VJ ?_;rw[hf'];refine wD V λh6 U v=>wpAny_throw ?_;show ay (V4 P w) (A.deeper (Xr qual scope s.heap.objs.size f cd)) (aa8 (Xr qual scope s.heap.objs.size f cd) (.ref x)) _ _ _;unfold aa8;refine VJ (wpAny_noteFrame_againW rfl U.2.2.2 ?_);refine wpAny_landsW U λh7 l u=>?_;have stay:(WS B [a]).StaysIn h7:=l.1;have i:∀b o,s.heap.get? b=aa o->b≠a:=λb o q z=>by rw[z,h0]at q;exact cW q
 have Y:∀b o,s.heap.get? b=aa o->b∉frs outer->∃d,(WS B [a]).get? b=aa d/\(H b=af->d=o):=λb o q L=>by obtain⟨o1,O⟩:=I.base.there b o q (by simp[dU]);obtain⟨S,M,r2⟩:=p b o1 O (iO I q L);refine⟨S,Xw _ M (by simpa using i b o q),λn=>?_⟩;have k:=I.base.keep b o q n L (by simp[dU]);rw[O]at k;rw[r2 (I.base.free b o q n (by simp[dU]))];exact VN k
 have hH':H' a=af:=un.free a R j hH (by simp);have m:∀ b o,H' b≠af->G.get? b=aa o->(WS B [a]).get? b=aa o:=λb o n q=>Xw _ (cv2 b o n q) (by
  simp only[Yz]
  rintro rfl
  exact n hH')
 have up:∀b∈frs outer,∀o,s.heap.get? b=aa o->H b=af->∃F,h7.get? b=aa {o with slots:=F}:=λb L o q n=>by obtain⟨F,O⟩:=J.base.slot b o q n L (by simp[dU]);obtain⟨_,S,Z,c⟩:=I.ok.jA.mem L;have Z:s.heap.get? b=aa S:=Z;rw[q]at Z;cases Z;obtain⟨sl2,M⟩:=y b _ O c;have q3:=(sb.2 b (i b o q)).trans M;obtain⟨sl3,q4⟩:=v b _ q3 c;obtain⟨D,q5⟩:=u b _ q4 c;exact⟨D,q5⟩
 have t:Un (frs outer) [] H H' s.heap h7:=by
  refine⟨λb o q n L _=>?_,λb o q n L _=>up b L o q n,λb o q n _=>J.base.free b o q n (by simp[dU]),λb o q _=>?_,J.base.tups,J.base.frzs,J.base.tbls⟩
  ·obtain⟨d,O,r⟩:=Y b o q L;rw[r n]at O;exact stay b o O
  ·by_cases L:b∈frs outer
   ·obtain⟨F,O⟩:=up b L o q (I.ok.frf b L);exact⟨_,O⟩
   ·obtain⟨d,O,_⟩:=Y b o q L;exact⟨d,stay b d O⟩
 obtain⟨k1,k2,⟨_,_,k3⟩,k4⟩:=l;exact⟨x,C,H',_,G,a0,rfl,J.os,J.bare,t,uL hg m stay,⟨k1,k2,k3,k4⟩,Y,hg,m,hE C H' hE1⟩
end
noncomputable def cxE(X:Cx)(xe':aA->VG->Prop):Cx:={X with xe:=xe'}
def Qj{X:Cx}{zt:List (VS×aq)}{σ:L2.St}{H:Hp}{s:VG}(I:Inv X zt σ H s):Inv (cxE X xe') zt σ H s :=
 ⟨⟨I.ok.mod,I.ok.kind,I.ok.glob,I.ok.blt,I.ok.above,I.ok.inj,I.ok.has,I.ok.cab,I.ok.hd,I.ok.frames,I.ok.stk,I.ok.exf,I.ok.bs,I.ok.bsz,I.ok.noex,I.ok.exfs,I.ok.jA,I.ok.frf⟩,
  I.os,I.bare,I.base,I.loc,I.cell,I.free,I.freeC,I.pin,I.aI,I.len⟩
def Mi{X:Cx}{zt:List (VS×aq)}{σ:L2.St}{H:Hp}{s:VG}(I:Inv (cxE X xe') zt σ H s):Inv X zt σ H s :=
 ⟨⟨I.ok.mod,I.ok.kind,I.ok.glob,I.ok.blt,I.ok.above,I.ok.inj,I.ok.has,I.ok.cab,I.ok.hd,I.ok.frames,I.ok.stk,I.ok.exf,I.ok.bs,I.ok.bsz,I.ok.noex,I.ok.exfs,I.ok.jA,I.ok.frf⟩,
  I.os,I.bare,I.base,I.loc,I.cell,I.free,I.freeC,I.pin,I.aI,I.len⟩
section
variable{X:Cx}{F:FT}{R:BT.XF}{D:az->Bool}{G:az->Option aM}{E:XK}{sc:Wv}{N:List az}
def Ui(O:Ok X F G sc N)(J:¬ ∀x,X.fn x=ah)(own:ZZ (V4 X.prog X.w) X.A X.env xe'):Ok (cxE X xe') F G sc N :=
 ⟨O.hsc,O.hN,O.nd,O.calm,O.hu,own,O.glob,O.call,O.aE,O.mkc,O.blt,O.lam,λL=>bM L J⟩
inductive LIX(X:Cx)(scope:Wv)(tg:List az)(fv:List (Nat×az))(s2:VG)(H1:Hp)(C:VS)(fp:List VS)(tn:Nat->au->Prop)(m1:List VS)(ds:List aN)(fs:bf)(f:List aN->aL->Option (Option aN×aL))(g:List aN->aL->Option (az×aL))(r:az×aL)(n:Nat)(s:VG):Prop
 |mk(i:Nat)(O:L2.St)(H':Hp)(m':List VS)(L:aL)(us:List aA)(V:Nat)(J:bf)(p0:i<=ds.length)(p1:n=ds.length-i)(pl:us.length<=i)(p2:Inv (blk X (tg++fv.map (·.2)) s2 H1 scope C fp) [(s2.heap.objs.size,lobj us V)] O H' s)(p3:tn i s.heap)(p4:∀b∈fp,H' b=af)(W:Ext m1 H1 m' H')(Z:RH X.K m' H' L)(p7:RS X.prog X.w X.K m' H' O J)(Y:J.length=tg.length+fs.length)(p9:J.drop tg.length=fs)(U:BT.rD f g tg.length (ds.drop i) L=aa r):LIX X scope tg fv s2 H1 C fp tn m1 ds fs f g r n s
def ED(O:Ok X F G sc N)(O1:OkX X R D E)(HX:EC X E)(hu:gk N=ah){mu:Bool}{sr:bC}{sa:aW}{tg:List az}{W:List (Nat×az)}{cond:aW}{Y:aV}{te iter f:VI}{scope:Wv}{pos:Pos}
(hk:ku sc N tg W scope=ah)(ht:qR (fc scope sc) tg te=ah)(hset:jQ iter=ah)(hI:PI X te iter (iD X F G sr sa))
(hE:∀X',Ok X' F G (fc scope sc) (tg++W.map (·.2))->PE X' f (tD X' F G Y))(hX:∀X',Ok X' F G (fc scope sc) (tg++W.map (·.2))->OkX X' R D E->PXE X' f (xD X' E (BT.rsE F R D G Y))):
 PXE X (.ListComp f [⟨te,iter,[],0⟩] scope pos) (xD X E (BT.rsE F R D G (.comp mu sr sa tg W cond Y))):=by
 have cf:=JG hk;obtain⟨ct,tl,tloc⟩:=zS (fs:=W.map (·.2)) ht;have t0:tg≠[]:=by
  rintro rfl
  simp[qR]at ht
 intro zt s σ H Q' I q;rw[eval_ListComp];obtain⟨m,s',h,c0,h',RR,S,Z,zr⟩:=q;simp only[BT.xeC]at Z;cases e1:aU F G sa s' h with
 |none=>rw[e1]at Z;exact cW Z
 |some wh =>
  obtain⟨ws,h1⟩:=wh;rw[e1]at Z;have Z:BT.oU sr tg.length (bG s' W) (aU F G .nil) (aK F G Y) (BT.rsE F R D G Y) ws h1=aa (c0,h'):=Z;unfold BT.oU at Z;cases g1:(aQ ws h1).bind (bJ sr)with
  |none=>rw[g1]at Z;exact cW Z
  |some j =>
   cases g2:bG s' W with
   |none=>rw[g1,g2]at Z;exact cW Z
   |some fs =>
    rw[g1,g2]at Z;simp only at Z
    by_cases ca:BT.gU ws=ah/\j.length<=BT.lim
    case neg=>rw[bL ca]at Z;exact cW Z
    rw[bK ca] at Z;obtain ⟨ca,dsl⟩:=ca;have hfree:BC.uG X.env.cells scope.names:=λx hx e=>I.ok.has x.1 (.inl (by
     have:=cf.free x hx e;show X.env.scope.names.lookup x.1=_;rw[O.hsc];exact this))
    refine EB rfl (qe hset) (BC.rm hfree) cf.k1 cf.loc
     (thn (hI zt s σ H (λJ H1=>∃m1,Ext m H m1 H1/\RH X.K m1 H1 h1/\sC X.K J m1 H1 j (mH sr ws j)) I ⟨m,s',h,ws,h1,j,RR,S,e1,g1,.inl ca,λH1 m1 J x1 R1 it=>⟨m1,x1,R1,it⟩⟩) λv s1 hv=>thn hv λitv s2 h2'=>?_)
    obtain⟨it,fp,tn,J,H1,rfl,I1,T,st,M,m1,x1,R1,ito⟩:=h2';have B:∀b∈fp,b<s2.heap.objs.size:=λb L=>by obtain⟨o,ho,_⟩:=T.obj 0 _ st b L;exact VT ho
    refine XA (wpAny_newFunctionEnv cf.cell (by intro y hy;simp at hy) (λh3 hns t=>?_) cf.k1);dsimp only at hns t⊢;generalize hH2:s2.heap.push {cls:=.type "list",dict:=af,data:=.seq ([]:List aA).toArray}=H2 at hns t⊢;have k:H2.objs.size=s2.heap.objs.size+1:=by rw[←hH2,Zi]
    have old:∀b o,s2.heap.get? b=aa o->h3.get? b=aa o:=λb o e=>t.extBut b o (by rw[k];exact We (YJ (VT e))) (VO _ (hH2 ▸ VO _ e));have hacc:h3.get? s2.heap.objs.size=aa (lobj [] 0):=t.extBut _ _ (by rw[k];exact We (W8 _)) (VO _ (hH2 ▸ Wm _ rfl));have I4:=zP (tk:=s2.toks+([]:List (az×aA)).length) I1 O.hsc O.hN cf k M B old hns hacc;have O':=El (s2:=s2) (H1:=H1) (C:=H2.objs.size) (fp:=fp) O hu cf;obtain⟨g,hg1,hg2⟩:=sCT O' (O.calm hu) ct λq hq=>.inr (by rw[O'.hsc];exact tloc q hq);have hfl:fs.length=W.length:=(mj g2).1;have ltC:s2.heap.objs.size<H2.objs.size:=by rw[k];exact W8 _
    have O2:=Ui (xe':=notedBy (V4 X.prog X.w) X.A (blk X (tg++W.map (·.2)) s2 H1 scope H2.objs.size fp).env λx z=>cpX (V4 X.prog X.w) X.A X.xe Q' (.ref s2.heap.objs.size) H2.objs.size X.env.frame (.error x) z) O' (λz=>aR (z "")) Yr;have O3:OkX (cxE (blk X (tg++W.map (·.2)) s2 H1 scope H2.objs.size fp) (notedBy (V4 X.prog X.w) X.A (blk X (tg++W.map (·.2)) s2 H1 scope H2.objs.size fp).env λx z=>cpX (V4 X.prog X.w) X.A X.xe Q' (.ref s2.heap.objs.size) H2.objs.size X.env.frame (.error x) z)) R D E:=by
     refine⟨O1.aE,O1.call,O1.aD,λpins' U H8 s8 e s9 l hcx=>?_,O1.lam⟩;have l:=Mi l;obtain⟨mm,hmm,_⟩:=l.loc;have J8:Inv X zt σ H8 s8:=I1.yV (ch:=fp) l.os l.base l.aI l.bare λb L=>⟨(M b L).2.2.2.1,(M b L).2.1,(M b L).2.2.2.2.1,(M b L).2.2.2.2.2⟩;refine HX zt σ H8 s8 e s9 _ mm _ Q' _ J8 hcx hmm l.free ?_ ?_ rfl
     ·cases z:X.s₀.heap.get? H2.objs.size with
      |none=>rfl|some o=>exact bM (Wk (VT z) I1.sz) (Nat.not_lt.mpr (X8 ltC))
     ·intro z;obtain⟨_,o,ho,_⟩:=I1.stack.mem z;exact bM (VT ho) (Nat.not_lt.mpr (X8 ltC))
    have Q:∀{H':Hp}{o:aq},(∀b∈fp,H' b=af)->∀b∈fp,qv (blk X (tg++W.map (·.2)) s2 H1 scope H2.objs.size fp) [(s2.heap.objs.size,o)] H' b:=λ{H' o} hn b L=>by
     refine⟨hn b L,?_,?_,.inl L,λx c e=>(M b L).2.2.2.2.1 x c (mK e),λp hp=>?_⟩
     ·show b≠H2.objs.size;rw[k];exact We (YJ (B b L))
     ·intro zz;rcases List.mem_cons.mp (I1.kY b zz)with e|e
      exact(M b L).2.1 e;exact(M b L).2.2.1 e
     ·have hp':p=(s2.heap.objs.size,o):=by have:p∈[]++[(s2.heap.objs.size,o)]:=hp;simpa using this
      rw[hp'];show s2.heap.objs.size≠b;exact Zd (B b L)
    have loop:∀s4:VG,s4={s2 with heap:=h3,toks:=s2.toks+([]:List (az×aA)).length} →
     ao (V4 X.prog X.w) X.A (.compLoop (.ListComp f [⟨te,iter,[],0⟩] scope pos) 0 (.ref it) (.ref s2.heap.objs.size) (aan scope (BC.jR X.env.cells scope.names []) H2.objs.size X.env))
      (cpX (V4 X.prog X.w) X.A X.xe Q' (.ref s2.heap.objs.size) H2.objs.size X.env.frame) s4:=by
     rintro s4 rfl
     refine yp (LIX X scope tg W s2 H1 H2.objs.size fp tn m1 j fs (BT.fO (aU F G .nil) (aK F G Y) fs) (λxs h=>BT.rsE F R D G Y (xs.map BT.fT++fs) h) (c0,h')) ?_
      j.length ⟨0,_,H1,m1,h1,[],0,_,WM _,rfl,VR _,I4,T.keep 0 _ _ st (λb L o e=>old b o e),λb L=>(M b L).1,.refl _ _,R1,tG (S.ext x1) g2,by simp,by simp,by rw[YA];exact Z⟩
     rintro n s5 ⟨i,σ5,H5,m5,hh,us,nn,sl,hi,rfl,ul,I5,st5,fr5,x5,R5,S5,sl1,sl2,go5⟩
     by_cases c:i<j.length
     ·rw[Xz c,BT.rD]at go5;cases eT:bq tg.length j[i]with
      |none=>rw[eT]at go5;exact cW go5
      |some xs =>
       rw[eT]at go5;simp only at go5;refine thn (T.item (blk X (tg++W.map (·.2)) s2 H1 scope H2.objs.size fp) rfl rfl rfl (O.calm hu) i _ s5 σ5 H5 _ I5 (Q fr5) st5 (ito.go m5 H5 hh i x5 R5 (kF ca) c)) λr s6 hr=>?_;obtain⟨u,rfl,hr⟩:=hr;refine thn hr λ_ s7 zq=>?_;obtain⟨x,H7,I7,r7,y7,st7,fr7⟩:=zq;obtain⟨x7,k7,rd7⟩:=ito.yld m5 H5 hh i x H7 j[i] x5 R5 (kF ca) (VL c) y7;have R7:=R5.ext x7 k7;have I7':=I7.pinned (Q fr7) (T.obj _ _ st7);obtain⟨sq1,sq2,sq3⟩:=zU tl t0 eT sl1 sl2;refine thn (hg1 _ s7 σ5 H7 x u (fun U H8=>H8=H7/\RS X.prog X.w X.K m5 H7 U (xs.map BT.fT++fs)) I7' r7 (hg2 m5 H7 σ5 sl x j[i] xs _ (S5.ext x7) rd7 (by rw[tl];exact eT) fun U S8=>⟨rfl,by rw[←sq1];exact S8⟩)) λ_ s8 h8=>?_;obtain⟨U,H8,l,rfl,S8⟩:=h8;have aG:∀{s9:VG}{σ9:L2.St}{H9:Hp},Inv (blk X (tg++W.map (·.2)) s2 H1 scope H2.objs.size fp) ([(s2.heap.objs.size,lobj us nn)]++mR fp s7.heap) σ9 H9 s9->tn (i+1) s9.heap/\∀b∈fp,H9 b=af:=λ{s9 σ9 H9} I9=>by refine⟨T.keep _ _ _ st7 λb L o e=>(I9.pin (b,o) (Wd _ (Wd _ (iE L e)))).1,λb L=>?_⟩;obtain⟨o,e,_⟩:=T.obj _ _ st7 b L;exact(I9.pin (b,o) (Wd _ (Wd _ (iE L e)))).2.1
       cases gI:BT.fO (aU F G .nil) (aK F G Y) fs xs hh with
       |none =>
        rw[gI]at go5;simp only at go5;exact thn (hX _ O2 O3 _ s8 U H8 _ (Qj l) ⟨m5,_,hh,c0,h',R7,S8,go5,zr.ext (x1.trans (x5.trans x7))⟩) λ_ _ z=>z
       |some oh =>
        obtain⟨o,hA⟩:=oh;rw[gI]at go5;simp only at go5;unfold BT.fO at gI;obtain⟨cs,hc,eC,eK⟩:=dj gI;simp only[aU]at eC;cases eC;have eK:=(show bD _ BT.pM=_ from eK);obtain⟨w,hB,eE,eL⟩:=dj eK;have ew:∃d,w=.p d/\hB=hA:=by
         unfold BT.pM at eL;cases w with
         |p d'=>cases eL;exact⟨_,rfl,rfl⟩|_=>exact cW eL
        obtain⟨d,rfl,rfl⟩:=ew;refine WJ (hE _ O' _ s8 U H8 (λv Ha=>∃ma,Ext m5 H8 ma Ha/\RH X.K ma Ha hB/\RD X.K ma Ha v d) l ⟨m5,_,hh,_,hB,R7,S8,eE,λv Ha ma xa Ra ra=>by cases ra with|p ra=>exact⟨ma,xa,Ra,ra⟩⟩) (λu10 s10 ⟨v10,H10,I10,r10,m10,x10,R10,rd10⟩=>?_) λ_ _ z=>z.elim
        obtain⟨pD,nD,neD,nfD,_⟩:=I10.pin (s2.heap.objs.size,lobj us nn) (by simp);have lle:=gr;refine aa1 ⟨nn,pD⟩ (λP V a=>?_) (by rw[VM];have dsl:=dsl;lia);obtain⟨nn',V⟩:=V;have V:P.get? s2.heap.objs.size=aa (lobj (us++[u10]) nn'):=by rw[V];simp[lobj]
        have a:WZ s2.heap.objs.size s10.heap P:=a;obtain⟨st10,fr10⟩:=aG I10;have I11:Inv (blk X (tg++W.map (·.2)) s2 H1 scope H2.objs.size fp) [] U H10 {s10 with heap:=P} :=
         Inv.turned (t':=s10.toks) (I10.lX (λp hp=>by cases hp)) (λb o L e=>(a.2 b L).trans e) nD neD (.inr (VR _)) (λx c e zz=>by obtain⟨v,o,ho,_⟩:=I1.cell x c (mK e);have:=VT ho;rw[zz]at this;exact bM this (WB _)) λp hp=>by cases hp
        have I12:Inv (blk X (tg++W.map (·.2)) s2 H1 scope H2.objs.size fp) [(s2.heap.objs.size,lobj (us++[u10]) nn')] U H10 {s10 with heap:=P}:=I11.lX λp hp=>by simp only[Yz]at hp;subst hp;exact⟨V,nD,neD,nfD,λv zz=>by cases (show Data.seq _ _=Data.cell v from zz)⟩
        have xt:Ext m5 H5 m10 H10:=x7.trans x10;refine⟨j.length-(i+1),by lia,i+1,U,H10,m10,hB,us++[u10],nn',_,c,rfl,by rw[Wg];exact Z0 ul,I12,?_,fr10,x5.trans xt,R10,S8.ext x10,sq2,sq3,go5⟩;refine T.keep _ _ _ st10 λb L o' e=>(a.2 b ?_).trans e;exact We (B b L)
     ·have ei:i=j.length:=by lia
      subst ei;rw[YS,BT.rD]at go5;exact cW go5
    exact⟨rfl,codeAny_compStart_list (loop _ rfl) (T.self _ 0 _ _ _ (T.keep 0 _ _ st (λb L o e=>old b o e)) (loop _ rfl))⟩
end
section
variable{D:az->Bool}{E:XK}
def HN(e:BT.rsM R m ea x h=aa r):
 ∃n c fs ws g,x=.o n/\bz h n=aa (c,fs)/\(BT.eN m fs).isNone=ah/\ea h=aa (ws,g)/\R (.m c m) (.o n::ws) g=aa r:=by
 unfold BT.rsM at e;cases x with
 |o n =>
  simp only at e;cases L:bz h n with
  |none=>rw[L]at e;exact cW e
  |some q =>
   obtain⟨c,fs⟩:=q;rw[L]at e;simp only at e;cases J:BT.eN m fs with
   |some _=>rw[J]at e;exact cW e
   |none =>
    rw[J]at e;simp only at e;obtain⟨ws,g,e1,e2⟩:=dj e;exact⟨n,c,fs,ws,g,rfl,L,by rw[J];rfl,e1,e2⟩
 |_=>exact cW e
def EE(O:Ok X F G sc N)(T:OkX X R D E)(hb:eH oe=ah)(hl:(apos.endLine==cpos.line)=ah)(L:es.length<20)(ho:PE X oe (tD X F G o))(hc:CEs sc N as es)(ha:PA X es (tDs X F G as)):
 PXE X (.Call (.Attribute oe m apos) es [] cpos) (xD X E (BT.rsE F R D G (.aE o m as))):=by
 have U:=gP hc;intro f s Y H Q I q;obtain⟨m0,s',h,c0,M,RR,S,b,i⟩:=q;simp only[BT.xe1]at b;obtain⟨x,h1,e1,e2⟩:=dj b;obtain⟨n,c,fs,ws,g,rfl,e3,e4,e5,e6⟩:=HN e2;obtain⟨C,ga,fd,ps,k,B,hM,hB,hR,ok⟩:=T.aE _ _ _ _ _ e6;have W:za C m (spX X.prog X.w X.K (R (.m c m))) [] E (tD X F G o) (tDs X F G as) Y H (λ_ _=>False):=by
  refine⟨m0,s',h,.o n,h1,RR,S,e1,λv H1 A Z d l=>?_⟩;cases l with
  |@o a _ hn =>
   obtain⟨C',P,vs,y,t,p⟩:=d.tw _ _ _ _ hn e3;cases t.cn.inj B.cn;refine⟨a,P,vs,rfl,y,p.none e4,A,s',h1,ws,g,d,S.ext Z,e5,λus H2 m2 x2 R2 r2=>?_⟩;show spX X.prog X.w X.K (R (.m c m)) (V.ref a::(us++[])) H2 _ E;rw[Wz];exact⟨m2,.o n::ws,g,c0,M,R2,.cons (.o (x2.ix hn)) r2,e6,i.ext (Z.trans x2)⟩
 have fin:∀u j,EP X f Y (λ_ _=>False) u j->Q u j:=λu j ⟨_,_,_,_,z⟩=>z.elim;cases es with
 |nil =>
  cases as with
  |cons a r=>exact(mX hc).elim
  |nil =>
   refine thn (vG ho B.cls hM ok hR hB .nil T.pass (j6 hb U L hl) f s Y H (λ_ _=>False) I ?_) fin;obtain⟨m,s,h,z,M,R,S,b,i⟩:=W;refine⟨m,s,h,z,M,R,S,b,λv H1 A Z d l=>?_⟩;obtain⟨a,P,fs,y,t,p,q4⟩:=i v H1 A Z d l;exact⟨a,P,fs,y,t,p,kE q4⟩
 |cons e es =>
  have J:=U;simp only[dB,VH]at J;exact thn (zc ho B.cls hM ok hR hB .nil T.pass ha (dh J.1) (eS J.2) (j6 hb U L hl) f s Y H (λ_ _=>False) I W) fin
end
noncomputable def Qk:BT.Me->Bool
 |.append=>ai|_=>ah
theorem wF{f:List aN->aL->Option (Option aN×aL)}{g:List aN->aL->Option (az×aL)}(J:∀xs h,g xs h=af)(n:Nat):∀(ds:List aN)(h:aL),BT.rD f g n ds h=af
 |[],h=>rfl
 |d::r,h=>by
  rw[BT.rD];cases bq n d with
  |none=>rfl
  |some xs =>
   simp only;cases f xs h with
   |none=>exact J xs h|some o=>exact wF J n r o.2
def noX:aV->Bool
 |.v _=>ah|.j _=>ah|.aj _ .nil=>ah|.aB _=>ah|.lsr _ _ _=>ah|.i _ _=>ah|.n _ _ _=>ah|.obi _ _=>ah|.me m _ _=>Qk m|.comp _ _ _ _ _ _ J=>noX J|_=>ai
def Mj:aW->Bool
 |.nil=>ah|.cons a r=>noX a&&Mj r
section
variable{D:az->Bool}{E:XK}
theorem uN(h:noX a=ah)(s:bf)(g:aL):BT.rsE F R D G a s g=af:=by
 cases a with
 |me m o L =>
  rw[BT.xeQ];cases m with
  |append=>exact aR h|_=>rfl
 |comp mu b O Z c cond J =>
  have U:∀s h,BT.rsE F R D G J s h=af:=λs V=>uN (a:=J) h s V;rw[BT.xeC];cases aU F G O s g with
  |none=>rfl
  |some Y =>
   show BT.oU _ _ _ _ _ _ _ _=af;unfold BT.oU;split
   ·split;exact wF (λW h=>U _ h) _ _ _;rfl
   rfl
 |aj _ L=>cases L with
  |nil=>rfl|cons _ _=>exact aR h
 |_=>first|exact aR h|rfl
theorem z7:∀{as:aW},Mj as=ah->∀(s:bf)(g:aL),BT.jS F R D G as s g=af
 |.nil,_,s,g=>rfl
 |.cons a r,h,s,g=>by obtain⟨L,J⟩:=Bool.and_eq_true_iff.mp h;rw[BT.xa1];unfold BT.rsA;split;exact z7 J _ _;exact uN L _ _
def HP{X:Cx}{tg:List (Nat×az)}{V:bC}{d:aW}{b:BT.S}{g:TG}(hg:GOk X tg g){D1:Ends}{σ:L2.St}{H:Hp}{m:List VS}{s:bf}{h:aL}{c:az}{h':aL}(R0:RH X.K m H h)(S:RS X.prog X.w X.K m H σ s)
(e:BT.rsC (aU F G d s h) (BT.wC (aP F G b) (BT.rsS F R D G b) tg V s) af=aa (c,h'))(Q:XW X.K E m H c h'):
 Kc (iD X F G V d) g (λD' σ H=>tDS X F G b D' σ H\/xD X E (BT.rsS F R D G b) σ H) D1 σ H:=by
 cases e1:aU F G d s h with
 |none=>rw[e1]at e;exact cW e
 |some T =>
  obtain⟨a,W⟩:=T;rw[e1]at e;have e2:BT.wC (aP F G b) (BT.rsS F R D G b) tg V s a W=aa (c,h'):=e;unfold BT.wC at e2;cases p:(aQ a W).bind (bJ V)with
  |none=>rw[p]at e2;exact cW e2
  |some L =>
   rw[p]at e2;simp only at e2;split at e2
   ·rename_i q;refine ⟨m,s,h,a,W,L,R0,S,e1,p,.inl q,λH1 v J u R1 A=>?_⟩;refine ⟨λi n σ H=>i<=L.length/\n=L.length - i/\∃ m s h,Ext v H1 m H/\RH X.K m H h/\RS X.prog X.w X.K m H σ s/\BT.EA (aP F G b) (BT.rsS F R D G b) tg (L.drop i) s h=aa (c,h')/\XW X.K E m H c h',
     ⟨L.length,WM _,rfl,v,s,W,.refl _ _,R1,S.ext u,by rw[YA];exact e2,Q.ext u⟩,?_⟩
    rintro i n σ2 H2 ⟨hi,rfl,m2,s2,h2,x2,R2,S2,e3,post2⟩
    by_cases Y:i<L.length
    ·refine .inr ⟨A.go m2 H2 h2 i x2 R2 (kF q) Y,_,fun P H' z=>⟨L.length-(i+1),by lia,Y,rfl,z⟩,λx M y=>?_⟩;obtain⟨O,k3,r3⟩:=A.yld m2 H2 h2 i x M L[i] x2 R2 (kF q) (VL Y) y;rw[Xz Y,BT.EA]at e3;cases o:bq tg.length L[i]with
     |none=>rw[o]at e3;exact cW e3
     |some dd =>
      rw[o]at e3;simp only at e3;have I:=R2.ext O k3;refine hg m2 M σ2 s2 x L[i] dd _ (S2.ext O) r3 o fun N C=>?_;cases l:aP F G b (BT.sets tg dd s2) h2 with
      |none =>
       rw[l]at e3;exact .inr ⟨m2,_,h2,c,h',I,C,e3,post2.ext O⟩
      |some B =>
       rw[l]at e3;refine .inl ⟨m2,_,h2,B,I,C,l,?_⟩;cases B with
       |nx f k=>exact fun Z H5 j U t r=>⟨j,f,k,(x2.trans O).trans U,t,r,e3,(post2.ext O).ext U⟩
       |ct f k=>exact fun Z H5 j U t r=>⟨j,f,k,(x2.trans O).trans U,t,r,e3,(post2.ext O).ext U⟩
       |_=>exact cW e3
    ·have ei:i=L.length:=by lia
     subst ei;rw[YS,BT.EA]at e3;exact cW e3
   exact cW e2
def EF(O:Ok X F G sc N)(W:OkX X R D E)(j:d7 sc f=ah)(hn:dR f=ah)(hc:CEs sc N as es)(T:PA X es (tDs X F G as))(M:PXA X es (xD X E (BT.jS F R D G as))):
 PXE X (.Call (.Name f p) es [] cpos) (xD X E (BT.rsE F R D G (.call f as))):=by
 have L:=gP hc;intro Z s Y H Q I q;obtain⟨d,c,h,n,m,RR,S,J,b⟩:=q;simp only[BT.xe4]at J;cases es with
 |nil =>
  cases as with
  |cons a r=>exact(mX hc).elim
  |nil =>
   simp only[aU,BT.rsC]at J;obtain⟨v,fd,B,k,U,V,l,i,ok⟩:=W.call _ _ _ _ J;exact thn (vF ok i (eZ O j) U V l .nil W.pass (fP hn).1 Z s Y H (λ_ _=>False) I ⟨d,[],h,n,m,RR,.nil,J,b⟩) λu s2 ⟨_,_,_,_,z⟩=>z.elim
 |cons e es =>
  simp only[dB,VH]at L;cases g:aU F G as c h with
  |some q =>
   obtain⟨o,t⟩:=q;rw[g]at J;simp only[BT.rsC]at J;obtain⟨v,fd,B,k,U,V,l,i,ok⟩:=W.call _ _ _ _ J;refine thn (zb ok i (eZ O j) U V l .nil W.pass T (fP hn).1 (dh L.1) (eS L.2) Z s Y H (λ_ _=>False) I ?_) λu s2 ⟨_,_,_,_,z⟩=>z.elim;refine⟨d,c,h,o,t,RR,S,g,λy H2 C x R2 A=>?_⟩;show spX X.prog X.w X.K (R (.f f)) (y++[]) H2 _ E;rw[Wz];exact⟨C,o,t,n,m,R2,A,J,b.ext x⟩
  |none =>
   rw[g]at J;simp only[BT.rsC]at J;split at J
   ·rename_i P;obtain⟨v,U,V⟩:=W.aD _ P;refine WO (iZ I (eZ O j) U ?_ (fP hn).1);exact Xh (h₀:=X.base) I.ok.mod.kin V (M cpos Z s Y H _ I ⟨d,c,h,n,m,RR,S,J,b⟩) (dh L.1) (eS L.2)
   exact cW J
end
section
variable{F:FT}{R:BT.XF}{D:az->Bool}{G:az->Option aM}{E:XK}{X:Cx}
def HQ{mu:Bool}{as:aW}{es:List VI}{p:Pos}(V:PXA X es (xD X E (BT.jS F R D G as))):PXE X (.List es p) (xD X E (BT.rsE F R D G (.aj mu as))):=λL s J H Q I q=>by refine wpAny_List_spliced (V p L s J H _ I ?_);obtain⟨m,U,h,Z,W,RR,S,Y,O⟩:=q;exact⟨m,U,h,Z,W,RR,S,Y,O⟩
def yq{o:aV}{as:aW}{b e:VI}{apos cpos:Pos}{es:List VI}(T:eH b=ah)(P:(apos.endLine==cpos.line)=ah)(U:(e::es).length<20)(O:dB (e::es)=ah)(N:PE X b (tD X F G o))(M:PXA X (e::es) (xD X E (BT.jS F R D G as))):
 PXE X (.Call (.Attribute b "append" apos) (e::es) [] cpos) (xD X E (BT.rsE F R D G (.me .append o as))):=by
 have J:=O;simp only[dB,VH] at J;have c:decide ((e::es).length+([]:List YU).length+(if ([]:List YU).isEmpty then 0 else 1) < 30)=ah:=bP (by
  simp only[VU,Wu,ZR,if_true] at U ⊢;lia)
 intro d s Z H Q I q;obtain⟨m,W,h,j,i,RR,S,L,p⟩:=q;rw[BT.xeQ]at L;cases e1:aK F G o W h with
 |none=>rw[e1]at L;exact cW L
 |some u =>
  obtain⟨x,Y⟩:=u;rw[e1]at L;cases x with
  |r n =>
   have L:(if BT.mG (.r n) Y=ah then BT.jS F R D G as W Y else af)=aa (j,i):=L;obtain⟨ok,L⟩:=Eg L;refine wpAny_Call_method_late (mh T) (by rw[j4 O,c];rfl) P rfl (thn (N d s Z H (λx V=>tyV X.K "list" x V/\xD X E (BT.jS F R D G as) Z V) I ⟨m,W,h,.r n,Y,RR,S,e1,λv V C f k a=>⟨ty_list k a ok,C,W,Y,j,i,k,S.ext f,L,p.ext f⟩⟩) λv A t=>?_);obtain⟨x,V,l,a,ty,B⟩:=t;obtain⟨y,w⟩:=xY l a ty;refine⟨"list","list.append",WH,Yx,Yw,y,w,?_⟩;have g:=M cpos d A Z V (λ_ _=>False) l B;rw[dh J.1]at g⊢;refine YV (by show(ai||(Xu cpos (Wi es X.env)).any (·.1))=ai;rw[eS J.2];rfl) (Yc ?_);exact thn g λus s2 z=>z.elim
  |_=>exact cW L
end
mutual
inductive CXE(sc:Wv)(N:List az):aV->VI->Prop
 |aE(L:eH oe=ah)(O:(apos.endLine==cpos.line)=ah)(U:es.length<20)(J:CE' sc N o oe)(V:CEs sc N as es):CXE sc N (.aE o m as) (.Call (.Attribute oe m apos) es [] cpos)
 |call(J:d7 sc f=ah)(hn:dR f=ah)(L:CEs sc N as es)(O:uO sc N as es):CXE sc N (.call f as) (.Call (.Name f np) es [] p)
 |y(J:CXE sc N a x):CXE sc N (.y a i) (.Subscript x sl p)
 |bin(J:CXE sc N a x):CXE sc N (.bin o a b) (.BinOp x op y p)
 |ite{c a b:aV}{t x y:VI}{p:Pos}(h:tOK c=ah)(hc:CE' sc N c t)(L:CXE sc N a x)(J:CXE sc N b y):CXE sc N (.ite c a b) (.IfExp t x y p)
 |aj{mu:Bool}{as:aW}{es:List VI}{p:Pos}(J:uO sc N as es):CXE sc N (.aj mu as) (.List es p)
 |app{e:VI}{es:List VI}(L:eH oe=ah)(O:(apos.endLine==cpos.line)=ah)(U:(e::es).length<20)(J:CE' sc N o oe)(V:uO sc N as (e::es)):CXE sc N (.me .append o as) (.Call (.Attribute oe "append" apos) (e::es) [] cpos)
 |no(h:noX a=ah):CXE sc N a x
inductive uO(sc:Wv)(N:List az):aW->List VI->Prop
 |nil:uO sc N .nil []
 |cons{a:aV}{as:aW}{e:VI}{es:List VI}(J:noStar e=ah)(hc:CE' sc N a e)(O:CXE sc N a e)(L:uO sc N as es):uO sc N (.cons a as) (e::es)
end
mutual
inductive CXS(sc:Wv)(N:List az)(ra:List az):BT.S->V2->Prop
 |rai(U:gk N=ah)(V:ra.contains c=ah)(J:d7 sc c=ah)(hn:dR c=ah)(O:t.length<=1000)(L:CE' sc N e v):
  CXS sc N ra (.rai c e) (.Raise (aa (.Call (.Name c np) [.JoinedStr [.Constant (.str t) j p1,.FormattedValue v 114 af p2] p3] [] cpos)) af pos)
 |rai2{a e:aV}{L v:VI}{c t J:az}{j Z:Nat}{V W p2 p3 Y O cpos pos:Pos}(hu:gk N=ah)(hx:ra.contains c=ah)(hg:d7 sc c=ah)(hn:dR c=ah)(hl:t.length<=1000)(U:J.length<=1000)(ha:CE' sc N a L)(he:CE' sc N e v):
  CXS sc N ra (.rai2 c a e) (.Raise (aa (.Call (.Name c V) [.JoinedStr [.Constant (.str t) j W,.FormattedValue L (-1) af p2,.Constant (.str J) Z Y,.FormattedValue v 114 af O] p3] [] cpos)) af pos)
 |bad{st:V2}:CXS sc N ra .bad st
 |ex(h:lJ v=ah)(J:CXE sc N e v):CXS sc N ra (.ex e) (.Expr v p)
 |ret(J:CXE sc N e v):CXS sc N ra (.ret e) (.Return (aa v) p)
 |set{st:V2}(h:noX e=ah):CXS sc N ra (.set i e) st
 |setx(h:lJ v=ah)(J:CXE sc N e v):CXS sc N ra (.set i e) (.Assign [.Name x np] v p)
 |forb{tg:List (Nat×az)}{J:bC}{L:aW}{b:BT.S}{te iter:VI}{xs:List V2}{p:Pos}(W:gk N=ah)(hn:Mj L=ah)(V:CT sc N tg te)(hi:CI sc N J L iter)(hz:pq J te=ah)(O:jQ iter=ah)(U:CSs sc N b xs)(Y:iF sc N ra b xs):CXS sc N ra (.for tg J L b) (.For te iter xs [] p)
 |setcx{i:Nat}{mu V:Bool}{U:bC}{W:aW}{tg:List az}{O:List (Nat×az)}{L:aV}{te iter J:VI}{scope:Wv}{x:az}{pos Z tp Y p:Pos}(hu:gk N=ah)(hr:ra≠[])(hg:d7 sc "tuple"=ah)(hk:ku sc N tg O scope=ah)(ht:qR (fc scope sc) tg te=ah)(hz:pq U te=ah)(hs:jQ iter=ah)(hi:CI sc N U W iter)(he:CE' (fc scope sc) (tg++O.map (·.2)) L J)(hx:CXE (fc scope sc) (tg++O.map (·.2)) L J):
  CXS sc N ra (.set i (.bi .tuple V (.cons (.comp mu U W tg O .nil L) .nil))) (.Assign [.Name x Z] (.Call (.Name "tuple" tp) [.ListComp J [⟨te,iter,[],0⟩] scope pos] [] Y) p)
 |v{c:aV}{a b:BT.S}{t:VI}{xs ys:List V2}{p:Pos}(h:tOK c=ah)(hc:CE' sc N c t)(L:iF sc N ra a xs)(J:iF sc N ra b ys):CXS sc N ra (.v c a b) (.If t xs ys p)
inductive iF(sc:Wv)(N:List az)(ra:List az):BT.S->List V2->Prop
 |nil{sts:List V2}:iF sc N ra .nil sts
 |bads{sts:List V2}:iF sc N ra .bad sts
 |one{st:V2}(h:CXS sc N ra s st):iF sc N ra s (st::r)
 |cons{a b:BT.S}{st:V2}{r:List V2}(hn:CS sc N a st)(h:CXS sc N ra a st)(J:iF sc N ra b r):iF sc N ra (.seq a b) (st::r)
end
theorem tK{sc:Wv}{N:List az}:∀{as:aW}{es:List VI},uO sc N as es->dB es=ah
 |_,_,.nil=>rfl
 |_,_,.cons hs _ _ hr=>by simp only[dB,VH];exact⟨hs,tK hr⟩
structure MadeX(ra:List az)(X:Cx)(E:XK):Prop where
 made:∀zt σ H s1 h2 a args C,Inv X zt σ H s1->X5 s1.heap h2 a (.ref C) args->E (.ref C) af H->X.xe (.ref a) {s1 with heap:=h2}
 cls:∀c,ra.contains c=ah->∃C,CN X.K c C/\X.mg c=aa (.ref C)/\nR X.K C
 held:EC X E
section
variable{F:FT}{R:BT.XF}{D:az->Bool}{G:az->Option aM}{E:XK}{X:Cx}{sc:Wv}{N:List az}{ra:List az}
def sEs(h:CEs sc N as es)(O:Ok X F G sc N):PA X es (tDs X F G as):=sQ h X O
mutual
theorem sXE(O:Ok X F G sc N)(W:OkX X R D E):∀{e:aV}{v:VI},CXE sc N e v->PXE X v (xD X E (BT.rsE F R D G e))
 |_,_,.aE h3 h6 h7 ho ha=>EE O W h3 h6 h7 (sE ho O) ha (sEs ha O)|_,_,.call hg hn ha hx=>EF O W hg hn ha (sEs ha O) (HR O W hx)
 | _,_,.y ha=>λU s L H Q I q=>aaU (sXE O W ha U s L H _ I (by
  obtain ⟨m,V,h,g,f,RR,S,J,Z⟩:=q;exact ⟨m,V,h,g,f,RR,S,J,Z⟩))
 | _,_,.bin ha=>λU s L H Q I q=>wpAny_BinOp (sXE O W ha U s L H _ I (by
  obtain ⟨m,V,h,g,f,RR,S,J,Z⟩:=q;exact ⟨m,V,h,g,f,RR,S,J,Z⟩))
 |_,_,@CXE.ite _ _ c a b t x y p h hc ha hb=>λU s L H Q I q=>by
  obtain⟨m,V,u,g,f,RR,S,J,Z⟩:=q;simp only[BT.xe8]at J;unfold BT.rsI at J;split at J
  ·rename_i j e1;refine wpAny_IfExp (thn ((sT hc O h).1 U s L H (λd Y=>d=ah/\xD X E (BT.rsE F R D G a) L Y) I ⟨m,V,u,ah,j,RR,S,e1,λY r i w=>⟨rfl,r,V,j,g,f,w,S.ext i,J,Z.ext i⟩⟩) λd l k=>?_);obtain⟨Y,z,o,n⟩:=k;subst o;exact sXE O W ha U l L Y Q z n
  ·rename_i j e1;refine wpAny_IfExp (thn ((sT hc O h).1 U s L H (λd Y=>d=ai/\xD X E (BT.rsE F R D G b) L Y) I ⟨m,V,u,ai,j,RR,S,e1,λY r i w=>⟨rfl,r,V,j,g,f,w,S.ext i,J,Z.ext i⟩⟩) λd l k=>?_);obtain⟨Y,z,o,n⟩:=k;subst o;exact sXE O W hb U l L Y Q z n
  exact cW J
 |_,_,.aj hx=>HQ (HR O W hx)|_,_,.app h3 h6 h7 ho hx=>yq h3 h6 h7 (tK hx) (sE ho O) (HR O W hx)
 |_,_,.no h=>λU s L H Q I q=>by obtain⟨m,V,u,g,f,RR,S,J,Z⟩:=q;rw[uN h]at J;exact cW J
theorem HR(O:Ok X F G sc N)(h:OkX X R D E):∀{as:aW}{es:List VI},uO sc N as es->PXA X es (xD X E (BT.jS F R D G as))
 |_,_,.nil=>λL V s U H Q I q=>by obtain⟨m,W,b,d,c,RR,S,J,Z⟩:=q;simp only[BT.xa1,BT.xa2]at J;exact cW J
 |_,_,@uO.cons _ _ a as e es hs hc ha hr=>λL V s U H Q I q=>by
  obtain⟨m,W,b,d,c,RR,S,J,Z⟩:=q;simp only[BT.xa1,BT.xa2]at J;rw[dh hs];show ay _ _ (aav ((ai,eval e X.env)::Xu L (Wi es X.env))) _ _ s;unfold BT.rsA at J;split at J
  ·rename_i z g e1;refine Xj (thn (sE hc O V s U H (λv Y=>xD X E (BT.jS F R D G as) U Y) I ⟨m,W,b,z,g,RR,S,e1,λv Y l f n r=>⟨l,W,g,d,c,n,S.ext f,J,Z.ext f⟩⟩) λu j i=>?_);obtain⟨v,Y,o,p,k⟩:=i;exact HR O h hr L V j U Y _ o k
  exact Xj (sXE O h ha V s U H _ I ⟨m,W,b,d,c,RR,S,J,Z⟩)
end
def Ml(O:Ok X F G sc N)(r:gk N=ah)(M:MadeX ra X E){c t:az}{e:aV}{v:VI}{j:Nat}{n l p2 k cpos pos:Pos}(L:ra.contains c=ah)(y:d7 sc c=ah)(hn:dR c=ah)(w:t.length<=1000)(z:CE' sc N e v):
 PXS X (.Raise (aa (.Call (.Name c n) [.JoinedStr [.Constant (.str t) j l,.FormattedValue v 114 af p2] k] [] cpos)) af pos) (xD X E (BT.rsS F R D G (.rai c e))):=by
 intro zt s σ H Q I q;obtain⟨C,A,u,Z⟩:=M.cls c L;obtain⟨m,g,h,c0,h',RR,S,J,Y⟩:=q;simp only[BT.xs1]at J;split at J
 ·rename_i d B e1;split at J
  ·rename_i V;cases J;refine Ey (eZ O y) hn u Z (O.calm r) w (sE z O) I ⟨m,g,h,_,_,RR,S,e1,λv T o f K U=>?_⟩;cases U with
   |p U =>
    refine⟨?_,λs1 B a W P L=>M.made _ _ _ _ _ _ _ _ P L (Y T o f K C A)⟩;cases U with
    |int i=>exact .int (by simpa [BT.big]using V)|str x L=>exact .str (by simpa using V)|aC=>exact .aC|bl b=>exact .bl|_=>exact aR V
  exact cW J
 exact cW J
def Ql{m:List VS}{H:Hp}{v:V}{d:aN}(r:RD K m H v d)(J:BT.nS d=ah):wB v:=by
 cases r with
 |int i=>exact .int (by simpa [BT.big]using J)|str x L=>exact .str (by simpa using J)|aC=>exact .aC|bl b=>exact .bl|_=>exact aR J
def HS(O:Ok X F G sc N)(B:gk N=ah)(M:MadeX ra X E){c t b:az}{a e:aV}{Z v:VI}{j A:Nat}{x w p2 u r o cpos pos:Pos}(V:ra.contains c=ah)(hg:d7 sc c=ah)(hn:dR c=ah)(P:t.length<=1000)(W:b.length<=1000)(ha:CE' sc N a Z)(he:CE' sc N e v):
 PXS X (.Raise (aa (.Call (.Name c x) [.JoinedStr [.Constant (.str t) j w,.FormattedValue Z (-1) af p2,.Constant (.str b) A r,.FormattedValue v 114 af o] u] [] cpos)) af pos) (xD X E (BT.rsS F R D G (.rai2 c a e))):=by
 intro zt s σ H Q I q;obtain⟨C,hC,K,l⟩:=M.cls c V;obtain⟨m,f,h,c0,h',RR,S,J,k⟩:=q;simp only[BT.xsR]at J;split at J
 ·rename_i i h1 e0;split at J
  ·rename_i T;split at J
   ·rename_i d h2 e1;split at J
    ·rename_i hb;cases J;refine BI (eZ O hg) hn K l (O.calm B) P W (sE ha O) (sE he O) I ⟨m,f,h,_,_,RR,S,e0,λv0 H0 z Y R0 U=>?_⟩;cases U with
     |p U =>
      cases U with
      |int _ =>
       refine⟨⟨i,rfl,by simpa [BT.big]using T⟩,z,f,h1,_,_,R0,S.ext Y,e1,λv H1 y n R1 L=>?_⟩;cases L with
       |p L=>exact⟨Ql L hb,λs1 h2 a g I1 V=>M.made _ _ _ _ _ _ _ _ I1 V (k H1 y (Y.trans n) R1 C hC)⟩
    exact cW J
   exact cW J
  exact cW J
 exact cW J
mutual
theorem sXS(O:Ok X F G sc N)(f:OkX X R D E)(M:ra≠[]->MadeX ra X E)(k:∀x,X.fn x=ah):∀{s:BT.S}{st:V2},CXS sc N ra s st->PXS X st (xD X E (BT.rsS F R D G s))
 |_,_,.rai2 hu hx hg hn hl hl2 ha he=>HS O hu (M (by rintro rfl;exact aR hx)) hx hg hn hl hl2 ha he|_,_,.rai hu hx hg hn hl he=>Ml O hu (M (by rintro rfl;exact aR hx)) hx hg hn hl he
 |_,_,.bad=>λU s L H Q I q=>by obtain⟨m,V,h,Z,Y,RR,S,J,W⟩:=q;exact cW J
 |_,_,.ex h he=>λU s L H Q I q=>by refine wpAny_Expr_any (sXE O f he U s L H _ I ?_) I.quiet (kG h);obtain⟨m,V,h,Z,Y,RR,S,J,W⟩:=q;exact⟨m,V,h,Z,Y,RR,S,J,W⟩
 |_,_,.ret he=>λU s L H Q I q=>by refine wpAny_Return_some (sXE O f he U s L H _ I ?_);obtain⟨m,V,h,Z,Y,RR,S,J,W⟩:=q;exact⟨m,V,h,Z,Y,RR,S,J,W⟩
 |_,_,.set h=>λU s L H Q I q=>by obtain⟨m,V,n,Z,Y,RR,S,J,W⟩:=q;simp only[BT.xs6]at J;rw[uN h]at J;exact cW J
 |_,_,.setx h he=>λU s L H Q I q=>by obtain⟨m,V,n,Z,Y,RR,S,J,W⟩:=q;simp only[BT.xs6]at J;exact Z6 (sXE O f he U s L H _ I ⟨m,V,n,Z,Y,RR,S,J,W⟩) (kG h)
 |_,_,@CXS.forb _ _ _ tg sr sa b te iter xs p hu hn ht hi hz hs hb hx=>λU s L H Q I q=>by
  obtain⟨g,C,B⟩:=sCT O (O.calm hu) ht (λq _=>.inl (k q.2));have K:PSs X xs (λD' L H=>tDS X F G b D' L H\/xD X E (BT.rsS F R D G b) L H):=λU s L H D' I q=>q.elim (λq=>sSs O k hb U s L H D' I q) λq=>BK O f M k hx U s L H _ I q;obtain⟨m,V,h,Z,Y,RR,S,J,W⟩:=q;simp only[BT.xs9]at J;rw[z7 hn,BT.Qg]at J;split at J
  ·refine thn (CG O.own (O.calm hu) (sCI hi O hz) C K (qe hs) U s L H {nx:=λ_ _=>False,rt:=λ_ _=>False} I (HP B RR S J W)) λfl s2 q=>?_;cases fl with
   |ret u=>obtain⟨_,_,_,_,_,z⟩:=q;exact z.elim|_=>obtain⟨_,_,_,z⟩:=q;exact z.elim
  exact cW J
 |_,_,@CXS.setcx _ _ _ i mu mu2 sr sa tg fv elt te iter elt' scope x pos np tp cp p hu hr hg hk ht hz hs hi he hx=>λU s L H Q I q=>by
  obtain⟨m,V,h,Z,Y,RR,S,J,W⟩:=q;simp only[BT.xs6,BT.xe3,BT.xa1,BT.xa2]at J;have PX:PXE X (.ListComp elt' [⟨te,iter,[],0⟩] scope pos) (xD X E (BT.rsE F R D G (.comp mu sr sa tg fv .nil elt))):=ED O f (M hr).held hu hk ht hs (sCI hi O hz) (λX' T=>sE he T) λX' T O2=>sXE T O2 hx;have J:BT.rsE F R D G (.comp mu sr sa tg fv .nil elt) V h=aa (Z,Y):=by unfold BT.rsA at J;split at J;exact cW J;exact J
  refine Z6 ?_ (kG rfl);refine WO (kZ I (eZ O hg) (O.blt _ (by decide)) (show Yj "tuple"=aa (.type "tuple") by decide +kernel) ?_ (by decide) (by decide));refine WC ?_ (dh rfl) rfl;show ay _ _ (aav ((ai,eval (.ListComp elt' [⟨te,iter,[],0⟩] scope pos) X.env)::Xu cp (Wi [] X.env))) _ _ s;exact Xj (PX U s L H _ I ⟨m,V,h,Z,Y,RR,S,J,W⟩)
 |_,_,@CXS.v _ _ _ c a b t xs ys p h hc ha hb=>λU s L H Q I q=>by
  obtain⟨m,V,n,Z,Y,RR,S,J,W⟩:=q;simp only[BT.xs3]at J;unfold BT.rsI at J;split at J
  ·rename_i l e1;refine wpAny_If (thn ((sT hc O h).1 U s L H (λd e=>d=ah/\xD X E (BT.rsS F R D G a) L e) I ⟨m,V,n,ah,l,RR,S,e1,λe A j P=>⟨rfl,A,V,l,Z,Y,P,S.ext j,J,W.ext j⟩⟩) λd r o=>?_);obtain⟨e,I1,y,w⟩:=o;subst y;exact BK O f M k ha U r L e Q I1 w
  ·rename_i l e1;refine wpAny_If (thn ((sT hc O h).1 U s L H (λd e=>d=ai/\xD X E (BT.rsS F R D G b) L e) I ⟨m,V,n,ai,l,RR,S,e1,λe A j P=>⟨rfl,A,V,l,Z,Y,P,S.ext j,J,W.ext j⟩⟩) λd r o=>?_);obtain⟨e,I1,y,w⟩:=o;subst y;exact BK O f M k hb U r L e Q I1 w
  exact cW J
theorem BK(O:Ok X F G sc N)(i:OkX X R D E)(M:ra≠[]->MadeX ra X E)(Z:∀x,X.fn x=ah):∀{s:BT.S}{sts:List V2},iF sc N ra s sts->Uh X sts (xD X E (BT.rsS F R D G s))
 |_,_,.nil=>λU s V H Q I q=>by obtain⟨m,W,h,d,c,RR,S,J,Y⟩:=q;exact cW J
 |_,_,.bads=>λU s V H Q I q=>by obtain⟨m,W,h,d,c,RR,S,J,Y⟩:=q;exact cW J
 |_,_,.one h=>λU s V H Q I q=>Yp (sXS O i M Z h U s V H _ I q)
 |_,_,@iF.cons _ _ _ a b st r hn h hr=>λU s V H Q I q=>by
  obtain⟨m,W,e,d,c,RR,S,J,Y⟩:=q;simp only[BT.xs2]at J;cases g:aP F G a W e with
  |none =>
   rw[g]at J;exact Yp (sXS O i M Z h U s V H _ I ⟨m,W,e,d,c,RR,S,J,Y⟩)
  |some v =>
   rw[g]at J;cases v with
   |nx j k =>
    simp only at J;refine Yp (thn (sS O Z hn U s V H {nx:=fun L B=>xD X E (BT.rsS F R D G b) L B,rt:=λ_ _=>False} I ⟨m,W,e,.nx j k,RR,S,g,fun L l t n y w=>⟨t,j,k,d,c,y,w,J,Y.ext n⟩⟩) λf o q=>?_);cases f with
    |next =>
     obtain⟨L,l,A,p⟩:=q;exact BK O i M Z hr U o L l Q A p
    |ret u=>obtain⟨_,_,_,_,_,z⟩:=q;exact z.elim|_=>obtain⟨_,_,_,z⟩:=q;exact z.elim
   |_=>exact cW J
end
end
def Uj(P:VV)(w:Wj)(K:VE)(mg:az->Option aA)(base:au)(N:List az)(q:az)(sc:Wv)(cl:List (az×VS))(f c':VS)(A:Wq)(outer:List Env)(s:VG)(H:Hp)(E:XK):Cx :=
 {PY P w K mg base N q sc cl f c' A outer s H with xe:=λe L=>ay (V4 P w) (A.deeper (YQ q sc s.heap.objs.size f (.ref c') cl)) (aa8 (YQ q sc s.heap.objs.size f (.ref c') cl) e) (λ_ J=>CX1 P w outer H s E e J) (λO J=>CX1 P w outer H s E O J) L}
section
variable{P:VV}{w:Wj}{K:VE}{mg:az->Option aA}{base:au}{N:List az}{q:az}{sc:Wv}{cl:List (az×VS)}{f c':VS}{A:Wq}{outer:List Env}{s:VG}{H:Hp}{E:XK}
end
inductive EG(rn:List az)(K:VE)(c m:az)(fn:aX):Prop
 |mk(C f:VS)(fd:WT)(x qual:az)(st:V2)(h1:pA K c C)(h2:AV K C m f)(J:Fun K x qual st f fd)(L:eX fn.ns fn.ps (cY st))(V:Binds K fd fn.ps [])(O:iF (cY st) fn.ns rn fn.body (dD st))(U:kU K qual fd fn):EG rn K c m fn
structure wG(rn:List az)(K:VE)(c m:az)(fn:aX):Prop where
 ex:EG rn K c m fn
inductive JI(rn:List az)(K:VE)(mg:az->Option aA)(x:az)(fn:aX):Prop
 |mk(f:VS)(fd:WT)(st:V2)(h1:mg x=aa (.ref f))(h2:Fun K x x st f fd)(L:eX fn.ns fn.ps (cY st))(O:Binds K fd fn.ps [])(J:iF (cY st) fn.ns rn fn.body (dD st))(U:kU K x fd fn):JI rn K mg x fn
structure EI(rn:List az)(K:VE)(mg:az->Option aA)(x:az)(fn:aX):Prop where
 ex:JI rn K mg x fn
structure BN(rn:List az)(K:VE)(mg:az->Option aA)(TX:bA->Option aX):Prop where
 defs:∀x fn,TX (.f x)=aa fn->EI rn K mg x fn
 meths:∀c m fn,TX (.m c m)=aa fn->wG rn K c m fn
 cls:∀c,rn.contains c=ah->∃C,CN K c C/\mg c=aa (.ref C)/\nR K C
 lams:∀L fn,TX (.l L)=aa fn->False
def yr(e:BT.gu T TX G k x ws h=aa r):∃fn,TX x=aa fn:=by
 cases k with
 |zero=>exact cW e
 |succ k =>
  rw[BT.gu]at e;cases q:TX x with
  |none=>rw[q]at e;exact cW e|some fn=>exact⟨fn,rfl⟩
def Qm(X:Txt P w K mg T G){ps:List az}{E:XK}
(O:N.Nodup)(L:∀x,N.contains (BT.jm x)=ai)(U:fN (2*k+1) (A.deeper (Xr qual (cY st) s.heap.objs.size f cdv))):Ok (dU CX P w K mg base N qual (cY st) f cdv A outer s H E) (aO T G k) G (cY st) N :=
 zZ X (mq X k).1 (mq X k).2 rfl rfl rfl rfl rfl rfl rfl O rfl U aaA λ_ x J=>by rw[L x]at J;exact aR J
def EJ{rn:List az}{P:VV}{w:Wj}{mg:az->Option aA}{base:au}{T TX:bA->Option aX}{G:az->Option aM}{k:Nat}{E:XK}{Z:Cx}(X:Txt P w K mg T G)(Y:BN rn K mg TX)
(p:∀(x:bA)(fn:aX),TX x=aa fn->∀(f:VS)(fd:WT)(nm qual:az)(st:V2),Fun K nm qual st f fd->eX fn.ns fn.ps (cY st)->iF (cY st) fn.ns rn fn.body (dD st)->kU K qual fd fn->gE P w K mg base (CX1 P w) (2*k) f fd fn.ps (spX P w K (BT.gu T TX G k x)))
(t:∀L,(∃fn,TX (.l L)=aa fn)->Mh P w K mg base (2*k) L (BT.gu T TX G k (.l L)))
(e1:Z.prog=P)(e2:Z.w=w)(D:Z.K=K)(B:Z.mg=mg)(z:Z.base=base)(b:fN (2*k+1) Z.A)(ps:iU (CX1 P w) Z E):OkX Z (BT.gu T TX G k) (BT.dk T) E:=by
 subst e1 e2 D B z;refine⟨λc g o h r e=>?_,λg o h r e=>?_,λf u=>?_,ps,λL o h r e=>⟨2*k,b.mono (W0 _),t L (yr e)⟩⟩
 ·obtain⟨J,O⟩:=yr e;obtain⟨C,a,U,q,s,V,d,F,W,n,m,j,i⟩:=(Y.meths c g J O).ex;exact⟨C,a,U,J.ps,2*k,d,F,m,b.mono (W0 _),p _ J O a U q s V W n j i⟩
 ·obtain⟨J,O⟩:=yr e;obtain⟨a,U,V,d,W,n,m,j,i⟩:=(Y.defs g J O).ex;exact⟨a,U,J.ps,2*k,d,W.kp,m,b.mono (W0 _),p _ J O a U g g V W n j i⟩
 ·obtain⟨fn,v⟩:=Option.isSome_iff_exists.mp u;obtain⟨y,fd,st,H,W,_⟩:=(X.defs f fn v).ex;exact⟨y,H,W.kp⟩
def HU(F:Fun K x qual st f fd)(S:eX N ps (cY st))(len:∀vs H Q E,sp vs H Q E->vs.length=ps.length)
(J:∀ (cdv:aA) (A:Wq) (outer:List Env) (s:VG) (H:Hp) (vs:List V) (Q:VK) (E:XK),fd.code=cdv->fN k (A.deeper (Xr qual (cY st) s.heap.objs.size f cdv))->Mod K mg base->sp vs H Q E →
  ∃ t,PSs (dU CX P w K mg base N qual (cY st) f cdv A outer s H E) (dD st) t/\t { nx:=λ_ H'=>Q .aC H',rt:=Q } (L2.start N vs) H):gE P w K mg base CX (k+1) f fd ps sp:=by
 obtain⟨j,i,kV,Y,b,g,cdv,ct,osl,rfl,c,W⟩:=F.ex;refine⟨len,λA outer s H L a vs Q E U Z e r d=>?_⟩;have h:gE P w K mg base CX (k+1) f (WL x qual (gC st) (dD st) (cY st) .none kV Y b g cdv ct) ps sp:=C1 c W S len λA outer s H vs Q E U O=>J cdv A outer s H vs Q E rfl U Z.mod O;exact h.run A outer s H L a vs Q E U Z e r d
def wH{rn:List az}{P:VV}{w:Wj}{mg:az->Option aA}{base:au}{T TX:bA->Option aX}{G:az->Option aM}(X:Txt P w K mg T G)(Y:BN rn K mg TX):
 ∀(k:Nat),(∀(x:bA)(fn:aX),TX x=aa fn->∀(f:VS)(fd:WT)(nm qual:az)(st:V2),Fun K nm qual st f fd->eX fn.ns fn.ps (cY st)->iF (cY st) fn.ns rn fn.body (dD st)->kU K qual fd fn->gE P w K mg base (CX1 P w) (2*k) f fd fn.ps (spX P w K (BT.gu T TX G k x)))/\∀L,(∃fn,TX (.l L)=aa fn)->Mh P w K mg base (2*k) L (BT.gu T TX G k (.l L)):=by
 intro k
 induction k with
 |zero =>
  refine⟨?_,λL hL A J s H f us U cvs m W cs h z j Q E v e0 rv R rw nc la rc e n=>nomatch e⟩;intro x fn g f fd nm qual st N F h5 h6;have no:∀U H Q E,¬spX P w K (BT.gu T TX G 0 x) U H Q E:=λU H Q E h=>by obtain⟨m,W,h,z,j,_,_,e,_⟩:=h;exact cW e
  exact⟨λU H Q E h=>bM h (no U H Q E),λA J s H b us U Q E _ _ _ _ h=>bM h (no U H Q E)⟩
 |succ k u =>
  obtain⟨ih,il⟩:=u;refine⟨?_,λL hL=>?_⟩
  rotate_left
  ·obtain⟨fn,g⟩:=hL;exact(Y.lams L fn g).elim
  intro x fn g f fd nm qual st N F h5 h6;show gE P w K mg base (CX1 P w) (2*k+1+1) f fd fn.ps (spX P w K (BT.gu T TX G (k+1) x));have Z:∀{W:List aM}{h:aL}{r:az×aL},BT.gu T TX G (k+1) x W h=aa r->W.length=fn.ps.length/\BT.rsS (aO T G k) (BT.gu T TX G k) (BT.dk T) G fn.body (bI fn.ns.length W) h=aa r:=λ{W h r} e=>by rw[BT.gu,g]at e;simp only at e;split at e;rename_i c;exact⟨c,e⟩;exact cW e
  refine HU N F (λU H Q E h=>?_) λV A J s H U Q E B v i h=>?_
  ·obtain⟨m,W,h,c,j,R,r,e,n⟩:=h;rw[r.length];exact(Z e).1
  ·obtain⟨m,W,h,c,j,R,r,e,n⟩:=h;have O:Ok (dU (CX1 P w) P w K mg base fn.ns qual (cY st) f V A J s H E) (aO T G k) G (cY st) fn.ns:=by refine zZ X (mq X k).1 (mq X k).2 rfl rfl rfl rfl rfl rfl rfl F.nd rfl v aaA λ_ y hy=>?_;obtain⟨t1,t2,⟨c,Pt,t3,t4,t5,t6⟩,bm,ob,t7,t8,t9,t,p,o⟩:=h6 y hy;exact⟨t2,⟨c,Pt,t3,B.symm.trans t4,Yg i.kin t5,t6⟩,by show qual++".<locals>."=_;rw[t1],bm,ob,Ww i.kin i.glob t7,t8,i.kin _ _ t9,t,p,o⟩
   have O1:OkX (dU (CX1 P w) P w K mg base fn.ns qual (cY st) f V A J s H E) (BT.gu T TX G k) (BT.dk T) E:=EJ (base:=base) X Y ih il rfl rfl rfl rfl rfl v (Qe λ_ _ z=>z);have M:MadeX rn (dU (CX1 P w) P w K mg base fn.ns qual (cY st) f V A J s H E) E:=⟨λS d H s1 N a b C I hx hE=>HL I hx hE,Y.cls,HM λ_ _ z=>z⟩;exact ⟨λD d H'=>xD (dU (CX1 P w) P w K mg base fn.ns qual (cY st) f V A J s H E) E (BT.rsS (aO T G k) (BT.gu T TX G k) (BT.dk T) G fn.body) d H',
    λS s d H D I q=>BK O O1 (λ_=>M) (λ_=>rfl) h5 S s d H _ I q,m,_,h,c,j,R,j7 r,(Z e).2,n⟩
noncomputable def nT(tn:az)(told:List aM->aL->Option (aM×aL))(F:FT):FT:=λx=>match x with
 |.f y=>if y=tn then told else F (.f y)
 |.m c m=>F (.m c m)|.l L=>F (.l L)
def wI:nT tn told F (.f tn)=told:=bK rfl
def z8(h:¬y=tn):nT tn told F (.f y)=F (.f y):=bL h
def HV(O:Ok X F G sc N)
(h1:X.mg tn=aa (.ref fa))(h2:Wh X.K (.ref fa)=ah)(V:Binds X.K fd ps [])(U:fN k X.A)(L:gE X.prog X.w X.K X.mg X.base CX0 k fa fd ps (spF X.prog X.w X.K told)):Ok X (nT tn told F) G sc N :=
 ⟨O.hsc,O.hN,O.nd,O.calm,O.hu,O.own,O.glob,λf J h r e=>by
  by_cases c:f=tn
  ·subst c;rw[wI];exact⟨fa,fd,ps,k,h1,h2,V,U,L⟩
  ·rw[z8 c] at e ⊢;exact O.call f J h r e,O.aE,O.mkc,O.blt,O.lam,O.lamx⟩
def nU(F:FT)(G:az->Option aM)(fn:aX)(ws:List aM)(h:aL):Option (aM×aL):=if ws.length=fn.ps.length then BT.iW (aP F G fn.body (bI fn.ns.length ws) h) (BT.fin h)else af
section
variable{K:VE}
def EK(X:Txt P w K mg T G)(k:Nat)(h2:Fun K nm qual st f fd)(x:eX fn.ns fn.ps (cY st))(h5:CSs (cY st) fn.ns fn.body (dD st))(h6:kU K qual fd fn)
(q1:mg tn=aa (.ref fa))(q2:Wh K (.ref fa)=ah)(q3:Binds K fd' ps [])(q5:gE P w K mg base CX0 (2*k) fa fd' ps (spF P w K told)):
 gE P w K mg base CX0 (2*k+1+1) f fd fn.ps (spF P w K (nU (nT tn told (aO T G k)) G fn)):=by
 refine zY h2 x (λD H Q E h=>?_) λn A J s H D Q E j u L h=>?_
 ·obtain⟨m,t,h,z,h',R,r,e,U⟩:=h;unfold nU at e;split at e;rename_i c;rw[r.length];exact c;cases e
 ·obtain⟨m,t,h,z,h',R,r,e,U⟩:=h;unfold nU at e;split at e
  ·have O:Ok (dU CX0 P w K mg base fn.ns qual (cY st) f n A J s H E).nox (aO T G k) G (cY st) fn.ns:=by refine zZ X (mq X k).1 (mq X k).2 rfl rfl rfl rfl rfl rfl rfl x.nd rfl u YI λ_ y hy=>?_;obtain⟨t1,t2,⟨c,Pt,t3,t4,S,N⟩,bm,ob,M,I,F,d,b,a⟩:=h6 y hy;exact⟨t2,⟨c,Pt,t3,j.symm.trans t4,Yg L.kin S,N⟩,by show qual++".<locals>."=_;rw[t1],bm,ob,Ww L.kin L.glob M,I,L.kin _ _ F,d,b,a⟩
   have O':=HV O (tn:=tn) (told:=told) (k:=2*k) q1 q2 q3 (u.mono (W0 _)) q5;refine⟨_,sSs O' (λ_=>rfl) h5,?_⟩;cases l:aP (nT tn told (aO T G k)) G fn.body (bI fn.ns.length t) h with
   |none=>rw[l]at e;cases e
   |some B =>
    rw[l]at e;refine⟨m,_,h,B,R,j7 r,l,?_⟩;cases B with
    |rt y g =>
     intro v q m' Z o r';obtain⟨i,Y,W,V⟩:=gQ e R Z o r';exact U v q i Y W V
    |nx s' g =>
     intro C q m' Z o _;obtain⟨i,Y,W,V⟩:=gQ (v:=.aC) e R Z o (.p .aC);exact U .aC q i Y W V
    |_=>cases e
  cases e
end
end BS
end
section
end
section
namespace BS
open PySem PySem.Spec PyProof.Rows L2
noncomputable abbrev wJ(A:Wq):Wq:={A with handled:=af}
def cxU(P:VV)(w:Wj)(K:VE)(mg:az->Option aA)(base:au)(N:List az)(qual:az)(scope:Wv)(f:VS)(cd:aA)(A:Wq)(outer:List Env)(s:VG)(H:Hp):Cx :=
 {dU CX0 P w K mg base N qual scope f cd A outer s H E0 with calm:=ai,xe:=λ_ _=>False}
section
variable{K:VE}
def yt
(S:eX N ps scope)(J:pK P w K mg base A outer s H)(L:vs.length=ps.length)(r:dJ vs us)
(x:InCallC s s.heap.objs.size (bindL (Xr qual scope s.heap.objs.size f cd).kindOf (ps.zip us) λ_=>af) (aax (s.heap.objs.size+1) scope.names []) (bindC (Xr qual scope s.heap.objs.size f cd).kindOf (ps.zip us) λ_=>af) s1):
 Inv (cxU P w K mg base N qual scope f cd A outer s H) [] (L2.start N vs) H s1:=by
 have e1:pK P w K mg base (wJ A) outer s H:=⟨J.frames,J.mod,J.bs,J.bsz,J.jA,J.frf,J.aI,J.bare⟩;have I:=sW (CX:=CX0) (A:=wJ A) (E:=E0) S rfl e1 L r x;exact ⟨⟨I.ok.mod,I.ok.kind,I.ok.glob,I.ok.blt,I.ok.above,I.ok.inj,I.ok.has,I.ok.cab,λz=>(by exact aR z),aaC J.frames,I.ok.stk,I.ok.exf,I.ok.bs,I.ok.bsz,I.ok.noex,I.ok.exfs,I.ok.jA,I.ok.frf⟩,
  I.os,I.bare,I.base,I.loc,I.cell,I.free,I.freeC,I.pin,I.aI,I.len⟩
structure FnU(P:VV)(w:Wj)(K:VE)(mg:az->Option aA)(base:au)(k:Nat)(f:VS)(fd:WT)(ps:List az)(sp:Sp):Prop where
 len:∀vs H Q E,sp vs H Q E->vs.length=ps.length
 run:∀(A:Wq)(outer:List Env)(s:VG)(H:Hp) (args:Args) (us:List aA) (vs:List V) (Q:VK) (E:XK),fN k (wJ A)->pK P w K mg base A outer s H->BindsTo s fd args (ps.zip us)->dJ vs us->sp vs H Q E →
  ao (V4 P w) A (.call (.ref f) args) (CR CX0 outer P w H s Q E) s
def Mm{dV kV:aA}
{osl:Array (Option aA)}(m:K.lookup f=aa ⟨oc,od,.func (WL name qual params body scope dV kV doc pm an cdv ct),osl⟩)(d:Yq K cdv qual=ah)(S:eX N ps scope)
(len:∀vs H Q E,sp vs H Q E->vs.length=ps.length)
(U:∀ (A:Wq) (outer:List Env) (s:VG) (H:Hp) (vs:List V) (Q:VK) (E:XK),fN k (wJ (A.deeper (Xr qual scope s.heap.objs.size f cdv)))->sp vs H Q E →
  ∃ t,PSs (cxU P w K mg base N qual scope f cdv A outer s H) body t/\t { nx:=λ_ H'=>Q .aC H',rt:=Q } (L2.start N vs) H):
 FnU P w K mg base (k+1) f (WL name qual params body scope dV kV doc pm an cdv ct) ps sp:=by
 refine⟨len,λA outer s H h j vs Q E g Z D r W=>?_⟩;have B:=len _ _ _ _ W;have i:K.In s.heap:=Z.mod.kin.keeps λb o e=>(Z.bs b o e).1;have lim:s.heap.NoLimit:=Z.mod.nolimit.keeps λb o e=>(Z.bs b o e).1;have O:∀y∈ps.zip j,scope.names.lookup y.1=aa .local\/(scope.names.lookup y.1=aa .cell/\((aax (s.heap.objs.size+1) scope.names []).lookup y.1).isSome=ah):=λ⟨n,v⟩ hy=>by
  rcases S.par n (Y4 hy).1 with q|q
  exact .inl q;exact .inr ⟨q,YG _ _ _ (.inl q)⟩
 refine codeAny_call_function (A:=A) g.depth (i _ _ m) rfl S.co S.gen rfl (aaG i d) (D _ _ _ _ ?_);refine aaE S.kind O λG C l x=>?_;subst C;refine⟨lim.keeps x.toInCall.keep,codeAny_func ?_⟩;obtain⟨t,p,z⟩:=U A outer s H vs Q E (g.deeper _) W;have I:=yt (f:=f) (cd:=cdv) (qual:=qual) S Z B r x;refine WJ (p [] l (L2.start N vs) H _ I z) (λF a Y=>?_) λe a Y=>Y.elim;have fin:∀{L:L2.St}{H':Hp}{v:V}{u:aA},Inv (cxU P w K mg base N qual scope f cdv A outer s H) [] L H' a->RelV v u->Q v H'->CE outer P w H s Q u a :=
  λ{L H' v u} J c q=>⟨v,H',J.os,J.bare,J.base,J.aI,c,q⟩
 cases F with
 |ret u =>
  obtain⟨v,L,H',J,c,q⟩:=Y;exact fin J c q
 |next =>
  obtain⟨L,H',J,q⟩:=Y;exact fin (v:=V.aC) (u:=XY) J rfl q
 |_=>obtain⟨_,_,_,q⟩:=Y;exact Wy q
def nV(fn:aX):List aM->aL->Option (aM×aL):=nU (λ_ _ _=>af) (λ_=>af) fn
def Mn{st:V2}(n:∀x∈Ls,mg x=af)(h2:Fun K nm qual st f fd)(t:eX fn.ns fn.ps (cY st))(S:CSs (cY st) fn.ns fn.body (dD st))(M:gk fn.ns=ai)(d:∀x,fn.ns.contains (BT.jm x)=ai):
 FnU P w K mg base (k+1) f fd fn.ps (spF P w K (nV fn)):=by
 obtain⟨oc,od,kV,X,pm,an,l,ct,osl,rfl,G,i⟩:=h2.ex;refine Mm G i t (λC H Q E h=>?_) λA J s H C Q E N h=>?_
 ·obtain⟨m,U,h,z,T,R,r,e,V⟩:=h;unfold nV nU at e;split at e;rename_i c;rw[r.length];exact c;exact cW e
 ·obtain⟨m,U,h,z,T,R,r,e,V⟩:=h;unfold nV nU at e;split at e
  ·have O:Ok (cxU P w K mg base fn.ns qual (cY st) f l A J s H) (λ_ _ _=>af) (λ_=>af) (cY st) fn.ns:=by refine⟨rfl,rfl,t.nd,λz=>bM z (by rw[M];decide),?_,YI,λx z e=>(by exact cW e),λg U h r e=>(by exact cW e),λc g U h r e=>(by exact cW e),λc U h r e=>(by exact cW e),n,λL U h r e=>(by exact cW e),λ_ x I=>bM I (by rw[d x];decide)⟩;have:=N.un;show A.units+3+150<aaM;have this:A.units+3+16*k+200<aaM:=this;lia
   refine⟨_,sSs O (λ_=>rfl) S,?_⟩;cases j:aP (λ_ _ _=>af) (λ_=>af) fn.body (bI fn.ns.length U) h with
   |none=>rw[j]at e;exact cW e
   |some u =>
    rw[j]at e;refine⟨m,_,h,u,R,j7 r,j,?_⟩;cases u with
    |rt y g =>
     intro v q F a o D;obtain⟨b,Z,Y,W⟩:=gQ e R a o D;exact V v q b Z Y W
    |nx s' g =>
     intro B q F a o _;obtain⟨b,Z,Y,W⟩:=gQ (v:=.aC) e R a o (.p .aC);exact V .aC q b Z Y W
    |_=>exact cW e
  exact cW e
end
def EL(F:FnU X.prog X.w X.K X.mg X.base k f fd ps sp)(Y:fN k (wJ X.A))(c:Gl X x)(Z:X.mg x=aa (.ref f))(b:Wh X.K (.ref f)=ah)(g:Binds X.K fd ps [])
(i:PA X (e::es) t)(O:(x==("__debug__":az))=ai)(d:Wi (e::es) X.env=(ai,eval e X.env)::Wi es X.env)(L:(Xu pos (Wi es X.env)).any (·.1)=ai):
 PE X (.Call (.Name x p) (e::es) [] pos) (vE sp [] E0 t):=by
 intro W s V H Q I h;refine WO (iZ I c Z ?_ O);refine Xh (h₀:=X.base) I.ok.mod.kin b (thn (i pos W s V H _ I h) λus s1 ⟨vs,H1,I1,r,q⟩=>⟨I1.kIn,?_⟩) d L;have q:sp (vs++[]) H1 Q E0:=q;have U:dJ (vs++[]) (us++[]):=r.append .nil;have a:(us++[]).length=ps.length:=by rw[←U.length];exact F.len _ _ _ _ q
 refine aaT (YL (F.run X.A X.stack s1 H1 ⟨us,[]⟩ (us++[]) (vs++[]) Q E0 Y I1.Ks (g s1 us I1.kIn a) U q) λr l J=>?_);cases r with
 |error e=>exact Wy J
 |ok j =>
  cases j with
  |ret u=>exact I1.after J|_=>exact Wy J
noncomputable def cxI(X:Cx)(x:VS):Cx:={X with A:=X.A.mark (aa (.ref x)),calm:=ai,xe:=λ_ _=>False}
def HW(I:Inv X zt σ H s)(O:s.heap.get? x=aa oe)(hc:oe.cls=.ref C)(B:CN X.K c C)(Y:XT X.K c C)(w:H x=af)(m:x≠X.env.locals)(r:∀v,oe.data≠.cell v)
(l:∀p∈X.pn++zt,p.1≠x)(A:X.s₀.heap.get? x=af):Inv (cxI X x) zt σ (upd H x (.ext (excAt X.K c x))) s:=by
 have J:∀{b:VS}{o:HO},H b=aa o->upd H x (.ext (excAt X.K c x)) b=aa o:=λ{b o} e=>by rw[dH (λz=>by rw[z,w]at e;exact cW e)];exact e
 refine ⟨⟨I.ok.mod,I.ok.kind,I.ok.glob,I.ok.blt,I.ok.above,I.ok.inj,I.ok.has,I.ok.cab,λz=>(by exact aR z),I.ok.frames,I.ok.stk,I.ok.exf,I.ok.bs,I.ok.bsz,I.ok.noex,I.ok.exfs,I.ok.jA,I.ok.frf⟩,
  I.os,I.bare,⟨I.base.keep,I.base.slot,λb o e n t=>?_,I.base.there,λb Z e=>J (I.base.tups b Z e),λb o u e=>J (I.base.frzs b o u e),λb j e=>?_⟩,I.loc,I.cell,?_,λy a e=>?_,λp V=>?_,λb u e=>?_,I.len⟩
 rw[dH (λz=>by rw[z]at e;have e:X.s₀.heap.get? x=aa o:=e;rw[A]at e;exact cW e)];exact I.base.free b o e n t
 ·obtain⟨L,q⟩:=I.base.tbls b j e;exact⟨L,J q⟩
 ·show upd H x _ X.env.locals=af;rw[dH (WI m)];exact I.free
 ·rw[dH ?_];exact I.freeC y a e
  ·intro z;obtain⟨v,o,W,U⟩:=I.cell y a e;rw[z,O]at W;cases W;exact r v U
 ·obtain⟨i,h,g,f,d⟩:=I.pin p V;exact⟨i,by rw[dH (l p V)];exact h,g,f,d⟩
 ·by_cases z:b=x
  ·subst z;rw[eY]at e;cases e;refine⟨⟨oe,C,B,Y,O,hc⟩,⟨oe,O⟩,λP N q k=>?_⟩;obtain⟨o,M,G,F,E,D⟩:=q;exact⟨o,M,G,F,k _ E,D⟩
  ·rw[dH z]at e;exact(I.aI b u e).stay (λ_ _ _ q=>q) (λ_ q=>J q) λ_ _ q=>J q
def BO(ok:X.Ok)(I:Inv (cxI X x) zt σ H s):Inv X zt σ H s :=
 ⟨ok,I.os,I.bare,I.base,I.loc,I.cell,I.free,I.freeC,I.pin,I.aI,I.len⟩
section
variable{K:VE}{E:XK}
def BP{zt:List (VS×aq)}{σ:L2.St}{H1:Hp}{s1 s':VG}{e:aA}{tn n rn c:az}{C D fr:VS}{fdr:WT}{pr:List az}{sp:Sp}{k i:Nat}{p1 p2 p3 p5 p6 hp:Pos}{Wn:Hp->Prop}{R:VK}{Q:Flow->VG->Prop}
(I:Inv (dU CX P w K mg base N qual scope f cd A outer s0 H0 E) zt σ H1 s1)(h:CX1 P w (dU CX P w K mg base N qual scope f cd A outer s0 H0 E).stack H1 s1 E1 e s')(hE1:∀C' d H',E1 (.ref C') d H'->C'=C/\Wn H')
(nd:N.Nodup)(hi:N[i]?=aa n)(Y:scope.names.lookup n=aa .local)(okn:dR n=ah)(hgD:Gl (dU CX P w K mg base N qual scope f cd A outer s0 H0 E) tn)(okD:dR tn=ah)(hmD:mg tn=aa (.ref D))(hgR:Gl (dU CX P w K mg base N qual scope f cd A outer s0 H0 E) rn)(okR:dR rn=ah)(hmR:mg rn=aa (.ref fr))
(hkR:Wh K (.ref fr)=ah)(hbR:Binds K fdr pr [])(FR:FnU P w K mg base k fr fdr pr sp)(hr:fN k (dU CX P w K mg base N qual scope f cd A outer s0 H0 E).A)(cnC:CN K c C)(xt:XT K c C)(xC:nR K C)(xD:nR K D)(U:uM K C D=ah)
(g:∀H' x,Wn H'->H' x=af->sp [.ref x] (upd H' x (.ext (excAt K c x))) R E0)
(hQ:∀v u F H' s'',R v H'->RelV v u->Inv (dU CX P w K mg base N qual scope f cd A outer s0 H0 E) zt F H' s''->Q (.ret u) s''):
 ay (V4 P w) (dU CX P w K mg base N qual scope f cd A outer s0 H0 E).A (ZU e (dU CX P w K mg base N qual scope f cd A outer s0 H0 E).env) (λ_ s2=>ay (V4 P w) (dU CX P w K mg base N qual scope f cd A outer s0 H0 E).A (setFlight e af) (λ_ s3 =>
  ay (V4 P w) (dU CX P w K mg base N qual scope f cd A outer s0 H0 E).A (handleBy e (dU CX P w K mg base N qual scope f cd A outer s0 H0 E).env [.ExceptHandler (aa (.Name tn p1)) (aa n) [.Return (aa (.Call (.Name rn p2) [.Name n p3] [] p5)) p6] hp]) Q
   (dU CX P w K mg base N qual scope f cd A outer s0 H0 E).xe s3) (dU CX P w K mg base N qual scope f cd A outer s0 H0 E).xe s2) (dU CX P w K mg base N qual scope f cd A outer s0 H0 E).xe s':=by
 obtain⟨x,C',H',B,G,a0,rfl,e1,e2,un,ho,fl,s,hg,r,hE⟩:=h;obtain⟨rfl,wn⟩:=hE1 _ _ _ hE;have J:Inv (dU CX P w K mg base N qual scope f cd A outer s0 H0 E) zt σ H' s':=I.yV (ch:=[]) e1 un ho e2 (λb z=>bM z (by simp));have l:∀{y:az},dR y=ah->(y==("__debug__":az))=ai:=λ{y} q=>(fP q).1;refine wpAny_looks_onW I.ok.frames rfl fl λh4 Z M=>?_;refine wpAny_landsW Z λh5 j H=>?_;have t:Inv (dU CX P w K mg base N qual scope f cd A outer s0 H0 E) zt σ H' {s' with heap:=h5}:=z5 I J s hg r j.1 (M.trans H);obtain⟨ob,hob,hobc⟩:=j.there;refine wpAny_handleBy_cons (codeAny_handlers_test ?_) (by intro q;cases q);refine Ys t.ok.kind hgD (aam (by rw[t.ok.glob];exact t.mod.glob.keeps t.bk) hmD ?_) (l okD);obtain⟨bm,N1,nm,qn,bs,hdct,sn,sub,ab,col,dd,k0,k1,k2,k3,k5,mN,hC,hN,hni,T,lC⟩:=xC.obj I.mod.kin;obtain⟨bm2,N2,nm2,qn2,bs2,hdct2,sn2,sub2,ab2,col2,dd2,j0,j1,j2,j3,j5,mN2,hD,hN2,hni2,T2,_⟩:=xD.obj I.mod.kin;have lC:K.lookup C'=_:=lC;have hcD:(WK C'::bm).contains (.ref D)=ah:=by unfold uM at U;rw[lC]at U;exact U
 refine rC (t.bk _ _ hC) (t.bk _ _ hD) hob hobc (T2.hasType rfl) hcD ?_;refine codeAny_handlers_suite_as ?_;refine lands_againW j λh6 fl6 sm6=>?_;have J6:Inv (dU CX P w K mg base N qual scope f cd A outer s0 H0 E) zt σ H' {s' with heap:=h6}:=z5 I J s hg r fl6.1 ((M.trans H).trans sm6);obtain⟨_,xB,_,oe,vs,_,_,_,V,⟨hoc,_⟩,W,_⟩:=fl6;have nl:x≠(dU CX P w K mg base N qual scope f cd A outer s0 H0 E).env.locals:=λz=>by obtain⟨m,⟨o,es,ep,L,O,_⟩,_⟩:=J6.loc;have L:h6.get? _=aa o:=L;rw[←z,V]at L;cases L;rw[W]at O;cases O
 have nH:H' x=af:=by
  cases q:H' x with
  |none=>rfl
  |some u =>
   obtain⟨o,q2⟩:=obj_some (hg x u q);have:=r x o (by rw[q];exact λz=>nomatch z) q2;rw[xB]at this;exact cW this
 have nf:x∉(dU CX P w K mg base N qual scope f cd A outer s0 H0 E).fs:=λz=>by obtain⟨_,o,L,O⟩:=J6.jA.mem z;have L:h6.get? _=aa o:=L;rw[V]at L;cases L;exact O _ W
 have ns:∀{b:VS}{o:aq},s1.heap.get? b=aa o->b∉frs (dU CX P w K mg base N qual scope f cd A outer s0 H0 E).stack->b≠x:=λ{b o} q1 q2 z=>by obtain⟨o',q3,_⟩:=s b o q1 q2;rw[z,xB]at q3;exact cW q3
 have hpn:∀p∈(dU CX P w K mg base N qual scope f cd A outer s0 H0 E).pn++zt,p.1≠x:=λp hp=>by
  obtain⟨q1,_,q3,q4,_⟩:=I.pin p hp;refine ns q1 λz=>?_;rcases List.mem_cons.mp (I.kY p.1 z)with q|q
  exact q3 q;exact q4 q
 have hs0:s0.heap.get? x=af:=by
  cases q:s0.heap.get? x with
  |none=>rfl
  |some o =>
   obtain⟨o1,q1⟩:=I.base.there x o q (by simp[dU]);exact bM rfl (ns q1 (iO I q nf))
 refine oz J6 nd hi (.inl Y) (v:=.ref x) rfl (λs7 J7 S=>?_) (.inr Y);have h7:s7.heap.get? x=aa oe:=by
  obtain⟨a,S,ha⟩:=S;have ne:x≠a:=by
   rcases ha with rfl|ha
   exact nl
   ·intro z;obtain⟨v,o,L,O⟩:=J6.cell n a ha;have L:h6.get? _=aa o:=L;rw[←z,V]at L;cases L;rw[W]at O;cases O
  exact(S.2 x ne).trans V
 have J8:=HW (c:=c) J7 h7 hoc cnC xt nH nl (λv z=>by rw[W]at z;cases z) hpn hs0;have body:ay (V4 P w) (cxI (dU CX P w K mg base N qual scope f cd A outer s0 H0 E) x).A (execs [.Return (aa (.Call (.Name rn p2) [.Name n p3] [] p5)) p6] (dU CX P w K mg base N qual scope f cd A outer s0 H0 E).env)
  (SP (cxI (dU CX P w K mg base N qual scope f cd A outer s0 H0 E) x) zt {nx:=λ_ _=>False,rt:=R}) (λ_ _=>False) s7:=by
  have dn:(n==("__classdict__":az))=ai:=(fP okn).2.1;refine(nq (xN (EL (X:=cxI (dU CX P w K mg base N qual scope f cd A outer s0 H0 E) x) FR ⟨rfl,hr.dp,hr.un⟩ hgR hmR hkR hbR (gX (Cr (i:=i) hi (.inl Y) (l okn) dn) mS) (l okR) rfl rfl))) zt s7 _ _ _ J8 ?_;have iσ:i<σ.length:=by rw[J6.len];exact(List.getElem?_eq_some_iff.mp hi).1
  exact⟨.ref x,Wb iσ,g H' x wn nH⟩
 refine WJ body (λfl s8 q=>?_) λ_ _ z=>z.elim;cases fl with
 |ret u =>
  obtain⟨v,F,H2,J9,rv,q⟩:=q;obtain⟨m,hn,_⟩:=J9.loc;show ay _ _ (do bindName _ n .none;unbindBehindTheSuite _ n hp) _ _ _;exact wpAny_nameGoes Y hn (by rw[show(dU CX P w K mg base N qual scope f cd A outer s0 H0 E).env.scope.kind=.function from J.ok.kind];rfl) λh' m' hn' S=>hQ _ _ _ _ _ q rv (Ez (BO J.ok J9) hn' S)
 |_=>obtain⟨_,_,_,z⟩:=q;exact z.elim
end
structure Qn(K:VE)(D:VS):Prop where
 all:∀c,lB c=ah->∃C,CN K c C/\XT K c C/\nR K C/\uM K C D=ah
def pC(F:FT)(R:BT.XF)(D:az->Bool)(G:az->Option aM)(fn J:aX)(ws:List aM)(h:aL):Option (aM×aL) :=
 if ws.length=fn.ps.length then (match BT.iW (aP F G fn.body (bI fn.ns.length ws) h) (BT.fin h) with
  |some r=>aa r
  |none=>match BT.rsS F R D G fn.body (bI fn.ns.length ws) h with
   |some (c,h')=>if lB c then nV J [.x c] h' else af
   | none=>af) else af
section
variable{K:VE}
def EM{rn:List az}(X:Txt P w K mg T G)(Y:BN rn K mg TX){k:Nat}{fn a:aX}{tn n rn:az}{f fr:VS}{fd o:WT}{nm qual:az}{st:V2}{body:List V2}{D:VS}{i:Nat}{p1 p2 p3 p5 p6 hp pos:Pos}(Z:Qn K D)
(h2:Fun K nm qual st f fd)(h3:eX fn.ns fn.ps (cY st))(hB:dD st=[.Try body [.ExceptHandler (aa (.Name tn p1)) (aa n) [.Return (aa (.Call (.Name rn p2) [.Name n p3] [] p5)) p6] hp] [] [] pos])
(h5:CSs (cY st) fn.ns fn.body body)(h6:iF (cY st) fn.ns [] fn.body body)(hnt:∀x,fn.ns.contains (BT.jm x)=ai)(hi:fn.ns[i]?=aa n)(hln:(cY st).names.lookup n=aa .local)(okn:dR n=ah)
(hgD:d7 (cY st) tn=ah)(okD:dR tn=ah)(hmD:mg tn=aa (.ref D))(xD':nR K D)(hgR:d7 (cY st) rn=ah)(okR:dR rn=ah)(hmR:mg rn=aa (.ref fr))(hkR:Wh K (.ref fr)=ah)(hbR:Binds K o a.ps [])(FR:FnU P w K mg base 1 fr o a.ps (spF P w K (nV a))):
 gE P w K mg base CX0 (2*k+1+1) f fd fn.ps (spF P w K (pC (aO T G k) (BT.gu T TX G k) (BT.dk T) G fn a)):=by
 obtain⟨oc,od,kV,doc,pm,an,cdv,ct,osl,rfl,lk,hcd⟩:=h2.ex;refine C1 lk hcd h3 (λM H Q E h=>?_) λA outer s H M Q E hr h=>?_
 ·obtain⟨m,F,h,z,h',R,r,e,B⟩:=h;rw[r.length];unfold pC at e;split at e;rename_i c;exact c;exact cW e
 ·obtain⟨m,F,h,z,h',R,r,e,B⟩:=h;unfold pC at e;split at e
  ·have O:=Qm (CX:=CX0) (base:=base) (outer:=outer) (H:=H) (E:=E) (ps:=fn.ps) X h3.nd hnt hr;rw[hB];refine⟨λDd σ V=>σ=L2.start fn.ns M/\V=H/\(∀v U,Dd.rt v U↔Q v U)/\∀L U,Dd.nx L U↔Q .aC U,nq ?_,rfl,rfl,λ_ _=>Iff.rfl,λ_ _=>Iff.rfl⟩;intro zt s1 σ S Dd I ⟨q1,q2,q3,q4⟩;subst q1 q2;refine wpAny_Try_except ?_;cases b:BT.iW (aP (aO T G k) G fn.body (bI fn.ns.length F) h) (BT.fin h)with
   |some rr =>
    rw[b]at e;cases e;cases gg:aP (aO T G k) G fn.body (bI fn.ns.length F) h with
    |none=>rw[gg]at b;exact cW b
    |some fl =>
     rw[gg]at b;refine thn (sSs (Mf (zt:=zt) O Yr) (λ_=>rfl) h5 [] s1 (L2.start fn.ns M) S {nx:=λ_ U=>Q .aC U,rt:=Q} (Er I) ⟨m,_,h,fl,R,j7 r,gg,?_⟩) λfw s2 q=>?_
     ·cases fl with
      |rt y g =>
       intro v V m' j t r';obtain⟨W,y1,y2,y3⟩:=gQ b R j t r';exact B v V W y1 y2 y3
      |nx s' g =>
       intro L V m' j t _;obtain⟨W,y1,y2,y3⟩:=gQ (v:=.aC) b R j t (.p .aC);exact B .aC V W y1 y2 y3
      |_=>exact cW b
     ·cases fw with
      |next =>
       obtain⟨L,V,J,z⟩:=q;exact YB ⟨L,V,zW I.ok J,(q4 _ _).mpr z⟩
      |ret u =>
       obtain⟨v,L,V,J,rv,z⟩:=q;exact⟨v,L,V,zW I.ok J,rv,(q3 _ _).mpr z⟩
      |_=>obtain⟨_,_,_,z⟩:=q;exact z.elim
   |none =>
    rw[b]at e;simp only at e;cases g1:BT.rsS (aO T G k) (BT.gu T TX G k) (BT.dk T) G fn.body (bI fn.ns.length F) h with
    |none=>rw[g1]at e;exact cW e
    |some cq =>
     obtain⟨c,N⟩:=cq;rw[g1]at e;simp only at e;split at e
     ·rename_i hxn;obtain⟨C,cnC,xt,xC,l⟩:=Z.all c hxn;refine BK (R:=BT.gu T TX G k) (E:=λcv _ U=>cv=.ref C/\∃W,Ext m S W U/\RH K W U N) (ra:=[]) (Mf (zt:=zt) O Yr) (EJ (base:=base) X Y (wH X Y k).1 (wH X Y k).2 rfl rfl rfl rfl rfl hr ?_) (λz=>bM rfl z) (λ_=>rfl) h6 [] s1 (L2.start fn.ns M) S _ (Er I) ⟨m,_,h,c,N,R,j7 r,g1,λV m' j t C' hC'=>⟨by rw[hC'.inj cnC],m',j,t⟩⟩
      ·intro pins' L U s2 ee s3 I' hcx;refine BP (Wn:=λU=>∃W,Ext m S W U/\RH K W U N) (R:=Q) (zW I.ok I') hcx (λC' d V z=>⟨by have:=z.1;cases this;rfl,z.2⟩) h3.nd hi hln okn (eZ O hgD) okD hmD (eZ O hgR) okR hmR hkR hbR FR (hr.mono (by lia)) cnC xt xC xD' l (λV x wn hx=>?_) λv u L V s'' q rv J=>⟨v,L,V,J,rv,(q3 _ _).mpr q⟩;obtain⟨W,x2,R2⟩:=wn;refine⟨W,[.x c],N,z,h',R2.new hx,.cons (.x eY (R2.jX hx) ⟨C,xt⟩) .nil,e,λv H3 m3 x3 R3 r3=>?_⟩;exact B v H3 m3 ((x2.trans (i6 hx)).trans x3) R3 r3
     exact cW e
  exact cW e
end
section
variable{P:VV}{w:Wj}{K:VE}{mg:az->Option aA}{base:au}{T TX:bA->Option aX}{G:az->Option aM}
end
section
variable{P:VV}{w:Wj}{K:VE}{mg:az->Option aA}{base:au}{T:bA->Option aX}{G:az->Option aM}
end
section
variable{CX:CXT}{P:VV}{w:Wj}{K:VE}{mg:az->Option aA}{base:au}{N:List az}{qual:az}{scope:Wv}{f:VS}{cd:aA}{A:Wq}{outer:List Env}{s0:VG}{H0:Hp}{E E1:XK}
end
section
variable{P:VV}{w:Wj}{K:VE}{mg:az->Option aA}{base:au}{T TX:bA->Option aX}{G:az->Option aM}
end
end BS
end
section
namespace BT
open PySem
variable{g2:HH}{gv most:Nat}{pr:List D}
def gw:Fn:=⟨["part"],["part"], (.seq (.v (.z .eq (.y (.aD "INNER_COUNTS") (.y (.v 0) (.j (.int 0)))) (.j (.int 0))) (.ret (.aB .nil)) .nil) (.ret (.n (.v 0) (cV (.j (.int 1))) .nil)))⟩
def nW:Fn:=⟨[],[], (.ret (.aB (cQ (.j (.int 0)) (.bin .mul (.aB (cV (.j (.int 0)))) (.bi .len ai (cV (.aD "LETTERS")))) (.bin .mul (.aB (cV (.j (.int 0)))) (.aD "CELL_COUNT")) (.aB .nil) (.j (.int 0)) (.aB .nil))))⟩
def jH:Fn:=⟨["term"],["term","parts","waiting","part"], (.seq (.set 1 (.aj ah .nil)) (.seq (.set 2 (.aj ah (cV (.v 0)))) (.seq (.j (.z .gt (.bi .len ai (cV (.v 2))) (.j (.int 0))) (.seq (.set 3 (.me .pop (.v 2) .nil)) (.seq (.ex (.me .append (.v 1) (cV (.v 3)))) (.ex (.me .extend (.v 2) (cV (.call "inner_sums" (cV (.v 3))))))))) (.ret (.v 1)))))⟩
def mD:Fn:=⟨["word","one","other"],["word","one","other"], (.seq (.v (.z .eq (.v 0) (.j (.str "less"))) (.ret (.ite (.z .lt (.v 1) (.v 2)) (.j (.int 1)) (.j (.int 0)))) .nil) (.seq (.v (.z .eq (.v 0) (.j (.str "add"))) (.ret (.bin .mod (.bin .add (.v 1) (.v 2)) (.aD "WORTH_COUNT"))) .nil) (.seq (.v (.z .eq (.v 0) (.j (.str "sub"))) (.ret (.bin .mod (.bin .sub (.v 1) (.v 2)) (.aD "WORTH_COUNT"))) .nil) (.ret (.bin .mod (.bin .mul (.v 1) (.v 2)) (.aD "WORTH_COUNT"))))))⟩
def iG:Fn:=⟨["thing"],["thing"], (.ret (.z .mem (.v 0) (.aD "LETTERS")))⟩
def jI:Fn:=⟨["state","thing"],["state","thing"], (.seq (.v (.call "is_name" (cV (.v 1))) (.ret (.y (.y (.v 0) (.aD "NAMES")) (.me .tindex (.aD "LETTERS") (cV (.v 1))))) .nil) (.seq (.ex (.call "check_thing" (cV (.v 1)))) (.ret (.y (.y (.v 0) (.aD "CELLS")) (.v 1)))))⟩
def f6:Fn:=⟨["part","worths","state"],["part","worths","state","word","last"], (.seq (.set 3 (.y (.v 0) (.j (.int 0)))) (.seq (.v (.z .eq (.v 3) (.j (.str "num"))) (.ret (.y (.v 0) (.j (.int 1)))) .nil) (.seq (.v (.z .eq (.v 3) (.j (.str "name"))) (.ret (.call "worth_in" (cU (.v 2) (.y (.v 0) (.j (.int 1)))))) .nil) (.seq (.set 4 (.me .pop (.v 1) .nil)) (.seq (.v (.z .eq (.v 3) (.j (.str "cell"))) (.ret (.y (.y (.v 2) (.aD "CELLS")) (.bin .mod (.v 4) (.aD "CELL_COUNT")))) .nil) (.ret (.call "of_two" (cT (.v 3) (.me .pop (.v 1) .nil) (.v 4)))))))))⟩
def jJ:Fn:=⟨["term","state"],["term","state","worths","part"], (.seq (.set 2 (.aj ah .nil)) (.seq (.for [(3,"part")] .rev (cV (.call "laid_out" (cV (.v 0)))) (.ex (.me .append (.v 2) (cV (.call "worth_of" (cT (.v 3) (.v 2) (.v 1))))))) (.ret (.y (.v 2) (.j (.int 0))))))⟩
def kI:Fn:=⟨["term","state"],["term","state"], (.ret (.bin .mod (.call "reckoned" (cU (.v 0) (.v 1))) (.aD "CELL_COUNT")))⟩
def jo:Fn:=⟨["program","state"],["program","state","word"], (.seq (.v (.z .ge (.y (.v 1) (.aD "ROW")) (.bi .len ai (cV (.v 0)))) (.ret (.j (.bl ah))) .nil) (.seq (.set 2 (.y (.y (.v 0) (.y (.v 1) (.aD "ROW"))) (.j (.int 0)))) (.seq (.v (.z .eq (.v 2) (.j (.str "back"))) (.ret (.z .eq (.bi .len ai (cV (.y (.v 1) (.aD "CALLS")))) (.j (.int 0)))) .nil) (.seq (.v (.z .eq (.v 2) (.j (.str "call"))) (.ret (.z .ge (.bi .len ai (cV (.y (.v 1) (.aD "CALLS")))) (.aD "MOST_CALLS"))) .nil) (.ret (.z .eq (.v 2) (.j (.str "stop"))))))))⟩
def gD:Fn:=⟨["row","state"],["row","state","word"], (.seq (.set 2 (.y (.v 0) (.j (.int 0)))) (.seq (.v (.or (.z .eq (.v 2) (.j (.str "jump"))) (.z .eq (.v 2) (.j (.str "call")))) (.ret (.y (.v 0) (.j (.int 1)))) .nil) (.seq (.v (.z .eq (.v 2) (.j (.str "back"))) (.ret (.y (.y (.v 1) (.aD "CALLS")) (.neg (.j (.int 1))))) .nil) (.seq (.v (.and (.z .eq (.v 2) (.j (.str "unless"))) (.z .eq (.call "reckoned" (cU (.y (.v 0) (.j (.int 1))) (.v 1))) (.j (.int 0)))) (.ret (.y (.v 0) (.j (.int 2)))) .nil) (.ret (.bin .add (.y (.v 1) (.aD "ROW")) (.j (.int 1))))))))⟩
def iI:Fn:=⟨["worths","number","worth"],["worths","number","worth"], (.ret (.bin .add (.bin .add (.n (.v 0) .nil (cV (.v 1))) (.aB (cV (.v 2)))) (.n (.v 0) (cV (.bin .add (.v 1) (.j (.int 1)))) .nil)))⟩
def i7:Fn:=⟨["state","name","worth"],["state","name","worth"], (.ret (.call "with_worth" (cT (.y (.v 0) (.aD "NAMES")) (.me .tindex (.aD "LETTERS") (cV (.v 1))) (.v 2))))⟩
def jq:Fn:=⟨["asked","number"],["asked","number"], (.ret (.ite (.z .lt (.v 1) (.bi .len ai (cV (.v 0)))) (.y (.v 0) (.v 1)) (.j (.int 0))))⟩
def kJ:Fn:=⟨["program","asked","state"],["program","asked","state","row","word","behind"], (.seq (.set 3 (.y (.v 0) (.y (.v 2) (.aD "ROW")))) (.seq (.set 4 (.y (.v 3) (.j (.int 0)))) (.seq (.set 5 (.bi .list ah (cV (.v 2)))) (.seq (.put 5 (.aD "ROW") (.call "place_behind" (cU (.v 3) (.v 2)))) (.seq (.v (.z .eq (.v 4) (.j (.str "set"))) (.put 5 (.aD "NAMES") (.call "with_name" (cT (.v 2) (.y (.v 3) (.j (.int 1))) (.call "reckoned" (cU (.y (.v 3) (.j (.int 2))) (.v 2)))))) (.v (.z .eq (.v 4) (.j (.str "put"))) (.put 5 (.aD "CELLS") (.call "with_worth" (cT (.y (.v 2) (.aD "CELLS")) (.call "cell_by" (cU (.y (.v 3) (.j (.int 1))) (.v 2))) (.call "reckoned" (cU (.y (.v 3) (.j (.int 2))) (.v 2)))))) (.v (.z .eq (.v 4) (.j (.str "ask"))) (.seq (.put 5 (.aD "NAMES") (.call "with_name" (cT (.v 2) (.y (.v 3) (.j (.int 1))) (.call "brought" (cU (.v 1) (.y (.v 2) (.aD "ASKED"))))))) (.put 5 (.aD "ASKED") (.bin .add (.y (.v 2) (.aD "ASKED")) (.j (.int 1))))) (.v (.z .eq (.v 4) (.j (.str "say"))) (.put 5 (.aD "SAID") (.bin .add (.y (.v 2) (.aD "SAID")) (.aB (cV (.call "reckoned" (cU (.y (.v 3) (.j (.int 1))) (.v 2))))))) (.v (.z .eq (.v 4) (.j (.str "call"))) (.put 5 (.aD "CALLS") (.bin .add (.y (.v 2) (.aD "CALLS")) (.aB (cV (.bin .add (.y (.v 2) (.aD "ROW")) (.j (.int 1))))))) (.v (.z .eq (.v 4) (.j (.str "back"))) (.put 5 (.aD "CALLS") (.n (.y (.v 2) (.aD "CALLS")) .nil (cV (.neg (.j (.int 1)))))) .nil)))))) (.ret (.bi .tuple ai (cV (.v 5)))))))))⟩
def z9:VQ s=VQ t↔s=t:=by
 constructor
 ·intro h;rw[aaF,aaF]at h;have U:(s.toList.map aal)=(t.toList.map aal):=by have:=bS (λx:az=>x.cps.toList) h;simpa using this
  have inj:∀(a b:List Char),a.map aal=b.map aal->a=b:=by
   intro a
   induction a with
   |nil=>intro b h;cases b with
    |nil=>rfl|cons _ _=>simp at h
   |cons x V L=>intro b h;cases b with
    |nil=>simp at h
    |cons y J =>
     simp only[VX,X9]at h;have:x=y:=Char.toNat_inj.mp h.1;rw[this,L J h.2]
  have O:=inj _ _ U;exact String.toList_inj.mp O
 intro h;rw[h]
@[simp]theorem Sh(s t:String):(VQ s==VQ t)=(s==t):=by
 by_cases h:s=t
 subst h;simp
 ·have J:¬VQ s=VQ t:=λe=>h (z9.mp e);rw[beq_eq_false_iff_ne.mpr J,beq_eq_false_iff_ne.mpr h]
@[simp]theorem Uk(s t:String):(VQ s=VQ t)=(s=t):=propext z9
@[simp]theorem Vy(h:List α)(a:α)(r:List α):(h++a::r)[h.length]?=aa a:=by simp
@[simp]theorem Qo(h:List α)(a b:α)(r:List α):(h++a::b::r)[h.length+1]?=aa b:=by rw[V7 (by lia)];simp
@[simp]theorem Vz(h:List α)(a x:α)(r:List α):(h++a::r).set h.length x=h++x::r:=by simp
@[simp]theorem VA(h:List α)(a b x:α)(r:List α):(h++a::b::r).set (h.length+1) x=h++a::x::r:=by rw[List.set_append_right _ _ (by lia)];simp
def c5(h:HH)(w:W):fin h w h=aa (w,h):=by simp[fin]
def j8(h g:HH)(d:D):fin h (.p d) (h++g)=aa (.p d,h):=by
 unfold fin;cases g with
 |_=>simp
@[simp]theorem Ul(h:HH)(a:Cl)(r:HH):lat (h++a::r) h.length=qE a:=by simp[lat]
@[simp]theorem VB(h:HH)(a b:Cl)(r:HH):lat (h++a::b::r) (h.length+1)=qE b:=by unfold lat;rw[Qo];rfl
@[simp]theorem VC(h:HH)(a:Cl)(r:HH):oat (h++a::r) h.length=sf a:=by simp[oat]
@[simp]theorem VD(h:HH)(a b:Cl)(r:HH):oat (h++a::b::r) (h.length+1)=sf b:=by unfold oat;rw[Qo];rfl
def HY(e:lat h n=aa ys)(c:Cl):lat (h.set n c) n=qE c:=by
 unfold lat at e⊢;cases g:h[n]? with
 |none=>rw[g]at e;exact gT e|some q=>rw[List.getElem?_set_self',g];rfl
def JJ(h:HH)(xs:List D)(g:HH):fin h (.r h.length) (h++.l xs::g)=aa (.p (.aj xs),h):=by unfold fin;simp
def Aa(h h':HH)(w:W)(e:h'.length=h.length):fin h w h'=aa (w,h'):=by simp[fin,e]
structure Prg(T:FK->Option Fn)(G:az->Option W):Prop where
 inner_sums:T "inner_sums"=aa gw
 begun:T "begun"=aa nW
 laid_out:T "laid_out"=aa jH
 of_two:T "of_two"=aa mD
 worth_of:T "worth_of"=aa f6
 is_name:T "is_name"=aa iG
 worth_in:T "worth_in"=aa jI
 reckoned:T "reckoned"=aa jJ
 cell_by:T "cell_by"=aa kI
 is_over:T "is_over"=aa jo
 place_behind:T "place_behind"=aa gD
 with_worth:T "with_worth"=aa iI
 with_name:T "with_name"=aa i7
 brought:T "brought"=aa jq
 stepped:T "stepped"=aa kJ
 LETTERS:G "LETTERS"=aa (.p (.aB [.str "a",.str "b",.str "c",.str "d",.str "e",.str "f"]))
 CELL_COUNT:G "CELL_COUNT"=aa (.p (.int 4))
 WORTH_COUNT:G "WORTH_COUNT"=aa (.p (.int 10007))
 INNER:G "INNER_COUNTS"=aa (.k (.t [("num",.int 0),("name",.int 0),("cell",.int 1),("add",.int 2),("sub",.int 2),("mul",.int 2),("less",.int 2)]))
 ROW:G "ROW"=aa (.p (.int 0))
 NAMES:G "NAMES"=aa (.p (.int 1))
 CELLS:G "CELLS"=aa (.p (.int 2))
 CALLS:G "CALLS"=aa (.p (.int 3))
 ASKED:G "ASKED"=aa (.p (.int 4))
 SAID:G "SAID"=aa (.p (.int 5))
 MOST_CALLS:G "MOST_CALLS"=aa (.p (.int 6))
inductive Op
 |add|sub|mul|less
noncomputable def Op.w:Op->String
 |.add=>"add" |.sub=>"sub" |.mul=>"mul" |.less=>"less"
inductive Nm
 |a|b|c|d|e|f
noncomputable def Nm.w:Nm->String
 |.a=>"a" |.b=>"b" |.c=>"c" |.d=>"d" |.e=>"e" |.f=>"f"
noncomputable def Nm.ix:Nm->Nat
 |.a=>0|.b=>1|.c=>2|.d=>3|.e=>4|.f=>5
def Nm.Ab(x:Nm):x.ix<6:=by cases x<;>decide
inductive Sm
 |num(n:Int)
 |nam(i:Nm)
 |cell(s:Sm)
 |two(o:Op)(s t:Sm)
def Sm.enc:Sm->D
 |.num n=>.aB [.str "num",.int n]|.nam i=>.aB [.str "name",.str i.w]|.cell s=>.aB [.str "cell",s.enc]|.two o s t=>.aB [.str o.w,s.enc,t.enc]
noncomputable def Sm.size:Sm->Nat
 |.num _=>1|.nam _=>1|.cell s=>s.size+1|.two _ s t=>s.size+t.size+1
noncomputable def Sm.lay:Sm->List Sm
 |.num n=>[.num n]|.nam i=>[.nam i]|.cell s=>.cell s::s.lay|.two o s t=>.two o s t::(t.lay++s.lay)
noncomputable def Sm.subs:Sm->List Sm
 |.num _=>[]|.nam _=>[]|.cell s=>[s]|.two _ s t=>[s,t]
def Wth(n:Int):Prop:=0<=n/\n<=10006
noncomputable def Sm.ok:Sm->Prop
 |.num n=>Wth n|.nam _=>True|.cell s=>s.ok|.two _ s t=>s.ok/\t.ok
def Sm.size_pos(s:Sm):1<=s.size:=by cases s<;>simp[Sm.size]
structure St where
 row:Nat
 names:List Int
 cells:List Int
 calls:List Nat
 aF:Nat
 said:List Int
noncomputable def cX(xs:List Int):List D:=xs.map D.int
noncomputable def cZ(xs:List Nat):List D:=xs.map λ(n:Nat)=>D.int (n:Int)
def St.enc(s:St):D:=.aB [.int s.row,.aB (cX s.names),.aB (cX s.cells),.aB (cZ s.calls),.int s.aF,.aB (cX s.said)]
structure St.ok(s:St):Prop where
 nlen:s.names.length=6
 clen:s.cells.length=4
 nw:∀x∈s.names,Wth x
 cw:∀x∈s.cells,Wth x
noncomputable def two(o:Op)(x y:Int):Int:=match o with
 |.add=>(x+y)%10007|.sub=>(x-y)%10007|.mul=>(x*y)%10007
 |.less=>if x<y then 1 else 0
def Sm.val(st:St):Sm->Int
 |.num n=>n|.nam i=>st.names.getD i.ix 0|.cell s=>st.cells.getD (s.val st%4).toNat 0|.two o s t=>BT.two o (s.val st) (t.val st)
def yu{xs:List Int}(h:∀x∈xs,Wth x)(i:Nat):Wth (xs.getD i 0):=by
 rw[W6];cases e:xs[i]? with
 |none=>exact⟨by decide,by decide⟩|some x=>exact h x (V0 e)
def Qp(o:Op):Wth (BT.two o x y):=by cases o<;>simp only[BT.two,Wth];lia;lia;lia;split<;>decide
theorem Sm.tL{st:St}(J:st.ok):∀{s:Sm},s.ok->Wth (s.val st)
 |.num _,h=>h|.nam i,_=>yu J.nw _|.cell _,_=>yu J.cw _|.two _ _ _,_=>Qp _
section
def BQ(P:Prg T G)(k:Nat)(s:Sm)(h:HH):runN T G (k+1) "inner_sums" [.p s.enc] h=aa (.p (.aB (s.subs.map Sm.enc)),h):=by
 rw[run_eq P.inner_sums rfl];cases s with
 |two o s t =>
  have g:=P.INNER;have q:gi (VQ o.w) [("num",.int 0),("name",.int 0),("cell",.int 1),("add",.int 2),("sub",.int 2),("mul",.int 2),("less",.int 2)]=aa (.int 2):=by cases o<;>simp[Op.w]
  generalize ([("num",.int 0),("name",.int 0),("cell",.int 1),("add",.int 2),("sub",.int 2),("mul",.int 2),("less",.int 2)]:List (az×D))=I at *;simp[gw,g,q,Sm.enc,Sm.subs,c5]
 |_=>simp[gw,P.INNER,Sm.enc,Sm.subs,c5]
def yv(P:Prg T G)(k:Nat)(o:Op)(J:Wth x)(h:HH):
 runN T G (k+1) "of_two" [.p (.str o.w),.p (.int x),.p (.int y)] h=aa (.p (.int (two o x y)),h):=by
 rw[run_eq P.of_two rfl];have b:big x=ah:=by unfold big;exact bP (by have O:=J.1;have L:=J.2;lia)
 cases o<;>simp[mD,P.WORTH_COUNT,c5,Op.w,two,b]
 by_cases c:x<y<;>simp[c,c5]
noncomputable def sD:List D:=[.str "a",.str "b",.str "c",.str "d",.str "e",.str "f"]
def HZ(x:Nm):iB .mem (.str x.w) (.aB sD)=aa ah:=by cases x<;>simp[sD,Nm.w]
def EN(x:Nm):meD .tindex (.aB sD) [.str x.w]=aa (.int (x.ix:Int)):=by rw[C6];cases x<;>simp[sD,Nm.w,Nm.ix,iV]
def wK{i:Nat}(h:i<xs.length):dI (.aB (cX xs)) (.int (i:Int))=aa (.int (xs.getD i 0)):=by show atP _ _=_;unfold atP place cX;rw[bK (Int.natCast_nonneg _),bK (by rw[V8];lia)];show(xs.map D.int)[((i:Int)).toNat]?=_;rw[Int.toNat_natCast,VY,W6,VL h];rfl
theorem tM(st:St):dI st.enc (.int 1)=aa (.aB (cX st.names)):=rfl
theorem BU(st:St):dI st.enc (.int 2)=aa (.aB (cX st.cells)):=rfl
def lK(P:Prg T G)(k:Nat)(x:Nm)(h:HH):runN T G (k+1) "is_name" [.p (.str x.w)] h=aa (.p (.bl ah),h):=by rw[run_eq P.is_name rfl];have g:G "LETTERS"=aa (.p (.aB sD)):=P.LETTERS;have m:=HZ x;generalize sD=L at *;simp[-jk,iG,g,m,c5]
def uP(P:Prg T G)(k:Nat)(st:St)(W:st.ok)(x:Nm)(h:HH):runN T G (k+2) "worth_in" [.p st.enc,.p (.str x.w)] h=aa (.p (.int (st.names.getD x.ix 0)),h):=by rw[run_eq P.worth_in rfl];have r:=lK P k x;have J:=x.Ab;have V:=wK (xs:=st.names) (i:=x.ix) (by rw[W.nlen];exact J);have U:=EN x;have O:=tM st;have g:G "LETTERS"=aa (.p (.aB sD)):=P.LETTERS;generalize sD=L at *;generalize st.enc=se at *;generalize cX st.names=sn at *;simp[-eV,jI,r,P.NAMES,g,V,U,O,c5]
def lM(P:Prg T G)(k:Nat)(st:St)(J:st.ok)(n:Nat)(h:HH):
 (∀i,runN T G (k+3) "worth_of" [.p (Sm.num i).enc,.r n,.p st.enc] h=aa (.p (.int i),h)) ∧
 (∀i,runN T G (k+3) "worth_of" [.p (Sm.nam i).enc,.r n,.p st.enc] h=aa (.p (.int (st.names.getD i.ix 0)),h)):=by
 refine⟨λi=>?_,λi=>?_⟩<;>rw[run_eq P.worth_of rfl];simp[f6,Sm.enc,c5]
 ·have r:=uP P k st J i;simp[f6,Sm.enc,c5,r]
def rE(P:Prg T G)(k:Nat)(st:St)(O:st.ok)(n:Nat)(h:HH)(s:Sm)(ws:List D)(v:Int)(e:lat h n=aa (ws++[.int v]))(U:0<=v):
 runN T G (k+1) "worth_of" [.p (Sm.cell s).enc,.r n,.p st.enc] h=aa (.p (.int (st.cells.getD (v%4).toNat 0)),h.set n (.l ws)):=by
 rw[run_eq P.worth_of rfl];have c:(((v%4).toNat:Nat):Int)=v%4:=by lia
 have J:=wK (xs:=st.cells) (i:=(v%4).toNat) (by rw[O.clen];lia);rw[c]at J;have L:=BU st;generalize st.enc=se at *;generalize cX st.cells=sn at *;generalize st.cells.getD (v%4).toNat 0=z at *;simp[f6,Sm.enc,P.CELLS,P.CELL_COUNT,e,J,L,Aa]
def Op.other(o:Op):¬o.w="num"/\¬o.w="name"/\¬o.w="cell":=by cases o<;>decide
def sF(P:Prg T G)(k:Nat)(st:St)(n:Nat)(h:HH)(o:Op)(s t:Sm)(ws:List D)(x y:Int)(U:Wth x)(e:lat h n=aa (ws++[.int x,.int y])):
 runN T G (k+2) "worth_of" [.p (Sm.two o s t).enc,.r n,.p st.enc] h=aa (.p (.int (two o x y)),h.set n (.l ws)):=by
 rw[run_eq P.worth_of rfl];have W:lat (h.set n (.l (ws++[.int x]))) n=aa (ws++[.int x]):=HY e _;have e1:(ws++[D.int x,D.int y]).getLast?=aa (.int y):=by simp
 have e2:(ws++[D.int x,D.int y]).dropLast=ws++[.int x]:=by simp
 have r:=λV=>yv P k o (x:=x) (y:=y) U V;obtain⟨O,L,J⟩:=o.other;have en:(Sm.two o s t).enc=.aB [.str o.w,s.enc,t.enc]:=rfl;rw[en];generalize o.w=ow at *;generalize s.enc=se at *;generalize t.enc=te at *;simp[f6,e,e1,e2,W,O,L,J,r,Aa,ZM]
def loC:E:=.z .gt (.bi .len ai (cV (.v 2))) (.j (.int 0))
def loB:S:=.seq (.set 3 (.me .pop (.v 2) .nil)) (.seq (.ex (.me .append (.v 1) (cV (.v 3)))) (.ex (.me .extend (.v 2) (cV (.call "inner_sums" (cV (.v 3)))))))
def sizes(l:List Sm):Nat:=(l.map Sm.size).sum
def yw(s:Sm)(l:List Sm):sizes (s.subs.reverse++l)+1=sizes (s::l):=by cases s<;>simp[sizes,Sm.subs,Sm.size]<;>lia
def EO(s:Sm)(l:List Sm):(s::l).flatMap Sm.lay=s::(s.subs.reverse++l).flatMap Sm.lay:=by cases s<;>simp[Sm.lay,Sm.subs,List.flatMap_cons]
def Ia(s:Sm):s.subs.length<=2:=by cases s<;>simp[Sm.subs]
def tN(l:List Sm):l.length<=sizes l:=by
 induction l with
 |nil=>simp[sizes]
 |cons s l J =>
  have L:=s.size_pos;simp only[sizes,VX,aaq,VU]at J⊢;lia
def Ib(P:Prg T G)(k:Nat)(h:HH)(L:W):∀(m:Nat)(J:List Sm)(ps:List D)(x:Option W),sizes J<=m->ps.length+sizes J<=50000 →
 ∃O,eU (ev (runN T G (k+1)) G loC) (evS (runN T G (k+1)) G loB) (m+1) [aa L,aa (.r h.length),aa (.r (h.length+1)),x] (h++[.l ps,.l (J.reverse.map Sm.enc)]) =
  aa (.nx [aa L,aa (.r h.length),aa (.r (h.length+1)),O] (h++[.l (ps++(J.flatMap Sm.lay).map Sm.enc),.l []])):=by
 intro m
 induction m with
 |zero =>
  intro J ps x Z _;have:J=[]:=by have:=tN J;exact ZT (by lia)
  subst this;exact⟨x,by simp[eU,loC,rd]⟩
 |succ m Y =>
  intro J ps x Z c;cases J with
  |nil=>exact⟨x,by simp[eU,loC,rd]⟩
  |cons s l =>
   have e:=yw s l;obtain⟨O,q⟩:=Y (s.subs.reverse++l) (ps++[s.enc]) (aa (.p s.enc)) (by lia) (by simp only[Wg,Y6];lia);refine⟨O,?_⟩;have r:=BQ P k s;have V:l.length+s.subs.length<=100000:=by
    have g:=Ia s;have f:=tN l;have d:sizes (s::l)=s.size+sizes l:=by simp[sizes]
    lia
   have b:(0:Int)<(l.length:Int)+1:=by lia
   have U:ps.length<100000:=by lia
   have hc:ev (runN T G (k+1)) G loC [aa L,aa (.r h.length),aa (.r (h.length+1)),x] (h++[.l ps,.l ((s::l).reverse.map Sm.enc)])=aa (.p (.bl ah),h++[.l ps,.l ((s::l).reverse.map Sm.enc)]):=by simp[loC,rd,b]
   have a:evS (runN T G (k+1)) G loB [aa L,aa (.r h.length),aa (.r (h.length+1)),x] (h++[.l ps,.l ((s::l).reverse.map Sm.enc)]) =
    aa (.nx [aa L,aa (.r h.length),aa (.r (h.length+1)),aa (.p s.enc)] (h++[.l (ps++[s.enc]),.l ((s.subs.reverse++l).reverse.map Sm.enc)])):=by
    simp[loB,r,V,U]
   rw[eU,hc,gF,kq,a,fU,q,EO,VX,WG,W9]
theorem rF:jH=⟨["term"],["term","parts","waiting","part"],.seq (.set 1 (.aj ah .nil))
 (.seq (.set 2 (.aj ah (.cons (.v 0) .nil))) (.seq (.j loC loB) (.ret (.v 1))))⟩:=rfl
def uQ(P:Prg T G)(k:Nat)(s:Sm)(L:s.size<=40000)(h:HH):runN T G (k+2) "laid_out" [.p s.enc] h=aa (.p (.aj (s.lay.map Sm.enc)),h):=by rw[run_eq P.laid_out rfl];obtain⟨J,q⟩:=Ib P k h (.p s.enc) 99999 [s] [] af (by simp only[sizes,VX,Wx,aaq,List.sum_nil];lia) (by simp only[sizes,VX,Wx,aaq,List.sum_nil,Wu];lia);simp only[List.flatMap_cons,List.flatMap_nil,Wz,Xo,YW,VX,Wx]at q;rw[rF];simp[turns,q,JJ]
def rkB:S:=.ex (.me .append (.v 2) (cV (.call "worth_of" (cT (.v 3) (.v 2) (.v 1)))))
def Ic(P:Prg T G)(k:Nat)(h:HH)(J:W)(st:St)(V:st.ok):∀(s:Sm),s.ok->∀(ws:List D)(rest:List D)(x:Option W),ws.length+s.size<=50000 →
 ∃c,gj (evS (runN T G (k+3)) G rkB) [(3,"part")] ((s.lay.map Sm.enc).reverse++rest) [aa J,aa (.p st.enc),aa (.r h.length),x] (h++[.l ws]) =
  gj (evS (runN T G (k+3)) G rkB) [(3,"part")] rest [aa J,aa (.p st.enc),aa (.r h.length),c] (h++[.l (ws++[.int (s.val st)])]):=by
 intro s
 induction s with
 |num n =>
  intro _ ws rest x L;refine⟨aa (.p (Sm.num n).enc),?_⟩;have r:=(lM P k st V h.length (h++[.l ws])).1 n;have l:ws.length<100000:=by simp only[Sm.size]at L;lia
  have O:evS (runN T G (k+3)) G rkB [aa J,aa (.p st.enc),aa (.r h.length),aa (.p (Sm.num n).enc)] (h++[.l ws]) =
   aa (.nx [aa J,aa (.p st.enc),aa (.r h.length),aa (.p (Sm.num n).enc)] (h++[.l (ws++[.int n])])):=by
   simp[rkB,r,l]
  simp only[Sm.lay,VX,Wx,YW,W9,Sm.val];simp[O]
 |nam i =>
  intro _ ws rest x L;refine⟨aa (.p (Sm.nam i).enc),?_⟩;have r:=(lM P k st V h.length (h++[.l ws])).2 i;have l:ws.length<100000:=by simp only[Sm.size]at L;lia
  have O:evS (runN T G (k+3)) G rkB [aa J,aa (.p st.enc),aa (.r h.length),aa (.p (Sm.nam i).enc)] (h++[.l ws]) =
   aa (.nx [aa J,aa (.p st.enc),aa (.r h.length),aa (.p (Sm.nam i).enc)] (h++[.l (ws++[.int (st.names.getD i.ix 0)])])):=by
   simp[rkB,r,l]
  simp only[Sm.lay,VX,Wx,YW,W9,Sm.val];simp[O]
 |cell s d =>
  intro U ws rest x L;obtain⟨b,e1⟩:=d U ws ((Sm.cell s).enc::rest) x (by simp only[Sm.size]at L;lia);refine⟨aa (.p (Sm.cell s).enc),?_⟩;have r:=rE P (k+2) st V h.length (h++[.l (ws++[.int (s.val st)])]) s ws (s.val st) (by simp) (Sm.tL (s:=s) V U).1;have l:ws.length<100000:=by simp only[Sm.size]at L;lia
  have O:evS (runN T G (k+3)) G rkB [aa J,aa (.p st.enc),aa (.r h.length),aa (.p (Sm.cell s).enc)] (h++[.l (ws++[.int (s.val st)])]) =
   aa (.nx [aa J,aa (.p st.enc),aa (.r h.length),aa (.p (Sm.cell s).enc)] (h++[.l (ws++[.int ((Sm.cell s).val st)])])):=by
   simp[rkB,r,l,Sm.val]
  simp only[Sm.lay,VX,List.reverse_cons,WG,W9];rw[e1];simp[O]
 |two o s t Z Y =>
  intro U ws rest x L;have a:=L;simp only[Sm.size]at a;obtain⟨b,e1⟩:=Z U.1 ws ((t.lay.map Sm.enc).reverse++((Sm.two o s t).enc::rest)) x (by lia);obtain⟨e,e2⟩:=Y U.2 (ws++[.int (s.val st)]) ((Sm.two o s t).enc::rest) b (by simp only[Wg,Y6];have:=s.size_pos;lia);refine⟨aa (.p (Sm.two o s t).enc),?_⟩;have r:=sF P (k+1) st h.length (h++[.l (ws++[.int (s.val st),.int (t.val st)])]) o s t ws (s.val st) (t.val st) (Sm.tL V U.1) (by simp);have l:ws.length<100000:=by lia
  have O:evS (runN T G (k+3)) G rkB [aa J,aa (.p st.enc),aa (.r h.length),aa (.p (Sm.two o s t).enc)] (h++[.l (ws++[.int (s.val st),.int (t.val st)])]) =
   aa (.nx [aa J,aa (.p st.enc),aa (.r h.length),aa (.p (Sm.two o s t).enc)] (h++[.l (ws++[.int ((Sm.two o s t).val st)])])):=by
   simp[rkB,r,l,Sm.val]
  simp only[Sm.lay,VX,Yn,List.reverse_cons,List.reverse_append,WG,W9];rw[e1,e2];simp only[WG,W9];simp[O]
theorem rG:jJ=⟨["term","state"],["term","state","worths","part"],.seq (.set 2 (.aj ah .nil))
 (.seq (.for [(3,"part")] .rev (.cons (.call "laid_out" (.cons (.v 0) .nil)) .nil) rkB) (.ret (.y (.v 2) (.j (.int 0)))))⟩:=rfl
def gZ(P:Prg T G)(k:Nat)(s:Sm)(J:s.size<=40000)(O:s.ok)(st:St)(L:st.ok)(h:HH):
 runN T G (k+4) "reckoned" [.p s.enc,.p st.enc] h=aa (.p (.int (s.val st)),h):=by
 rw[run_eq P.reckoned rfl];obtain⟨U,q⟩:=Ic P k h (.p s.enc) st L s O [] [] af (by simp only[Wu];lia);rw[rG];simp only[Wz,Xo]at q;have r:=uQ P (k+1) s J;simp[r,gU,q,j8,rd]
end
section
variable{T:FK->Option Fn}{F:FK->List W->HH->Option (W×HH)}{G:az->Option W}{i:Nat}{e e' c:E}{a b:S}{s s':Sl}{h g:HH}{w:W}{d d' z:D}
def dM(h1:evS F G a s h=aa (.nx s' g)):evS F G (.seq a b) s h=evS F G b s' g:=by simp[h1]
def dG(h1:aK F G e s h=aa (w,g)):evS F G (.seq (.set i e) b) s h=evS F G b (s.set i (aa w)) g:=by simp[h1]
def fF(h1:aK F G c s h=aa (.p (.bl ai),h)):evS F G (.seq (.v c a .nil) b) s h=evS F G b s h:=by simp[h1]
def lN(h1:aK F G c s h=aa (.p (.bl ah),h))(h2:aK F G e s h=aa (w,g)):evS F G (.seq (.v c (.ret e) .nil) b) s h=aa (.rt w g):=by simp[h1,h2]
def kK(h2:aK F G e s h=aa (w,g)):evS F G (.ret e) s h=aa (.rt w g):=by simp[h2]
def m7(L:T f=aa fn)(J:ws.length=fn.ps.length)(h1:evS (runN T G k) G fn.body (dX fn.ns.length ws) h=aa (.rt (.p d) h)):runN T G (k+1) f ws h=aa (.p d,h):=by rw[run_eq L J,h1];exact c5 h (.p d)
def ER(h1:aK F G e s h=aa (.p d,g))(h2:aK F G e' s g=aa (.p d',g))(J:dI d d'=aa z):aK F G (.y e e') s h=aa (.p z,g):=by simp[h1,h2,J]
def ES(h1:aK F G e s h=aa (.p d,h))(h2:aK F G e' s h=aa (.p d',h))(J:lg o d d'=aa z):aK F G (.bin o e e') s h=aa (.p z,h):=by simp[h1,h2,J]
def jr(h1:aK F G e s h=aa (.p d,h))(h2:aK F G e' s h=aa (.p d',g))(J:iB o d d'=aa t):aK F G (.z o e e') s h=aa (.p (.bl t),g):=by simp[h1,h2,J]
def uR(h1:aK F G e s h=aa (.p d,h))(h2:aK F G e' s h=aa (.p d',h)):aK F G (.aB (.cons e (.cons e' .nil))) s h=aa (.p (.aB [d,d']),h):=by simp[h1,h2]
def yx(h1:aK F G e s h=aa (.p (.bl ai),h)):aK F G (.or e e') s h=aK F G e' s h:=by simp[h1]
def Qq(h1:aK F G e s h=aa (.p (.bl ah),h)):aK F G (.or e e') s h=aa (.p (.bl ah),h):=by simp[h1]
def Ac(h1:aK F G e s h=aa (.p (.bl ai),h)):aK F G (.and e e') s h=aa (.p (.bl ai),h):=by simp[h1]
def ET(h1:aK F G e s h=aa (.p (.bl ah),h)):aK F G (.and e e') s h=aK F G e' s h:=by simp[h1]
end
section
def fY(xs:List α)(i:Nat):atP xs (i:Int)=xs[i]?:=by
 unfold atP place
 by_cases h:i<xs.length
 ·have J:((i:Int)<(xs.length:Int)):=by lia
  simp[J,h]
 ·have J:¬((i:Int)<(xs.length:Int)):=by lia
  simp[J];lia
def jt(P:Prg T G)(k:Nat)(xs:List D)(i:Nat)(hi:i<xs.length)(b:xs.length<=1000)(d:D)(h:HH):
 runN T G (k+1) "with_worth" [.p (.aB xs),.p (.int i),.p d] h=aa (.p (.aB (xs.set i d)),h):=by
 rw[run_eq P.with_worth rfl];have a:¬((i:Int)<0):=by lia
 have Z:(i:Int)<=(xs.length:Int):=by lia
 have Y:¬((i:Int)+1<0):=by lia
 have W:(i:Int)+1<=(xs.length:Int):=by lia
 have V:((i:Int)+1).toNat=i+1:=by lia
 have g:xs.length-(i+1)+(i+1)<=100000:=by lia
 have U:i+1+(xs.length-(i+1))<=100000:=by lia
 have O:min i xs.length=i:=by lia
 have L:i+1<=100000:=by lia
 have e:xs.take i++d::xs.drop (i+1)=xs.set i d:=by rw[List.set_eq_take_append_cons_drop,bK hi]
 have f:(xs.take i).length=i:=by simp;lia
 have c:(xs.drop (i+1)).length=xs.length-(i+1):=by simp
 have J:((xs.drop (i+1)).take (xs.length-(i+1)))=xs.drop (i+1):=by apply List.take_of_length_le;simp
 simp[iI,a,Z,Y,W,V,U,O,L,J,e,c5]
@[simp]theorem Vq(st:St):dI st.enc (.int 0)=aa (.int st.row):=rfl
@[simp]theorem Vr(st:St):dI st.enc (.int 1)=aa (.aB (cX st.names)):=rfl
@[simp]theorem Vs(st:St):dI st.enc (.int 2)=aa (.aB (cX st.cells)):=rfl
@[simp]theorem Vt(st:St):dI st.enc (.int 3)=aa (.aB (cZ st.calls)):=rfl
@[simp]theorem Vu(st:St):dI st.enc (.int 4)=aa (.int st.aF):=rfl
@[simp]theorem Vv(st:St):dI st.enc (.int 5)=aa (.aB (cX st.said)):=rfl
inductive Rw
 |set(x:Nm)(s:Sm)|put(s t:Sm)|ask(x:Nm)|say(s:Sm)|jump(p:Nat)|unless(s:Sm)(p:Nat)|call(p:Nat)|back|stop
def Rw.enc:Rw->D
 |.set x s=>.aB [.str "set",.str x.w,s.enc]|.put s t=>.aB [.str "put",s.enc,t.enc]|.ask x=>.aB [.str "ask",.str x.w]|.say s=>.aB [.str "say",s.enc]|.jump p=>.aB [.str "jump",.int p]|.unless s p=>.aB [.str "unless",s.enc,.int p]|.call p=>.aB [.str "call",.int p]|.back=>.aB [.str "back"]|.stop=>.aB [.str "stop"]
def rH(s:Sm):Prop:=s.ok/\s.size<=15
noncomputable def Rw.ok(n:Nat):Rw->Prop
 |.set _ s=>rH s|.put s t=>rH s/\rH t|.ask _=>True|.say s=>rH s|.jump p=>p<=n|.unless s p=>rH s/\p<=n|.call p=>p<=n|.back=>True|.stop=>True
noncomputable abbrev Pg:=List Rw
def dS(p:Pg):D:=.aB (p.map Rw.enc)
def Pg.ok(p:Pg):Prop:=∀r∈p,r.ok p.length
def Rw.next(aF:List Int)(st:St):Rw->St
 |.set x s=>{st with row:=st.row+1,names:=st.names.set x.ix (s.val st)}|.put s t=>{st with row:=st.row+1,cells:=st.cells.set (s.val st%4).toNat (t.val st)}|.ask x=>{st with row:=st.row+1,names:=st.names.set x.ix (aF.getD st.aF 0),aF:=st.aF+1}|.say s=>{st with row:=st.row+1,said:=st.said++[s.val st]}|.jump p=>{st with row:=p}|.unless s p=>{st with row:=if s.val st=0 then p else st.row+1}|.call p=>{st with row:=p,calls:=st.calls++[st.row+1]}|.back=>{st with row:=st.calls.getLast?.getD 0,calls:=st.calls.dropLast}|.stop=>st
noncomputable def Rw.over(st:St):Rw->Bool
 |.back=>st.calls.length==0|.call _=>decide (6<=st.calls.length)|.stop=>ah|_=>ai
def over(p:Pg)(st:St):Bool:=match p[st.row]? with
 |some r=>r.over st|none=>ah
def step(p:Pg)(aF:List Int)(st:St):St:=match p[st.row]? with
 |some r=>r.next aF st
 |none=>st
noncomputable def St.zero:St:=⟨0,[0,0,0,0,0,0],[0,0,0,0],[],0,[]⟩
def Ie:St.zero.ok:=⟨rfl,rfl,by simp[St.zero,Wth],by simp[St.zero,Wth]⟩
def sts(p:Pg)(aF:List Int):Nat->St->List St
 |0,st=>[st]
 |n+1,st=>if over p st then [st]else st::sts p aF n (step p aF st)
def tO(P:Prg T G)(k:Nat)(h:HH):runN T G (k+1) "begun" [] h=aa (.p St.zero.enc,h):=by rw[run_eq P.begun rfl];simp[nW,P.LETTERS,P.CELL_COUNT,c5,St.zero,St.enc,cX,cZ,rep,V3,List.flatten]
def wL(P:Prg T G)(k:Nat)(aF:List Int)(n:Nat)(h:HH):runN T G (k+1) "brought" [.p (.aj (cX aF)),.p (.int n)] h=aa (.p (.int (aF.getD n 0)),h):=by
 rw[run_eq P.brought rfl]
 by_cases c:n<aF.length
 ·have J:(n:Int)<(aF.length:Int):=by lia
  simp[jq,cX,c,J,c5]
 ·have J:¬(n:Int)<(aF.length:Int):=by lia
  have e:aF[n]?=af:=VP (by lia);simp[jq,cX,J,c5,e]
def jT(P:Prg T G)(k:Nat)(st:St)(U:st.ok)(x:Nm)(d:Int)(h:HH):
 runN T G (k+2) "with_name" [.p st.enc,.p (.str x.w),.p (.int d)] h=aa (.p (.aB (cX (st.names.set x.ix d))),h):=by
 rw[run_eq P.with_name rfl];have r:=λi=>jt P k (cX st.names) i;have l:(cX st.names).length=6:=by simp[cX,U.nlen]
 have e:(cX st.names).set x.ix (.int d)=cX (st.names.set x.ix d):=by simp[cX,Y5]
 have q:=r x.ix (by rw[l];exact x.Ab) (by lia) (.int d);rw[e]at q;have g:G "LETTERS"=aa (.p (.aB sD)):=P.LETTERS;have O:=EN x;have J:=tM st;generalize sD=L at *;generalize st.enc=se at *;generalize V:(x.ix:Int)=z at *;simp[i7,P.NAMES,g,O,J,c5,q]
def wM(P:Prg T G)(k:Nat)(s:Sm)(J:rH s)(st:St)(L:st.ok)(h:HH):runN T G (k+5) "cell_by" [.p s.enc,.p st.enc] h=aa (.p (.int (s.val st%4)),h):=by rw[run_eq P.cell_by rfl];have q:=gZ P k s (by have:=J.2;lia) J.1 st L;simp[kI,q,P.CELL_COUNT,c5]
noncomputable def Rw.word:Rw->String
 |.set _ _=>"set" |.put _ _=>"put" |.ask _=>"ask" |.say _=>"say" |.jump _=>"jump" |.unless _ _=>"unless" |.call _=>"call" |.back=>"back" |.stop=>"stop"
def Rw.uS(r:Rw):dI r.enc (.int 0)=aa (.str r.word):=by cases r<;>rfl
def plT:S:=(.seq (.v (.or (.z .eq (.v 2) (.j (.str "jump"))) (.z .eq (.v 2) (.j (.str "call")))) (.ret (.y (.v 0) (.j (.int 1)))) .nil) (.seq (.v (.z .eq (.v 2) (.j (.str "back"))) (.ret (.y (.y (.v 1) (.aD "CALLS")) (.neg (.j (.int 1))))) .nil) (.seq (.v (.and (.z .eq (.v 2) (.j (.str "unless"))) (.z .eq (.call "reckoned" (cU (.y (.v 0) (.j (.int 1))) (.v 1))) (.j (.int 0)))) (.ret (.y (.v 0) (.j (.int 2)))) .nil) (.ret (.bin .add (.y (.v 1) (.aD "ROW")) (.j (.int 1)))))))
theorem wN:gD=⟨["row","state"],["row","state","word"],
 (.seq (.set 2 (.y (.v 0) (.j (.int 0)))) plT)⟩:=rfl
def Ig(P:Prg T G)(F:FK->List W->HH->Option (W×HH))(J:W)(st:St)(h:HH)(v:String)(V:¬v="jump")(U:¬v="call")(O:¬v="back")(L:¬v="unless"):evS F G plT [aa J,aa (.p st.enc),aa (.p (.str v))] h=aa (.rt (.p (.int ((st.row:Int)+1))) h):=by have Y:dI st.enc (.int 0)=aa (.int (st.row:Int)):=rfl;generalize st.enc=se at *;simp[plT,V,U,O,L,P.ROW,Y]
def JK(F:FK->List W->HH->Option (W×HH))(d:D)(J:W)(h:HH)(v:String)(q:Int)(L:v="jump"\/v="call")(i1:dI d (.int 1)=aa (.int q)):evS F G plT [aa (.p d),aa J,aa (.p (.str v))] h=aa (.rt (.p (.int q)) h):=by rcases L with rfl|rfl<;>simp[plT,i1]
def BV(P:Prg T G)(k:Nat)(n:Nat)(r:Rw)(O:r.ok n)(st:St)(b:st.ok)(aF:List Int)(U:r.over st=ai)(h:HH):
 runN T G (k+5) "place_behind" [.p r.enc,.p st.enc] h=aa (.p (.int (r.next aF st).row),h):=by
 have V:=r.uS;have J:runN T G (k+5) "place_behind" [.p r.enc,.p st.enc] h=iW (evS (runN T G (k+4)) G plT [aa (.p r.enc),aa (.p st.enc),aa (.p (.str r.word))] h) (fin h):=by rw[run_eq P.place_behind rfl,wN];generalize r.enc=re at *;simp[V]
 have L:∀q:Int,iW (aa (.rt (.p (.int q)) h)) (fin h)=aa (.p (.int q),h):=λq=>by simp[c5]
 rw[J];cases r with
 |«unless» s p =>
  have q:=gZ P k s (by have:=O.1.2;lia) O.1.1 st b;have Z:dI (Rw.unless s p).enc (.int 1)=aa s.enc:=rfl;have Y:dI (Rw.unless s p).enc (.int 2)=aa (.int (p:Int)):=rfl;have a:dI st.enc (.int 0)=aa (.int (st.row:Int)):=rfl;generalize (Rw.unless s p).enc=re at *;generalize st.enc=se at *;generalize s.enc=sn at *
  by_cases c:s.val st=0<;>simp[plT,Rw.word,Rw.next,q,c,a,Z,Y,c5,P.ROW]
 |back =>
  have c:st.calls≠[]:=by intro e;simp[Rw.over,e]at U
  have:∃l x,st.calls=l++[x]:=⟨st.calls.dropLast,st.calls.getLast c,(Yh c).symm⟩;obtain⟨l,x,e⟩:=this;have W:dI st.enc (.int 3)=aa (.aB (cZ st.calls)):=rfl;have ix:dI (.aB (cZ st.calls)) (.int (-1))=aa (.int (x:Int)):=by
   have e2:-((l.length:Int)+1)<=-1:=by lia
   have d:(-1+((l.length:Int)+1)).toNat=l.length:=by lia
   simp[cZ,e,e2,d]
  have nx:((Rw.back).next aF st).row=x:=by simp[Rw.next,e]
  rw[nx];generalize st.enc=se at *;generalize cZ st.calls=nl at *;simp[-eV,plT,Rw.word,P.CALLS,W,ix,c5]
 |stop=>simp[Rw.over]at U|jump p=>rw[Rw.word,JK _ _ _ _ _ (p:Int) (.inl rfl) rfl,L];rfl|call p=>rw[Rw.word,JK _ _ _ _ _ (p:Int) (.inr rfl) rfl,L];rfl|_=>rw[Rw.word,Ig P _ _ _ _ _ (by decide) (by decide) (by decide) (by decide),L];rfl
def ovT:S:=(.seq (.v (.z .eq (.v 2) (.j (.str "back"))) (.ret (.z .eq (.bi .len ai (cV (.y (.v 1) (.aD "CALLS")))) (.j (.int 0)))) .nil) (.seq (.v (.z .eq (.v 2) (.j (.str "call"))) (.ret (.z .ge (.bi .len ai (cV (.y (.v 1) (.aD "CALLS")))) (.aD "MOST_CALLS"))) .nil) (.ret (.z .eq (.v 2) (.j (.str "stop"))))))
theorem sG:jo=⟨["program","state"],["program","state","word"],
 (.seq (.v (.z .ge (.y (.v 1) (.aD "ROW")) (.bi .len ai (.cons (.v 0) .nil))) (.ret (.j (.bl ah))) .nil)
 (.seq (.set 2 (.y (.y (.v 0) (.y (.v 1) (.aD "ROW"))) (.j (.int 0))))
 ovT))⟩:=rfl
def Ih(F:FK->List W->HH->Option (W×HH))(L J:W)(h:HH)(v:String)(U:¬v="back")(O:¬v="call"):evS F G ovT [aa L,aa J,aa (.p (.str v))] h=aa (.rt (.p (.bl (decide (v="stop")))) h):=by
 by_cases c:v="stop"
 ·subst c;simp[ovT]
 ·skip
  simp[ovT,U,O,c]
def wO(P:Prg T G)(k:Nat)(p:Pg)(st:St)(h:HH):runN T G (k+1) "is_over" [.p (dS p),.p st.enc] h=aa (.p (.bl (over p st)),h):=by
 have V:biD .len [dS p]=aa (.int p.length):=by simp[dS]
 by_cases c:st.row<p.length
 ·have O:¬(p.length:Int)<=(st.row:Int):=by lia
  have b:(st.row:Int)<(p.length:Int):=by lia
  have e:p[st.row]?=aa p[st.row]:=VL c;have row:dI (dS p) (.int st.row)=aa (p[st.row]).enc:=by simp[dS,b,e]
  have Z:over p st=(p[st.row]).over st:=by rw[over,e]
  rw[Z];generalize p[st.row]=r at row⊢;have U:=r.uS;have J:runN T G (k+1) "is_over" [.p (dS p),.p st.enc] h=iW (evS (runN T G k) G ovT [aa (.p (dS p)),aa (.p st.enc),aa (.p (.str r.word))] h) (fin h):=by rw[run_eq P.is_over rfl,sG];generalize r.enc=re at row U;simp[V,row,U,P.ROW,O]
  rw[J];have W:biD .len [.aB (cZ st.calls)]=aa (.int (st.calls.length:Int)):=by simp[cZ]
  have Y:dI st.enc (.int 3)=aa (.aB (cZ st.calls)):=rfl;cases r with
  |back =>
   have L:(((st.calls.length:Nat):Int)==0)=(st.calls.length==0):=by
    cases st.calls with
    |nil=>rfl|cons a l=>rw[beq_eq_false_iff_ne.mpr (by simp only[VU];lia)];rfl
   simp[-oG,ovT,Rw.word,P.CALLS,Y,W,L,c5,Rw.over]
  |call q =>
   have L:decide ((6:Int)<=(st.calls.length:Int))=decide (6<=st.calls.length):=decide_eq_decide.mpr (by lia);simp[-oG,ovT,Rw.word,P.CALLS,P.MOST_CALLS,Y,W,L,c5,Rw.over]
  |_ =>
   rw[Rw.word,Ih _ _ _ _ _ (by decide) (by decide)];simp[c5,Rw.over]
 ·have O:(p.length:Int)<=(st.row:Int):=by lia
  have e:p[st.row]?=af:=VP (by lia);rw[run_eq P.is_over rfl];simp[jo,V,P.ROW,O,c5,over,e]
def ints_set(xs:List Int)(i:Nat)(v:Int):(cX xs).set i (.int v)=cX (xs.set i v):=by simp[cX,Y5]
def fK(xs:List Int):(cX xs).length=xs.length:=by simp[cX]
def ints_snoc(xs:List Int)(v:Int):cX xs++[.int v]=cX (xs++[v]):=by simp[cX]
def tP(xs:List Nat)(v:Nat):cZ xs++[.int (v:Int)]=cZ (xs++[v]):=by simp[cZ]
def wQ(xs:List Nat):cut (cZ xs) af (aa (-1))=cZ xs.dropLast:=by
 have e:(-1+(xs.length:Int)).toNat=xs.length-1:=by lia
 simp[cut,clip,cZ,e,List.dropLast_eq_take]
structure St.small(st:St):Prop where
 sl:st.said.length<=5000
 cl:st.calls.length<=5000
def encL(st:St):List D:=[.int st.row,.aB (cX st.names),.aB (cX st.cells),.aB (cZ st.calls),.int st.aF,.aB (cX st.said)]
theorem EU(st:St):biD .list [st.enc]=aa (.aj (encL st)):=rfl
def Mp:S:=(.put 5 (.aD "CALLS") (.n (.y (.v 2) (.aD "CALLS")) .nil (cV (.neg (.j (.int 1))))))
def Mq:S:=(.v (.z .eq (.v 4) (.j (.str "back"))) Mp .nil)
def Mr:S:=(.put 5 (.aD "CALLS") (.bin .add (.y (.v 2) (.aD "CALLS")) (.aB (cV (.bin .add (.y (.v 2) (.aD "ROW")) (.j (.int 1)))))))
def Ii:S:=(.v (.z .eq (.v 4) (.j (.str "call"))) Mr Mq)
def Ms:S:=(.put 5 (.aD "SAID") (.bin .add (.y (.v 2) (.aD "SAID")) (.aB (cV (.call "reckoned" (cU (.y (.v 3) (.j (.int 1))) (.v 2)))))))
def EV:S:=(.v (.z .eq (.v 4) (.j (.str "say"))) Ms Ii)
def Mt:S:=(.seq (.put 5 (.aD "NAMES") (.call "with_name" (cT (.v 2) (.y (.v 3) (.j (.int 1))) (.call "brought" (cU (.v 1) (.y (.v 2) (.aD "ASKED"))))))) (.put 5 (.aD "ASKED") (.bin .add (.y (.v 2) (.aD "ASKED")) (.j (.int 1)))))
def BW:S:=(.v (.z .eq (.v 4) (.j (.str "ask"))) Mt EV)
def Mu:S:=(.put 5 (.aD "CELLS") (.call "with_worth" (cT (.y (.v 2) (.aD "CELLS")) (.call "cell_by" (cU (.y (.v 3) (.j (.int 1))) (.v 2))) (.call "reckoned" (cU (.y (.v 3) (.j (.int 2))) (.v 2))))))
def yy:S:=(.v (.z .eq (.v 4) (.j (.str "put"))) Mu BW)
def Mv:S:=(.put 5 (.aD "NAMES") (.call "with_name" (cT (.v 2) (.y (.v 3) (.j (.int 1))) (.call "reckoned" (cU (.y (.v 3) (.j (.int 2))) (.v 2))))))
def m8:S:=(.v (.z .eq (.v 4) (.j (.str "set"))) Mv yy)
def Mw:S:=(.seq m8 (.ret (.bi .tuple ai (cV (.v 5)))))
theorem sH:kJ=⟨["program","asked","state"],["program","asked","state","row","word","behind"],
 (.seq (.set 3 (.y (.v 0) (.y (.v 2) (.aD "ROW"))))
 (.seq (.set 4 (.y (.v 3) (.j (.int 0))))
 (.seq (.set 5 (.bi .list ah (.cons (.v 2) .nil)))
 (.seq (.put 5 (.aD "ROW") (.call "place_behind" (.cons (.v 3) (.cons (.v 2) .nil))))
 Mw))))⟩:=rfl
theorem Mx(F:FK->List W->HH->Option (W×HH))(A B:S)(s:Sl)(h:HH):evS F G (.seq A B) s h=ly (evS F G A s h) (evS F G B):=rfl
def pick(F:FK->List W->HH->Option (W×HH))(U O L J:W)(v w:String)(rest:Sl)(h:HH)(A B:S):evS F G (.v (.z .eq (.v 4) (.j (.str w))) A B) (aa U::aa O::aa L::aa J::aa (.p (.str v))::rest) h=if v=w then evS F G A (aa U::aa O::aa L::aa J::aa (.p (.str v))::rest) h else evS F G B (aa U::aa O::aa L::aa J::aa (.p (.str v))::rest) h:=by
 have e:eqv (.str v) (.str w)=decide (v=w):=by
  by_cases c:v=w
  rw[bP c,c];simp
  ·rw[bO c];have:¬VQ v=VQ w:=λz=>c (by simpa using z);simp[this,c]
 by_cases c:v=w
 ·rw[bP c]at e;rw[bK c];simp[-eqv,e]
 ·rw[bO c]at e;rw[bL c];simp[-eqv,e]
def to0(F:FK->List W->HH->Option (W×HH))(U O L J:W)(rest:Sl)(h:HH):evS F G m8 (aa U::aa O::aa L::aa J::aa (.p (.str "set"))::rest) h=evS F G Mv (aa U::aa O::aa L::aa J::aa (.p (.str "set"))::rest) h:=by rw[m8,pick,bK rfl]
def to1(F:FK->List W->HH->Option (W×HH))(U O L J:W)(rest:Sl)(h:HH):evS F G m8 (aa U::aa O::aa L::aa J::aa (.p (.str "put"))::rest) h=evS F G Mu (aa U::aa O::aa L::aa J::aa (.p (.str "put"))::rest) h:=by rw[m8,pick,bL (by decide),yy,pick,bK rfl]
def to2(F:FK->List W->HH->Option (W×HH))(U O L J:W)(rest:Sl)(h:HH):evS F G m8 (aa U::aa O::aa L::aa J::aa (.p (.str "ask"))::rest) h=evS F G Mt (aa U::aa O::aa L::aa J::aa (.p (.str "ask"))::rest) h:=by rw[m8,pick,bL (by decide),yy,pick,bL (by decide),BW,pick,bK rfl]
def to3(F:FK->List W->HH->Option (W×HH))(U O L J:W)(rest:Sl)(h:HH):evS F G m8 (aa U::aa O::aa L::aa J::aa (.p (.str "say"))::rest) h=evS F G Ms (aa U::aa O::aa L::aa J::aa (.p (.str "say"))::rest) h:=by rw[m8,pick,bL (by decide),yy,pick,bL (by decide),BW,pick,bL (by decide),EV,pick,bK rfl]
def to4(F:FK->List W->HH->Option (W×HH))(U O L J:W)(rest:Sl)(h:HH):evS F G m8 (aa U::aa O::aa L::aa J::aa (.p (.str "call"))::rest) h=evS F G Mr (aa U::aa O::aa L::aa J::aa (.p (.str "call"))::rest) h:=by rw[m8,pick,bL (by decide),yy,pick,bL (by decide),BW,pick,bL (by decide),EV,pick,bL (by decide),Ii,pick,bK rfl]
def to5(F:FK->List W->HH->Option (W×HH))(U O L J:W)(rest:Sl)(h:HH):evS F G m8 (aa U::aa O::aa L::aa J::aa (.p (.str "back"))::rest) h=evS F G Mp (aa U::aa O::aa L::aa J::aa (.p (.str "back"))::rest) h:=by rw[m8,pick,bL (by decide),yy,pick,bL (by decide),BW,pick,bL (by decide),EV,pick,bL (by decide),Ii,pick,bL (by decide),Mq,pick,bK rfl]
def toN(F:FK->List W->HH->Option (W×HH))(U O L J:W)(rest:Sl)(h:HH)(v:String)(V:v∉["set","put","ask","say","call","back"]):evS F G m8 (aa U::aa O::aa L::aa J::aa (.p (.str v))::rest) h=aa (.nx (aa U::aa O::aa L::aa J::aa (.p (.str v))::rest) h):=by simp only[Xa,WA,or_false,not_or]at V;obtain⟨d,c,b,a,Z,Y⟩:=V;rw[m8,pick,bL d,yy,pick,bL c,BW,pick,bL b,EV,pick,bL a,Ii,pick,bL Z,Mq,pick,bL Y];rfl
def wR(P:Prg T G)(k:Nat)(p:Pg)(f:Pg.ok p)(aF:List Int)(st:St)(L:st.ok)(a:st.small)(U:over p st=ai)(h:HH):
 runN T G (k+6) "stepped" [.p (dS p),.p (.aj (cX aF)),.p st.enc] h=aa (.p (step p aF st).enc,h):=by
 have c:st.row<p.length:=by
  rcases V9 st.row p.length with q|q
  exact q;rw[over,VP q]at U;exact KG U
 have e:p[st.row]?=aa p[st.row]:=VL c;have m:(st.row:Int)<(p.length:Int):=by lia
 have J:=f _ (YR c);have O:(p[st.row]).over st=ai:=by rw[over,e]at U;exact U
 have W:=BV P k p.length p[st.row] J st L aF O;rw[step,e];have o:=a.sl;have n:=a.cl
 revert W J O
 generalize p[st.row]=r at *;intro J O W;have row:dI (dS p) (.int st.row)=aa r.enc:=by simp[dS,m,e]
 have V:runN T G (k+6) "stepped" [.p (dS p),.p (.aj (cX aF)),.p st.enc] h =
  iW (evS (runN T G (k+5)) G Mw [aa (.p (dS p)),aa (.p (.aj (cX aF))),aa (.p st.enc),aa (.p r.enc),aa (.p (.str r.word)),aa (.r h.length)] (h++[.l [.int (r.next aF st).row,.aB (cX st.names),.aB (cX st.cells),.aB (cZ st.calls),.int st.aF,.aB (cX st.said)]])) (fin h):=by
  rw[run_eq P.stepped rfl,sH];simp[row,r.uS,P.ROW,EU,encL,W]
 rw[V,Mw,Mx];cases r with
 |set x s =>
  have q:=gZ P (k+1) s (by have:=J.2;lia) J.1 st L;have w:=jT P (k+3) st L x (s.val st);simp only[Rw.enc,Rw.next,Rw.word,to0];simp[Mv,P.ROW,P.NAMES,q,w,rd,j8,Rw.next];simp[St.enc]
 |put s t =>
  have q:=wM P k s J.1 st L;have d:=gZ P (k+1) t (by have:=J.2.2;lia) J.2.1 st L;have v:=Sm.tL (s:=s) L J.1.1;have g:(s.val st%4).toNat<(cX st.cells).length:=by rw[fK,L.clen];lia
  have w:=jt P (k+4) (cX st.cells) (s.val st%4).toNat g (by rw[fK,L.clen];lia) (.int (t.val st));have j:(((s.val st%4).toNat:Nat):Int)=s.val st%4:=by lia
  rw[j,ints_set]at w;simp only[Rw.enc,Rw.next,Rw.word,to1];simp[Mu,P.ROW,P.CELLS,q,d,w,rd,j8,Rw.next];simp[St.enc]
 |ask x =>
  have b:=wL P (k+4) aF st.aF;have w:=jT P (k+3) st L x (aF.getD st.aF 0);simp only[Rw.enc,Rw.next,Rw.word,to2];simp only[W6]at b w⊢;simp[Mt,P.ROW,P.NAMES,P.ASKED,b,w,rd,j8,Rw.next];simp[St.enc]
 |say s =>
  have q:=gZ P (k+1) s (by have:=J.2;lia) J.1 st L;simp only[Rw.enc,Rw.next,Rw.word,to3];have Y:(cX st.said).length+1<=100000:=by rw[fK];lia
  simp[Ms,P.ROW,P.SAID,q,rd,j8,Rw.next,Y,ints_snoc];simp[St.enc]
 |call q =>
  simp only[Rw.enc,Rw.next,Rw.word,to4];have Y:(cZ st.calls).length+1<=100000:=by simp[cZ];lia
  have Z:cZ st.calls++[.int ((st.row:Int)+1)]=cZ (st.calls++[st.row+1]):=by rw[←tP];simp
  simp[Mr,P.ROW,P.CALLS,rd,j8,Rw.next,Y,Z];simp[St.enc]
 |back =>
  simp only[Rw.enc,Rw.next,Rw.word,to5];have Z:=wQ st.calls;have i:qG (.aB (cZ st.calls)) af (aa (-1))=aa (.aB (cZ st.calls.dropLast)):=by rw[qO,Z]
  simp[-qO,Mp,P.ROW,P.CALLS,rd,j8,Rw.next,i];simp[St.enc]
 |stop=>simp[Rw.over]at O
 |_ =>
  simp only[Rw.enc,Rw.next,Rw.word];rw[toN _ _ _ _ _ _ _ _ (by decide)];simp[P.ROW,rd,j8,Rw.next];simp[St.enc]
end
def Ask(aF:List Int):Prop:=∀x∈aF,Wth x
def EW{xs:List Int}{i:Nat}{v:Int}(h:∀x∈xs,Wth x)(L:Wth v):∀x∈xs.set i v,Wth x:=λx J=>by
 rcases Xy J with q|q
 exact h x q;rw[q];exact L
structure At(n:Nat)(st:St):Prop where
 ok:st.ok
 said:st.said.length<=n
 calls:st.calls.length<=6
def At.small{st:St}(a:At n st)(h:n<=5000):st.small:=⟨by have:=a.said;lia,by have:=a.calls;lia⟩
def qi:At 0 St.zero:=⟨Ie,VR _,by decide⟩
def qj{n:Nat}{p:Pg}{aF:List Int}{st:St}(U:Pg.ok p)(V:Ask aF)(a:At n st)(O:over p st=ai):At (n+1) (step p aF st):=by
 have c:st.row<p.length:=by
  rcases V9 st.row p.length with q|q
  exact q;rw[over,VP q]at O;cases O
 have e:p[st.row]?=aa p[st.row]:=VL c;have L:=U _ (YR c);have J:(p[st.row]).over st=ai:=by rw[over,e]at O;exact O
 rw[step,e];dsimp only
 revert L J
 generalize p[st.row]=r;intro L J;obtain⟨ok,W,cl⟩:=a;cases r with
 |set x s=>exact⟨⟨by simp[Rw.next,ok.nlen],ok.clen,EW ok.nw (Sm.tL ok L.1),ok.cw⟩,by simp[Rw.next];lia,cl⟩|put s t=>exact⟨⟨ok.nlen,by simp[Rw.next,ok.clen],ok.nw,EW ok.cw (Sm.tL ok L.2.1)⟩,by simp[Rw.next];lia,cl⟩|ask x=>exact⟨⟨by simp[Rw.next,ok.nlen],ok.clen,EW ok.nw (yu V _),ok.cw⟩,by simp[Rw.next];lia,cl⟩|say s=>exact⟨⟨ok.nlen,ok.clen,ok.nw,ok.cw⟩,by simp[Rw.next];lia,cl⟩
 |call q =>
  simp[Rw.over]at J;exact⟨⟨ok.nlen,ok.clen,ok.nw,ok.cw⟩,by simp[Rw.next];lia,by simp[Rw.next];lia⟩
 |back=>exact⟨⟨ok.nlen,ok.clen,ok.nw,ok.cw⟩,by simp[Rw.next];lia,by simp[Rw.next];lia⟩|stop=>simp[Rw.over]at J|_=>exact⟨⟨ok.nlen,ok.clen,ok.nw,ok.cw⟩,by simp[Rw.next];lia,cl⟩
section
end
def iP:Fn:=⟨["_law_script","_law_k"],["_law_script","_law_k"], (.seq (.v (.z .eq (.v 0) (.aj ai .nil)) (.ret (.bin .mul (.j (.int 7)) (.v 1))) .nil) (.ret (.bin .add (.y (.v 0) (.bin .mod (.v 1) (.bi .len ai (cV (.v 0))))) (.bin .mul (.j (.int 6553)) (.bin .fdiv (.v 1) (.bi .len ai (cV (.v 0))))))))⟩
def i8:Fn:=⟨["_law_script","_law_k","_law_many"],["_law_script","_law_k","_law_many","_law_cell_here"], (.seq (.set 3 (.bin .mod (.bin .add (.bin .mul (.bin .mod (.call "_law_cell" (cU (.v 0) (.v 1))) (.j (.int 2147483563))) (.j (.int 69069))) (.bin .mul (.j (.int 104723)) (.bin .add (.v 1) (.j (.int 1))))) (.j (.int 2147483563)))) (.seq (.set 3 (.bin .mod (.bin .add (.bin .mul (.v 3) (.v 3)) (.bin .fdiv (.v 3) (.j (.int 3)))) (.j (.int 2147483399)))) (.ret (.bin .mod (.bin .fdiv (.bin .mod (.bin .add (.bin .mul (.v 3) (.v 3)) (.bin .fdiv (.v 3) (.j (.int 7)))) (.j (.int 2147483647))) (.j (.int 11))) (.v 2)))))⟩
def smL:S:=(.seq (.v (.z .eq (.call "_law_drawn" (cT (.v 0) (.bin .add (.v 1) (.j (.int 1))) (.j (.int 2)))) (.j (.int 0))) (.ret (.aB (cU (.j (.str "num")) (.y (.aj ai (cQ (.j (.int 0)) (.j (.int 1)) (.j (.int 2)) (.j (.int 3)) (.j (.int 10)) (.j (.int 10006)))) (.call "_law_drawn" (cT (.v 0) (.bin .add (.v 1) (.j (.int 2))) (.j (.int 6)))))))) .nil) (.ret (.aB (cU (.j (.str "name")) (.y (.j (.str "abcf")) (.call "_law_drawn" (cT (.v 0) (.bin .add (.v 1) (.j (.int 2))) (.j (.int 4)))))))))
def smR:S:=(.seq (.set 4 (.call "_law_sum" (cT (.v 0) (.bin .add (.bin .mul (.v 1) (.j (.int 2))) (.j (.int 5))) (.bin .sub (.v 2) (.j (.int 1)))))) (.seq (.v (.z .lt (.v 3) (.j (.int 6))) (.ret (.aB (cU (.j (.str "cell")) (.v 4)))) .nil) (.ret (.aB (cT (.y (.aj ai (cS (.j (.str "add")) (.j (.str "sub")) (.j (.str "mul")) (.j (.str "less")))) (.bin .sub (.v 3) (.j (.int 6)))) (.v 4) (.call "_law_sum" (cT (.v 0) (.bin .add (.bin .mul (.v 1) (.j (.int 2))) (.j (.int 19))) (.bin .sub (.v 2) (.j (.int 1))))))))))
def gG:Fn:=⟨["_law_script","_law_at","_law_deep"],["_law_script","_law_at","_law_deep","_law_way","_law_one"], (.seq (.set 3 (.call "_law_drawn" (cT (.v 0) (.v 1) (.j (.int 10))))) (.seq (.v (.or (.z .eq (.v 2) (.j (.int 0))) (.z .lt (.v 3) (.j (.int 4)))) smL .nil) smR))⟩
def kL:Fn:=⟨["_law_script","_law_at","_law_size"],["_law_script","_law_at","_law_size","_law_way","_law_place","_law_name","_law_one"], (.seq (.set 3 (.call "_law_drawn" (cT (.v 0) (.v 1) (.j (.int 16))))) (.seq (.set 4 (.call "_law_drawn" (cT (.v 0) (.bin .add (.v 1) (.j (.int 1))) (.bin .add (.v 2) (.j (.int 1)))))) (.seq (.set 5 (.y (.j (.str "abc")) (.call "_law_drawn" (cT (.v 0) (.bin .add (.v 1) (.j (.int 2))) (.j (.int 3)))))) (.seq (.set 6 (.call "_law_sum" (cT (.v 0) (.bin .add (.v 1) (.j (.int 3))) (.j (.int 2))))) (.seq (.v (.z .lt (.v 3) (.j (.int 5))) (.ret (.aB (cT (.j (.str "set")) (.v 5) (.v 6)))) .nil) (.seq (.v (.z .lt (.v 3) (.j (.int 7))) (.ret (.aB (cT (.j (.str "put")) (.call "_law_sum" (cT (.v 0) (.bin .add (.v 1) (.j (.int 9))) (.j (.int 1)))) (.v 6)))) .nil) (.seq (.v (.z .lt (.v 3) (.j (.int 9))) (.ret (.y (.aj ai (cU (.aB (cU (.j (.str "ask")) (.v 5))) (.aB (cU (.j (.str "say")) (.v 6))))) (.bin .sub (.v 3) (.j (.int 7))))) .nil) (.seq (.v (.z .lt (.v 3) (.j (.int 12))) (.ret (.y (.aj ai (cT (.aB (cU (.j (.str "jump")) (.v 4))) (.aB (cT (.j (.str "unless")) (.v 6) (.v 4))) (.aB (cT (.j (.str "unless")) (.aB (cU (.j (.str "name")) (.v 5))) (.v 4))))) (.bin .sub (.v 3) (.j (.int 9))))) .nil) (.ret (.y (.aj ai (cS (.aB (cU (.j (.str "call")) (.v 4))) (.aB (cU (.j (.str "call")) (.v 4))) (.aB (cV (.j (.str "back")))) (.y (.aj ai (cU (.aB (cV (.j (.str "stop")))) (.aB (cV (.j (.str "back")))))) (.bin .mod (.v 4) (.j (.int 2)))))) (.bin .sub (.v 3) (.j (.int 12)))))))))))))⟩
def i9:Fn:=⟨["_law_script","_law_at"],["_law_script","_law_at"], (.ret (.comp ai .rng1 (cV (.call "_law_drawn" (cT (.v 0) (.v 1) (.j (.int 4))))) ["_law_k"] [(0,"_law_script"),(1,"_law_at")] .nil (.y (.aj ai (cS (.j (.int 0)) (.j (.int 1)) (.j (.int 5)) (.j (.int 10006)))) (.call "_law_drawn" (cT (.v 1) (.bin .add (.bin .add (.v 2) (.j (.int 1))) (.v 0)) (.j (.int 4)))))))⟩
structure Lw(T:FK->Option Fn):Prop where
 cell:T "_law_cell"=aa iP
 drawn:T "_law_drawn"=aa i8
 sum:T "_law_sum"=aa gG
 row:T "_law_row"=aa kL
 aF:T "_law_asked"=aa i9
noncomputable def Ad(J:List Int)(k:Int):Int:=if J=[]then 7*k else J.getD (k%J.length).toNat 0+6553*(k/J.length)
def drw(J:List Int)(k many:Int):Int :=
 let a:=(Ad J k%2147483563*69069+104723*(k+1))%2147483563
 let b:=(a*a+a/3)%2147483399
 (b*b+b/7)%2147483647/11%many
def gH(J:List Int)(k:Int)(h:0<many):0<=drw J k many:=Int.emod_nonneg _ (by lia)
def gJ(J:List Int)(k:Int)(h:0<many):drw J k many<many:=Int.emod_lt_of_pos _ h
def oV(J:0<=i)(h1:i<18446744073709551616):big i=ah:=by unfold big;exact bP (by lia)
section
def Ij(J:List Int):eqv (.aj (cX J)) (.aj [])=decide (J=[]):=by cases J<;>simp[cX]
def EX(L:Lw T)(m:Nat)(J:List Int)(d:J.length<=1000)(k:Int)(h:HH):runN T G (m+1) "_law_cell" [.p (.aj (cX J)),.p (.int k)] h=aa (.p (.int (Ad J k)),h):=by
 rw[run_eq L.cell rfl]
 by_cases c:J=[]
 ·subst c;simp[iP,cX,Ad,big,c5]
 ·have W:0<J.length:=List.length_pos_iff.mpr c;have q:eqv (.aj (cX J)) (.aj [])=ai:=by rw[Ij];exact bO c
  have O:(0:Int)<(J.length:Int):=by lia
  have U:(J.length:Int)<1073741824:=by lia
  have Z:=Int.emod_nonneg k (b:=(J.length:Int)) (by lia);have Y:=Int.emod_lt_of_pos k O;have a:(k%(J.length:Int)).toNat<J.length:=by lia
  have V:J.length<1073741824:=by lia
  simp[iP,-eqv,q,fK,O,U,W,V,Z,Y,big,c5,Ad,c];simp[cX,a,c5,W,V,Z,Y,big,O,U]
def gR(L:Lw T)(m:Nat)(J:List Int)(U:J.length<=1000)(k many:Int)(O:0<many)(h:HH):
 runN T G (m+2) "_law_drawn" [.p (.aj (cX J)),.p (.int k),.p (.int many)] h=aa (.p (.int (drw J k many)),h):=by
 rw[run_eq L.drawn rfl];have r:=EX (G:=G) L m J U k;have Z:big 69069=ah:=by decide
 have Y:big 104723=ah:=by decide
 have W:∀x:Int,big (x%2147483563)=ah:=λx=>oV (by lia) (by lia);have V:∀x:Int,big (x%2147483399)=ah:=λx=>oV (by lia) (by lia);simp[i8,r,Z,Y,W,V,c5,O,drw]
def uT:VQ "abcf"=⟨#[97,98,99,102]⟩:=by decide +kernel
def EY:VQ "abc"=⟨#[97,98,99]⟩:=by decide +kernel
def o_a:VQ "a"=⟨#[97]⟩:=by decide +kernel
def o_b:VQ "b"=⟨#[98]⟩:=by decide +kernel
def o_c:VQ "c"=⟨#[99]⟩:=by decide +kernel
def o_f:VQ "f"=⟨#[102]⟩:=by decide +kernel
def Ae(i:Int)(J:0<=i)(h1:i<4):∃x:Nm,dI (.str "abcf") (.int i)=aa (.str x.w):=by
 have:i=0\/i=1\/i=2\/i=3:=by lia
 rcases this with rfl|rfl|rfl|rfl
 exact⟨.a,by rw[Nm.w,uT,o_a];rfl⟩;exact⟨.b,by rw[Nm.w,uT,o_b];rfl⟩;exact⟨.c,by rw[Nm.w,uT,o_c];rfl⟩;exact⟨.f,by rw[Nm.w,uT,o_f];rfl⟩
def Mz(i:Int)(J:0<=i)(h1:i<3):∃x:Nm,dI (.str "abc") (.int i)=aa (.str x.w):=by
 have:i=0\/i=1\/i=2:=by lia
 rcases this with rfl|rfl|rfl
 exact⟨.a,by rw[Nm.w,EY,o_a];rfl⟩;exact⟨.b,by rw[Nm.w,EY,o_b];rfl⟩;exact⟨.c,by rw[Nm.w,EY,o_c];rfl⟩
def Af(i:Int)(J:0<=i)(h1:i<6):∃n:Int,Wth n/\dI (.aj [.int 0,.int 1,.int 2,.int 3,.int 10,.int 10006]) (.int i)=aa (.int n):=by
 have:i=0\/i=1\/i=2\/i=3\/i=4\/i=5:=by lia
 rcases this with rfl|rfl|rfl|rfl|rfl|rfl
 exact⟨0,⟨by decide,by decide⟩,rfl⟩;exact⟨1,⟨by decide,by decide⟩,rfl⟩;exact⟨2,⟨by decide,by decide⟩,rfl⟩;exact⟨3,⟨by decide,by decide⟩,rfl⟩;exact⟨10,⟨by decide,by decide⟩,rfl⟩;exact⟨10006,⟨by decide,by decide⟩,rfl⟩
def MA(i:Int)(J:0<=i)(h1:i<4):∃o:Op,dI (.aj [.str "add",.str "sub",.str "mul",.str "less"]) (.int i)=aa (.str o.w):=by
 have:i=0\/i=1\/i=2\/i=3:=by lia
 rcases this with rfl|rfl|rfl|rfl
 exact⟨.add,rfl⟩;exact⟨.sub,rfl⟩;exact⟨.mul,rfl⟩;exact⟨.less,rfl⟩
def EZ(L:Lw T)(O:List Int)(V:O.length<=1000)(p n:Int)(k:Nat)(rest:Sl)(h:HH)(c:drw O (p+1) 2=0)(en:dI (.aj [.int 0,.int 1,.int 2,.int 3,.int 10,.int 10006]) (.int (drw O (p+2) 6))=aa (.int n)):
 evS (runN T G (k+2)) G smL (aa (.p (.aj (cX O)))::aa (.p (.int p))::rest) h=aa (.rt (.p (Sm.num n).enc) h):=by
 have W:=λq J (U:0<J)=>gR (G:=G) L k O V q J U;simp[-d8,-lu,smL,W,c,en,Sm.enc]
def E2(L:Lw T)(O:List Int)(V:O.length<=1000)(p:Int)(x:Nm)(k:Nat)(rest:Sl)(h:HH)(c:¬drw O (p+1) 2=0)(ex:dI (.str "abcf") (.int (drw O (p+2) 4))=aa (.str x.w)):
 evS (runN T G (k+2)) G smL (aa (.p (.aj (cX O)))::aa (.p (.int p))::rest) h=aa (.rt (.p (Sm.nam x).enc) h):=by
 have W:=λq J (U:0<J)=>gR (G:=G) L k O V q J U;simp[-d8,-lu,smL,W,c,ex,Sm.enc]
def Ah(L:Lw T)(O:List Int)(V:O.length<=1000):∀(J:Nat)(p:Int),∃s:Sm,s.ok/\s.size+1<=2^(J+1)/\∀(m:Nat)(h:HH),
 runN T G (m+J+3) "_law_sum" [.p (.aj (cX O)),.p (.int p),.p (.int J)] h=aa (.p s.enc,h):=by
 intro J
 induction J with
 |zero =>
  intro p;have W:=λm q many (a:0<many)=>gR (G:=G) L m O V q many a;obtain⟨x,ex⟩:=Ae (drw O (p+2) 4) (gH _ _ (by decide)) (gJ _ _ (by decide));obtain⟨n,hn,en⟩:=Af (drw O (p+2) 6) (gH _ _ (by decide)) (gJ _ _ (by decide));have U:∀(s:Sm)(m:Nat)(h:HH),(∀rest,evS (runN T G (m+2)) G smL (aa (.p (.aj (cX O)))::aa (.p (.int p))::rest) h=aa (.rt (.p s.enc) h))->runN T G (m+0+3) "_law_sum" [.p (.aj (cX O)),.p (.int p),.p (.int ((0:Nat):Int))] h=aa (.p s.enc,h):=λs m h q=>by rw[run_eq L.sum rfl];simp[gG,W,q,c5]
  by_cases c:drw O (p+1) 2=0
  exact⟨.num n,hn,by simp[Sm.size],λm h=>U _ m h λrest=>EZ L O V p n m rest h c en⟩;exact⟨.nam x,trivial,by simp[Sm.size],λm h=>U _ m h λrest=>E2 L O V p x m rest h c ex⟩
 |succ J g =>
  intro p;have W:=λm q many (a:0<many)=>gR (G:=G) L m O V q many a;obtain⟨x,ex⟩:=Ae (drw O (p+2) 4) (gH _ _ (by decide)) (gJ _ _ (by decide));obtain⟨n,hn,en⟩:=Af (drw O (p+2) 6) (gH _ _ (by decide)) (gJ _ _ (by decide));obtain⟨s,f,A,Z⟩:=g (p*2+5);obtain⟨t,r,z,Y⟩:=g (p*2+19);have i:∀m,m+(J+1)+2=m+J+3:=λm=>by lia
  have e:=λm h=>(i m).symm ▸ Z m h;have tr:=λm h=>(i m).symm ▸ Y m h;have b:¬((J:Int)+1=0):=by lia
  have j:((J:Int)+1-1)=J:=by lia
  have l:big 2=ah:=by decide
  have y:=gH O p (many:=10) (by decide);have w:=gJ O p (many:=10) (by decide);have B:2^(J+1+1)=2^(J+1)+2^(J+1):=by lia
  by_cases d:drw O p 10<4
  ·have U:∀(s:Sm)(m:Nat)(h:HH),(∀rest,evS (runN T G (m+J+1+2)) G smL (aa (.p (.aj (cX O)))::aa (.p (.int p))::rest) h=aa (.rt (.p s.enc) h))->runN T G (m+(J+1)+3) "_law_sum" [.p (.aj (cX O)),.p (.int p),.p (.int ((J+1:Nat):Int))] h=aa (.p s.enc,h):=λs m h q=>by rw[run_eq L.sum rfl];have v:=W (m+(J+1));have q:∀rest,evS (runN T G (m+(J+1)+2)) G smL (aa (.p (.aj (cX O)))::aa (.p (.int p))::rest) h=aa (.rt (.p s.enc) h):=q;simp[gG,v,d,b,q,c5]
   by_cases c:drw O (p+1) 2=0
   exact⟨.num n,hn,by simp only[Sm.size];lia,λm h=>U _ m h λrest=>EZ L O V p n (m+J+1) rest h c en⟩;exact⟨.nam x,trivial,by simp only[Sm.size];lia,λm h=>U _ m h λrest=>E2 L O V p x (m+J+1) rest h c ex⟩
  ·by_cases k:drw O p 10<6
   ·refine⟨.cell s,f,by simp only[Sm.size];lia,λm h=>?_⟩;rw[run_eq L.sum rfl];simp[-d8,-lu,gG,smR,W,d,k,b,j,l,e,c5,Sm.enc]
   ·obtain⟨o,u⟩:=MA (drw O p 10-6) (by lia) (by lia);refine⟨.two o s t,⟨f,r⟩,by simp only[Sm.size];lia,λm h=>?_⟩;rw[run_eq L.sum rfl];simp[-d8,-lu,gG,smR,W,d,k,b,j,l,e,tr,u,c5,Sm.enc]
end
def JL:S:=(.ret (.y (.aj ai (cS (.aB (cU (.j (.str "call")) (.v 4))) (.aB (cU (.j (.str "call")) (.v 4))) (.aB (cV (.j (.str "back")))) (.y (.aj ai (cU (.aB (cV (.j (.str "stop")))) (.aB (cV (.j (.str "back")))))) (.bin .mod (.v 4) (.j (.int 2)))))) (.bin .sub (.v 3) (.j (.int 12)))))
def rA3:S:=(.ret (.y (.aj ai (cT (.aB (cU (.j (.str "jump")) (.v 4))) (.aB (cT (.j (.str "unless")) (.v 6) (.v 4))) (.aB (cT (.j (.str "unless")) (.aB (cU (.j (.str "name")) (.v 5))) (.v 4))))) (.bin .sub (.v 3) (.j (.int 9)))))
def E3:S:=(.seq (.v (.z .lt (.v 3) (.j (.int 12))) rA3 .nil) JL)
def rA2:S:=(.ret (.y (.aj ai (cU (.aB (cU (.j (.str "ask")) (.v 5))) (.aB (cU (.j (.str "say")) (.v 6))))) (.bin .sub (.v 3) (.j (.int 7)))))
def Ai:S:=(.seq (.v (.z .lt (.v 3) (.j (.int 9))) rA2 .nil) E3)
def rA1:S:=(.ret (.aB (cT (.j (.str "put")) (.call "_law_sum" (cT (.v 0) (.bin .add (.v 1) (.j (.int 9))) (.j (.int 1)))) (.v 6))))
def wU:S:=(.seq (.v (.z .lt (.v 3) (.j (.int 7))) rA1 .nil) Ai)
def rA0:S:=(.ret (.aB (cT (.j (.str "set")) (.v 5) (.v 6))))
def yz:S:=(.seq (.v (.z .lt (.v 3) (.j (.int 5))) rA0 .nil) wU)
theorem sI:kL=⟨["_law_script","_law_at","_law_size"],["_law_script","_law_at","_law_size","_law_way","_law_place","_law_name","_law_one"],
 (.seq (.set 3 (.call "_law_drawn" (.cons (.v 0) (.cons (.v 1) (.cons (.j (.int 16)) .nil)))))
 (.seq (.set 4 (.call "_law_drawn" (.cons (.v 0) (.cons (.bin .add (.v 1) (.j (.int 1))) (.cons (.bin .add (.v 2) (.j (.int 1))) .nil)))))
 (.seq (.set 5 (.y (.j (.str "abc")) (.call "_law_drawn" (.cons (.v 0) (.cons (.bin .add (.v 1) (.j (.int 2))) (.cons (.j (.int 3)) .nil))))))
 (.seq (.set 6 (.call "_law_sum" (.cons (.v 0) (.cons (.bin .add (.v 1) (.j (.int 3))) (.cons (.j (.int 2)) .nil)))))
 yz))))⟩:=rfl
section
def Ik(L:Lw T)(J:List Int)(d:J.length<=1000)(p:Int)(size:Nat):∃r:Rw,r.ok size/\∀(m:Nat)(h:HH),
 runN T G (m+6) "_law_row" [.p (.aj (cX J)),.p (.int p),.p (.int size)] h=aa (.p r.enc,h):=by
 have f:=λm q many (n:0<many)=>gR (G:=G) L m J d q many n;obtain⟨x,ex⟩:=Mz (drw J (p+2) 3) (gH _ _ (by decide)) (gJ _ _ (by decide));obtain⟨s,l,A,k⟩:=Ah (G:=G) L J d 2 (p+3);obtain⟨t,j,y,tr⟩:=Ah (G:=G) L J d 1 (p+9);have v:=gH J p (many:=16) (by decide);have o:=gJ J p (many:=16) (by decide);have sz:(0:Int)<(size:Int)+1:=by lia
 have C:=gH J (p+1) sz;have B:=gJ J (p+1) sz;obtain⟨O,hpl⟩:∃O:Nat,drw J (p+1) ((size:Int)+1)=(O:Int):=⟨(drw J (p+1) ((size:Int)+1)).toNat,by lia⟩;have V:O<=size:=by lia
 have W:rH s:=⟨l,by lia⟩;have tok:rH t:=⟨j,by lia⟩;have Z:=λm h=>k (m+0) h;have Y:=λm h=>tr (m+1) h;simp at Z Y;have g:=λm h=>f m (p+1) ((size:Int)+1) sz h;rw[hpl]at g;have U:∀(m:Nat)(h:HH),runN T G (m+6) "_law_row" [.p (.aj (cX J)),.p (.int p),.p (.int size)] h =
  iW (evS (runN T G (m+5)) G yz [aa (.p (.aj (cX J))),aa (.p (.int p)),aa (.p (.int size)),aa (.p (.int (drw J p 16))),aa (.p (.int (O:Int))),aa (.p (.str x.w)),aa (.p s.enc)] h) (fin h):=λm h=>by
  rw[run_eq L.row rfl,sI];simp[-lu,g,f,ex,Z]
 by_cases a:drw J p 16<5
 ·refine⟨.set x s,W,λm h=>?_⟩;rw[U];simp[-d8,-lu,yz,rA0,a,c5,Rw.enc]
 ·by_cases b:drw J p 16<7
  ·refine⟨.put t s,⟨tok,W⟩,λm h=>?_⟩;rw[U];simp[-d8,-lu,yz,wU,rA1,Y,a,b,c5,Rw.enc]
  ·by_cases e:drw J p 16<9
   ·obtain⟨r,ro,ix⟩:∃r:Rw,r.ok size/\dI (.aj [.aB [.str "ask",.str x.w],.aB [.str "say",s.enc]]) (.int (drw J p 16-7))=aa r.enc:=by
     have c:drw J p 16=7\/drw J p 16=8:=by lia
     rcases c with c|c<;>rw[c]
     exact⟨.ask x,trivial,rfl⟩;exact⟨.say s,W,rfl⟩
    refine⟨r,ro,λm h=>?_⟩;rw[U];simp[-d8,yz,wU,Ai,rA2,a,b,e,ix,c5]
   ·by_cases i:drw J p 16<12
    ·obtain⟨r,ro,ix⟩:∃r:Rw,r.ok size/\dI (.aj [.aB [.str "jump",.int O],.aB [.str "unless",s.enc,.int O],.aB [.str "unless",.aB [.str "name",.str x.w],.int O]]) (.int (drw J p 16-9))=aa r.enc:=by
      have c:drw J p 16=9\/drw J p 16=10\/drw J p 16=11:=by lia
      rcases c with c|c|c<;>rw[c]
      exact⟨.jump O,V,rfl⟩;exact⟨.unless s O,⟨W,V⟩,rfl⟩;exact⟨.unless (.nam x) O,⟨⟨trivial,by simp[Sm.size]⟩,V⟩,rfl⟩
     refine⟨r,ro,λm h=>?_⟩;rw[U];simp[-d8,yz,wU,Ai,E3,rA3,a,b,e,i,ix,c5]
    ·obtain⟨u,uo,iu⟩:∃u:Rw,u.ok size/\dI (.aj [.aB [.str "stop"],.aB [.str "back"]]) (.int ((O:Int)%2))=aa u.enc:=by
      have z:(O:Int)%2=0\/(O:Int)%2=1:=by lia
      rcases z with z|z<;>rw[z]
      exact⟨.stop,trivial,rfl⟩;exact⟨.back,trivial,rfl⟩
     obtain⟨r,ro,ix⟩:∃r:Rw,r.ok size/\dI (.aj [.aB [.str "call",.int O],.aB [.str "call",.int O],.aB [.str "back"],u.enc]) (.int (drw J p 16-12))=aa r.enc:=by
      have c:drw J p 16=12\/drw J p 16=13\/drw J p 16=14\/drw J p 16=15:=by lia
      rcases c with c|c|c|c<;>rw[c]
      exact⟨.call O,V,rfl⟩;exact⟨.call O,V,rfl⟩;exact⟨.back,trivial,rfl⟩;exact⟨u,uo,rfl⟩
     refine⟨r,ro,λm h=>?_⟩;rw[U];simp[-d8,yz,wU,Ai,E3,JL,a,b,e,i,iu,ix,c5]
def comp_map(f:List D->HH->Option (Option D×HH))(g:D->D):∀(ds:List D)(h:HH),(∀d∈ds,∀h,f [d] h=aa (aa (g d),h))->eW f 1 ds h=aa (ds.map g,h):=by
 intro ds
 induction ds with
 |nil=>intro h _;rfl
 |cons d r L =>
  intro h J;have e1:=J d V6 h;have e2:=L h λx O=>J x (VZ _ O);rw[eW,nC];simp[e1,e2]
def wV(h:d∈upto 0 n):∃k:Nat,k<n/\d=.int k:=by simp[upto]at h;obtain⟨k,J,e⟩:=h;exact⟨k,J,e.symm⟩
def wW(n:Nat)(g:D->D):(upto 0 n).map g=(V5 n).map λ(k:Nat)=>g (.int k):=by simp[upto,Function.comp_def]
def Il:E:=.y (.aj ai (cS (.j (.int 0)) (.j (.int 1)) (.j (.int 5)) (.j (.int 10006)))) (.call "_law_drawn" (cT (.v 1) (.bin .add (.bin .add (.v 2) (.j (.int 1))) (.v 0)) (.j (.int 4))))
theorem pP:i9=⟨["_law_script","_law_at"],["_law_script","_law_at"],.ret (.comp ai .rng1 (.cons (.call "_law_drawn" (.cons (.v 0) (.cons (.v 1) (.cons (.j (.int 4)) .nil)))) .nil) ["_law_k"] [(0,"_law_script"),(1,"_law_at")] .nil Il)⟩:=rfl
def BY(L:Lw T)(J:List Int)(c:J.length<=1000)(p:Int):∃aF:List Int,Ask aF/\aF.length<=3/\∀(m:Nat)(h:HH),
 runN T G (m+3) "_law_asked" [.p (.aj (cX J)),.p (.int p)] h=aa (.p (.aj (cX aF)),h):=by
 have Z:=λm q many (b:0<many)=>gR (G:=G) L m J c q many b;have V:∀i:Int,0<=i->i<4->∃n:Int,Wth n/\dI (.aj [.int 0,.int 1,.int 5,.int 10006]) (.int i)=aa (.int n):=by
  intro i w v;have:i=0\/i=1\/i=2\/i=3:=by lia
  rcases this with rfl|rfl|rfl|rfl
  exact⟨0,⟨by decide,by decide⟩,rfl⟩;exact⟨1,⟨by decide,by decide⟩,rfl⟩;exact⟨5,⟨by decide,by decide⟩,rfl⟩;exact⟨10006,⟨by decide,by decide⟩,rfl⟩
 have l:∀k:Nat,∃n:Int,Wth n/\dI (.aj [.int 0,.int 1,.int 5,.int 10006]) (.int (drw J (p+1+k) 4))=aa (.int n):=λk =>
  V _ (gH _ _ (by decide)) (gJ _ _ (by decide))
 obtain⟨g,Y⟩:=Z5 l;have t:=gH J p (many:=4) (by decide);have s:=gJ J p (many:=4) (by decide);refine⟨(V5 (drw J p 4).toNat).map g,?_,by simp;lia,λm h=>?_⟩
 ·intro x W;simp at W;obtain⟨k,_,rfl⟩:=W;exact(Y k).1
 ·rw[run_eq L.aF rfl,pP];have o:drw J p 4<=100000:=by lia
  have r:-100000<=drw J p 4:=by lia
  have f:∀(k:Nat)(h:HH),ev (runN T G (m+2)) G Il [aa (.p (.int k)),aa (.p (.aj (cX J))),aa (.p (.int p))] h=aa (.p (.int (g k)),h):=λk h=>by have e:=(Y k).2;simp[-d8,Il,Z,e]
  have U:=comp_map (fO (λ_ h=>aa ([],h)) (ev (runN T G (m+2)) G Il) [aa (.p (.aj (cX J))),aa (.p (.int p))]) (λd=>match d with | .int k=>.int (g k.toNat)|_=>.aC) (upto 0 (drw J p 4).toNat) h (by
   intro d j h;obtain ⟨k,u,rfl⟩:=wV j;simp[fT,f])
  have a:(drw J p 4).toNat<=100000:=by lia
  rw[wW]at U;have O:(V5 (drw J p 4).toNat).map (λ(k:Nat)=>match D.int (k:Int)with|.int k=>D.int (g k.toNat)|_=>.aC)=cX ((V5 (drw J p 4).toNat).map g):=by simp[cX,Function.comp_def]
  rw[O]at U;simp[Z,r,o,U,fK,a,c5,gU]
def E4:E:=.call "_law_row" (cT (.v 1) (.bin .add (.bin .add (.v 2) (.j (.int 10))) (.bin .mul (.j (.int 40)) (.v 0))) (.v 3))
structure Drawn(p:Pg):Prop where
 ok:Pg.ok p
 lo:1<=p.length
 hi:p.length<=9
def lO(n:Int)(o:Op):Pg:=[.ask .a,.call 4,.say (.nam .a),.jump 0,.put (.nam .a) (.num n),.call 7,.back,.set .b (.two o (.nam .b) (.nam .a)),.back]
def uU(n:Int)(o:Op)(h:Wth n):Drawn (lO n o):=by refine⟨?_,by simp[lO],by simp[lO]⟩;intro r J;simp only[lO,Xa,WA,or_false]at J;rcases J with rfl|rfl|rfl|rfl|rfl|rfl|rfl|rfl|rfl<;>simp[Rw.ok,lO,rH,Sm.ok,Sm.size,h]
def rJ(L:Lw T)
(J:List Int)(W:J.length<=1000)(p:Int)
(U:∀ (m:Nat) (h:HH) (n:Int) (o:Op),drw J (p+1) 4=0->n=drw J (p+2) 9->dI (.aj [.str "add",.str "sub"]) (.int (drw J (p+3) 2))=aa (.str o.w) →
  (∀m q many,0<many->∀h,runN T G (m+2) "_law_drawn" [.p (.aj (cX J)),.p (.int q),.p (.int many)] h=aa (.p (.int (drw J q many)),h)) →
  runN T G (m+7) "_law_program" [.p (.aj (cX J)),.p (.int p)] h=aa (.p (dS (lO n o)),h))
(O:∀ (m:Nat) (h:HH) (pg:Pg),drw J (p+1) 4≠0->pg.length=(1+drw J p 9).toNat →
  (∀m q many,0<many->∀h,runN T G (m+2) "_law_drawn" [.p (.aj (cX J)),.p (.int q),.p (.int many)] h=aa (.p (.int (drw J q many)),h)) →
  (∀h,eW (fO (λ_ h=>aa ([],h)) (ev (runN T G (m+6)) G E4) [aa (.p (.aj (cX J))),aa (.p (.int p)),aa (.p (.int (1+drw J p 9)))]) 1 (upto 0 (1+drw J p 9).toNat) h=aa (pg.map Rw.enc,h)) →
  runN T G (m+7) "_law_program" [.p (.aj (cX J)),.p (.int p)] h=aa (.p (dS pg),h)):
 ∃pg:Pg,Drawn pg/\∀(m:Nat)(h:HH),runN T G (m+7) "_law_program" [.p (.aj (cX J)),.p (.int p)] h=aa (.p (dS pg),h):=by
 have Z:=λm q many (f:0<many)=>gR (G:=G) L m J W q many f
 by_cases c:drw J (p+1) 4=0
 ·have t:=gH J (p+3) (many:=2) (by decide);have s:=gJ J (p+3) (many:=2) (by decide);have x:=gH J (p+2) (many:=9) (by decide);have e1:=gJ J (p+2) (many:=9) (by decide);have z:drw J (p+3) 2=0\/drw J (p+3) 2=1:=by lia
  have:∃o:Op,dI (.aj [.str "add",.str "sub"]) (.int (drw J (p+3) 2))=aa (.str o.w):=by
   rcases z with z|z<;>rw[z]
   exact⟨.add,rfl⟩;exact⟨.sub,rfl⟩
  obtain⟨o,l⟩:=this;exact⟨lO (drw J (p+2) 9) o,uU _ _ ⟨by lia,by lia⟩,λm h=>U m h _ o c rfl l Z⟩
 ·have t:=gH J p (many:=9) (by decide);have s:=gJ J p (many:=9) (by decide);obtain⟨sz,hsz⟩:∃sz:Nat,1+drw J p 9=(sz:Int):=⟨(1+drw J p 9).toNat,by lia⟩;have u:∀k:Nat,∃r:Rw,r.ok sz/\∀(m:Nat)(h:HH),runN T G (m+6) "_law_row" [.p (.aj (cX J)),.p (.int (p+10+40*(k:Int))),.p (.int sz)] h=aa (.p r.enc,h) :=
   λk=>Ik L J W _ sz
  obtain⟨g,Y⟩:=Z5 u;refine⟨(V5 sz).map g,⟨?_,by simp;lia,by simp;lia⟩,λm h=>O m h _ c (by simp;lia) Z λh=>?_⟩
  ·intro r V;simp at V;obtain⟨k,_,rfl⟩:=V;simpa using (Y k).1
  ·rw[hsz];have b:big 40=ah:=by decide
   have i:∀(k:Nat)(h:HH),ev (runN T G (m+6)) G E4 [aa (.p (.int k)),aa (.p (.aj (cX J))),aa (.p (.int p)),aa (.p (.int sz))] h=aa (.p (g k).enc,h):=λk h=>by have e:=(Y k).2;simp[E4,e,b]
   have a:=comp_map (fO (λ_ h=>aa ([],h)) (ev (runN T G (m+6)) G E4) [aa (.p (.aj (cX J))),aa (.p (.int p)),aa (.p (.int sz))]) (λd=>match d with | .int k=>(g k.toNat).enc|_=>.aC) (upto 0 sz) h (by
    intro d j h;obtain ⟨k,v,rfl⟩:=wV j;simp[fT,i])
   rw[wW]at a;simp only[Int.toNat_natCast,ZN];rw[a];rfl
end
section
def prB:S:=(.ret (.bi .tuple ai (cV (.comp ai .rng1 (cV (.v 2)) ["_law_k"] [(0,"_law_script"),(1,"_law_at"),(2,"_law_size")] .nil E4))))
mutual
theorem lP:∀d:D,eqv d d=ah
 |.aC=>rfl
 |.bl b=>by simp
 |.int i=>by simp
 |.str x=>by simp
 |.aB J=>by simp[mE J]
 |.aj J=>by simp[mE J]
theorem mE:∀ds:List D,r9 ds ds=ah
 |[]=>rfl
 |d::r=>by simp[lP d,mE r]
end
def rK(n:Nat)(xs:List Int):(cX xs).all (dok n)=ah:=by simp[cX,Xi]
def rL(n:Nat)(xs:List Nat):(cZ xs).all (dok n)=ah:=by simp[cZ,Xi]
def ne_self(h:dok 100 x=ah):iB .ne x x=aa ai:=by rw[zk,bK (ji h),lP];rfl
@[simp]theorem MB(ds:List D):r9 ds ds=ah:=mE ds
@[simp]theorem NQ(d:D):eqv d d=ah:=lP d
@[simp]theorem NR(x:D)(xs:List Int):fL x (.aB (cX xs))=ah:=ji (rK 99 xs)
@[simp]theorem NS(x:D)(xs:List Nat):fL x (.aB (cZ xs))=ah:=ji (rL 99 xs)
@[simp]theorem Qs(x:D)(xs ys:List Int):fL x (.aB [.aB (cX xs),.aB (cX ys)])=ah:=ji (by simp[rK])
end
section
variable{T:FK->Option Fn}{G:az->Option W}
def Qt:S:=(.seq (.set 3 (.aB (cT (.j (.str "put")) (.aB (cU (.j (.str "name")) (.j (.str "a")))) (.aB (cU (.j (.str "num")) (.call "_law_drawn" (cT (.v 0) (.bin .add (.v 1) (.j (.int 2))) (.j (.int 9))))))))) (.seq (.set 4 (.y (.aj ai (cU (.j (.str "add")) (.j (.str "sub")))) (.call "_law_drawn" (cT (.v 0) (.bin .add (.v 1) (.j (.int 3))) (.j (.int 2)))))) (.seq (.set 5 (.aB (cR (.aB (cU (.j (.str "ask")) (.j (.str "a")))) (.aB (cU (.j (.str "call")) (.j (.int 4)))) (.aB (cU (.j (.str "say")) (.aB (cU (.j (.str "name")) (.j (.str "a")))))) (.aB (cU (.j (.str "jump")) (.j (.int 0)))) (.v 3)))) (.ret (.bin .add (.v 5) (.aB (cS (.aB (cU (.j (.str "call")) (.j (.int 7)))) (.aB (cV (.j (.str "back")))) (.aB (cT (.j (.str "set")) (.j (.str "b")) (.aB (cT (.v 4) (.aB (cU (.j (.str "name")) (.j (.str "b")))) (.aB (cU (.j (.str "name")) (.j (.str "a")))))))) (.aB (cV (.j (.str "back")))))))))))
def fJ:Fn:=⟨["_law_script","_law_at"],["_law_script","_law_at","_law_size","_law_put_here","_law_sign","_law_rows"], (.seq (.set 2 (.bin .add (.j (.int 1)) (.call "_law_drawn" (cT (.v 0) (.v 1) (.j (.int 9)))))) (.seq (.v (.z .eq (.call "_law_drawn" (cT (.v 0) (.bin .add (.v 1) (.j (.int 1))) (.j (.int 4)))) (.j (.int 0))) Qt .nil) prB))⟩
def uV(L:Lw T)(W:T "_law_program"=aa fJ)(J:List Int)(Y:J.length<=1000)(p:Int):
 ∃pg:Pg,Drawn pg/\∀(m:Nat)(h:HH),runN T G (m+7) "_law_program" [.p (.aj (cX J)),.p (.int p)] h=aa (.p (dS pg),h):=by
 refine rJ L J Y p (λm h n o c en Z U=>?_) (λm h pg c g U a=>?_)
 ·rw[run_eq W rfl];have d:=λq many O h=>U (m+4) q many O h;rw[fJ];simp[-d8,Qt,d,c,Z,c5,dS,lO,Rw.enc,Sm.enc,←en,Nm.w]
 ·rw[run_eq W rfl];have d:=λq many O h=>U (m+4) q many O h;have j:=gH J p (many:=9) (by decide);have i:=gJ J p (many:=9) (by decide);have f:-100000<=1+drw J p 9:=by lia
  have e:1+drw J p 9<=100000:=by lia
  have b:pg.length<=100000:=by lia
  have V:=a h;rw[fJ];simp[-fO,prB,d,c,f,e,b,V,c5,dS,gU]
end
section
variable{T:FK->Option Fn}{G:az->Option W}
def yC(x:Nm):Xx (VQ "abcdef") (VQ x.w) 0 (VQ "abcdef").length 1=[x.ix]:=by cases x<;>decide +kernel
def mL(x:Nm):meD .sindex (.str "abcdef") [.str x.w]=aa (.int x.ix):=by have o:=yC x;rw[C7,o]
def ix0(a:D)(r:List D):dI (.aB (a::r)) (.int 0)=aa a:=by simp
def ix1(a b:D)(r:List D):dI (.aB (a::b::r)) (.int 1)=aa b:=by
 have:(1:Int)<(r.length:Int)+1+1:=by lia
 simp[this]
def ix2(a b c:D)(r:List D):dI (.aB (a::b::c::r)) (.int 2)=aa c:=by
 have:(2:Int)<(r.length:Int)+1+1+1:=by lia
 simp[this]
theorem uW(d:D):∀k:Nat,rep k [d]=V3 k d
 |0=>rfl
 |k+1=>by have:=uW d k;unfold rep at this⊢;rw[WD,Xf,this,WD];rfl
@[simp]theorem Um(st:St):qG st.enc (aa 1) (aa 3)=aa (.aB [.aB (cX st.names),.aB (cX st.cells)]):=rfl
def ng(p:Pg)(aF:List Int)(st:St):(step p aF st).aF<=st.aF+1:=by
 unfold step;cases p[st.row]? with
 |none=>simp|some r=>cases r<;>simp[Rw.next]
end
structure InP(p:Pg)(st:St):Prop where
 row:st.row<=p.length
 calls:∀c∈st.calls,c<=p.length
def wX(p:Pg):InP p St.zero:=⟨WM _,by simp[St.zero]⟩
def rM{st:St}(Y:Pg.ok p)(h:InP p st)(U:over p st=ai):InP p (step p aF st):=by
 have c:st.row<p.length:=by
  rcases V9 st.row p.length with q|q
  exact q;rw[over,VP q]at U;cases U
 have e:p[st.row]?=aa p[st.row]:=VL c;have O:=Y _ (YR c);have J:(p[st.row]).over st=ai:=by rw[over,e]at U;exact U
 rw[step,e];dsimp only
 revert O J
 generalize p[st.row]=r;intro O J;cases r with
 |jump q=>exact⟨O,h.calls⟩
 |«unless» s q =>
  refine⟨?_,h.calls⟩;simp only[Rw.next];split;exact O.2;exact c
 |call q =>
  refine⟨O,λx L=>?_⟩;simp only[Rw.next,List.mem_append,Yz]at L;rcases L with L|rfl
  exact h.calls x L;exact c
 |back =>
  have V:st.calls≠[]:=by intro e;simp[Rw.over,e]at J
  have W:st.calls=st.calls.dropLast++[st.calls.getLast V]:=(Yh V).symm;refine⟨?_,λx L=>h.calls x (by rw[W];exact Xc _ L)⟩;simp only[Rw.next];rw[W];simp only[List.getLast?_append,List.getLast?_singleton,Option.some_or,ZD];exact h.calls _ (List.getLast_mem V)
 |stop=>simp[Rw.over]at J|_=>exact⟨c,h.calls⟩
def yD(n:Nat)(st:St):dok (n+2) st.enc=ah:=by simp[St.enc,zj,rK,rL]
def Aj(L:List St):dok 100 (.aj (L.map St.enc))=ah:=by rw[pX,Xi];intro d J;simp at J;obtain⟨st,_,rfl⟩:=J;exact yD 97 st
@[simp]theorem Si(x:D)(st:St):fL x st.enc=ah:=ji (yD 98 st)
@[simp]theorem Qu(x:D)(L:List St):fL x (.aj (L.map St.enc))=ah:=ji (Aj L)
def itr(s0:St)(p:Pg)(aF:List Int):Nat->St
 |0=>s0|n+1=>step p aF (itr s0 p aF n)
structure Run(s0:St)(p:Pg)(aF:List Int)(most e:Nat):Prop where
 le:e<=most
 on:∀i,i<e->over p (itr s0 p aF i)=ai
 last:e=most\/over p (itr s0 p aF e)=ah
theorem E5(s0:St)(p:Pg)(aF:List Int):∀(r j:Nat),∃e,e<=r/\sts p aF r (itr s0 p aF j)=(V5 (e+1)).map (λi=>itr s0 p aF (j+i))/\(∀i,i<e->over p (itr s0 p aF (j+i))=ai)/\(e=r\/over p (itr s0 p aF (j+e))=ah)
 |0,j=>⟨0,VR _,rfl,λi J=>bM J (Nat.not_lt_zero _),.inl rfl⟩
 |r+1,j=>by
  rw[sts]
  by_cases c:over p (itr s0 p aF j)=ah
  ·rw[bK c];exact⟨0,WM _,rfl,λi J=>bM J (Nat.not_lt_zero _),.inr c⟩
  ·rw[bL c];obtain⟨e,W,U,O,L⟩:=E5 s0 p aF r (j+1);have V:over p (itr s0 p aF j)=ai:=by simpa using c
   refine⟨e+1,by lia,?_,λi J=>?_,?_⟩
   ·show itr s0 p aF j::sts p aF r (itr s0 p aF (j+1))=_;rw[U,XZ (n:=e+1),VX,ZN];congr 1;apply Ym;intro i _;show itr s0 p aF (j+1+i)=itr s0 p aF (j+(i+1));congr 1;lia
   ·cases i with
    |zero=>exact V
    |succ i =>
     have:=O i (by lia);rw[show j+(i+1)=j+1+i by lia];exact this
   ·rcases L with L|L
    exact .inl (by lia);exact .inr (by rw[show j+(e+1)=j+1+e by lia];exact L)
def Ak(s0:St)(p:Pg)(aF:List Int)(most:Nat):∃e,Run s0 p aF most e/\sts p aF most s0=(V5 (e+1)).map (itr s0 p aF):=by obtain⟨e,V,U,O,L⟩:=E5 s0 p aF most 0;refine⟨e,⟨V,λi J=>by have:=O i J;simpa using this,by simpa using L⟩,?_⟩;have:sts p aF most s0=sts p aF most (itr s0 p aF 0):=rfl;rw[this,U];apply Ym;intro i _;simp
def At.mono{m n:Nat}{st:St}(a:At m st)(h:m<=n):At n st:=⟨a.ok,Wa a.said h,a.calls⟩
theorem yE{s0:St}{p:Pg}{aF:List Int}{most e:Nat}(J:Pg.ok p)(L:Ask aF)(O:At 1000 s0)(R:Run s0 p aF most e):∀i,i<=e->At (1000+i) (itr s0 p aF i)
 |0,_=>O|i+1,h=>qj J L (yE J L O R i (by lia)) (R.on i (by lia))
structure Tp where
 p:Pg
 aF:List Int
 aJ:Nat
 most:Nat
 aG:List St
 far:Nat
 aH:St
 now:Nat
def Tp.fs(t:Tp)(r:Nat):List (az×W):=[("program",.p (dS t.p)),("asked",.p (.aj (cX t.aF))),("gap",.p (.int t.aJ)),("most",.p (.int t.most)),("kept",.r r),("farthest",.p (.int t.far)),("front",.p t.aH.enc),("now",.p (.int t.now))]
section
variable(t:Tp)(r:Nat)
@[simp]theorem MC:eN "program" (t.fs r)=aa (.p (dS t.p)):=by simp[Tp.fs]
@[simp]theorem Qv:eN "asked" (t.fs r)=aa (.p (.aj (cX t.aF))):=by simp[Tp.fs]
@[simp]theorem Uo:eN "gap" (t.fs r)=aa (.p (.int t.aJ)):=by simp[Tp.fs]
@[simp]theorem Sj:eN "most" (t.fs r)=aa (.p (.int t.most)):=by simp[Tp.fs]
@[simp]theorem Im:eN "kept" (t.fs r)=aa (.r r):=by simp[Tp.fs]
@[simp]theorem Up:eN "farthest" (t.fs r)=aa (.p (.int t.far)):=by simp[Tp.fs]
@[simp]theorem Qw:eN "front" (t.fs r)=aa (.p t.aH.enc):=by simp[Tp.fs]
@[simp]theorem Uq:eN "now" (t.fs r)=aa (.p (.int t.now)):=by simp[Tp.fs]
@[simp]theorem Ur:(t.fs r).length=8:=rfl
def Io(v:Nat):fR "gap" (.p (.int v)) (t.fs r)=({t with aJ:=v}:Tp).fs r:=by simp[Tp.fs]
def E6(J:Nat):fR "kept" (.r J) (t.fs r)=t.fs J:=by simp[Tp.fs]
def Ip(v:Nat):fR "farthest" (.p (.int v)) (t.fs r)=({t with far:=v}:Tp).fs r:=by simp[Tp.fs]
def BZ(v:St):fR "front" (.p v.enc) (t.fs r)=({t with aH:=v}:Tp).fs r:=by simp[Tp.fs]
def jK{m:String}(h:(["program","asked","gap","most","kept","farthest","front","now"]:List String).contains m=ai):eN m (t.fs r)=af:=by simp only[Zu,List.contains_nil,Yi,aaQ,bT,ne_eq]at h;obtain⟨Z,Y,W,V,U,O,L,J⟩:=h;simp[Tp.fs,Z,Y,W,V,U,O,L,J]
end
structure TAt(c:az)(h:HH)(n r:Nat)(t:Tp):Prop where
 ob:oat h n=aa (c,t.fs r)
 li:lat h r=aa (t.aG.map St.enc)
def iX{h:HH}{n:Nat}{q:az×List (az×W)}(e:oat h n=aa q):n<h.length:=by
 unfold oat at e;rcases V9 n h.length with z|z
 exact z;rw[VP z]at e;exact gT e
def gK{h:HH}{n:Nat}{q:List D}(e:lat h n=aa q):n<h.length:=by
 unfold lat at e;rcases V9 n h.length with z|z
 exact z;rw[VP z]at e;exact gT e
def nX{h:HH}{n r:Nat}{q:az×List (az×W)}{xs:List D}(e:oat h n=aa q)(e':lat h r=aa xs):n≠r:=by
 rintro rfl
 unfold oat at e;unfold lat at e';cases g:h[n]? with
 |none=>rw[g]at e;exact gT e|some c=>rw[g]at e e';cases c<;>simp at e e'
def nY{h:HH}{n:Nat}(hn:n<h.length)(c:Cl):oat (h.set n c) n=sf c:=by unfold oat;rw[Wb hn];rfl
def rO{h:HH}{n i:Nat}(hn:i≠n)(c:Cl):oat (h.set n c) i=oat h i:=by unfold oat;rw[V1 (WI hn)]
def wY{h:HH}{n:Nat}(hn:n<h.length)(c:Cl):lat (h.set n c) n=qE c:=by unfold lat;rw[Wb hn];rfl
def nh{h:HH}{n i:Nat}(hn:i≠n)(c:Cl):lat (h.set n c) i=lat h i:=by unfold lat;rw[V1 (WI hn)]
def lQ{h h':HH}{i:Nat}(e:h'[i]?=h[i]?):lat h' i=lat h i:=by unfold lat;rw[e]
def lR{h h':HH}{i:Nat}(e:h'[i]?=h[i]?):oat h' i=oat h i:=by unfold oat;rw[e]
def Al{h g:HH}{i:Nat}(hi:i<h.length):lat (h++g) i=lat h i:=lQ (VF hi)
def Am{h g:HH}{i:Nat}(hi:i<h.length):oat (h++g) i=oat h i:=lR (VF hi)
structure Go(c:az)(n:Nat)(h:HH)(r:Nat)(t:Tp)(h':HH)(r':Nat)(t':Tp):Prop where
 a:TAt c h n r t
 b:TAt c h' n r' t'
 len:(h'.length=h.length/\r'=r)\/(h.length<=r')
 le:h.length<=h'.length
 fr:∀i,i≠n->i≠r->i<h.length->h'[i]?=h[i]?
def Go.refl{c:az}{n:Nat}{h:HH}{r:Nat}{t:Tp}(a:TAt c h n r t):Go c n h r t h r t:=⟨a,a,.inl ⟨rfl,rfl⟩,VR _,λ_ _ _ _=>rfl⟩
def Go.trans{c:az}{n:Nat}{h h1 h2:HH}{r O Y:Nat}{t W V:Tp}(x:Go c n h r t h1 O W)(y:Go c n h1 O W h2 Y V):Go c n h r t h2 Y V:=by
 refine⟨x.a,y.b,?_,Wa x.le y.le,λi h1 h2 d=>?_⟩
 ·rcases x.len with⟨L,U⟩|L
  ·rcases y.len with⟨J,Z⟩|J
   exact .inl ⟨J.trans L,Z.trans U⟩;exact .inr (by lia)
  ·rcases y.len with⟨J,Z⟩|J
   exact .inr (by lia);exact .inr (by have:=x.le;lia)
 ·have:i≠O:=by
   rcases x.len with⟨L,U⟩|L
   rw[U];exact h2;lia
  rw[y.fr i h1 this (by have:=x.le;lia)];exact x.fr i h1 h2 d
def Go.other{c:az}{n m:Nat}{h h':HH}{r J s:Nat}{t t' u:Tp}(x:Go c n h r t h' J t')(o:TAt c h m s u)(V:m≠n)(L:s≠r):TAt c h' m s u/\s≠J:=by
 have U:m≠r:=nX o.ob x.a.li;have O:s≠n:=(nX x.a.ob o.li).symm;refine⟨⟨(lR (x.fr m V U (iX o.ob))).trans o.ob,(lQ (x.fr s O L (gK o.li))).trans o.li⟩,?_⟩;rcases x.len with⟨Y,W⟩|Y
 rw[W];exact L;have:=gK o.li;lia
def ni{c:az}{n:Nat}{h h':HH}{r L:Nat}{t t':Tp}(x:Go c n h r t h' L t')(w:W):fin h w h'=aa (w,h'):=by
 unfold fin
 by_cases c:h'.length=h.length
 rw[bK c]
 ·rw[bL c];rw[bL];intro z;rcases x.len with⟨J,U⟩|J
  exact c J
  ·have hn:=iX x.a.ob;have e:h'[n]?=h[n]?:=by have q:=Xe (l:=h') hn;rw[z]at q;exact q.symm
   have e2:oat h' n=oat h n:=lR e;rw[x.a.ob,x.b.ob]at e2;have O:=bS (λq:Option (az×List (az×W))=>q.bind λy=>eN "kept" y.2) e2;simp only[Wr,Im,Yk,W.r.injEq]at O;have:=gK x.a.li;lia
def iQ:Fn:=⟨["thing"],["thing"], (.ret (.and (.bi .isInt ai (cV (.v 0))) (.not (.bi .isBool ai (cV (.v 0))))))⟩
def ja:Fn:=⟨["self","program","asked","every","most"],["self","program","asked","every","most"], (.seq (.setf (.v 0) "program" (.v 1)) (.seq (.setf (.v 0) "asked" (.bi .list ai (cV (.v 2)))) (.seq (.setf (.v 0) "gap" (.bi .max2 ai (cU (.v 3) (.j (.int 1))))) (.seq (.setf (.v 0) "most" (.bi .max2 ai (cU (.v 4) (.j (.int 0))))) (.seq (.setf (.v 0) "kept" (.aj ah (cV (.call "begun" .nil)))) (.seq (.setf (.v 0) "farthest" (.j (.int 0))) (.seq (.setf (.v 0) "front" (.call "begun" .nil)) (.setf (.v 0) "now" (.j (.int 0))))))))))⟩
def kM:Fn:=⟨["self","moment"],["self","moment","state","step"], (.seq (.ex (.aE (.v 0) "check" (cV (.v 1)))) (.seq (.set 2 (.y (.i (.v 0) "kept") (.bin .fdiv (.v 1) (.i (.v 0) "gap")))) (.seq (.for [(3,"step")] .rng1 (cV (.bin .mod (.v 1) (.i (.v 0) "gap"))) (.set 2 (.aE (.v 0) "behind" (cV (.v 2))))) (.ret (.v 2)))))⟩
def jL:Fn:=⟨["self"],["self"], (.seq (.ex (.aE (.v 0) "reach" (cV (.i (.v 0) "most")))) (.ret (.i (.v 0) "farthest")))⟩
def g8:Fn:=⟨["self","state"],["self","state"], (.ret (.call "stepped" (cT (.i (.v 0) "program") (.i (.v 0) "asked") (.v 1))))⟩
def fV:Fn:=⟨["self","moment","state"],["self","moment","state"], (.ret (.or (.z .ge (.v 1) (.i (.v 0) "most")) (.call "is_over" (cU (.i (.v 0) "program") (.v 2)))))⟩
def g9:Fn:=⟨["self","state"],["self","state"], (.seq (.ex (.me .append (.i (.v 0) "kept") (cV (.v 1)))) (.v (.z .gt (.bi .len ai (cV (.i (.v 0) "kept"))) (.aD "MOST_MARKS")) (.seq (.setf (.v 0) "kept" (.stp ah 2 (.i (.v 0) "kept"))) (.augf (.v 0) "gap" .mul (.j (.int 2)))) .nil))⟩
def iJ:Fn:=⟨["self","moment"],["self","moment"], (.j (.and (.z .lt (.i (.v 0) "farthest") (.v 1)) (.not (.aE (.v 0) "is_last" (cU (.i (.v 0) "farthest") (.i (.v 0) "front"))))) (.seq (.setf (.v 0) "front" (.aE (.v 0) "behind" (cV (.i (.v 0) "front")))) (.seq (.augf (.v 0) "farthest" .add (.j (.int 1))) (.v (.z .eq (.bin .mod (.i (.v 0) "farthest") (.i (.v 0) "gap")) (.j (.int 0))) (.ex (.aE (.v 0) "keep" (cV (.i (.v 0) "front")))) .nil))))⟩
def gS:Fn:=⟨["self","moment"],["self","moment"], (.seq (.v (.or (.not (.call "is_whole" (cV (.v 1)))) (.or (.z .lt (.v 1) (.j (.int 0))) (.z .gt (.v 1) (.i (.v 0) "most")))) (.ret (.j (.bl ai))) .nil) (.seq (.ex (.aE (.v 0) "reach" (cV (.v 1)))) (.ret (.z .le (.v 1) (.i (.v 0) "farthest")))))⟩
def iK:Fn:=⟨["self","moment"],["self","moment"], (.v (.not (.aE (.v 0) "has" (cV (.v 1)))) .bad .nil)⟩
structure TpP(c:az)(T:FK->Option Fn)(G:az->Option W):Prop where
 prg:Prg T G
 is_whole:T "is_whole"=aa iQ
 behind:T (.m c "behind")=aa g8
 is_last:T (.m c "is_last")=aa fV
 keep:T (.m c "keep")=aa g9
 reach:T (.m c "reach")=aa iJ
 has:T (.m c "has")=aa gS
 check:T (.m c "check")=aa iK
 at_:T (.m c "at")=aa kM
 MOST_MARKS:G "MOST_MARKS"=aa (.p (.int 8))
section
variable{c:az}{T:FK->Option Fn}{G:az->Option W}
def gf(P:TpP c T G)(k:Nat)(i:Int)(h:HH):runN T G (k+1) "is_whole" [.p (.int i)] h=aa (.p (.bl ah),h):=by rw[run_eq P.is_whole rfl];simp[iQ,c5]
def rP(P:TpP c T G)(k:Nat){n r:Nat}{t:Tp}{h:HH}(a:TAt c h n r t)(J:Pg.ok t.p){j:Nat}{st:St}(L:j<=5000)(at_:At j st)(O:over t.p st=ai):runN T G (k+7) (.m c "behind") [.o n,.p st.enc] h=aa (.p (step t.p t.aF st).enc,h):=by rw[run_eq P.behind rfl];have s:=wR P.prg k t.p J t.aF st at_.ok (at_.small L) O;simp[g8,a.ob,s,c5]
def wZ(P:TpP c T G)(k:Nat){n r:Nat}{t:Tp}{h:HH}(a:TAt c h n r t)(mo:Nat)(st:St):runN T G (k+2) (.m c "is_last") [.o n,.p (.int mo),.p st.enc] h=aa (.p (.bl (decide (t.most<=mo)||over t.p st)),h):=by
 rw[run_eq P.is_last rfl];have o:=wO P.prg k t.p st
 by_cases L:t.most<=mo
 ·have J:(t.most:Int)<=(mo:Int):=by lia
  simp[fV,a.ob,L,J,c5]
 ·have J:¬(t.most:Int)<=(mo:Int):=by lia
  simp[fV,a.ob,o,L,J,c5]
def E7:YZ (Wo af af (aa 2) 9).1 (Wo af af (aa 2) 9).2.1 (Wo af af (aa 2) 9).2.2=[0,2,4,6,8]:=by decide +kernel
def MD(V a U Z O Y L W J:D):o9 2 [V,a,U,Z,O,Y,L,W,J]=[V,U,O,L,J]:=by show(YZ (Wo af af (aa 2) 9).1 (Wo af af (aa 2) 9).2.1 (Wo af af (aa 2) 9).2.2).filterMap _=_;rw[E7];rfl
noncomputable def Tp.keep(t:Tp)(st:St):Tp:=if t.aG.length<8 then {t with aG:=t.aG++[st]}else {t with aG:=(V5 5).filterMap λi=>(t.aG++[st])[2*i]?,aJ:=2*t.aJ}
def E8(P:TpP c T G)(k:Nat){n r:Nat}{t:Tp}{h:HH}(a:TAt c h n r t)(M:t.aJ<=100000)(K:t.aG.length<=8)(st:St):
 ∃h' B,runN T G (k+1) (.m c "keep") [.o n,.p st.enc] h=aa (.p .aC,h')/\Go c n h r t h' B (t.keep st):=by
 have D:=nX a.ob a.li;have hn:=iX a.ob;have E:=gK a.li;have e1:lat (h.set r (Cl.l (t.aG.map St.enc++[st.enc]))) r=aa (t.aG.map St.enc++[st.enc]):=wY E _;have e2:oat (h.set r (Cl.l (t.aG.map St.enc++[st.enc]))) n=aa (c,t.fs r):=(rO D _).trans a.ob;have s:t.aG.length<100000:=by lia
 by_cases e:t.aG.length<8
 ·have q:¬(8:Int)<(t.aG.length:Int)+1:=by lia
  have L:Go c n h r t (h.set r (Cl.l (t.aG.map St.enc++[st.enc]))) r (t.keep st):=by refine⟨a,⟨?_,?_⟩,.inl ⟨by simp,rfl⟩,by simp,λi v j u=>V1 (WI j)⟩;rw[Tp.keep,bK e];exact e2;rw[Tp.keep,bK e,e1];simp
  refine⟨_,r,?_,L⟩;rw[run_eq P.keep rfl];have f:=ni L (.p .aC);simp[g9,a.ob,a.li,e1,e2,P.MOST_MARKS,rd,q,s,f]
 ·have H:t.aG.length=8:=by lia
  obtain⟨d,b,Z,Y,W,V,U,O,ek⟩:∃d b Z Y W V U O,t.aG=[d,b,Z,Y,W,V,U,O]:=by
   match t.aG,H with
   |[d,b,Z,Y,W,V,U,O],_=>exact⟨d,b,Z,Y,W,V,U,O,rfl⟩
  have ev:o9 2 (t.aG.map St.enc++[st.enc])=((t.keep st).aG).map St.enc:=by rw[Tp.keep,bL e,ek];exact MD _ _ _ _ _ _ _ _ _
  have q:(8:Int)<(t.aG.length:Int)+1:=by lia
  have F:∀g:HH,oat ((h.set r (Cl.l (t.aG.map St.enc++[st.enc])))++g) n=aa (c,t.fs r):=λg=>(Am (by simpa using hn)).trans e2;have z:(h.set r (Cl.l (t.aG.map St.enc++[st.enc]))).length=h.length:=by simp
  have I:big (t.aJ:Int)=ah:=by unfold big;exact bP (by lia)
  have L:Go c n h r t ((h.set r (Cl.l (t.aG.map St.enc++[st.enc]))++[Cl.l ((t.keep st).aG.map St.enc)]).set n (.o c ((t.keep st).fs h.length))) h.length (t.keep st):=by
   have J:n<(h.set r (Cl.l (t.aG.map St.enc++[st.enc]))++[Cl.l ((t.keep st).aG.map St.enc)]).length:=by simp;lia
   refine⟨a,⟨nY J _,?_⟩,.inr (VR _),by simp,λi v j u=>?_⟩
   ·rw[nh (WI (We hn))];have:=Ul (h.set r (Cl.l (t.aG.map St.enc++[st.enc]))) (Cl.l ((t.keep st).aG.map St.enc)) [];rw[z]at this;exact this
   rw[V1 (WI v),VF (by simpa using u),V1 (WI j)]
  refine⟨_,_,?_,L⟩;rw[run_eq P.keep rfl];have f:=ni L (.p .aC);have k2:(t.keep st).fs h.length=({t with aJ:=2*t.aJ}:Tp).fs h.length:=by rw[Tp.keep,bL e];rfl
  have C:fR "gap" (.p (.int ((t.aJ:Int)*2))) (t.fs h.length)=(t.keep st).fs h.length:=by rw[k2,←Io t h.length (2*t.aJ)];congr 3;show(t.aJ:Int)*2=((2*t.aJ:Nat):Int);lia
  have J:n<(h.set r (Cl.l (t.aG.map St.enc++[st.enc]))++[Cl.l ((t.keep st).aG.map St.enc)]).length:=by simp;lia
  have w:=nY J (.o c (t.fs h.length));rw[KI]at w;have A:∀x y:Cl,((h.set r (Cl.l (t.aG.map St.enc++[st.enc]))++[Cl.l ((t.keep st).aG.map St.enc)]).set n x).set n y=(h.set r (Cl.l (t.aG.map St.enc++[st.enc]))++[Cl.l ((t.keep st).aG.map St.enc)]).set n y:=λx y=>by rw[ZM]
  simp[g9,a.ob,a.li,e1,e2,F,z,P.MOST_MARKS,rd,q,s,ev,E6,w,I,C,A,f]
end
structure TI(s0:St)(t:Tp)(e gv:Nat):Prop where
 run:Run s0 t.p t.aF t.most e
 ok:Pg.ok t.p
 ask:Ask t.aF
 a0:At 1000 s0
 g0:0<t.aJ
 g1:t.aJ<=1000
 m1:t.most<=1000
 far:t.far<=e
 aH:t.aH=itr s0 t.p t.aF t.far
 len:t.aG.length=t.far/t.aJ+1
 l8:t.aG.length<=8
 aG:∀j,j<t.aG.length->t.aG[j]?=aa (itr s0 t.p t.aF (j*t.aJ))
 now:t.now<=t.far
 pw:∃j,t.aJ=gv*2^j/\(0<j->8<=t.far/(t.aJ/2))
structure Sm8(t t':Tp):Prop where
 p:t'.p=t.p
 aF:t'.aF=t.aF
 most:t'.most=t.most
 now:t'.now=t.now
def Sm8.refl(t:Tp):Sm8 t t:=⟨rfl,rfl,rfl,rfl⟩
def Sm8.trans{t u v:Tp}(x:Sm8 t u)(y:Sm8 u v):Sm8 t v:=⟨y.p.trans x.p,y.aF.trans x.aF,y.most.trans x.most,y.now.trans x.now⟩
def Tp.on(t:Tp):Tp:={t with aH:=step t.p t.aF t.aH,far:=t.far+1}
def Tp.nx(t:Tp):Tp:=if(t.far+1)%t.aJ=0 then t.on.keep t.on.aH else t.on
def E9{f g:Nat}(J:0<g)(c:¬(f+1)%g=0):(f+1)/g=f/g:=by
 have U:=aae f g;have O:f%g<g:=Nat.mod_lt _ J;have e:f+1=g*(f/g)+(f%g+1):=by lia
 have L:f%g+1<g:=by
  rcases V9 (f%g+1) g with z|z
  exact z
  ·exfalso;apply c;have:f%g+1=g:=by lia
   rw[e,this,Nat.mul_add_mod,Nat.mod_self]
 rw[e,Nat.mul_add_div J,Nat.div_eq_of_lt L];lia
def Fb{f g:Nat}(J:0<g)(c:(f+1)%g=0):(f+1)/g=f/g+1/\(f/g+1)*g=f+1:=by
 have U:=aae f g;have O:f%g<g:=Nat.mod_lt _ J;have L:f%g+1=g:=by
  rcases V9 (f%g+1) g with z|z
  ·exfalso;have e:f+1=g*(f/g)+(f%g+1):=by lia
   rw[e,Nat.mul_add_mod,Nat.mod_eq_of_lt z]at c;lia
  lia
 have e:f+1=(f/g+1)*g:=by rw[Nat.add_mul,XR (f/g) g];lia
 exact⟨by rw[e,Zw _ J],e.symm⟩
def TI.nx{s0:St}{t:Tp}{e gv:Nat}(I:TI s0 t e gv)(h:t.far<e):TI s0 t.nx e gv/\Sm8 t t.nx/\t.nx.far=t.far+1:=by
 have g0:=I.g0;have Y:step t.p t.aF t.aH=itr s0 t.p t.aF (t.far+1):=by rw[I.aH];rfl
 have mono:∀g:Nat,t.far/g<=(t.far+1)/g:=λg=>aaZ (W0 _);unfold Tp.nx
 by_cases c:(t.far+1)%t.aJ=0
 ·rw[bK c];obtain⟨n,f⟩:=Fb g0 c;have V:t.on.aH=itr s0 t.p t.aF (t.far+1):=Y;have b:∀j,j<t.aG.length+1->(t.aG++[itr s0 t.p t.aF (t.far+1)])[j]?=aa (itr s0 t.p t.aF (j*t.aJ)):=λj J=>by
   rcases V9 j t.aG.length with z|z
   rw[VF z];exact I.aG j z
   ·have l:j=t.aG.length:=by lia
    subst l;rw[V7 (VR _),Nat.sub_self];have:t.aG.length*t.aJ=t.far+1:=by rw[I.len];exact f
    rw[this];rfl
  unfold Tp.keep
  by_cases k:t.aG.length<8
  ·have O:t.on.aG.length<8:=k;rw[bK O];refine⟨⟨I.run,I.ok,I.ask,I.a0,g0,I.g1,I.m1,h,Y,?_,?_,λj J=>?_,?_,?_⟩,⟨rfl,rfl,rfl,rfl⟩,rfl⟩
   ·show(t.aG++[t.on.aH]).length=(t.far+1)/t.aJ+1;rw[n,Wg,I.len];rfl
   ·show(t.aG++[t.on.aH]).length<=8;rw[Wg];simp;lia
   ·have L:j<t.aG.length+1:=by
     have:(t.aG++[t.on.aH]).length=t.aG.length+1:=by simp
     rw[←this];exact J
    show(t.aG++[t.on.aH])[j]?=aa (itr s0 t.p t.aF (j*t.aJ));rw[V];exact b j L
   show t.now<=t.far+1;have:=I.now;lia
   ·obtain⟨j,W,Z⟩:=I.pw;exact⟨j,W,λJ=>Wa (Z J) (mono _)⟩
  ·have O:¬t.on.aG.length<8:=k;rw[bL O];have l8:t.aG.length=8:=by have:=I.l8;lia
   have d:t.far+1=8*t.aJ:=by rw[←f,←I.len,l8]
   have le:=I.run.le;have m1:=I.m1;have U:∀i,i<5->(t.aG++[itr s0 t.p t.aF (t.far+1)])[2*i]?=aa (itr s0 t.p t.aF (i*(2*t.aJ))):=λi o=>by rw[b (2*i) (by lia)];congr 2;rw[XR 2 i,Nat.mul_assoc]
   have a:(V5 5).filterMap (λi=>(t.aG++[t.on.aH])[2*i]?)=(V5 5).map λi=>itr s0 t.p t.aF (i*(2*t.aJ)):=by rw[V,show V5 5=[0,1,2,3,4] from rfl];simp only[Wl,List.filterMap_nil,U 0 (by decide),U 1 (by decide),U 2 (by decide),U 3 (by decide),U 4 (by decide),VX,Wx]
   have m:(t.far+1)/(2*t.aJ)=4:=by rw[d,show 8*t.aJ=4*(2*t.aJ) by lia];exact Zw _ (by lia)
   refine⟨⟨I.run,I.ok,I.ask,I.a0,?_,?_,I.m1,h,Y,?_,?_,λj J=>?_,?_,?_⟩,⟨rfl,rfl,rfl,rfl⟩,rfl⟩;show 0<2*t.aJ;lia;show 2*t.aJ<=1000;lia
   ·show((V5 5).filterMap λi=>(t.aG++[t.on.aH])[2*i]?).length=(t.far+1)/(2*t.aJ)+1;rw[a,m];simp
   ·show((V5 5).filterMap λi=>(t.aG++[t.on.aH])[2*i]?).length<=8;rw[a];simp
   ·have L:j<5:=by have q:j<((V5 5).filterMap λi=>(t.aG++[t.on.aH])[2*i]?).length:=J;rw[a]at q;simpa using q
    show((V5 5).filterMap λi=>(t.aG++[t.on.aH])[2*i]?)[j]?=aa (itr s0 t.p t.aF (j*(2*t.aJ)));rw[a,VY,Yo L];rfl
   show t.now<=t.far+1;have:=I.now;lia
   ·obtain⟨j,W,Z⟩:=I.pw;refine⟨j+1,?_,λ_=>?_⟩
    ·show 2*t.aJ=gv*2^(j+1);rw[W,Nat.pow_succ];rw[XR 2,Nat.mul_assoc]
    ·show 8<=(t.far+1)/(2*t.aJ/2);rw[Nat.mul_div_cancel_left _ (by lia:0<2),d,Zw _ g0];exact VR _
 ·rw[bL c];refine⟨⟨I.run,I.ok,I.ask,I.a0,g0,I.g1,I.m1,h,Y,?_,I.l8,I.aG,?_,?_⟩,⟨rfl,rfl,rfl,rfl⟩,rfl⟩
  ·show t.aG.length=(t.far+1)/t.aJ+1;rw[I.len,E9 g0 c]
  show t.now<=t.far+1;have:=I.now;lia
  ·obtain⟨j,W,Z⟩:=I.pw;exact⟨j,W,λJ=>Wa (Z J) (mono _)⟩
section
variable{c:az}{s0:St}{T:FK->Option Fn}{G:az->Option W}
def rcC:E:=(.and (.z .lt (.i (.v 0) "farthest") (.v 1)) (.not (.aE (.v 0) "is_last" (cU (.i (.v 0) "farthest") (.i (.v 0) "front")))))
def rcB:S:=(.seq (.setf (.v 0) "front" (.aE (.v 0) "behind" (cV (.i (.v 0) "front")))) (.seq (.augf (.v 0) "farthest" .add (.j (.int 1))) (.v (.z .eq (.bin .mod (.i (.v 0) "farthest") (.i (.v 0) "gap")) (.j (.int 0))) (.ex (.aE (.v 0) "keep" (cV (.i (.v 0) "front")))) .nil)))
def tQ(t:Tp)(r:Nat):eN "is_last" (t.fs r)=af:=jK t r rfl
def w6(t:Tp)(r:Nat):eN "behind" (t.fs r)=af:=jK t r rfl
def ME(t:Tp)(r:Nat):eN "keep" (t.fs r)=af:=jK t r rfl
def An(t:Tp)(r:Nat):eN "reach" (t.fs r)=af:=jK t r rfl
def Ao(t:Tp)(r:Nat):eN "has" (t.fs r)=af:=jK t r rfl
def Iq(t:Tp)(r:Nat):eN "check" (t.fs r)=af:=jK t r rfl
def Us(t:Tp)(r:Nat):eN "at" (t.fs r)=af:=jK t r rfl
def Qx(t:Tp)(r:Nat):eN "end" (t.fs r)=af:=jK t r rfl
def Qz{n r:Nat}{t:Tp}{h:HH}(a:TAt c h n r t)(t':Tp)(k:t'.aG=t.aG):Go c n h r t (h.set n (.o c (t'.fs r))) r t':=by have hn:=iX a.ob;have J:=nX a.ob a.li;exact⟨a,⟨nY hn _,by rw[nh (WI J),k];exact a.li⟩,.inl ⟨by simp,rfl⟩,by simp,λi L _ _=>V1 (WI L)⟩
def Ir(P:TpP c T G)(k:Nat){n r:Nat}{t:Tp}{h:HH}{e:Nat}(a:TAt c h n r t)(I:TI s0 t e gv)(q:t.far<e)(w:W):
 ∃h' f,evS (runN T G (k+7)) G rcB [aa (.o n),aa w] h=aa (.nx [aa (.o n),aa w] h')/\Go c n h r t h' f t.nx:=by
 have hn:=iX a.ob;have U:=yE I.ok I.ask I.a0 I.run t.far (by lia);have le:=I.run.le;have m1:=I.m1;have A:=rP P k a I.ok (j:=1000+t.far) (st:=t.aH) (by lia) (by rw[I.aH];exact U) (by rw[I.aH];exact I.run.on _ q);have J:=Qz a t.on rfl;have e1:oat (h.set n (.o c (({t with aH:=step t.p t.aF t.aH}:Tp).fs r))) n=aa (c,({t with aH:=step t.p t.aF t.aH}:Tp).fs r):=nY hn _;have g:=BZ t r (step t.p t.aF t.aH);have l:fR "farthest" (.p (.int ((t.far:Int)+1))) (({t with aH:=step t.p t.aF t.aH}:Tp).fs r)=t.on.fs r:=Ip ({t with aH:=step t.p t.aF t.aH}:Tp) r (t.far+1);have e2:oat (h.set n (.o c (t.on.fs r))) n=aa (c,t.on.fs r):=nY hn _;have g0:(0:Int)<(t.aJ:Int):=by have:=I.g0;lia
 have Z:∀x y:Cl,(h.set n x).set n y=h.set n y:=λx y=>by rw[ZM]
 have of:t.on.far=t.far+1:=rfl;have V:t.on.aJ=t.aJ:=rfl;have L:evS (runN T G (k+7)) G rcB [aa (.o n),aa w] h=evS (runN T G (k+7)) G (.v (.z .eq (.bin .mod (.i (.v 0) "farthest") (.i (.v 0) "gap")) (.j (.int 0))) (.ex (.aE (.v 0) "keep" (.cons (.i (.v 0) "front") .nil))) .nil) [aa (.o n),aa w] (h.set n (.o c (t.on.fs r))):=by rw[rcB];simp[a.ob,A,w6,g,e1,l,Z]
 rw[L];unfold Tp.nx;have B:(((t.far+1)%t.aJ:Nat):Int)=((t.far:Int)+1)%(t.aJ:Int):=by simp
 by_cases Y:(t.far+1)%t.aJ=0
 ·rw[bK Y];have O:((t.far:Int)+1)%(t.aJ:Int)=0:=by lia
  obtain⟨s,d,m,k2⟩:=E8 P (k+6) J.b (by show t.aJ<=100000;have:=I.g1;lia) (by show t.aG.length<=8;exact I.l8) t.on.aH;refine⟨s,d,?_,J.trans k2⟩;simp[e2,of,V,g0,I.g0,O,ME,m]
 ·rw[bL Y];have O:¬((t.far:Int)+1)%(t.aJ:Int)=0:=by lia
  refine⟨_,r,?_,J⟩;have u:(((t.far:Int)+1)%(t.aJ:Int)==0)=ai:=by simpa using O
  simp[e2,of,V,g0,I.g0,u]
def uX(P:TpP c T G)(k:Nat){n r:Nat}{t:Tp}{h:HH}{e:Nat}(a:TAt c h n r t)(I:TI s0 t e gv)(m:Nat):
 aK (runN T G (k+7)) G rcC [aa (.o n),aa (.p (.int m))] h=aa (.p (.bl (decide (t.far<min m e))),h):=by
 have J:=wZ P (k+5) a t.far t.aH;have le:=I.run.le
 by_cases O:t.far<m
 ·have L:(t.far:Int)<(m:Int):=by lia
  by_cases V:t.far<e
  ·have o:over t.p t.aH=ai:=by rw[I.aH];exact I.run.on _ V
   have q:(decide (t.most<=t.far)||over t.p t.aH)=ai:=by rw[o,Yi];exact bO (by lia)
   rw[q]at J;have d:decide (t.far<min m e)=ah:=bP (by lia);rw[d];simp[rcC,a.ob,L,O,tQ,J]
  ·have U:t.far=e:=by have:=I.far;lia
   have q:(decide (t.most<=t.far)||over t.p t.aH)=ah:=by
    rcases I.run.last with z|z
    rw[bP (by lia)];rfl;rw[I.aH,U,z,Bool.or_true]
   rw[q]at J;have d:decide (t.far<min m e)=ai:=bO (by lia);rw[d];simp[rcC,a.ob,L,O,tQ,J]
 ·have L:¬(t.far:Int)<(m:Int):=by lia
  have d:decide (t.far<min m e)=ai:=bO (by lia);rw[d];simp[rcC,a.ob,L,O]
def Iu(P:TpP c T G)(k:Nat)(n:Nat)(e gv m:Nat):∀(d f:Nat)(h:HH)(r:Nat)(t:Tp),TAt c h n r t->TI s0 t e gv->min m e-t.far<=d->d<=f →
 ∃h' Z t',eU (aK (runN T G (k+7)) G rcC) (evS (runN T G (k+7)) G rcB) (f+1) [aa (.o n),aa (.p (.int m))] h=aa (.nx [aa (.o n),aa (.p (.int m))] h')/\Go c n h r t h' Z t'/\TI s0 t' e gv/\Sm8 t t'/\t'.far=max t.far (min m e):=by
 intro d
 induction d with
 |zero =>
  intro f h r t a I j i;have q:=uX P k a I m;rw[bO (by lia)]at q;refine⟨h,r,t,?_,.refl a,I,.refl t,by lia⟩;rw[eU,q,gF,lA]
 |succ d g =>
  intro f h r t a I j i
  by_cases L:t.far<min m e
  ·have q:=uX P k a I m;rw[bP L]at q;obtain⟨s,Y,w,J⟩:=Ir P k a I (by lia) (.p (.int m));obtain⟨y,V,A⟩:=I.nx (by lia);cases f with
   |zero=>lia
   |succ f =>
    obtain⟨l,W,O,v,u,x,U,z⟩:=g f s Y t.nx J.b y (by lia) (by lia);refine⟨l,W,O,?_,J.trans u,x,V.trans U,by lia⟩;rw[eU,q,gF,kq,w,fU,v]
  ·have q:=uX P k a I m;rw[bO L]at q;refine⟨h,r,t,?_,.refl a,I,.refl t,by lia⟩;rw[eU,q,gF,lA]
theorem xg:iJ=⟨["self","moment"],["self","moment"],.j rcC rcB⟩:=rfl
inductive B3{α:Type}(c:az)(s0:St)(x:Option (α×HH))(y:α)(n:Nat)(h:HH)(r:Nat)(t:Tp)(e gv f:Nat):Prop
 |mk(h':HH)(J:Nat)(t':Tp)(q:x=aa (y,h'))(g:Go c n h r t h' J t')(i:TI s0 t' e gv)(m:Sm8 t t')(a:t'.far=f):B3 c s0 x y n h r t e gv f
def tR(P:TpP c T G)(k:Nat){n r:Nat}{t:Tp}{h:HH}{e:Nat}(a:TAt c h n r t)(I:TI s0 t e gv)(m:Nat):
 B3 c s0 (runN T G (k+8) (.m c "reach") [.o n,.p (.int m)] h) (.p .aC) n h r t e gv (max t.far (min m e)):=by
 have le:=I.run.le;have m1:=I.m1;obtain⟨O,L,J,b,g,U,s,f⟩:=Iu P k n e gv m 99999 99999 h r t a I (by lia) (VR _);refine⟨O,L,J,?_,g,U,s,f⟩;rw[run_eq P.reach rfl,xg];have fn:=ni g (.p .aC);simp[turns,b,fn]
def uY(P:TpP c T G)(k:Nat){n r:Nat}{t:Tp}{h:HH}{e:Nat}(a:TAt c h n r t)(I:TI s0 t e gv)(m:Nat)(Z:m<=t.most):
 B3 c s0 (runN T G (k+9) (.m c "has") [.o n,.p (.int m)] h) (.p (.bl (decide (m<=e)))) n h r t e gv (max t.far (min m e)):=by
 obtain⟨U,O,J,b,g,Y,s,f⟩:=tR P k a I m;refine⟨U,O,J,?_,g,Y,s,f⟩;rw[run_eq P.has rfl];have w:=gf P (k+7) m;have W:¬((m:Int)<0):=by lia
 have V:¬((t.most:Int)<(m:Int)):=by lia
 have fn:=λw=>ni g w;have far:=I.far;have d:decide ((m:Int)<=(J.far:Int))=decide (m<=e):=by
  by_cases L:m<=e
  rw[bP L];exact bP (by lia);rw[bO L];exact bO (by lia)
 simp[gS,w,W,a.ob,V,An,b,g.b.ob,fn];simpa using d
def B4(P:TpP c T G)(k:Nat){n r:Nat}{t:Tp}{h:HH}{e:Nat}(a:TAt c h n r t)(I:TI s0 t e gv)(m:Nat)(J:m<=e):
 B3 c s0 (runN T G (k+10) (.m c "check") [.o n,.p (.int m)] h) (.p .aC) n h r t e gv (max t.far m):=by
 obtain⟨U,O,L,b,g,V,s,f⟩:=uY P k a I m (Wa J I.run.le);rw[bP J]at b;refine⟨U,O,L,?_,g,V,s,by lia⟩;rw[run_eq P.check rfl];have fn:=ni g (.p .aC);simp[iK,a.ob,Ao,b,fn]
def atB:S:=(.set 2 (.aE (.v 0) "behind" (cV (.v 2))))
theorem Aq(P:TpP c T G)(k:Nat){n r:Nat}{t:Tp}{h:HH}{e gv:Nat}(a:TAt c h n r t)(I:TI s0 t e gv)(J:W):∀(q j:Nat)(x:Option W)(lo:Int),j+q<=e →
 ∃L,gj (evS (runN T G (k+7)) G atB) [(3,"step")] (upto lo q) [aa (.o n),aa J,aa (.p (itr s0 t.p t.aF j).enc),x] h=aa (.nx [aa (.o n),aa J,aa (.p (itr s0 t.p t.aF (j+q)).enc),L] h)
 |0,j,x,lo,_=>⟨x,rfl⟩
 |q+1,j,x,lo,hj=>by
  have le:=I.run.le;have m1:=I.m1;obtain⟨L,b⟩:=Aq P k a I J q (j+1) (aa (.p (.int lo))) (lo+1) (by lia);refine⟨L,?_⟩;have O:=rP P k a I.ok (j:=1000+j) (st:=itr s0 t.p t.aF j) (by lia) (yE I.ok I.ask I.a0 I.run j (by lia)) (I.run.on j (by lia));have U:upto lo (q+1)=.int lo::upto (lo+1) q:=by unfold upto;rw[XZ,VX,ZN];simp only[Int.natCast_zero,Int.add_zero,X9,true_and];apply Ym;intro i _;simp;lia
  rw[U];have V:step t.p t.aF (itr s0 t.p t.aF j)=itr s0 t.p t.aF (j+1):=rfl;rw[V]at O;have Z:j+1+q=j+(q+1):=by lia
  rw[Z]at b;have Y:evS (runN T G (k+7)) G atB [aa (.o n),aa J,aa (.p (itr s0 t.p t.aF j).enc),aa (.p (.int lo))] h=aa (.nx [aa (.o n),aa J,aa (.p (itr s0 t.p t.aF (j+1)).enc),aa (.p (.int lo))] h):=by simp[atB,a.ob,w6,O]
  simp[Y,b]
theorem Fc:kM=⟨["self","moment"],["self","moment","state","step"],(.seq (.ex (.aE (.v 0) "check" (.cons (.v 1) .nil)))
 (.seq (.set 2 (.y (.i (.v 0) "kept") (.bin .fdiv (.v 1) (.i (.v 0) "gap"))))
 (.seq (.for [(3,"step")] .rng1 (.cons (.bin .mod (.v 1) (.i (.v 0) "gap")) .nil) atB)
 (.ret (.v 2)))))⟩:=rfl
def MF(P:TpP c T G)(k:Nat){n r:Nat}{t:Tp}{h:HH}{e:Nat}(a:TAt c h n r t)(I:TI s0 t e gv)(m:Nat)(Z:m<=e):
 B3 c s0 (runN T G (k+11) (.m c "at") [.o n,.p (.int m)] h) (.p (itr s0 t.p t.aF m).enc) n h r t e gv (max t.far m):=by
 obtain⟨d,W,J,b,g,L,s,f⟩:=B4 P k a I m Z;refine⟨d,W,J,?_,g,L,s,f⟩;rw[run_eq P.at_ rfl,Fc];have fn:=λw=>ni g w;have g0:=L.g0;have g1:=L.g1;have dm:=aae m J.aJ;have v:=Nat.mod_lt m g0;have Y:m/J.aJ<J.aG.length:=by rw[L.len];have:m/J.aJ<=J.far/J.aJ:=aaZ (by lia);lia
 have U:=L.aG _ Y;have le:=L.run.le;have m1:=L.m1;rw[s.p,s.aF]at U;have i:(0:Int)<(J.aJ:Int):=by lia
 have j:(J.aJ:Int)<1073741824:=by lia
 have e1:(m:Int)/(J.aJ:Int)=((m/J.aJ:Nat):Int):=by simp
 have e2:(m:Int)%(J.aJ:Int)=((m%J.aJ:Nat):Int):=by simp
 have ix:dI (.aj (J.aG.map St.enc)) (.int ((m/J.aJ:Nat):Int))=aa (itr s0 t.p t.aF (m/J.aJ*J.aJ)).enc:=by show atP _ _=_;rw[fY,VY,U];rfl
 obtain⟨u,O⟩:=Aq P (k+3) g.b L (.p (.int m)) (m%J.aJ) (m/J.aJ*J.aJ) af 0 (by rw[XR];lia);rw[s.p,s.aF]at O;have l:m/J.aJ*J.aJ+m%J.aJ=m:=by rw[XR];exact dm
 rw[l]at O;have V:gc .rng1 [.int ((m%J.aJ:Nat):Int)]=aa (upto 0 (m%J.aJ)):=by
  rw[jW];have q:((-100000<=(((m%J.aJ:Nat):Int)):Bool)&&(((m%J.aJ:Nat):Int)<=100000:Bool))=ah:=by simp only[VH,bN];lia
  rw[bK q];rfl
 simp[-d8,-jW,-Int.natCast_ediv,-Int.natCast_emod,a.ob,Iq,b,g.b.ob,g.b.li,rd,i,g0,j,e1,e2,ix,V,gU,O,fn]
structure TpM(c:az)(T:FK->Option Fn):Prop where
 end_:T (.m c "end")=aa jL
def Iw(P:TpP c T G)(M:TpM c T)(k:Nat){n r:Nat}{t:Tp}{h:HH}{e:Nat}(a:TAt c h n r t)(I:TI s0 t e gv):
 B3 c s0 (runN T G (k+9) (.m c "end") [.o n] h) (.p (.int e)) n h r t e gv e:=by
 obtain⟨U,O,J,b,g,V,s,f⟩:=tR P k a I t.most;have le:=I.run.le;have W:=I.far;have L:J.far=e:=by lia
 refine⟨U,O,J,?_,g,V,s,L⟩;rw[run_eq M.end_ rfl];have fn:=λw=>ni g w;simp[jL,a.ob,An,b,g.b.ob,L,fn]
def lS{h h':HH}(i:Nat)(hi:i<h.length)(J:h'[i]?≠h[i]?)(w:W):fin h w h'=aa (w,h'):=by
 unfold fin
 by_cases c:h'.length=h.length
 rw[bK c]
 ·rw[bL c,bL];intro z;apply J;have q:=Xe (l:=h') hi;rw[z]at q;exact q.symm
end
def ju:Fn:=⟨["thing"],["thing"], (.ret (.and (.call "is_whole" (cV (.v 0))) (.chain .le .lt (.j (.int 0)) (.v 0) (.aD "CELL_COUNT"))))⟩
def f7:Fn:=⟨["thing"],["thing"], (.v (.and (.not (.call "is_name" (cV (.v 0)))) (.not (.call "is_cell" (cV (.v 0))))) .bad .nil)⟩
structure ThP(T:FK->Option Fn):Prop where
 is_cell:T "is_cell"=aa ju
 check:T "check_thing"=aa f7
inductive Th
 |nm(x:Nm)|cl(i:Nat)(h:i<4)
def Th.enc:Th->D
 |.nm x=>.str x.w|.cl i _=>.int i
def Th.val(st:St):Th->Int
 |.nm x=>st.names.getD x.ix 0|.cl i _=>st.cells.getD i 0
def gy:Fn:=⟨["state","thing","worth"],["state","thing","worth"], (.seq (.v (.call "is_name" (cV (.v 1))) (.ret (.bin .add (.bin .add (.n (.v 0) .nil (cV (.aD "NAMES"))) (.aB (cV (.call "with_name" (cT (.v 0) (.v 1) (.v 2)))))) (.n (.v 0) (cV (.bin .add (.aD "NAMES") (.j (.int 1)))) .nil))) .nil) (.ret (.bin .add (.bin .add (.n (.v 0) .nil (cV (.aD "CELLS"))) (.aB (cV (.call "with_worth" (cT (.y (.v 0) (.aD "CELLS")) (.v 1) (.v 2)))))) (.n (.v 0) (cV (.bin .add (.aD "CELLS") (.j (.int 1)))) .nil))))⟩
structure LdP(T:FK->Option Fn)(G:az->Option W):Prop where
 with_thing:T "with_thing"=aa gy
def Th.put(st:St)(v:Int):Th->St
 |.nm x=>{st with names:=st.names.set x.ix v}|.cl i _=>{st with cells:=st.cells.set i v}
structure Szd(st:St):Prop where
 n:st.names.length=6
 c:st.cells.length=4
def Szd.put{st:St}(z:Szd st)(v:Int)(th:Th):Szd (th.put st v):=by
 cases th with
 |nm x=>exact⟨by show(st.names.set _ _).length=6;rw[Ws];exact z.n,z.c⟩|cl i h=>exact⟨z.n,by show(st.cells.set _ _).length=4;rw[Ws];exact z.c⟩
def Th.MG{st:St}(J:st.ok){v:Int}(O:Wth v)(th:Th):(th.put st v).ok:=by
 have z:=Szd.put ⟨J.nlen,J.clen⟩ v th;cases th with
 |nm x=>exact⟨z.n,z.c,λy L=>(Xy L).elim (J.nw y) λe=>e ▸ O,J.cw⟩|cl i h=>exact⟨z.n,z.c,J.nw,λy L=>(Xy L).elim (J.cw y) λe=>e ▸ O⟩
def qk{F:FK->List W->HH->Option (W×HH)}{G:az->Option W}{L:Sr}{O:Es}{tg:List az}{U:List (Nat×az)}{cond:Es}{J:E}{s:Sl}{h h1 h2:HH}{ws:List W}{ds xs:List D}{fs:Sl}(e1:evs F G O s h=aa (ws,h1))(e2:(rds ws h1).bind (gc L)=aa ds)(a:frees s U=aa fs)(Z:gU ws=ah)(Y:eW (fO (evs F G cond) (aK F G J) fs) tg.length ds h1=aa (xs,h2))(V:xs.length<=100000):aK F G (.comp ai L O tg U cond J) s h=aa (.p (.aj xs),h2):=by show bnd (evs F G O s h) (nE ai L tg.length (frees s U) (evs F G cond) (aK F G J))=_;rw[e1,dZ];unfold nE;rw[e2,a];show(if gU ws=ah then _ else _)=_;rw[bK Z,Y,dZ];unfold iN;rw[bK (show xs.length<=lim from V)];rfl
def yF{J:Type}(f:List D->HH->Option (Option D×HH))(mk:J->D)(g:J->Option D)(h:HH):∀(l:List J),(∀x∈l,f [mk x] h=aa (g x,h))->eW f 1 (l.map mk) h=aa (l.filterMap g,h):=by
 intro l
 induction l with
 |nil=>intro _;rfl
 |cons x r O =>
  intro L;rw[VX,eW,nC];show bnd (f [mk x] h) (Bc (eW f 1 (r.map mk)))=_;rw[L x V6,dZ,zo,O λy U=>L y (VZ _ U),dZ,vV,Wl];cases g x<;>rfl
def MH{L:Type}(f:List D->HH->Option (Option D×HH))(mk:L->D)(g:L->Option D)(J:HH->Prop):∀(l:List L),(∀x∈l,∀h,J h->∃h',f [mk x] h=aa (g x,h')/\J h')->∀h,J h->∃h',eW f 1 (l.map mk) h=aa (l.filterMap g,h')/\J h':=by
 intro l
 induction l with
 |nil=>intro _ h O;exact⟨h,rfl,O⟩
 |cons x r V =>
  intro U h O;obtain⟨b,e1,Y⟩:=U x V6 h O;obtain⟨a,e2,W⟩:=V (λy Z=>U y (VZ _ Z)) b Y;refine⟨a,?_,W⟩;rw[VX,eW,nC];show bnd (f [mk x] h) (Bc (eW f 1 (r.map mk)))=_;rw[e1,dZ,zo,e2,dZ,vV,Wl];cases g x<;>rfl
def ig:Fn:=⟨["_law_script","_law_at"],["_law_script","_law_at"], (.ret (.y (.aj ai (cO (.j (.str "a")) (.j (.str "b")) (.j (.str "c")) (.j (.str "f")) (.j (.int 0)) (.j (.int 1)) (.j (.int 2)) (.j (.int 3)))) (.call "_law_drawn" (cT (.v 0) (.v 1) (.j (.int 8))))))⟩
def tS:Fn:=⟨["_law_state","_law_thing_here"],["_law_state","_law_thing_here"], (.seq (.v (.bi .isStr ai (cV (.v 1))) (.ret (.y (.y (.v 0) (.j (.int 1))) (.me .sindex (.j (.str "abcdef")) (cV (.v 1))))) .nil) (.ret (.y (.y (.v 0) (.j (.int 2))) (.v 1))))⟩
section
variable{c:az}{T:FK->Option Fn}{G:az->Option W}
def mO(P:Prg T G)(k:Nat)(i:Int)(h:HH):runN T G (k+1) "is_name" [.p (.int i)] h=aa (.p (.bl ai),h):=by rw[run_eq P.is_name rfl];simp[iG,P.LETTERS,c5]
def xj(P:TpP c T G)(C:ThP T)(k:Nat){i:Nat}(hi:i<4)(h:HH):runN T G (k+2) "is_cell" [.p (.int i)] h=aa (.p (.bl ah),h):=by
 rw[run_eq C.is_cell rfl];have w:=gf P k i h;have J:(i:Int)<4:=by lia
 have L:(0:Int)<=(i:Int):=by lia
 simp[ju,w,P.prg.CELL_COUNT,J,L,c5]
def pQ(P:TpP c T G)(C:ThP T)(k:Nat)(th:Th)(h:HH):runN T G (k+3) "check_thing" [.p th.enc] h=aa (.p .aC,h):=by
 rw[run_eq C.check rfl];cases th with
 |nm x =>
  have n:=lK P.prg (k+1) x h;simp[f7,Th.enc,n,c5]
 |cl i J =>
  have n:=mO P.prg (k+1) i h;have L:=xj P C k J h;simp[f7,Th.enc,n,L,c5]
def rQ(P:TpP c T G)(L:LdP T G)(k:Nat){st:St}(J:st.ok)(th:Th)(v:Int)(h:HH):runN T G (k+3) "with_thing" [.p st.enc,.p th.enc,.p (.int v)] h=aa (.p (th.put st v).enc,h):=by
 rw[run_eq L.with_thing rfl];cases th with
 |nm x =>
  have w:=jT P.prg k st J x v h;have i:=lK P.prg (k+1) x h;rw[St.enc]at w;simp[gy,Th.enc,i,P.prg.NAMES,w,c5,St.enc,Th.put]
 |cl j O =>
  have w:=jt P.prg (k+1) (cX st.cells) j (by rw[fK,J.clen];exact O) (by rw[fK,J.clen];lia) (.int v) h;have i:=mO P.prg (k+1) (j:Int) h;simp[gy,Th.enc,i,P.prg.NAMES,P.prg.CELLS,w,c5,St.enc,Th.put];exact(Y5).symm
def Fd{st:St}(L:st.ok)(x:Nm):dI (.aB (cX st.names)) (.int x.ix)=aa (.int (st.names.getD x.ix 0)):=by
 have J:x.ix<st.names.length:=by rw[L.nlen];exact x.Ab
 rw[eV,fY];simp[cX,J]
def mF(L:Lw T)(J:List Int)(U:J.length<=1000)(q many:Int)(O:0<many):∃z:Nat,(z:Int)<many/\∀k h,runN T G (k+2) "_law_drawn" [.p (.aj (cX J)),.p (.int q),.p (.int many)] h=aa (.p (.int (z:Int)),h):=by
 have W:=gH J q O;have V:=gJ J q O;refine⟨(drw J q many).toNat,by omega,λk h=>?_⟩;have:=gR (G:=G) L k J U q many O h;rw[this];congr 4
 omega
def B5(L:Lw T)(V:T "_law_thing"=aa ig)(J:List Int)(U:J.length<=1000)(p:Int):∃th:Th,∀k h,runN T G (k+3) "_law_thing" [.p (.aj (cX J)),.p (.int p)] h=aa (.p th.enc,h):=by
 obtain⟨z,Y,W⟩:=mF (G:=G) L J U p 8 (by decide);have O:∃th:Th,dI (.aj [.str "a",.str "b",.str "c",.str "f",.int 0,.int 1,.int 2,.int 3]) (.int (z:Int))=aa th.enc:=by
  have:z=0\/z=1\/z=2\/z=3\/z=4\/z=5\/z=6\/z=7:=by omega
  rcases this with rfl|rfl|rfl|rfl|rfl|rfl|rfl|rfl
  exact⟨.nm .a,rfl⟩;exact⟨.nm .b,rfl⟩;exact⟨.nm .c,rfl⟩;exact⟨.nm .f,rfl⟩;exact⟨.cl 0 (by decide),rfl⟩;exact⟨.cl 1 (by decide),rfl⟩;exact⟨.cl 2 (by decide),rfl⟩;exact⟨.cl 3 (by decide),rfl⟩
 obtain⟨th,e⟩:=O;refine⟨th,λk h=>?_⟩;rw[run_eq V rfl];have d:=W k h;simp[-d8,ig,d,e,c5]
end
def kN:Fn:=⟨["_law_asked_sum","_law_state"],["_law_asked_sum","_law_state","_law_word","_law_one","_law_other"], (.seq (.set 2 (.y (.v 0) (.j (.int 0)))) (.seq (.v (.z .eq (.v 2) (.j (.str "num"))) (.ret (.y (.v 0) (.j (.int 1)))) .nil) (.seq (.v (.z .eq (.v 2) (.j (.str "name"))) (.ret (.y (.y (.v 1) (.j (.int 1))) (.me .sindex (.j (.str "abcdef")) (cV (.y (.v 0) (.j (.int 1))))))) .nil) (.seq (.set 3 (.call "_law_worth" (cU (.y (.v 0) (.j (.int 1))) (.v 1)))) (.seq (.v (.z .eq (.v 2) (.j (.str "cell"))) (.ret (.y (.y (.v 1) (.j (.int 2))) (.bin .mod (.v 3) (.j (.int 4))))) .nil) (.seq (.set 4 (.call "_law_worth" (cU (.y (.v 0) (.j (.int 2))) (.v 1)))) (.seq (.v (.z .eq (.v 2) (.j (.str "add"))) (.ret (.bin .mod (.bin .add (.v 3) (.v 4)) (.j (.int 10007)))) .nil) (.seq (.v (.z .eq (.v 2) (.j (.str "sub"))) (.ret (.bin .mod (.bin .sub (.v 3) (.v 4)) (.j (.int 10007)))) .nil) (.ret (.ite (.z .eq (.v 2) (.j (.str "mul"))) (.bin .mod (.bin .mul (.v 3) (.v 4)) (.j (.int 10007))) (.bi .int ai (cV (.z .lt (.v 3) (.v 4))))))))))))))⟩
def jv:Fn:=⟨["_law_program_here","_law_state"],["_law_program_here","_law_state","_law_row_here"], (.seq (.set 2 (.y (.bin .add (.v 0) (.aB (cV (.aB (cV (.j (.str "stop"))))))) (.y (.v 1) (.j (.int 0))))) (.ret (.or (.z .eq (.v 2) (.aB (cV (.j (.str "stop"))))) (.or (.and (.z .eq (.v 2) (.aB (cV (.j (.str "back"))))) (.z .eq (.y (.v 1) (.j (.int 3))) (.aB .nil))) (.and (.z .eq (.y (.v 2) (.j (.int 0))) (.j (.str "call"))) (.z .gt (.bi .len ai (cV (.y (.v 1) (.j (.int 3))))) (.j (.int 5))))))))⟩
def kO:Fn:=⟨["_law_program_here","_law_asked_here","_law_state"],["_law_program_here","_law_asked_here","_law_state","_law_row_here"], (.seq (.set 3 (.y (.v 0) (.y (.v 2) (.j (.int 0))))) (.seq (.v (.z .eq (.y (.v 3) (.j (.int 0))) (.j (.str "set"))) (.ret (.aB (cU (.y (.v 3) (.j (.int 1))) (.call "_law_worth" (cU (.y (.v 3) (.j (.int 2))) (.v 2)))))) .nil) (.seq (.v (.z .eq (.y (.v 3) (.j (.int 0))) (.j (.str "put"))) (.ret (.aB (cU (.bin .mod (.call "_law_worth" (cU (.y (.v 3) (.j (.int 1))) (.v 2))) (.j (.int 4))) (.call "_law_worth" (cU (.y (.v 3) (.j (.int 2))) (.v 2)))))) .nil) (.seq (.v (.z .eq (.y (.v 3) (.j (.int 0))) (.j (.str "ask"))) (.ret (.aB (cU (.y (.v 3) (.j (.int 1))) (.y (.bin .add (.v 1) (.bin .mul (.aj ai (cV (.j (.int 0)))) (.bin .add (.y (.v 2) (.j (.int 4))) (.j (.int 1))))) (.y (.v 2) (.j (.int 4))))))) .nil) (.ret (.j .aC))))))⟩
def jM(x:az):Fn:=⟨["_law_state",x,"_law_worth_here"],["_law_state",x,"_law_worth_here","_law_names","_law_cells"],
 (.seq (.set 3 (.bi .list ah (.cons (.y (.v 0) (.j (.int 1))) .nil)))
 (.seq (.set 4 (.bi .list ah (.cons (.y (.v 0) (.j (.int 2))) .nil)))
 (.seq (.v (.bi .isStr ai (.cons (.v 1) .nil)) (.put 3 (.me .sindex (.j (.str "abcdef")) (.cons (.v 1) .nil)) (.v 2)) (.put 4 (.v 1) (.v 2)))
 (.ret (.bin .add (.aB (.cons (.y (.v 0) (.j (.int 0))) (.cons (.bi .tuple ai (.cons (.v 3) .nil)) (.cons (.bi .tuple ai (.cons (.v 4) .nil)) .nil)))) (.n (.v 0) (.cons (.j (.int 3)) .nil) .nil))))))⟩
def pF:Fn:=jM "_law_thing_here"
def slJ:S:=(.v (.or (.z .eq (.y (.v 3) (.j (.int 0))) (.j (.str "jump"))) (.and (.z .eq (.y (.v 3) (.j (.int 0))) (.j (.str "unless"))) (.z .eq (.call "_law_worth" (cU (.y (.v 3) (.j (.int 1))) (.v 2))) (.j (.int 0))))) (.set 4 (.y (.v 3) (.neg (.j (.int 1))))) .nil)
def slC:S:=(.v (.z .eq (.y (.v 3) (.j (.int 0))) (.j (.str "call"))) (.seq (.set 5 (.bin .add (.v 5) (.aB (cV (.v 4))))) (.set 4 (.y (.v 3) (.j (.int 1))))) .nil)
def slK:S:=(.v (.z .eq (.y (.v 3) (.j (.int 0))) (.j (.str "back"))) (.seq (.set 4 (.y (.v 5) (.neg (.j (.int 1))))) (.set 5 (.n (.v 5) .nil (cV (.neg (.j (.int 1))))))) .nil)
def slW:S:=(.v (.z .notN (.v 6) (.j .aC)) (.set 2 (.call "_law_put" (cT (.v 2) (.y (.v 6) (.j (.int 0))) (.y (.v 6) (.j (.int 1)))))) .nil)
def slY:S:=(.v (.z .eq (.y (.v 3) (.j (.int 0))) (.j (.str "say"))) (.set 7 (.bin .add (.v 7) (.aB (cV (.call "_law_worth" (cU (.y (.v 3) (.j (.int 1))) (.v 2))))))) .nil)
def slR:S:=(.ret (.aB (cQ (.v 4) (.y (.v 2) (.j (.int 1))) (.y (.v 2) (.j (.int 2))) (.v 5) (.bin .add (.y (.v 2) (.j (.int 4))) (.bi .int ai (cV (.z .eq (.y (.v 3) (.j (.int 0))) (.j (.str "ask")))))) (.v 7))))
def lT:Fn:=⟨["_law_program_here","_law_asked_here","_law_state"],["_law_program_here","_law_asked_here","_law_state","_law_row_here","_law_goal","_law_open_ones","_law_told_here","_law_said"], (.seq (.set 3 (.y (.v 0) (.y (.v 2) (.j (.int 0))))) (.seq (.set 4 (.bin .add (.y (.v 2) (.j (.int 0))) (.j (.int 1)))) (.seq (.set 5 (.y (.v 2) (.j (.int 3)))) (.seq slJ (.seq slC (.seq slK (.seq (.set 6 (.call "_law_write" (cT (.v 0) (.v 1) (.v 2)))) (.seq slW (.seq (.set 7 (.y (.v 2) (.j (.int 5)))) (.seq slY slR))))))))))⟩
def k2C:E:=(.and (.z .le (.bi .len ai (cV (.v 3))) (.v 2)) (.not (.call "_law_is_over" (cU (.v 0) (.y (.v 3) (.neg (.j (.int 1))))))))
def k2B:S:=(.ex (.me .append (.v 3) (cV (.call "_law_step" (cT (.v 0) (.v 1) (.y (.v 3) (.neg (.j (.int 1)))))))))
def iL:Fn:=⟨["_law_program_here","_law_asked_here","_law_many"],["_law_program_here","_law_asked_here","_law_many","_law_found"], (.seq (.set 3 (.aj ah (cV (.aB (cQ (.j (.int 0)) (.aB (cQ (.j (.int 0)) (.j (.int 0)) (.j (.int 0)) (.j (.int 0)) (.j (.int 0)) (.j (.int 0)))) (.aB (cS (.j (.int 0)) (.j (.int 0)) (.j (.int 0)) (.j (.int 0)))) (.aB .nil) (.j (.int 0)) (.aB .nil)))))) (.seq (.j k2C k2B) (.ret (.v 3))))⟩
structure LwS(T:FK->Option Fn):Prop where
 worth:T "_law_worth"=aa kN
 isover:T "_law_is_over"=aa jv
 write:T "_law_write"=aa kO
 put:∃x,T "_law_put"=aa (jM x)
 step:T "_law_step"=aa lT
 states:T "_law_states"=aa iL
section
variable{T:FK->Option Fn}{G:az->Option W}
def Fe{st:St}(L:st.ok)(v:Int):dI (.aB (cX st.cells)) (.int (v%4))=aa (.int (st.cells.getD (v%4).toNat 0)):=by
 have J:(v%4).toNat<st.cells.length:=by rw[L.clen];lia
 have e:dI (.aB (cX st.cells)) (.int (((v%4).toNat:Nat):Int))=aa (.int (st.cells.getD (v%4).toNat 0)):=by rw[eV,fY];simp[cX,J]
 have e2:(((v%4).toNat:Nat):Int)=v%4:=by lia
 rw[e2]at e;exact e
def mP(L:LwS T)(st:St)(V:st.ok):∀(s:Sm),s.ok->∀(m:Nat)(h:HH),runN T G (m+s.size) "_law_worth" [.p s.enc,.p st.enc] h=aa (.p (.int (s.val st)),h):=by
 intro s
 induction s with
 |num n =>
  intro _ m h;exact m7 L.worth rfl ((dG (w:=.p (.str "num")) rfl).trans (lN rfl rfl))
 |nam i =>
  intro _ m h;have e:=mL i;have x:=Fd V i;refine m7 L.worth rfl ((dG (w:=.p (.str "name")) rfl).trans ((fF rfl).trans (lN rfl ?_)));simp[-eV,-W6,Sm.enc,e,x,Sm.val,ix0,ix1]
 |cell s Z =>
  intro J m h;rw[Sm.size,←Nat.add_assoc];have r:=Z J m h;have x:=Fe V (s.val st);refine m7 L.worth rfl ((dG (w:=.p (.str "cell")) rfl).trans ((fF rfl).trans ((fF rfl).trans ((dG (w:=.p (.int (s.val st))) (g:=h) ?_).trans (lN rfl ?_)))));exact r
  ·show(dI (.aB (cX st.cells)) (.int (s.val st%4))).map _=_;rw[x];rfl
 |two o s t U O =>
  intro J m h;rw[Sm.size,←Nat.add_assoc];have Y:=U J.1 (m+t.size) h;have W:=O J.2 (m+s.size) h;have e1:m+t.size+s.size=m+(s.size+t.size):=by lia
  have e2:m+s.size+t.size=m+(s.size+t.size):=by lia
  rw[e1]at Y;rw[e2]at W;have b:big (s.val st)=ah:=by have:=Sm.tL (s:=s) V J.1;exact oV this.1 (by have:=this.2;lia)
  refine m7 L.worth rfl ((dG (w:=.p (.str o.w)) rfl).trans ((fF ?_).trans ((fF ?_).trans ((dG (w:=.p (.int (s.val st))) (g:=h) ?_).trans ((fF ?_).trans ((dG (w:=.p (.int (t.val st))) (g:=h) ?_).trans ?_))))));cases o<;>rfl;cases o<;>rfl;exact Y;cases o<;>rfl;exact W
  ·cases o with
   |add=>exact lN rfl rfl|sub=>exact(fF rfl).trans (lN rfl rfl)
   |mul =>
    refine(fF rfl).trans ((fF rfl).trans (kK ?_));show aK _ G _ [aa (.p (Sm.two .mul s t).enc),aa (.p st.enc),aa (.p (.str "mul")),aa (.p (.int (s.val st))),aa (.p (.int (t.val st)))] h=_;simp[Sm.val,BT.two,b]
   |less =>
    refine(fF rfl).trans ((fF rfl).trans (kK ?_));show aK _ G _ [aa (.p (Sm.two .less s t).enc),aa (.p st.enc),aa (.p (.str "less")),aa (.p (.int (s.val st))),aa (.p (.int (t.val st)))] h=_;simp[Sm.val,BT.two]
def kW(L:LwS T)(k:Nat)(p:Pg)(Y:p.length<=1000)(st:St)(hi:InP p st)(h:HH):runN T G (k+1) "_law_is_over" [.p (dS p),.p st.enc] h=aa (.p (.bl (over p st)),h):=by
 have add:lg .add (dS p) (.aB [.aB [.str "stop"]])=aa (.aB ((p++[Rw.stop]).map Rw.enc)):=by show lg .add (.aB (p.map Rw.enc)) _=_;rw[mT,bK (by simp;lia)];simp[Rw.enc]
 obtain⟨r,er,eo⟩:∃r,(p++[Rw.stop])[st.row]?=aa r/\over p st=r.over st:=by
  rcases V9 st.row p.length with q|q
  ·refine⟨p[st.row],by rw[VF q];exact VL q,?_⟩;rw[over,VL q]
  ·have e:st.row=p.length:=Nat.le_antisymm hi.row q;refine⟨.stop,by rw[V7 q,e];simp,?_⟩;rw[over,VP q];rfl
 have ix:dI (.aB ((p++[Rw.stop]).map Rw.enc)) (.int st.row)=aa r.enc:=by rw[eV,fY,VY,er];rfl
 have J:∀{x:D}{q:Bool},eqv x (.aB [.str "stop"])=q->iB .eq x (.aB [.str "stop"])=aa q:=λ{x q} e=>by rw[lZ,bK (ji rfl),e]
 have O:∀{x:D}{q:Bool},eqv x (.aB [.str "back"])=q->iB .eq x (.aB [.str "back"])=aa q:=λ{x q} e=>by rw[lZ,bK (ji rfl),e]
 rw[eo];refine m7 L.isover rfl ((dG (ER (ES rfl rfl add) rfl ix)).trans (kK ?_));cases r with
 |call q =>
  have e:decide ((5:Int)<(st.calls.length:Int))=decide (6<=st.calls.length):=by
   by_cases c:6<=st.calls.length
   simp[c];lia;simp[c];lia
  refine(yx (jr rfl rfl (J rfl))).trans ((yx (Ac (jr rfl rfl (O rfl)))).trans ((ET rfl).trans ?_));have V:biD .len [.aB (cZ st.calls)]=aa (.int (st.calls.length:Int)):=by simp[cZ]
  show aK _ G (.z .gt (.bi .len ai (.cons (.y (.v 1) (.j (.int 3))) .nil)) (.j (.int 5))) [aa (.p (dS p)),aa (.p st.enc),aa (.p (Rw.call q).enc)] h=_;have U:dI st.enc (.int 3)=aa (.aB (cZ st.calls)):=rfl;simp[-eV,-oG,U,V,Rw.over,e]
 |back =>
  cases hc:st.calls with
  |nil=>refine(yx (jr rfl rfl (J rfl))).trans ((Qq ((ET (jr rfl rfl (O rfl))).trans (jr (d:=.aB []) (by show aa (W.p (.aB (cZ st.calls)),h)=_;rw[hc];rfl) rfl rfl))).trans (by simp[Rw.over,hc]))|cons a l=>refine(yx (jr rfl rfl (J rfl))).trans ((yx ((ET (jr rfl rfl (O rfl))).trans (jr (d:=.aB (cZ (a::l))) (by show aa (W.p (.aB (cZ st.calls)),h)=_;rw[hc]) rfl (by simp[cZ])))).trans ((Ac rfl).trans (by simp[Rw.over,hc])))
 |stop=>exact Qq (jr rfl rfl (J rfl))|_=>exact(yx (jr rfl rfl (J rfl))).trans ((yx (Ac (jr rfl rfl (O rfl)))).trans (Ac rfl))
def Rw.told(aF:List Int)(st:St):Rw->D
 |.set x s=>.aB [.str x.w,.int (s.val st)]|.put s t=>.aB [.int (s.val st%4),.int (t.val st)]|.ask x=>.aB [.str x.w,.int (aF.getD st.aF 0)]|_=>.aC
def Ff(aF:List Int)(i:Nat):dI (.aj (cX aF++rep (i+1) [.int 0])) (.int i)=aa (.int (aF.getD i 0)):=by
 rw[uW,d8,fY];rcases V9 i aF.length with c|c
 ·rw[VF (by rw[fK];exact c)];simp[cX,c]
 ·have e:aF[i]?=af:=VP (by lia);rw[V7 (by rw[fK];lia),fK,WY,bK (by lia)];simp[e]
def sJ(L:LwS T)(k:Nat)(p:Pg)(aF:List Int)(Y:aF.length<=1000)(st:St)(W:st.ok)(g:st.aF<=100)(r:Rw)(O:r.ok p.length)(Z:p[st.row]?=aa r)(h:HH):
 runN T G (k+16) "_law_write" [.p (dS p),.p (.aj (cX aF)),.p st.enc] h=aa (.p (r.told aF st),h):=by
 have row:dI (dS p) (.int st.row)=aa r.enc:=by show dI (.aB (p.map Rw.enc)) _=_;rw[eV,fY,VY,Z];rfl
 have J:∀s:Sm,rH s->∀h,runN T G (k+15) "_law_worth" [.p s.enc,.p st.enc] h=aa (.p (.int (s.val st)),h):=λs U h=>by
  have:=mP (G:=G) L st W s U.1 (k+(15-s.size)) h;have e:k+(15-s.size)+s.size=k+15:=by have:=U.2;lia
  rw[e]at this;exact this
 refine m7 L.write rfl ((dG (ER rfl rfl row)).trans ?_);cases r with
 |set x s=>exact lN rfl (uR rfl (J s O h))|put s t=>exact(fF rfl).trans (lN rfl (uR (ES (J s O.1 h) rfl rfl) (J t O.2 h)))
 |ask x =>
  have z:=Ff aF st.aF;have f:(-1000:Int)<=(st.aF:Int)+1:=by lia
  have d:(st.aF:Int)+1<=1000:=by lia
  have c:((st.aF:Int)+1).toNat=st.aF+1:=by lia
  have b:st.aF+1<=100000:=by lia
  have a:(cX aF).length+(rep (st.aF+1) [D.int 0]).length<=100000:=by rw[uW,fK];simp;lia
  refine(fF rfl).trans ((fF rfl).trans (lN rfl (uR rfl ?_)));have V:dI st.enc (.int 4)=aa (.int st.aF):=rfl;show aK _ G _ [aa (.p (dS p)),aa (.p (.aj (cX aF))),aa (.p st.enc),aa (.p (Rw.ask x).enc)] h=_;simp only[W6]at z;simp[-eV,-d8,V,f,d,c,b,a,z]
 |_=>exact(fF rfl).trans ((fF rfl).trans ((fF rfl).trans (kK rfl)))
@[simp]theorem Ut(st:St):qG st.enc (aa 3) af=aa (.aB [.aB (cZ st.calls),.int st.aF,.aB (cX st.said)]):=rfl
def jU(L:LwS T)(k:Nat)(st:St)(Z:st.ok)(x:Nm)(v:Int)(h:HH):runN T G (k+1) "_law_put" [.p st.enc,.p (.str x.w),.p (.int v)] h=aa (.p ({st with names:=st.names.set x.ix v}:St).enc,h):=by
 obtain⟨nx,Y⟩:=L.put;rw[run_eq Y rfl];have e:=mL x;have U:(x.ix:Int)<((cX st.names).length:Int):=by rw[fK,Z.nlen];have:=x.Ab;lia
 have V:(cX st.names).set x.ix (.int v)=cX (st.names.set x.ix v):=ints_set _ _ _;have O:biD .list [.aB (cX st.names)]=aa (.aj (cX st.names)):=rfl;have J:biD .list [.aB (cX st.cells)]=aa (.aj (cX st.cells)):=rfl;have W:place (cX st.names).length (x.ix:Int)=aa x.ix:=by simp[place,U]
 simp[-place,jM,e,O,J,W,V,rd,j8];simp[St.enc,j8]
def mQ(L:LwS T)(k:Nat)(st:St)(a:st.ok)(q v:Int)(Z:0<=q)(Y:q<4)(h:HH):runN T G (k+1) "_law_put" [.p st.enc,.p (.int q),.p (.int v)] h=aa (.p ({st with cells:=st.cells.set q.toNat v}:St).enc,h):=by
 obtain⟨nx,W⟩:=L.put;rw[run_eq W rfl];have U:(cX st.cells).set q.toNat (.int v)=cX (st.cells.set q.toNat v):=ints_set _ _ _;have O:biD .list [.aB (cX st.names)]=aa (.aj (cX st.names)):=rfl;have J:biD .list [.aB (cX st.cells)]=aa (.aj (cX st.cells)):=rfl;have V:place (cX st.cells).length q=aa q.toNat:=by
  have:q<((cX st.cells).length:Int):=by rw[fK,a.clen];lia
  simp[place,Z,this]
 simp[-place,jM,O,J,V,U,rd,j8];simp[St.enc,j8]
def Uu(xs:List D)(a:D):dI (.aB (xs++[a])) (.int (-1))=aa a:=by
 have e2:-((xs.length:Int)+1)<=-1:=by lia
 have J:(-1+((xs.length:Int)+1)).toNat=xs.length:=by lia
 simp[e2,J]
section
variable{F:FK->List W->HH->Option (W×HH)}
def sJ0{d:D}{w:az}(e:dI d (.int 0)=aa (.str w))(h1:eqv (.str w) (.str "jump")=ai)(h2:eqv (.str w) (.str "unless")=ai)(J:Sl)(h:HH)(g:J[3]?=aa (aa (.p d))):evS F G slJ J h=aa (.nx J h):=by simp[-eV,-eqv,slJ,g,e,h1,h2]
def sC0{d:D}{w:az}(e:dI d (.int 0)=aa (.str w))(h1:eqv (.str w) (.str "call")=ai)(J:Sl)(h:HH)(g:J[3]?=aa (aa (.p d))):evS F G slC J h=aa (.nx J h):=by simp[-eV,-eqv,slC,g,e,h1]
def sK0{d:D}{w:az}(e:dI d (.int 0)=aa (.str w))(h1:eqv (.str w) (.str "back")=ai)(J:Sl)(h:HH)(g:J[3]?=aa (aa (.p d))):evS F G slK J h=aa (.nx J h):=by simp[-eV,-eqv,slK,g,e,h1]
def sY0{d:D}{w:az}(e:dI d (.int 0)=aa (.str w))(h1:eqv (.str w) (.str "say")=ai)(J:Sl)(h:HH)(g:J[3]?=aa (aa (.p d))):evS F G slY J h=aa (.nx J h):=by simp[-eV,-eqv,slY,g,e,h1]
def sW0(J:Sl)(h:HH)(g:J[6]?=aa (aa (.p .aC))):evS F G slW J h=aa (.nx J h):=by simp[slW,g]
def sW1{st x y z:D}{h:HH}(e:F "_law_put" [.p st,.p x,.p y] h=aa (.p z,h))(J:Sl)(g:J[6]?=aa (aa (.p (.aB [x,y]))))(g2:J[2]?=aa (aa (.p st))):evS F G slW J h=aa (.nx (J.set 2 (aa (.p z))) h):=by simp[slW,g,g2,e]
def sR1{d W Y L:D}{w:az}{i b:Int}(e:dI d (.int 0)=aa (.str w))(e1:dI L (.int 1)=aa W)(e2:dI L (.int 2)=aa Y)(j:dI L (.int 4)=aa (.int i))(Z:(if eqv (.str w) (.str "ask")=ah then(1:Int)else 0)=b)(J:Sl)(h:HH){V U O:D}
(g2:J[2]?=aa (aa (.p L)))(g:J[3]?=aa (aa (.p d)))(f:J[4]?=aa (aa (.p V)))(c:J[5]?=aa (aa (.p U)))(a:J[7]?=aa (aa (.p O))):evS F G slR J h=aa (.rt (.p (.aB [V,W,Y,U,.int (i+b),O])) h):=by
 subst Z;simp[-eV,-eqv,slR,g2,g,f,c,a,e,e1,e2,j]
end
def nZ(L:LwS T)(k:Nat)(p:Pg)(M:Pg.ok p)(aF:List Int)(B:aF.length<=1000)(st:St)(m:st.ok)(i:st.small)(N:st.aF<=100)(f:over p st=ai)(h:HH):
 runN T G (k+17) "_law_step" [.p (dS p),.p (.aj (cX aF)),.p st.enc] h=aa (.p (step p aF st).enc,h):=by
 have c:st.row<p.length:=by
  rcases V9 st.row p.length with q|q
  exact q;rw[over,VP q]at f;exact KG f
 have e:p[st.row]?=aa p[st.row]:=VL c;have j:=M _ (YR c);have W:(p[st.row]).over st=ai:=by rw[over,e]at f;exact f
 rw[step,e]
 revert j W
 generalize p[st.row]=r at *;intro j W;have row:dI (dS p) (.int st.row)=aa r.enc:=by show dI (.aB (p.map Rw.enc)) _=_;rw[eV,fY,VY,e];rfl
 have V:=sJ (G:=G) L k p aF B st m N r j e;have H:∀s:Sm,rH s->∀h,runN T G (k+16) "_law_worth" [.p s.enc,.p st.enc] h=aa (.p (.int (s.val st)),h):=λs i h=>by
  have:=mP (G:=G) L st m s i.1 (k+(16-s.size)) h;have e:k+(16-s.size)+s.size=k+16:=by have:=i.2;lia
  rw[e]at this;exact this
 have l1:=i.sl;have X:=i.cl;have rt:∀(x:St)(w:az)(b:Int),dI r.enc (.int 0)=aa (.str w)->(if eqv (.str w) (.str "ask")=ah then(1:Int)else 0)=b->∀(sl:Sl)(h:HH)(y v u:D),sl[2]?=aa (aa (.p x.enc))->sl[3]?=aa (aa (.p r.enc))->sl[4]?=aa (aa (.p y))->sl[5]?=aa (aa (.p v))->sl[7]?=aa (aa (.p u)) →
  evS (runN T G (k+16)) G slR sl h=aa (.rt (.p (.aB [y,.aB (cX x.names),.aB (cX x.cells),v,.int (x.aF+b),u])) h):=λx w b e f sl h y v u a U F n E=>sR1 e rfl rfl rfl f sl h a U F n E
 refine m7 L.step rfl ((dG (ER rfl rfl row)).trans ((dG (w:=.p (.int ((st.row:Int)+1))) rfl).trans ((dG (w:=.p (.aB (cZ st.calls))) rfl).trans ?_)));cases r with
 |set x s =>
  have pt:=jU (G:=G) L (k+15) st m x (s.val st) h;have O:dI (Rw.set x s).enc (.int 0)=aa (.str "set"):=rfl;refine(dM (sJ0 O (by decide) (by decide) _ _ rfl)).trans ((dM (sC0 O (by decide) _ _ rfl)).trans ((dM (sK0 O (by decide) _ _ rfl)).trans ((dG (w:=.p (.aB [.str x.w,.int (s.val st)])) (g:=h) ?_).trans ((dM (sW1 pt _ rfl rfl)).trans ((dG (w:=.p (.aB (cX st.said))) rfl).trans ((dM (sY0 O (by decide) _ _ rfl)).trans (rt {st with names:=st.names.set x.ix (s.val st)} "set" 0 O rfl _ _ _ _ _ rfl rfl rfl rfl rfl)))))));exact V h
 |put s t =>
  have pt:=mQ (G:=G) L (k+15) st m (s.val st%4) (t.val st) (by lia) (by lia) h;have O:dI (Rw.put s t).enc (.int 0)=aa (.str "put"):=rfl;refine(dM (sJ0 O (by decide) (by decide) _ _ rfl)).trans ((dM (sC0 O (by decide) _ _ rfl)).trans ((dM (sK0 O (by decide) _ _ rfl)).trans ((dG (w:=.p (.aB [.int (s.val st%4),.int (t.val st)])) (g:=h) ?_).trans ((dM (sW1 pt _ rfl rfl)).trans ((dG (w:=.p (.aB (cX st.said))) rfl).trans ((dM (sY0 O (by decide) _ _ rfl)).trans (rt {st with cells:=st.cells.set (s.val st%4).toNat (t.val st)} "put" 0 O rfl _ _ _ _ _ rfl rfl rfl rfl rfl)))))));exact V h
 |ask x =>
  have pt:=jU (G:=G) L (k+15) st m x (aF.getD st.aF 0) h;have O:dI (Rw.ask x).enc (.int 0)=aa (.str "ask"):=rfl;refine(dM (sJ0 O (by decide) (by decide) _ _ rfl)).trans ((dM (sC0 O (by decide) _ _ rfl)).trans ((dM (sK0 O (by decide) _ _ rfl)).trans ((dG (w:=.p (.aB [.str x.w,.int (aF.getD st.aF 0)])) (g:=h) ?_).trans ((dM (sW1 pt _ rfl rfl)).trans ((dG (w:=.p (.aB (cX st.said))) rfl).trans ((dM (sY0 O (by decide) _ _ rfl)).trans (rt {st with names:=st.names.set x.ix (aF.getD st.aF 0)} "ask" 1 O (by decide) _ _ _ _ _ rfl rfl rfl rfl rfl)))))));exact V h
 |say s =>
  have A:(cX st.said).length+1<=100000:=by rw[fK];lia
  have O:dI (Rw.say s).enc (.int 0)=aa (.str "say"):=rfl;have d:dI (Rw.say s).enc (.int 1)=aa s.enc:=rfl;have o:=H s j h;have Y:∀(sl:Sl),sl[2]?=aa (aa (.p st.enc))->sl[3]?=aa (aa (.p (Rw.say s).enc))->sl[7]?=aa (aa (.p (.aB (cX st.said))))->evS (runN T G (k+16)) G slY sl h=aa (.nx (sl.set 7 (aa (.p (.aB (cX (st.said++[s.val st])))))) h):=λsl a U E=>by simp[-eV,slY,a,U,E,O,d,o,A,ints_snoc]
  refine(dM (sJ0 O (by decide) (by decide) _ _ rfl)).trans ((dM (sC0 O (by decide) _ _ rfl)).trans ((dM (sK0 O (by decide) _ _ rfl)).trans ((dG (w:=.p (.aC)) (g:=h) ?_).trans ((dM (sW0 _ _ rfl)).trans ((dG (w:=.p (.aB (cX st.said))) rfl).trans ((dM (Y _ rfl rfl rfl)).trans (rt st "say" 0 O rfl _ _ _ _ _ rfl rfl rfl rfl rfl)))))));exact V h
 |jump q =>
  have O:dI (Rw.jump q).enc (.int 0)=aa (.str "jump"):=rfl;have Z:dI (Rw.jump q).enc (.int (-1))=aa (.int q):=rfl;have J:∀(sl:Sl),sl[3]?=aa (aa (.p (Rw.jump q).enc))->evS (runN T G (k+16)) G slJ sl h=aa (.nx (sl.set 4 (aa (.p (.int q)))) h):=λsl U=>by simp[-eV,slJ,U,O,Z]
  refine(dM (J _ rfl)).trans ((dM (sC0 O (by decide) _ _ rfl)).trans ((dM (sK0 O (by decide) _ _ rfl)).trans ((dG (w:=.p (.aC)) (g:=h) ?_).trans ((dM (sW0 _ _ rfl)).trans ((dG (w:=.p (.aB (cX st.said))) rfl).trans ((dM (sY0 O (by decide) _ _ rfl)).trans (rt st "jump" 0 O rfl _ _ _ _ _ rfl rfl rfl rfl rfl)))))));exact V h
 |«unless» s q =>
  have O:dI (Rw.unless s q).enc (.int 0)=aa (.str "unless"):=rfl;have d:dI (Rw.unless s q).enc (.int 1)=aa s.enc:=rfl;have Z:dI (Rw.unless s q).enc (.int (-1))=aa (.int q):=rfl;have o:=H s j.1 h
  by_cases z:s.val st=0
  ·have J:∀(sl:Sl),sl[2]?=aa (aa (.p st.enc))->sl[3]?=aa (aa (.p (Rw.unless s q).enc))->evS (runN T G (k+16)) G slJ sl h=aa (.nx (sl.set 4 (aa (.p (.int q)))) h):=λsl a U=>by simp[-eV,slJ,a,U,O,d,Z,o,z]
   simp only[Rw.next,z];refine(dM (J _ rfl rfl)).trans ((dM (sC0 O (by decide) _ _ rfl)).trans ((dM (sK0 O (by decide) _ _ rfl)).trans ((dG (w:=.p (.aC)) (g:=h) ?_).trans ((dM (sW0 _ _ rfl)).trans ((dG (w:=.p (.aB (cX st.said))) rfl).trans ((dM (sY0 O (by decide) _ _ rfl)).trans (rt st "unless" 0 O rfl _ _ _ _ _ rfl rfl rfl rfl rfl)))))));exact V h
  ·have J:∀(sl:Sl),sl[2]?=aa (aa (.p st.enc))->sl[3]?=aa (aa (.p (Rw.unless s q).enc))->evS (runN T G (k+16)) G slJ sl h=aa (.nx sl h):=λsl a U=>by simp[-eV,slJ,a,U,O,d,Z,o,z]
   simp only[Rw.next,z];refine(dM (J _ rfl rfl)).trans ((dM (sC0 O (by decide) _ _ rfl)).trans ((dM (sK0 O (by decide) _ _ rfl)).trans ((dG (w:=.p (.aC)) (g:=h) ?_).trans ((dM (sW0 _ _ rfl)).trans ((dG (w:=.p (.aB (cX st.said))) rfl).trans ((dM (sY0 O (by decide) _ _ rfl)).trans (rt st "unless" 0 O rfl _ _ _ _ _ rfl rfl rfl rfl rfl)))))));exact V h
 |call q =>
  have A:(cZ st.calls).length+1<=100000:=by simp[cZ];lia
  have R:cZ st.calls++[.int ((st.row:Int)+1)]=cZ (st.calls++[st.row+1]):=by rw[←tP];simp
  have O:dI (Rw.call q).enc (.int 0)=aa (.str "call"):=rfl;have d:dI (Rw.call q).enc (.int 1)=aa (.int q):=rfl;have C:∀(sl:Sl),sl.length=8->sl[3]?=aa (aa (.p (Rw.call q).enc))->sl[4]?=aa (aa (.p (.int ((st.row:Int)+1))))->sl[5]?=aa (aa (.p (.aB (cZ st.calls))))->evS (runN T G (k+16)) G slC sl h=aa (.nx ((sl.set 5 (aa (.p (.aB (cZ (st.calls++[st.row+1])))))).set 4 (aa (.p (.int q)))) h):=λsl S U F n=>by simp[-eV,slC,U,F,n,O,d,A,R]
  refine(dM (sJ0 O (by decide) (by decide) _ _ rfl)).trans ((dM (C _ rfl rfl rfl rfl)).trans ((dM (sK0 O (by decide) _ _ rfl)).trans ((dG (w:=.p (.aC)) (g:=h) ?_).trans ((dM (sW0 _ _ rfl)).trans ((dG (w:=.p (.aB (cX st.said))) rfl).trans ((dM (sY0 O (by decide) _ _ rfl)).trans (rt st "call" 0 O rfl _ _ _ _ _ rfl rfl rfl rfl rfl)))))));exact V h
 |back =>
  have I:st.calls≠[]:=by intro e;simp[Rw.over,e]at W
  obtain⟨l,x,el⟩:∃l x,st.calls=l++[x]:=⟨st.calls.dropLast,st.calls.getLast I,(Yh I).symm⟩;have Z:=Uu (cZ l) (.int x);have en:cZ st.calls=cZ l++[.int x]:=by rw[el];simp[cZ]
  rw[←en]at Z;have Q:qG (.aB (cZ st.calls)) af (aa (-1))=aa (.aB (cZ st.calls.dropLast)):=by rw[qO,wQ]
  have P:st.calls.getLast?.getD 0=x:=by simp[el]
  have O:dI Rw.back.enc (.int 0)=aa (.str "back"):=rfl;have K:∀(sl:Sl),sl[3]?=aa (aa (.p Rw.back.enc))->sl[5]?=aa (aa (.p (.aB (cZ st.calls))))->evS (runN T G (k+16)) G slK sl h=aa (.nx ((sl.set 4 (aa (.p (.int x)))).set 5 (aa (.p (.aB (cZ st.calls.dropLast))))) h):=λsl U n=>by simp[-eV,-qO,slK,U,n,O,Z,Q]
  simp only[Rw.next,P];refine(dM (sJ0 O (by decide) (by decide) _ _ rfl)).trans ((dM (sC0 O (by decide) _ _ rfl)).trans ((dM (K _ rfl rfl)).trans ((dG (w:=.p (.aC)) (g:=h) ?_).trans ((dM (sW0 _ _ rfl)).trans ((dG (w:=.p (.aB (cX st.said))) rfl).trans ((dM (sY0 O (by decide) _ _ rfl)).trans (rt st "back" 0 O rfl _ _ _ _ _ rfl rfl rfl rfl rfl)))))));exact V h
 |stop=>simp[Rw.over]at W
def Fg(L:LwS T)(k:Nat)(h:HH)(p:Pg)(V:Pg.ok p)(U:p.length<=1000)(aF:List Int)(i:Ask aF)(Y:aF.length<=1000)(many:Nat)(j:many<=60):∀(r f:Nat)(pre:List D)(st:St),pre.length+r=many->r<=f->At pre.length st->InP p st->st.aF<=pre.length →
 eU (ev (runN T G (k+17)) G k2C) (evS (runN T G (k+17)) G k2B) (f+1) [aa (.p (dS p)),aa (.p (.aj (cX aF))),aa (.p (.int many)),aa (.r h.length)] (h++[.l (pre++[st.enc])]) =
  aa (.nx [aa (.p (dS p)),aa (.p (.aj (cX aF))),aa (.p (.int many)),aa (.r h.length)] (h++[.l (pre++(sts p aF r st).map St.enc)])):=by
 intro r
 induction r with
 |zero =>
  intro f pre st d g a O e;have c:¬((pre.length:Int)+1<=(many:Int)):=by lia
  simp[eU,k2C,rd,c,sts]
 |succ r b =>
  intro f pre st d g a O e;have c:(pre.length:Int)+1<=(many:Int):=by lia
  have e2:-((pre.length:Int)+1)<=-1:=by lia
  have Z:(-1+((pre.length:Int)+1)).toNat=pre.length:=by lia
  have o:=kW (G:=G) L (k+16) p U st O;cases J:over p st with
  |true =>
   rw[J]at o;simp[eU,k2C,rd,c,sts,e2,Z,o,J]
  |false =>
   rw[J]at o;have s:=nZ (G:=G) L k p V aF Y st a.ok (a.small (by lia)) (by lia) J;cases f with
   |zero=>lia
   |succ f =>
    have q:=b f (pre++[st.enc]) (step p aF st) (by simp;lia) (by lia) (by simpa using qj V i a J) (rM V O J) (by have:=ng p aF st;simp;lia);have hc:ev (runN T G (k+17)) G k2C [aa (.p (dS p)),aa (.p (.aj (cX aF))),aa (.p (.int many)),aa (.r h.length)] (h++[.l (pre++[st.enc])])=aa (.p (.bl ah),h++[.l (pre++[st.enc])]):=by simp[k2C,rd,c,e2,Z,o]
    have l:pre.length+1<100000:=by lia
    have W:evS (runN T G (k+17)) G k2B [aa (.p (dS p)),aa (.p (.aj (cX aF))),aa (.p (.int many)),aa (.r h.length)] (h++[.l (pre++[st.enc])]) =
     aa (.nx [aa (.p (dS p)),aa (.p (.aj (cX aF))),aa (.p (.int many)),aa (.r h.length)] (h++[.l ((pre++[st.enc])++[(step p aF st).enc])])):=by
     simp[k2B,rd,e2,Z,s,l]
    rw[eU,hc,gF,kq,W,fU,q];simp[sts,J]
def rR(L:LwS T)(k:Nat)(p:Pg)(V:Pg.ok p)(J:p.length<=1000)(aF:List Int)(Y:Ask aF)(O:aF.length<=1000)(many:Nat)(W:many<=60)(h:HH):
 runN T G (k+18) "_law_states" [.p (dS p),.p (.aj (cX aF)),.p (.int many)] h=aa (.p (.aj ((sts p aF many St.zero).map St.enc)),h):=by
 rw[run_eq L.states rfl];have q:=Fg (G:=G) L k h p V J aF Y O many W many 99999 [] St.zero (by simp) (by lia) qi (wX p) (VR _);simp only[Xo]at q;have U:eU (ev (runN T G (k+17)) G k2C) (evS (runN T G (k+17)) G k2B) 100000 [aa (.p (dS p)),aa (.p (.aj (cX aF))),aa (.p (.int many)),aa (.r h.length)] (h++[.l [St.zero.enc]]) =
  aa (.nx [aa (.p (dS p)),aa (.p (.aj (cX aF))),aa (.p (.int many)),aa (.r h.length)] (h++[.l ((sts p aF many St.zero).map St.enc)])):=q
 have z:St.zero.enc=.aB [.int 0,.aB [.int 0,.int 0,.int 0,.int 0,.int 0,.int 0],.aB [.int 0,.int 0,.int 0,.int 0],.aB [],.int 0,.aB []]:=rfl;rw[z]at U;simp[iL,turns,U,JJ]
end
def iw:Fn:=⟨["self","program","asked","most","state"],["self","program","asked","most","state"], (.seq (.ex (.sup "Tape" (cR (.v 0) (.v 1) (.v 2) (.j (.int 1)) (.v 3)))) (.seq (.setf (.v 0) "kept" (.aj ah (cV (.v 4)))) (.setf (.v 0) "front" (.v 4))))⟩
def jb:Fn:=⟨["self","program","asked","most"],["self","program","asked","most"], (.seq (.setf (.v 0) "program" (.v 1)) (.seq (.setf (.v 0) "asked" (.bi .list ai (cV (.v 2)))) (.seq (.setf (.v 0) "most" (.v 3)) (.seq (.setf (.v 0) "origins" (.aj ah (cV (.j .aC)))) (.setf (.v 0) "branches" (.obl (.make "Branch" (cS (.v 1) (.v 2) (.v 3) (.call "begun" .nil)))))))))⟩
def jc:Fn:=⟨["self","run","moment","thing","worth"],["self","run","moment","thing","worth","state"], (.seq (.set 5 (.aE (.v 0) "at" (cU (.v 1) (.v 2)))) (.seq (.ex (.call "check_thing" (cV (.v 3)))) (.seq (.ex (.me .append (.i (.v 0) "origins") (cV (.aB (cU (.v 1) (.v 2)))))) (.seq (.ex (.oba (.i (.v 0) "branches") (.make "Branch" (cS (.i (.v 0) "program") (.i (.v 0) "asked") (.bin .sub (.i (.v 0) "most") (.v 2)) (.call "with_thing" (cT (.v 5) (.v 3) (.v 4))))))) (.ret (.bin .sub (.obn (.i (.v 0) "branches")) (.j (.int 1))))))))⟩
def kP:Fn:=⟨["self","run","moment"],["self","run","moment","holder","branch","number"], (.seq (.ex (.aE (.v 0) "check_run" (cV (.v 1)))) (.seq (.set 3 (.aE (.v 0) "holder" (cU (.v 1) (.v 2)))) (.seq (.set 4 (.obi (.i (.v 0) "branches") (.v 3))) (.seq (.set 5 (.bin .sub (.v 2) (.aE (.v 0) "first" (cV (.v 3))))) (.seq (.v (.not (.aE (.v 4) "has" (cV (.v 5)))) .bad .nil) (.ret (.aE (.v 4) "at" (cV (.v 5)))))))))⟩
def fS:Fn:=⟨["self","run"],["self","run"], (.seq (.ex (.aE (.v 0) "check_run" (cV (.v 1)))) (.ret (.bin .add (.aE (.v 0) "first" (cV (.v 1))) (.aE (.obi (.i (.v 0) "branches") (.v 1)) "end" .nil))))⟩
def fk:Fn:=⟨["self","run"],["self","run"], (.seq (.ex (.aE (.v 0) "check_run" (cV (.v 1)))) (.ret (.y (.i (.v 0) "origins") (.v 1))))⟩
noncomputable def ptC:E:=(.z .ne (.y (.v 2) (.neg (.j (.int 1)))) (.j (.int 0)))
def ptB:S:=(.ex (.me .append (.v 2) (cV (.y (.y (.i (.v 0) "origins") (.y (.v 2) (.neg (.j (.int 1))))) (.j (.int 0))))))
def fy:Fn:=⟨["self","run"],["self","run","runs"], (.seq (.ex (.aE (.v 0) "check_run" (cV (.v 1)))) (.seq (.set 2 (.aj ah (cV (.v 1)))) (.seq (.j ptC ptB) (.ret (.stp ai (-1) (.v 2))))))⟩
noncomputable def cnC:E:=(.z .eq (.y (.y (.i (.v 1) "origins") (.v 0)) (.j (.int 0))) (.v 2))
def fh:Fn:=⟨["self","run"],["self","run"], (.seq (.ex (.aE (.v 0) "check_run" (cV (.v 1)))) (.ret (.comp ai .rng2 (cU (.j (.int 1)) (.bi .len ai (cV (.i (.v 0) "origins")))) ["child"] [(0,"self"),(1,"run")] (cV cnC) (.v 0))))⟩
def fZ:Fn:=⟨["self","run"],["self","run"], (.v (.or (.not (.call "is_whole" (cV (.v 1)))) (.or (.z .lt (.v 1) (.j (.int 0))) (.z .ge (.v 1) (.obn (.i (.v 0) "branches"))))) .bad .nil)⟩
def gA:Fn:=⟨["self","run"],["self","run"], (.ret (.ite (.z .eq (.v 1) (.j (.int 0))) (.j (.int 0)) (.y (.y (.i (.v 0) "origins") (.v 1)) (.j (.int 1)))))⟩
def hdC:E:=(.and (.z .ne (.v 1) (.j (.int 0))) (.z .lt (.v 2) (.aE (.v 0) "first" (cV (.v 1)))))
noncomputable def hdB:S:=(.set 1 (.y (.y (.i (.v 0) "origins") (.v 1)) (.j (.int 0))))
def fQ:Fn:=⟨["self","run","moment"],["self","run","moment"], (.seq (.j hdC hdB) (.ret (.v 1)))⟩
structure TrP(T:FK->Option Fn)(G:az->Option W):Prop where
 tp:TpP "Branch" T G
 en:TpM "Branch" T
 tin:T (.m "Tape" "__init__")=aa ja
 bin:T (.m "Branch" "__init__")=aa iw
 init:T (.m "Tree" "__init__")=aa jb
 part:T (.m "Tree" "part")=aa jc
 at_:T (.m "Tree" "at")=aa kP
 end_:T (.m "Tree" "end")=aa fS
 check_run:T (.m "Tree" "check_run")=aa fZ
 first:T (.m "Tree" "first")=aa gA
 holder:T (.m "Tree" "holder")=aa fQ
 th:ThP T
 ld:LdP T G
structure Nd where
 par:Nat
 fi:Nat
 s0:St
 e:Nat
 f:Nat->St
noncomputable def Nd.en(d:Nd):Nat:=d.fi+d.e
structure Tr where
 p:Pg
 aF:List Int
 most:Nat
 ds:List Nd
noncomputable def Nd.org(d:Nd):D:=.aB [.int d.par,.int d.fi]
def fu(ds:List Nd):List D:=.aC::ds.tail.map Nd.org
def Fi{ds:List Nd}{i:Nat}{d:Nd}(h:ds[i]?=aa d)(hi:0<i):(fu ds)[i]?=aa d.org:=by
 cases i with
 |zero=>exact bM hi (WB _)
 |succ i =>
  cases ds with
  |nil=>simp at h
  |cons x r =>
   simp only[XS]at h;simp[fu,h]
def jw{ds:List Nd}(h:ds≠[]):(fu ds).length=ds.length:=by
 cases ds with
 |nil=>exact bM rfl h|cons x r=>simp[fu]
def xm{ds:List Nd}(h:ds≠[])(d:Nd):fu (ds++[d])=fu ds++[d.org]:=by
 cases ds with
 |nil=>exact bM rfl h|cons x r=>simp[fu]
structure Own(t:Tr)(i:Nat)(d:Nd):Prop where
 run:Run d.s0 t.p t.aF (t.most-d.fi) d.e
 at0:At d.fi d.s0
 le:d.fi<=t.most
 own:∀k,k<=d.e->d.f (d.fi+k)=itr d.s0 t.p t.aF k
 zero:i=0->d.fi=0/\d.s0=St.zero
 par:0<i->∃q,t.ds[d.par]?=aa q/\d.par<i/\d.fi<=q.en/\∀m,m<d.fi->d.f m=q.f m
 put:0<i->∀q,t.ds[d.par]?=aa q->∃(th:Th) (v:Int),d.s0=th.put (q.f d.fi) v
structure Wf(t:Tr):Prop where
 ok:Pg.ok t.p
 ask:Ask t.aF
 m1:t.most<=100
 l1:t.ds.length<=100
 l0:t.ds≠[]
 each:∀i d,t.ds[i]?=aa d->Own t i d
theorem Ar{s0:St}{p:Pg}{aF:List Int}{most e j:Nat}(J:Pg.ok p)(L:Ask aF)(O:At j s0)(R:Run s0 p aF most e):∀i,i<=e->At (j+i) (itr s0 p aF i)
 |0,_=>O|i+1,h=>qj J L (Ar J L O R i (by lia)) (R.on i (by lia))
theorem Wf.hold{t:Tr}(W:Wf t){m:Nat}:∀(n i:Nat)(d:Nd),i<=n->t.ds[i]?=aa d->m<=d.en->∃(j:Nat) (q:Nd),t.ds[j]?=aa q/\q.fi<=m/\m<=q.en/\d.f m=itr q.s0 t.p t.aF (m-q.fi)/\At m (d.f m)
 |n,i,d,hn,h,hm=>by
  have O:=W.each i d h
  by_cases c:d.fi<=m
  ·have e1:=O.own (m-d.fi) (by unfold Nd.en at hm;lia);rw[show d.fi+(m-d.fi)=m by lia]at e1;refine⟨i,d,h,c,hm,e1,?_⟩;rw[e1];have:=Ar W.ok W.ask O.at0 O.run (m-d.fi) (by unfold Nd.en at hm;lia);rw[show d.fi+(m-d.fi)=m by lia]at this;exact this
  ·have L:0<i:=by
    rcases WV i with z|z
    have:=(O.zero z).1;lia;exact z
   obtain⟨q,V,k,g,U⟩:=O.par L;cases n with
   |zero=>lia
   |succ n =>
    obtain⟨j,J,e,b,a,Z,Y⟩:=W.hold (m:=m) n d.par q (by lia) V (by lia);rw[U m (by lia)];exact⟨j,J,e,b,a,Z,Y⟩
def Wf.at_{t:Tr}(W:Wf t){m i:Nat}{d:Nd}(h:t.ds[i]?=aa d)(J:m<=d.en):At m (d.f m):=by obtain⟨_,_,_,_,_,_,a⟩:=W.hold i i d (VR _) h J;exact a
def Wf.xq{t:Tr}(W:Wf t){i:Nat}{d:Nd}(h:t.ds[i]?=aa d):d.en<=t.most:=by have O:=W.each i d h;have:=O.run.le;have:=O.le;unfold Nd.en;lia
def tfs(t:Tr)(ro rb:Nat):List (az×W):=[("program",.p (dS t.p)),("asked",.p (.aj (cX t.aF))),("most",.p (.int t.most)),("origins",.r ro),("branches",.r rb)]
section
variable(t:Tr)(ro rb:Nat)
@[simp]theorem MI:eN "program" (tfs t ro rb)=aa (.p (dS t.p)):=by simp[tfs]
@[simp]theorem QA:eN "asked" (tfs t ro rb)=aa (.p (.aj (cX t.aF))):=by simp[tfs]
@[simp]theorem Sk:eN "most" (tfs t ro rb)=aa (.p (.int t.most)):=by simp[tfs]
@[simp]theorem MJ:eN "origins" (tfs t ro rb)=aa (.r ro):=by simp[tfs]
@[simp]theorem JM:eN "branches" (tfs t ro rb)=aa (.r rb):=by simp[tfs]
def gh{m:String}(h:(["program","asked","most","origins","branches"]:List String).contains m=ai):eN m (tfs t ro rb)=af:=by simp only[Zu,List.contains_nil,Yi,aaQ,bT,ne_eq]at h;obtain⟨V,U,O,L,J⟩:=h;simp[tfs,V,U,O,L,J]
@[simp]theorem n8:eN "check_run" (tfs t ro rb)=af:=gh t ro rb rfl
@[simp]theorem QB:eN "first" (tfs t ro rb)=af:=gh t ro rb rfl
@[simp]theorem NT:eN "holder" (tfs t ro rb)=af:=gh t ro rb rfl
@[simp]theorem xr:eN "at" (tfs t ro rb)=af:=gh t ro rb rfl
@[simp]theorem Fj:eN "end" (tfs t ro rb)=af:=gh t ro rb rfl
@[simp]theorem As:eN "part" (tfs t ro rb)=af:=gh t ro rb rfl
@[simp]theorem tT:eN "parent" (tfs t ro rb)=af:=gh t ro rb rfl
@[simp]theorem Au:eN "path" (tfs t ro rb)=af:=gh t ro rb rfl
@[simp]theorem pG:eN "children" (tfs t ro rb)=af:=gh t ro rb rfl
end
noncomputable abbrev Bx:=Nat×Nat×Tp
noncomputable abbrev Pts:=Nat->Option Cl
structure gM(Pt:Pts)(h:HH)(n:Nat)(t:Tr)(ro rb:Nat)(bs:List Bx):Prop where
 ob:oat h n=aa (VQ "Tree",tfs t ro rb)
 og:lat h ro=aa (fu t.ds)
 br:bat h rb=aa (bs.map (·.1))
 len:bs.length=t.ds.length
 tp:∀(i:Nat)(b:Bx)(d:Nd),bs[i]?=aa b->t.ds[i]?=aa d->TAt "Branch" h b.1 b.2.1 b.2.2/\TI d.s0 b.2.2 d.e 1/\b.2.2.p=t.p/\b.2.2.aF=t.aF
 nd1:(bs.map (·.1)).Nodup
 nd2:(ro::bs.map (·.2.1)).Nodup
 pt:∀i c,Pt i=aa c->h[i]?=aa c/\i≠n/\i≠ro/\i≠rb/\∀b∈bs,i≠b.1/\i≠b.2.1
inductive fz(Pt:Pts)(h:HH)(n:Nat)(t:Tr)(ro rb:Nat):Prop
 |mk(bs:List Bx)(a:gM Pt h n t ro rb bs)
def uZ{h:HH}{n:Nat}{q:List Nat}(e:bat h n=aa q):n<h.length:=by
 unfold bat at e;rcases V9 n h.length with z|z
 exact z;rw[VP z]at e;exact gT e
def yG{h h':HH}{i:Nat}(e:h'[i]?=h[i]?):bat h' i=bat h i:=by unfold bat;rw[e]
def Av{h:HH}{n r:Nat}{q:az×List (az×W)}{xs:List Nat}(e:oat h n=aa q)(e':bat h r=aa xs):r≠n:=by
 rintro rfl
 unfold oat at e;unfold bat at e';cases g:h[r]? with
 |none=>rw[g]at e;exact gT e|some c=>rw[g]at e e';cases c<;>simp[o8]at e e'
def Aw{h:HH}{n r:Nat}{q:List D}{xs:List Nat}(e:lat h n=aa q)(e':bat h r=aa xs):r≠n:=by
 rintro rfl
 unfold lat at e;unfold bat at e';cases g:h[r]? with
 |none=>rw[g]at e;exact gT e|some c=>rw[g]at e e';cases c<;>simp[o8]at e e'
def Iz{h:HH}{n:Nat}(hn:n<h.length)(c:Cl):bat (h.set n c) n=o8 c:=by unfold bat;rw[Wb hn];rfl
def yH{h:HH}{n i:Nat}(hn:i≠n)(c:Cl):bat (h.set n c) i=bat h i:=by unfold bat;rw[V1 (WI hn)]
def IA{h g:HH}{i:Nat}(hi:i<h.length):bat (h++g) i=bat h i:=yG (VF hi)
def jx{J:Type}{l:List J}{i:Nat}(h:i<l.length):∃x,l[i]?=aa x:=⟨_,VL h⟩
def dY{J:Type}{l:List J}{i:Nat}{x:J}(h:l[i]?=aa x):i<l.length:=by
 rcases V9 i l.length with z|z
 exact z;rw[VP z]at h;exact gT h
def rS{J:Type}{l:List J}(L:l.Nodup){i j:Nat}{x:J}(a:l[i]?=aa x)(b:l[j]?=aa x):i=j:=by rw[VL (dY a)]at a;rw[VL (dY b)]at b;exact(ZS L).mp ((VN a).trans (VN b).symm)
def B6{J:Type}{l:List J}(Z:l.Nodup)(i:Nat){y:J}(W:∀(j:Nat)(x:J),l[j]?=aa x->j≠i->x≠y):(l.set i y).Nodup:=by
 refine List.pairwise_iff_getElem.mpr λa b U L O=>?_;rw[Ws]at U L;rw[List.getElem_set,List.getElem_set]
 by_cases V:i=a
 ·rw[bK V,bL (by lia)];exact WI (W b _ (VL L) (by lia))
 ·rw[bL V]
  by_cases Y:i=b
  ·rw[bK Y];exact W a _ (VL U) (WI V)
  ·rw[bL Y];exact List.pairwise_iff_getElem.mp Z a b U L O
def gM.step{Pt:Pts}{h:HH}{n:Nat}{t:Tr}{ro rb:Nat}{bs:List Bx}(A:gM Pt h n t ro rb bs){i:Nat}{b:Bx}{d:Nd}(L:bs[i]?=aa b)(B:t.ds[i]?=aa d){h':HH}{O:Nat}{t':Tp}(g:Go "Branch" b.1 h b.2.1 b.2.2 h' O t')(I:TI d.s0 t' d.e 1)(s:Sm8 b.2.2 t'):
 gM Pt h' n t ro rb (bs.set i (b.1,O,t')):=by
 have X:=dY L;obtain⟨Z,a2,a3,a4⟩:=A.tp i b d L B;have R:n≠b.1:=by intro z;have:=A.ob;rw[z,Z.ob]at this;have:=bS (λq:Option (az×List (az×W))=>q.map (·.1)) this;simp at this
 have Q:n≠b.2.1:=nX A.ob Z.li;have hn:=iX A.ob;have e1:h'[n]?=h[n]?:=g.fr n R Q hn;have ob:ro≠b.1:=(nX Z.ob A.og).symm;have S:b.2.1∈bs.map (·.2.1):=List.mem_map.mpr ⟨b,V0 L,rfl⟩;have U:ro≠b.2.1:=λz=>(List.nodup_cons.mp A.nd2).1 (by rw[z];exact S);have e2:h'[ro]?=h[ro]?:=g.fr ro ob U (gK A.og);have e3:h'[rb]?=h[rb]?:=g.fr rb (Av Z.ob A.br) (Aw Z.li A.br) (uZ A.br);have w:∀(f:Bx->Nat)(x:Bx),f x=f b->(bs.set i x).map f=bs.map f:=λf x J=>by
  rw[Y5,J];have:(bs.map f)[i]?=aa (f b):=by rw[VY,L];rfl
  have V:=dY this;rw[VL V]at this;rw[←VN this];exact List.set_getElem_self V
 have m:∀(j:Nat)(x:Bx),bs[j]?=aa x->x.2.1<h.length:=λj x J=>by obtain⟨y,Y⟩:=jx (l:=t.ds) (by rw[←A.len];exact dY J);exact gK (A.tp j x y J Y).1.li
 refine⟨(lR e1).trans A.ob,(lQ e2).trans A.og,?_,by rw[Ws];exact A.len,λj x y J Y=>?_,?_,?_,λj c r=>?_⟩;rw[yG e3,A.br,w (·.1) (b.1,O,t') rfl]
 ·by_cases c:j=i
  ·subst c;rw[Wb X]at J;cases J;rw[B]at Y;cases Y;exact⟨g.b,I,s.p.trans a3,s.aF.trans a4⟩
  ·rw[V1 (WI c)]at J;obtain⟨K,H,G,F⟩:=A.tp j x y J Y;have E:x.1≠b.1:=λz=>c (rS A.nd1 (i:=j) (j:=i) (x:=b.1) (by rw[VY,J];exact bS aa z) (by rw[VY,L];rfl));have D:x.2.1≠b.2.1:=λz=>c (rS (List.nodup_cons.mp A.nd2).2 (i:=j) (j:=i) (x:=b.2.1) (by rw[VY,J];exact bS aa z) (by rw[VY,L];rfl));exact⟨(g.other K E D).1,H,G,F⟩
 rw[w (·.1) (b.1,O,t') rfl];exact A.nd1
 ·have o:∀(j:Nat)(x:Nat),(ro::bs.map (·.2.1))[j]?=aa x->j≠i+1->x≠O:=λj x J r=>by
   have C:x<h.length/\x≠b.2.1:=by
    cases j with
    |zero=>cases J;exact⟨gK A.og,U⟩
    |succ j =>
     rw[XS,VY]at J;cases k:bs[j]? with
     |none=>rw[k]at J;exact gT J
     |some y =>
      rw[k]at J;cases J;exact⟨m j y k,λz=>r (by rw[rS (List.nodup_cons.mp A.nd2).2 (i:=j) (j:=i) (x:=b.2.1) (by rw[VY,k];exact bS aa z) (by rw[VY,L];rfl)])⟩
   rcases g.len with⟨_,z⟩|z
   rw[z];exact C.2;lia
  have:=B6 A.nd2 (i+1) o;rw[List.set_cons_succ]at this;rw[Y5];exact this
 ·obtain⟨v,P,N,M,u⟩:=A.pt j c r;have a:=u b (V0 L);have T:=dY v;refine⟨(g.fr j a.1 a.2 T).trans v,P,N,M,λx J=>?_⟩;rcases Xy J with q|q
  exact u x q
  ·subst q;refine⟨a.1,?_⟩;rcases g.len with⟨_,z⟩|z
   show j≠O;rw[z];exact a.2;show j≠O;lia
def u5(h:HH)(d:D)(h':HH):∃h2,fin h (.p d) h'=aa (.p d,h2)/\(h2=h'\/h2=h):=by
 unfold fin
 by_cases c:h'.length=h.length
 rw[bK c];exact⟨h',rfl,.inl rfl⟩
 ·rw[bL c]
  by_cases J:h'.take h.length=h
  rw[bK J];exact⟨h,rfl,.inr rfl⟩;rw[bL J];exact⟨h',rfl,.inl rfl⟩
section
variable{T:FK->Option Fn}{G:az->Option W}{Pt:Pts}{h:HH}{n:Nat}{t:Tr}{ro rb:Nat}{bs:List Bx}
def fC(P:TrP T G)(W:Wf t)(A:gM Pt h n t ro rb bs)(k:Nat){i:Nat}(hi:i<t.ds.length):runN T G (k+2) (.m "Tree" "check_run") [.o n,.p (.int i)] h=aa (.p .aC,h):=by
 rw[run_eq P.check_run rfl];have w:=gf P.tp k i h;have O:¬((i:Int)<0):=by lia
 have l1:=W.l1;have l:=A.len;have L:¬((bs.length:Int)<=(i:Int)):=by lia
 have J:bs.length<=100000:=by lia
 simp[fZ,w,O,A.ob,A.br,L,J,c5]
def iH(P:TrP T G)(W:Wf t)(A:gM Pt h n t ro rb bs)(k:Nat){i:Nat}{d:Nd}(J:t.ds[i]?=aa d):runN T G (k+1) (.m "Tree" "first") [.o n,.p (.int i)] h=aa (.p (.int d.fi),h):=by
 rw[run_eq P.first rfl];rcases WV i with z|z
 ·subst z;have:=((W.each 0 d J).zero rfl).1;simp[gA,this,c5]
 ·have c:¬((i:Int)=0):=by lia
  have L:¬i=0:=by lia
  have ix:dI (.aj (fu t.ds)) (.int i)=aa d.org:=by rw[d8,fY];exact Fi J z
  have ix2:dI d.org (.int 1)=aa (.int d.fi):=rfl;simp[-d8,-eV,gA,c,L,A.ob,A.og,rd,ix,ix2,c5]
end
inductive MK(Pt:Pts)(x:Option (W×HH))(y:W)(n:Nat)(t:Tr)(ro rb:Nat):Prop
 |mk(h':HH)(q:x=aa (y,h'))(a:fz Pt h' n t ro rb)
section
variable{T:FK->Option Fn}{G:az->Option W}{Pt:Pts}{h:HH}{n:Nat}{t:Tr}{ro rb:Nat}{bs:List Bx}
def rT{i:Nat}{d:Nd}(J:t.ds[i]?=aa d)(z:0<i):dI (.aj (fu t.ds)) (.int i)=aa d.org:=by rw[d8,fY];exact Fi J z
def u6(P:TrP T G)(W:Wf t)(A:gM Pt h n t ro rb bs)(k:Nat){i m:Nat}{d:Nd}(J:t.ds[i]?=aa d):
 aK (runN T G (k+1)) G hdC [aa (.o n),aa (.p (.int i)),aa (.p (.int m))] h=aa (.p (.bl (decide (m<d.fi))),h):=by
 rcases WV i with z|z
 ·subst z;have:=((W.each 0 d J).zero rfl).1;simp[hdC,this]
 ·have c:¬((i:Int)=0):=by lia
  have L:¬i=0:=by lia
  have f:=iH P W A k J;simp[hdC,c,L,A.ob,f]
def IB(P:TrP T G)(W:Wf t)(A:gM Pt h n t ro rb bs)(k m:Nat):∀(f i:Nat)(d:Nd),t.ds[i]?=aa d->m<=d.en->i<=f →
 ∃(j:Nat) (q:Nd),eU (aK (runN T G (k+1)) G hdC) (evS (runN T G (k+1)) G hdB) (f+1) [aa (.o n),aa (.p (.int i)),aa (.p (.int m))] h=aa (.nx [aa (.o n),aa (.p (.int j)),aa (.p (.int m))] h)/\t.ds[j]?=aa q/\q.fi<=m/\m<=q.en/\d.f m=q.f m:=by
 intro f
 induction f with
 |zero =>
  intro i d J L U;have z:i=0:=by lia
  subst z;have s:=((W.each 0 d J).zero rfl).1;have q:=u6 P W A k (m:=m) J;rw[bO (by lia)]at q;refine⟨0,d,?_,J,by lia,L,rfl⟩;rw[eU,q,gF,lA]
 |succ f O =>
  intro i d J L U;have q:=u6 P W A k (m:=m) J
  by_cases c:m<d.fi
  ·have z:0<i:=by
    rcases WV i with z|z
    have:=((W.each i d J).zero z).1;lia;exact z
   obtain⟨p,Y,l,g,V⟩:=(W.each i d J).par z;obtain⟨j,r,e1,e2,e,a,Z⟩:=O d.par p Y (by lia) (by lia);refine⟨j,r,?_,e2,e,a,(V m c).trans Z⟩;rw[bP c]at q;have b:evS (runN T G (k+1)) G hdB [aa (.o n),aa (.p (.int i)),aa (.p (.int m))] h=aa (.nx [aa (.o n),aa (.p (.int d.par)),aa (.p (.int m))] h):=by have ix2:dI d.org (.int 0)=aa (.int d.par):=rfl;simp[-d8,-eV,hdB,A.ob,A.og,rd,rT J z,ix2]
   rw[eU,q,gF,kq,b,fU,e1]
  ·rw[bO c]at q;refine⟨i,d,?_,J,by lia,L,rfl⟩;rw[eU,q,gF,lA]
def yI(P:TrP T G)(W:Wf t)(A:gM Pt h n t ro rb bs)(k m:Nat){i:Nat}{d:Nd}(J:t.ds[i]?=aa d)(L:m<=d.en):
 ∃(j:Nat) (q:Nd),runN T G (k+2) (.m "Tree" "holder") [.o n,.p (.int i),.p (.int m)] h=aa (.p (.int j),h)/\t.ds[j]?=aa q/\q.fi<=m/\m<=q.en/\d.f m=q.f m:=by
 have l1:=W.l1;have:=dY J;obtain⟨j,q,e1,e2⟩:=IB P W A k m 99999 i d J L (by lia);refine⟨j,q,?_,e2⟩;rw[run_eq P.holder rfl];simp[fQ,turns,e1,c5]
def rV(A:gM Pt h n t ro rb bs){j:Nat}{b:Bx}(J:bs[j]?=aa b):atP (bs.map (·.1)) (j:Int)=aa b.1:=by rw[fY,VY,J];rfl
def qm(P:TrP T G)(W:Wf t)(A:gM Pt h n t ro rb bs)(k:Nat){i m:Nat}{d:Nd}(c:t.ds[i]?=aa d)(x:m<=d.en):
 MK Pt (runN T G (k+12) (.m "Tree" "at") [.o n,.p (.int i),.p (.int m)] h) (.p (d.f m).enc) n t ro rb:=by
 have w:=dY c;obtain⟨j,q,e1,L,e3,I,H⟩:=yI P W A (k+9) m c x;have M:=fC P W A (k+9) w;have v:=dY L;obtain⟨b,U⟩:=jx (l:=bs) (by rw[A.len];exact v);obtain⟨Z,Y,tp,s⟩:=A.tp j b q U L;have F:=iH P W A (k+10) L;have J:m-q.fi<=q.e:=by unfold Nd.en at I;lia
 obtain⟨h1,r1,a,r,V,Q,O,_⟩:=uY P.tp (k+2) Z Y (m-q.fi) (Wa J Y.run.le);rw[bP J]at r;obtain⟨B,X,S,g,C,N,u,_⟩:=MF P.tp k V.b Q (m-q.fi) J;have R:=A.step U L (V.trans C) N (O.trans u);have en:d.f m=itr q.s0 a.p a.aF (m-q.fi):=by have:=(W.each j q L).own (m-q.fi) J;rw[show q.fi+(m-q.fi)=m by lia]at this;rw[H,this,O.p,O.aF,tp,s]
 rw[←en]at g;have K:(m:Int)-(q.fi:Int)=((m-q.fi:Nat):Int):=by lia
 obtain⟨y,E,D⟩:=u5 h (d.f m).enc B;refine⟨y,?_,?_⟩
 ·rw[run_eq P.at_ rfl];have ix:=rV A U;rw[kP];simp only[dX,VX,Wx,VU,Wu];simp[-atP,A.ob,M,e1,A.br,ix,F,K,Z.ob,Ao,r,V.b.ob,Us,g,E]
 ·rcases D with z|z
  rw[z];exact⟨_,R⟩;rw[z];exact⟨_,A⟩
def Fk(P:TrP T G)(W:Wf t)(A:gM Pt h n t ro rb bs)(k:Nat){i:Nat}{d:Nd}(J:t.ds[i]?=aa d):
 MK Pt (runN T G (k+10) (.m "Tree" "end") [.o n,.p (.int i)] h) (.p (.int d.en)) n t ro rb:=by
 have U:=dY J;have r:=fC P W A (k+7) U;obtain⟨b,L⟩:=jx (l:=bs) (by rw[A.len];exact U);obtain⟨O,V,tp,w⟩:=A.tp i b d L J;have j:=iH P W A (k+8) J;obtain⟨a,y,x,s,c,u,Y,_⟩:=Iw P.tp P.en k O V;have v:=A.step L J c u Y;obtain⟨Z,g,f⟩:=u5 h (.int d.en) a;have ix:=rV A L;have q:(d.fi:Int)+(d.e:Int)=(d.en:Int):=by unfold Nd.en;lia
 refine⟨Z,?_,?_⟩
 ·rw[run_eq P.end_ rfl,fS];simp only[dX,VX,Wx,VU,Wu];simp[-atP,A.ob,r,j,A.br,ix,O.ob,Qx,s,q,g]
 ·rcases f with z|z
  rw[z];exact⟨_,v⟩;rw[z];exact⟨_,A⟩
end
noncomputable def Tp.new(p:Pg)(aF:List Int)(s0:St)(most:Nat):Tp:=⟨p,aF,1,most,[s0],0,s0,0⟩
def yJ{s0:St}{p:Pg}{aF:List Int}{e:Nat}(J:Pg.ok p)(O:Ask aF)(V:At 1000 s0)(R:Run s0 p aF most e)(U:most<=1000):TI s0 (Tp.new p aF s0 most) e 1 :=
 ⟨R,J,O,V,VR 1,by show 1<=1000;decide,U,WM _,rfl,by simp[Tp.new],by simp[Tp.new],λj L=>by
  have:j=0:=by simpa [Tp.new]using L
  subst this;simp[Tp.new,itr],WM _,⟨0,by simp[Tp.new],λz=>bM z (WB _)⟩⟩
section
variable{T:FK->Option Fn}{G:az->Option W}
def B7(P:TrP T G)(k:Nat)(J:az)(p:Pg)(aF:List Int)(most:Nat)(h:HH):
 runN T G (k+2) (.m "Tape" "__init__") [.o h.length,.p (dS p),.p (.aj (cX aF)),.p (.int 1),.p (.int most)] (h++[.o J []])=aa (.p .aC,h++[.o J ((Tp.new p aF St.zero most).fs (h.length+1)),.l [St.zero.enc]]):=by
 rw[run_eq P.tin rfl];have b:=tO P.tp.prg k;have O:(if(0:Int)>(most:Int)then(0:Int)else(most:Int))=(most:Int):=bL (by lia);have f:∀(c:Cl)(g:HH)(w:W),c≠.o J []->fin (h++[.o J []]) w (h++c::g)=aa (w,h++c::g):=λc g w hc=>by refine lS h.length (by simp) ?_ w;simp;exact hc
 have L:=f (.o J ((Tp.new p aF St.zero most).fs (h.length+1))) [.l [St.zero.enc]] (.p .aC) (by simp[Tp.fs]);have fs:(Tp.new p aF St.zero most).fs (h.length+1)=([("program",.p (dS p)),("asked",.p (.aj (cX aF))),("gap",.p (.int 1)),("most",.p (.int most)),("kept",.r (h.length+1)),("farthest",.p (.int 0)),("front",.p St.zero.enc),("now",.p (.int 0))]:List (az×W)):=by simp[Tp.fs,Tp.new]
 rw[fs]at L⊢;rw[ja];simp only[dX,VX,Wx,VU,Wu];simp[O,b,L]
def rW(P:TrP T G)(k:Nat)(p:Pg)(aF:List Int)(most:Nat)(s0:St)(h:HH):
 runN T G (k+3) (.m "Branch" "__init__") [.o h.length,.p (dS p),.p (.aj (cX aF)),.p (.int most),.p s0.enc] (h++[.o "Branch" []])=aa (.p .aC,h++[.o "Branch" ((Tp.new p aF s0 most).fs (h.length+2)),.l [St.zero.enc],.l [s0.enc]]):=by
 rw[run_eq P.bin rfl];have b:=B7 P k "Branch" p aF most h;have J:fin (h++[.o "Branch" []]) (.p .aC) (h++[.o "Branch" ((Tp.new p aF s0 most).fs (h.length+2)),.l [St.zero.enc],.l [s0.enc]])=aa (.p .aC,h++[.o "Branch" ((Tp.new p aF s0 most).fs (h.length+2)),.l [St.zero.enc],.l [s0.enc]]):=by refine lS h.length (by simp) ?_ _;simp[Tp.fs]
 have fs:∀(s:St)(r:Nat),(Tp.new p aF s most).fs r=([("program",.p (dS p)),("asked",.p (.aj (cX aF))),("gap",.p (.int 1)),("most",.p (.int most)),("kept",.r r),("farthest",.p (.int 0)),("front",.p s.enc),("now",.p (.int 0))]:List (az×W)):=λs r=>by simp[Tp.fs,Tp.new]
 rw[fs]at J⊢;rw[fs]at b;rw[iw];simp only[dX,VX,Wx,VU,Wu];simp[b,J]
end
def Tr.new(p:Pg)(aF:List Int)(most e:Nat):Tr:=⟨p,aF,most,[⟨0,0,St.zero,e,itr St.zero p aF⟩]⟩
def Nd.of(t:Tr)(i m:Nat)(d:Nd)(s0:St)(e:Nat):Nd:=⟨i,m,s0,e,λj=>if j<m then d.f j else itr s0 t.p t.aF (j-m)⟩
noncomputable def Tr.add(t:Tr)(x:Nd):Tr:={t with ds:=t.ds++[x]}
def Fo{p:Pg}{aF:List Int}{e:Nat}(L:Pg.ok p)(U:Ask aF)(O:most<=100)(R:Run St.zero p aF most e):Wf (Tr.new p aF most e):=by
 refine⟨L,U,O,by simp[Tr.new],by simp[Tr.new],λi d J=>?_⟩;have z:i=0/\(⟨0,0,St.zero,e,itr St.zero p aF⟩:Nd)=d:=by
  cases i with
  |zero=>exact⟨rfl,by simpa [Tr.new]using J⟩|succ i=>simp[Tr.new]at J
 obtain⟨rfl,rfl⟩:=z;exact⟨R,qi,WM _,λk _=>by show itr St.zero p aF (0+k)=_;rw[X7];rfl,λ_=>⟨rfl,rfl⟩,λz=>bM z (WB _),λz=>bM z (WB _)⟩
def Own.mono{t:Tr}{x:Nd}{i:Nat}{d:Nd}(O:Own t i d):Own (t.add x) i d :=
 ⟨O.run,O.at0,O.le,O.own,O.zero,λz=>by
  obtain⟨q,J,U⟩:=O.par z;exact⟨q,by show(t.ds++[x])[d.par]?=aa q;rw[VF (dY J)];exact J,U⟩,λz q L=>by
  obtain ⟨V,J,_⟩:=O.par z;have e:(t.ds++[x])[d.par]?=aa q:=L;rw[VF (dY J)] at e;exact O.put z q e⟩
def ML{t:Tr}(W:Wf t){i m e:Nat}{d:Nd}{s0:St}(L:t.ds[i]?=aa d)(U:m<=d.en)(b:At m s0)(R:Run s0 t.p t.aF (t.most-m) e)(g:t.ds.length<100){th:Th}{v:Int}(a:s0=th.put (d.f m) v):Wf (t.add (Nd.of t i m d s0 e)):=by
 refine⟨W.ok,W.ask,W.m1,by simp[Tr.add];lia,by simp[Tr.add],λj q O=>?_⟩;rcases V9 j t.ds.length with c|c
 ·have J:t.ds[j]?=aa q:=by have:(t.ds++[Nd.of t i m d s0 e])[j]?=aa q:=O;rw[VF c]at this;exact this
  exact(W.each j q J).mono
 ·have J:(t.ds++[Nd.of t i m d s0 e])[j]?=aa q:=O;have V:=dY J;have Y:j=t.ds.length:=by simp at V;lia
  subst Y;simp at J;subst J;refine⟨R,b,Wa U (W.xq L),λk h=>?_,λz=>?_,λ_=>⟨d,?_,dY L,U,λx Z=>bK Z⟩,λ_ q O=>?_⟩
  ·show(if m+k<m then d.f (m+k)else itr s0 t.p t.aF (m+k-m))=_;rw[bL (by lia),show m+k-m=k by lia];rfl
  exact bM (List.length_eq_zero_iff.mp z) W.l0
  ·show(t.ds++[Nd.of t i m d s0 e])[i]?=aa d;rw[VF (dY L)];exact L
  ·have e2:(t.ds++[Nd.of t i m d s0 e])[i]?=aa q:=O;rw[VF (dY L),L]at e2;cases e2;exact⟨th,v,a⟩
section
variable{T:FK->Option Fn}{G:az->Option W}{Pt:Pts}
def xu(P:TrP T G)(k:Nat)(p:Pg)(aF:List Int)(most e:Nat)(h:HH):
 runN T G (k+4) (.m "Tree" "__init__") [.o h.length,.p (dS p),.p (.aj (cX aF)),.p (.int most)] (h++[.o "Tree" []])=aa (.p .aC,h++[.o "Tree" (tfs (Tr.new p aF most e) (h.length+1) (h.length+5)),.l [.aC],.o "Branch" ((Tp.new p aF St.zero most).fs (h.length+4)),.l [St.zero.enc],.l [St.zero.enc],.b [h.length+2]]):=by
 rw[run_eq P.init rfl];have b:=tO P.tp.prg (k+2);have L:=rW P k p aF most St.zero (h++[.o "Tree" [("program",.p (dS p)),("asked",.p (.aj (cX aF))),("most",.p (.int most)),("origins",.r (h.length+1))],.l [.aC]]);have J:fin (h++[.o "Tree" []]) (.p .aC) (h++[.o "Tree" (tfs (Tr.new p aF most e) (h.length+1) (h.length+5)),.l [.aC],.o "Branch" ((Tp.new p aF St.zero most).fs (h.length+4)),.l [St.zero.enc],.l [St.zero.enc],.b [h.length+2]])=aa (.p .aC,h++[.o "Tree" (tfs (Tr.new p aF most e) (h.length+1) (h.length+5)),.l [.aC],.o "Branch" ((Tp.new p aF St.zero most).fs (h.length+4)),.l [St.zero.enc],.l [St.zero.enc],.b [h.length+2]]):=by refine lS h.length (by simp) ?_ _;simp[tfs]
 have fs:tfs (Tr.new p aF most e) (h.length+1) (h.length+5)=([("program",.p (dS p)),("asked",.p (.aj (cX aF))),("most",.p (.int most)),("origins",.r (h.length+1)),("branches",.r (h.length+5))]:List (az×W)):=rfl;rw[fs]at J⊢;rw[jb];simp only[dX,VX,Wx,VU,Wu];simp only[Wg,VU,Wu,WG,List.cons_append,Xo]at L;simp[b,L,J]
def Fp{p:Pg}{aF:List Int}{e:Nat}{h:HH}(U:Pg.ok p)(W:Ask aF)(Z:most<=100)(R:Run St.zero p aF most e)(Y:∀i c,Pt i=aa c->h[i]?=aa c):
 fz Pt (h++[.o "Tree" (tfs (Tr.new p aF most e) (h.length+1) (h.length+5)),.l [.aC],.o "Branch" ((Tp.new p aF St.zero most).fs (h.length+4)),.l [St.zero.enc],.l [St.zero.enc],.b [h.length+2]]) h.length (Tr.new p aF most e) (h.length+1) (h.length+5):=by
 refine⟨[(h.length+2,h.length+4,Tp.new p aF St.zero most)],⟨by simp[oat],by simp[lat,fu,Tr.new],by simp[bat],by simp[Tr.new],λi b d J L=>?_,by simp,by simp,λi c V=>?_⟩⟩
 ·have z:i=0:=by
   cases i with
   |zero=>rfl|succ i=>simp at J
  subst z;simp at J;subst J;simp[Tr.new]at L;subst L;exact⟨⟨by simp[oat],by simp[lat,Tp.new]⟩,yJ U W (qi.mono (by decide)) R (by lia),rfl,rfl⟩
 ·have e:=Y i c V;have O:=dY e;refine⟨by rw[VF O];exact e,by lia,by lia,by lia,λb J=>?_⟩;simp at J;subst J;exact⟨by show i≠h.length+2;lia,by show i≠h.length+4;lia⟩
end
section
variable{T:FK->Option Fn}{G:az->Option W}{Pt:Pts}{h:HH}{n:Nat}{t:Tr}{ro rb:Nat}{bs:List Bx}
def At.put{m:Nat}{st:St}(a:At m st){v:Int}(J:Wth v)(th:Th):At m (th.put st v):=by refine⟨Th.MG a.ok J th,?_,?_⟩;cases th<;>exact a.said;cases th<;>exact a.calls
def ptH(h1:HH)(t:Tr)(ro rb:Nat)(bs:List Bx)(x:Nd)(mo:Nat):HH :=
 (h1.set ro (Cl.l (fu t.ds++[x.org]))++[Cl.o "Branch" ((Tp.new t.p t.aF x.s0 mo).fs (h1.length+2)),Cl.l [St.zero.enc],Cl.l [x.s0.enc]]).set rb (Cl.b (bs.map (λb=>b.1)++[h1.length]))
def QC{h1:HH}(W:Wf t)(A:gM Pt h1 n t ro rb bs){x:Nd}{mo:Nat}(I:TI x.s0 (Tp.new t.p t.aF x.s0 mo) x.e 1):
 gM Pt (ptH h1 t ro rb bs x mo) n (t.add x) ro rb (bs++[(h1.length,h1.length+2,Tp.new t.p t.aF x.s0 mo)]):=by
 have hn:=iX A.ob;have Z:=gK A.og;have hrb:=uZ A.br;have T:n≠ro:=nX A.ob A.og;have S:rb≠n:=Av A.ob A.br;have R:rb≠ro:=Aw A.og A.br;have U:∀i,i<h1.length->i≠ro->i≠rb->(ptH h1 t ro rb bs x mo)[i]?=h1[i]?:=λi hi c1 c2=>by unfold ptH;rw[V1 (WI c2),VF (by rw[Ws];exact hi),V1 (WI c1)]
 have u:∀k,k<3->(ptH h1 t ro rb bs x mo)[h1.length+k]?=[Cl.o "Branch" ((Tp.new t.p t.aF x.s0 mo).fs (h1.length+2)),.l [St.zero.enc],.l [x.s0.enc]][k]?:=λk hk=>by unfold ptH;rw[V1 (by lia),V7 (by rw[Ws];lia),Ws];congr 1;lia
 have L:∀(j:Nat)(b:Bx),bs[j]?=aa b->b.1<h1.length/\b.2.1<h1.length/\b.1≠ro/\b.1≠rb/\b.2.1≠ro/\b.2.1≠rb:=λj b J=>by obtain⟨y,Y⟩:=jx (l:=t.ds) (by rw[←A.len];exact dY J);have V:=(A.tp j b y J Y).1;exact⟨iX V.ob,gK V.li,nX V.ob A.og,(Av V.ob A.br).symm,λz=>(List.nodup_cons.mp A.nd2).1 (by rw[←z];exact List.mem_map.mpr ⟨b,V0 J,rfl⟩),(Aw V.li A.br).symm⟩
 refine⟨(lR (U n hn T (WI S))).trans A.ob,?_,?_,by simp[Tr.add,A.len],λj b d J v=>?_,?_,?_,λj c f=>?_⟩
 ·unfold ptH;rw[nh (WI R),Al (by rw[Ws];exact Z),wY Z,KH];show aa (fu t.ds++[x.org])=aa (fu (t.ds++[x]));rw[xm W.l0]
 ·unfold ptH;rw[Iz (by simp;lia)];simp
 ·rcases V9 j bs.length with c|c
  ·rw[VF c]at J;have O:t.ds[j]?=aa d:=by have:(t.ds++[x])[j]?=aa d:=v;rw[VF (by rw[←A.len];exact c)]at this;exact this
   obtain⟨h,E,D,C⟩:=A.tp j b d J O;obtain⟨Q,P,N,M,K,H⟩:=L j b J;exact⟨⟨(lR (U _ Q N M)).trans h.ob,(lQ (U _ P K H)).trans h.li⟩,E,D,C⟩
  ·have je:j=bs.length:=by have:=dY J;simp at this;lia
   subst je;simp at J;have O:(t.ds++[x])[bs.length]?=aa d:=v;rw[A.len]at O;simp at O;subst J O;have B:=u 0 (by decide);have w:=u 2 (by decide);exact⟨⟨by unfold oat;rw[show h1.length=h1.length+0 from rfl,B];rfl,by unfold lat;rw[w];rfl⟩,I,rfl,rfl⟩
 ·rw[Yn];refine List.nodup_append.mpr ⟨A.nd1,by simp,λa g b J=>?_⟩;simp at J;subst J;obtain⟨y,Y,rfl⟩:=List.mem_map.mp g;obtain⟨j,f⟩:=Xd Y;have:=(L j y f).1;lia
 ·rw[Yn,←List.cons_append];refine List.nodup_append.mpr ⟨A.nd2,by simp,λa g b J=>?_⟩;simp at J;subst J;rcases List.mem_cons.mp g with z|z
  lia
  ·obtain⟨y,Y,rfl⟩:=List.mem_map.mp z;obtain⟨j,f⟩:=Xd Y;have:=(L j y f).2.1;lia
 ·obtain⟨s,G,r,m,F⟩:=A.pt j c f;have X:=dY s;refine⟨(U j X r m).trans s,G,r,m,λb J=>?_⟩;rcases List.mem_append.mp J with q|q
  exact F b q
  ·simp at q;subst q;exact⟨by show j≠h1.length;lia,by show j≠h1.length+2;lia⟩
def Fq(P:TrP T G)(W:Wf t)(A:gM Pt h n t ro rb bs)(k:Nat){i m:Nat}{d:Nd}(a:t.ds[i]?=aa d)(Z:m<=d.en)(th:Th){v:Int}(K:Wth v){e:Nat}(R:Run (th.put (d.f m) v) t.p t.aF (t.most-m) e):
 MK Pt (runN T G (k+13) (.m "Tree" "part") [.o n,.p (.int i),.p (.int m),.p th.enc,.p (.int v)] h) (.p (.int t.ds.length)) n (t.add (Nd.of t i m d (th.put (d.f m) v) e)) ro rb:=by
 obtain⟨O,X,⟨J,L⟩⟩:=qm P W A k a Z;have y:At m (d.f m):=W.at_ a Z;have ml:=Wa Z (W.xq a);have m1:=W.m1;have l1:=W.l1;have lb:=L.len;have I:TI (th.put (d.f m) v) (Tp.new t.p t.aF (th.put (d.f m) v) (t.most-m)) e 1:=yJ W.ok W.ask ((y.put K th).mono (by lia)) R (by lia);have U:=QC W L (x:=Nd.of t i m d (th.put (d.f m) v) e) (mo:=t.most-m) I;refine⟨_,?_,⟨_,U⟩⟩;have hn:=iX L.ob;have M:=gK L.og;have Y:=uZ L.br;have H:n≠ro:=nX L.ob L.og;have n2:rb≠n:=Av L.ob L.br;have F:rb≠ro:=Aw L.og L.br;have Q:=pQ P.tp P.th (k+9) th O;have D:(fu t.ds).length<100000:=by rw[jw W.l0];lia
 have E:oat (O.set ro (.l (fu t.ds++[.aB [.int i,.int m]]))) n=aa (VQ "Tree",tfs t ro rb):=(rO H _).trans L.ob;have r:bat (O.set ro (.l (fu t.ds++[.aB [.int i,.int m]]))) rb=aa (J.map (·.1)):=(yH F _).trans L.br;have N:(t.most:Int)-(m:Int)=((t.most-m:Nat):Int):=by lia
 have B:=rQ P.tp P.ld (k+9) y.ok th v (O.set ro (.l (fu t.ds++[.aB [.int i,.int m]])));have br:=rW P (k+9) t.p t.aF (t.most-m) (th.put (d.f m) v) (O.set ro (.l (fu t.ds++[.aB [.int i,.int m]])));rw[Ws]at br;have C:∀g:HH,bat (O.set ro (.l (fu t.ds++[.aB [.int i,.int m]]))++g) rb=aa (J.map (·.1)):=λg=>(IA (by rw[Ws];exact Y)).trans r;have bl:J.length<100000:=by lia
 have s:=U.ob;have c:=U.br;unfold ptH Nd.org Nd.of at s c;have u:∀w,fin h w (ptH O t ro rb J (Nd.of t i m d (th.put (d.f m) v) e) (t.most-m))=aa (w,ptH O t ro rb J (Nd.of t i m d (th.put (d.f m) v) e) (t.most-m)):=λw=>by refine lS ro (gK A.og) (λz=>?_) w;have q:=lQ z;rw[A.og,U.og]at q;have j:=bS Zj (VN q);rw[jw W.l0,jw (by simp[Tr.add])]at j;simp[Tr.add]at j
 unfold ptH Nd.org Nd.of at u;unfold ptH Nd.org Nd.of;have lc:((J.map (·.1)++[O.length]).length:Int)-1=(t.ds.length:Int):=by simp;lia
 rw[run_eq P.part rfl,jc];simp only[dX,VX,Wx,VU,Wu];have S:¬(100000<=J.length):=by lia
 have b:J.length+1<=100000:=by lia
 have V:(J.length:Int)=(t.ds.length:Int):=by lia
 simp only[Yn,VX,Wx]at c;simp[A.ob,X,Q,L.ob,L.og,rd,D,E,r,N,B,br,C,bl,b,s,c,V,u,mG]
end
structure TrQ(T:FK->Option Fn):Prop where
 parent:T (.m "Tree" "parent")=aa fk
 path:T (.m "Tree" "path")=aa fy
 children:T (.m "Tree" "children")=aa fh
inductive Pth(t:Tr):Nat->List Nat->Prop
 |zero:Pth t 0 [0]
 |step{i:Nat}{d:Nd}{l:List Nat}(J:t.ds[i]?=aa d)(hi:0<i)(r:Pth t d.par l):Pth t i (i::l)
theorem Wf.pth{t:Tr}(W:Wf t):∀(n i:Nat)(d:Nd),i<=n->t.ds[i]?=aa d->∃l,Pth t i l
 |n,i,d,hn,hd=>by
  rcases WV i with z|z
  subst z;exact⟨_,.zero⟩
  ·obtain⟨q,L,O,_⟩:=(W.each i d hd).par z;cases n with
   |zero=>lia
   |succ n =>
    obtain⟨l,J⟩:=W.pth n d.par q (by lia) L;exact⟨_,.step hd z J⟩
noncomputable def kids(t:Tr)(i:Nat):List Nat:=((V5 (t.ds.length-1)).map (·+1)).filter λj=>decide ((t.ds[j]?).map Nd.par=aa i)
section
variable{T:FK->Option Fn}{G:az->Option W}{Pt:Pts}{h:HH}{n:Nat}{t:Tr}{ro rb:Nat}{bs:List Bx}
def pS(i:Nat)(d:Nd):D:=if i=0 then .aC else d.org
def vc{i:Nat}{d:Nd}(J:t.ds[i]?=aa d):dI (.aj (fu t.ds)) (.int i)=aa (pS i d):=by
 unfold pS;rcases WV i with z|z
 subst z;rw[bK rfl,d8,fY];rfl;rw[bL (by lia)];exact rT J z
def yK(P:TrP T G)(Q:TrQ T)(W:Wf t)(A:gM Pt h n t ro rb bs)(k:Nat){i:Nat}{d:Nd}(J:t.ds[i]?=aa d):runN T G (k+3) (.m "Tree" "parent") [.o n,.p (.int i)] h=aa (.p (pS i d),h):=by rw[run_eq Q.parent rfl];have L:=fC P W A k (dY J);simp[-d8,fk,A.ob,L,A.og,rd,vc J,c5]
def oW(h:HH)(xs:List D):lat (h++[.l xs]) h.length=aa xs:=by simp[lat]
def MM(h:HH)(c c':Cl):(h++[c]).set h.length c'=h++[c']:=by simp
def vd(xs:List D)(d:D):dI (.aj (xs++[d])) (.int (-1))=aa d:=by
 rw[d8];show((place (xs++[d]).length (-1)).bind λj=>(xs++[d])[j]?)=aa d;have:place (xs++[d]).length (-1)=aa xs.length:=by unfold place;rw[bL (by decide),bK (by simp;lia)];congr 1;simp;lia
 rw[this];simp
def IC(P:TrP T G)(m:Wf t)(A:gM Pt h n t ro rb bs)(F:FK->List W->HH->Option (W×HH))(J:W){i:Nat}{l:List Nat}(k:Pth t i l):∀(pre:List Nat)(f:Nat),pre.length+i+1<=1000->i<=f →
 eU (aK F G ptC) (evS F G ptB) (f+1) [aa (.o n),aa J,aa (.r h.length)] (h++[.l (cZ (pre++[i]))])=aa (.nx [aa (.o n),aa J,aa (.r h.length)] (h++[.l (cZ (pre++l))])):=by
 have ob:∀g,oat (h++g) n=aa (VQ "Tree",tfs t ro rb):=λg=>(Am (iX A.ob)).trans A.ob;have og:∀g,lat (h++g) ro=aa (fu t.ds):=λg=>(Al (gK A.og)).trans A.og;have tst:∀(pre:List Nat)(i:Nat),aK F G ptC [aa (.o n),aa J,aa (.r h.length)] (h++[.l (cZ (pre++[i]))])=aa (.p (.bl (!decide (i=0))),h++[.l (cZ (pre++[i]))]):=λpre i=>by
  have e:cZ (pre++[i])=cZ pre++[.int i]:=by simp[cZ]
  rw[e]
  by_cases z:i=0
  ·subst z;simp[-d8,ptC,rd,oW,vd]
  ·have Y:¬(i:Int)=0:=by lia
   simp[-d8,ptC,rd,oW,vd,z,Y]
 induction k with
 |zero =>
  intro pre f _ _;rw[eU,tst];rfl
 |@step i d l V U r j =>
  intro pre f s u;obtain⟨_,_,v,_⟩:=(m.each _ _ V).par U;have q:=tst pre i;rw[show(!decide (i=0))=ah by simp;lia]at q;have e:cZ (pre++[i])=cZ pre++[.int i]:=by simp[cZ]
  have b:evS F G ptB [aa (.o n),aa J,aa (.r h.length)] (h++[.l (cZ (pre++[i]))])=aa (.nx [aa (.o n),aa J,aa (.r h.length)] (h++[.l (cZ ((pre++[i])++[d.par]))])):=by
   have e2:cZ ((pre++[i])++[d.par])=cZ pre++[.int i]++[.int d.par]:=by simp[cZ]
   have ix2:dI d.org (.int 0)=aa (.int d.par):=rfl;have Z:(cZ pre++[D.int i]).length<100000:=by simp[cZ];lia
   have L:dI (.aj (fu t.ds)) (.int i)=aa d.org:=rT V U;have c:mG (.r h.length) (h++[.l (cZ pre++[.int i])])=ah:=by simp[mG,oW]
   rw[e,e2];have a:meW .append (.r h.length) [.p (.int d.par)] (h++[.l (cZ pre++[.int i])])=aa (.p .aC,h++[.l (cZ pre++[.int i]++[.int d.par])]):=by rw[jj,oW];show(if(cZ pre++[D.int i]).length<lim then _ else af)=_;rw[bK (show _<lim from Z),MM]
   simp[-d8,-eV,-jj,ptB,ob,og,rd,oW,vd,L,ix2,kMe,c,a]
  cases f with
  |zero=>lia
  |succ f =>
   have O:=j (pre++[i]) f (by simp;lia) (by lia);rw[eU,q,gF,kq,b,fU,O];simp
def B8(xs:List D):o9 (-1) xs=xs.reverse:=by unfold o9;rw[PySem.W.krv_bounds];show(YZ ((xs.length:Int)-1) (-1) (-1)).filterMap (λi=>xs[i]?)=_;rw[PySem.W.krv_sliceRange,PySem.W.krv_range,List.filterMap_reverse];have:=PySem.W.krv_all xs.toArray;simp only[VM,List.getElem?_toArray]at this;rw[this]
def B9(P:TrP T G)(V:T (.m "Tree" "path")=aa fy)(J:Wf t)(A:gM Pt h n t ro rb bs)(k:Nat){i:Nat}{l:List Nat}(hi:i<t.ds.length)(U:Pth t i l):runN T G (k+3) (.m "Tree" "path") [.o n,.p (.int i)] h=aa (.p (.aj (cZ l.reverse)),h):=by
 rw[run_eq V rfl];have W:=fC P J A k hi;have l1:=J.l1;have L:=IC P J A (runN T G (k+2)) (.p (.int i)) U [] 99999 (by simp;lia) (by lia);have e1:cZ ([]++[i])=[.int i]:=rfl;rw[e1,Xo]at L;have f:=j8 h [.l (cZ l)] (.aj (cZ l.reverse));have O:o9 (-1) (cZ l)=cZ l.reverse:=by rw[B8];simp[cZ]
 rw[fy];simp only[dX,VX,Wx,VU,Wu];simp[A.ob,W,turns,L,rd,oW,O,f]
def Ft(P:TrP T G)(Q:TrQ T)(L:Wf t)(A:gM Pt h n t ro rb bs)(k:Nat){i:Nat}{l:List Nat}(hi:i<t.ds.length)(J:Pth t i l):runN T G (k+3) (.m "Tree" "path") [.o n,.p (.int i)] h=aa (.p (.aj (cZ l.reverse)),h):=B9 P Q.path L A k hi J
def n9(P:TrP T G)(Q:TrQ T)(L:Wf t)(A:gM Pt h n t ro rb bs)(k:Nat){i:Nat}(hi:i<t.ds.length):runN T G (k+3) (.m "Tree" "children") [.o n,.p (.int i)] h=aa (.p (.aj (cZ (kids t i))),h):=by
 rw[run_eq Q.children rfl];have g:=fC P L A k hi;have l1:=L.l1;have O:=jw L.l0;have Z:gc .rng2 [.int 1,.int ((fu t.ds).length:Int)]=aa (upto 1 (t.ds.length-1)):=by
  rw[oH,O];have c:((-100000<=(1:Int):Bool)&&((1:Int)<=100000:Bool)&&((-100000<=(t.ds.length:Int):Bool))&&(((t.ds.length:Int)<=100000:Bool)))=ah:=by simp only[VH,bN];lia
  rw[bK c];congr 2;lia
 have ct:∀(j:Nat)(d:Nd),t.ds[j+1]?=aa d->aK (runN T G (k+2)) G cnC [aa (.p (.int ((1:Int)+(j:Int)))),aa (.o n),aa (.p (.int i))] h=aa (.p (.bl (decide (d.par=i))),h):=λj d J=>by
  have ix:=rT J (Nat.succ_pos _);rw[show((j+1:Nat):Int)=1+(j:Int) by lia]at ix;have ix2:dI d.org (.int 0)=aa (.int d.par):=rfl;have q:((d.par:Int)==(i:Int))=decide (d.par=i):=by
   by_cases z:d.par=i
   rw[z];simp
   ·have:¬(d.par:Int)=(i:Int):=by lia
    simp[z,this]
  simp[-d8,-eV,cnC,A.ob,A.og,rd,ix,ix2,q]
 have f:eW (fO (evs (runN T G (k+2)) G (.cons cnC .nil)) (aK (runN T G (k+2)) G (.v 0)) [aa (.o n),aa (.p (.int i))]) 1 (upto 1 (t.ds.length-1)) h=aa (cZ (kids t i),h):=by
  have e:cZ (kids t i)=(V5 (t.ds.length-1)).filterMap λj=>if decide ((t.ds[j+1]?).map Nd.par=aa i)=ah then aa (D.int (((j+1:Nat):Int)))else af:=by
   unfold kids cZ
   induction V5 (t.ds.length-1)with
   |nil=>rfl
   |cons a r U =>
    rw[VX,List.filter_cons,Wl]
    by_cases z:(t.ds[a+1]?).map Nd.par=aa i
    ·simp only[z,decide_true,if_true,VX];rw[U]
    ·simp only[z,decide_false,if_false,abj];rw[U]
  rw[e];refine yF _ (λ(k:Nat)=>D.int (1+(k:Int))) _ h (V5 (t.ds.length-1)) λj b=>?_;have s:=List.mem_range.mp b;obtain⟨d,J⟩:=jx (l:=t.ds) (i:=j+1) (by lia);have c:=ct j d J;have Y:([D.int ((1:Int)+(j:Int))].map fT++[aa (.o n),aa (.p (.int i))]:Sl)=[aa (.p (.int ((1:Int)+(j:Int)))),aa (.o n),aa (.p (.int i))]:=rfl;unfold fO;rw[Y,J,show((j+1:Nat):Int)=1+(j:Int) by lia]
  by_cases q:d.par=i
  ·rw[bP q]at c;simp[evs,c,q]
  ·rw[bO q]at c;simp[evs,c,q]
 have cl:(cZ (kids t i)).length<=100000:=by unfold kids cZ;rw[V8];have:=aaH (λj=>decide ((t.ds[j]?).map Nd.par=aa i)) ((V5 (t.ds.length-1)).map (·+1));rw[V8,ZE]at this;lia
 have ce:aK (runN T G (k+2)) G (.comp ai .rng2 (.cons (.j (.int 1)) (.cons (.bi .len ai (.cons (.i (.v 0) "origins") .nil)) .nil)) ["child"] [(0,"self"),(1,"run")] (.cons cnC .nil) (.v 0)) [aa (.o n),aa (.p (.int i))] h=aa (.p (.aj (cZ (kids t i))),h):=by
  refine qk (ws:=[.p (.int 1),.p (.int ((fu t.ds).length:Int))]) (h1:=h) ?_ ?_ rfl rfl f cl
  ·have:(fu t.ds).length<=100000:=by rw[O];lia
   simp[A.ob,A.og,rd]
  simp[-oH,rds,rd,Z]
 have W:evS (runN T G (k+2)) G (.ex (.aE (.v 0) "check_run" (.cons (.v 1) .nil))) [aa (.o n),aa (.p (.int i))] h=aa (.nx [aa (.o n),aa (.p (.int i))] h):=by simp[A.ob,g]
 have V:=(dM W).trans (kK ce);show iW (evS (runN T G (k+2)) G (.seq _ _) [aa (.o n),aa (.p (.int i))] h) (fin h)=_;rw[V,nI,c5]
end
noncomputable def fiN(t:Tr)(i:Nat):Nat:=match t.ds[i]? with
 |some d=>d.fi|none=>0
def alone(t:Tr)(rs:List Nat):List Nat:=(rs.filter λr=>decide (rs.count r=1)).map (fiN t)
section
variable{T:FK->Option Fn}{G:az->Option W}{Pt:Pts}{h:HH}{n:Nat}{t:Tr}{ro rb:Nat}
@[simp]theorem NU(t:Tr)(ro rb:Nat):eN "shared" (tfs t ro rb)=af:=gh t ro rb rfl
@[simp]theorem Sn(t:Tr)(ro rb:Nat):eN "ends_with" (tfs t ro rb)=af:=gh t ro rb rfl
end
def iR(d:Nd):List St:=(V5 (d.en+1)).map d.f
def fH(d:Nd):D:=.aj ((iR d).map St.enc)
section
variable{T:FK->Option Fn}{G:az->Option W}{Pt:Pts}{h:HH}{n:Nat}{t:Tr}{ro rb:Nat}
def oj(d:Nd):(iR d).length=d.en+1:=by simp[iR]
def yL(d:Nd){m:Nat}(h:m<=d.en):(iR d)[m]?=aa (d.f m):=by rw[iR,VY,Yo (by lia)];rfl
def Fv(d:Nd){m:Nat}(h:m<=d.en):dI (fH d) (.int m)=aa (d.f m).enc:=by unfold fH;rw[d8,fY,VY,yL d h];rfl
end
structure SmT(t t':Tr):Prop where
 p:t'.p=t.p
 aF:t'.aF=t.aF
 most:t'.most=t.most
def SmT.refl(t:Tr):SmT t t:=⟨rfl,rfl,rfl⟩
def SmT.trans{t u v:Tr}(x:SmT t u)(y:SmT u v):SmT t v:=⟨y.p.trans x.p,y.aF.trans x.aF,y.most.trans x.most⟩
section
variable{T:FK->Option Fn}{G:az->Option W}{Pt:Pts}{n:Nat}{ro rb:Nat}
def ID(j r:Nat):upto (j:Int) (r+1)=.int (j:Int)::upto ((j+1:Nat):Int) r:=by unfold upto;rw[XZ,VX,ZN];simp only[Int.natCast_zero,Int.add_zero,X9,true_and];apply Ym;intro i _;simp;lia
end
def IE(d:Nd):dok 100 (fH d)=ah:=Aj (iR d)
def MN(d:Nd):iB .ne (fH d) (fH d)=aa ai:=ne_self (IE d)
section
variable{T:FK->Option Fn}{G:az->Option W}{Pt:Pts}{n:Nat}{ro rb:Nat}
def pH{F:FK->List W->HH->Option (W×HH)}{c:E}{a:S}{s:Sl}{h g:HH}(h1:aK F G c s h=aa (.p (.bl ai),g)):evS F G (.v c a .nil) s h=aa (.nx s g):=by simp[h1]
def JN{F:FK->List W->HH->Option (W×HH)}{c:E}{a b:S}{s:Sl}{h g:HH}(h1:aK F G c s h=aa (.p (.bl ah),g)):evS F G (.v c a b) s h=evS F G a s g:=by simp[h1]
end
section
variable{T:FK->Option Fn}{G:az->Option W}{Pt:Pts}{n:Nat}{ro rb:Nat}{t:Tr}
end
def fz.keep{Pt U:Pts}{h h':HH}{n:Nat}{t:Tr}{ro rb:Nat}(A:fz Pt h n t ro rb)(O:∀i,i<h.length->Pt i=af->h'[i]?=h[i]?)
(u:∀i c,U i=aa c->h'[i]?=aa c/\(h.length<=i\/Pt i≠af)):fz U h' n t ro rb:=by
 obtain⟨bs,A⟩:=A;have hn:=iX A.ob;have Y:=gK A.og;have Z:=uZ A.br;have bl:∀(b:Bx),b∈bs->b.1<h.length/\b.2.1<h.length:=λb J=>by obtain⟨j,m⟩:=Xd J;obtain⟨y,s⟩:=jx (l:=t.ds) (by rw[←A.len];exact dY m);have g:=(A.tp j b y m s).1;exact⟨iX g.ob,gK g.li⟩
 have L:∀i,(i=n\/i=ro\/i=rb\/∃b∈bs,i=b.1\/i=b.2.1)->Pt i=af:=λi a=>by
  cases z:Pt i with
  |none=>rfl
  |some c =>
   obtain⟨_,V,W,o,k⟩:=A.pt i c z;rcases a with w|w|w|⟨b,J,w|w⟩
   exact bM w V;exact bM w W;exact bM w o;exact bM w (k b J).1;exact bM w (k b J).2
 refine⟨bs,⟨(lR (O n hn (L n (.inl rfl)))).trans A.ob,(lQ (O ro Y (L ro (.inr (.inl rfl))))).trans A.og,(yG (O rb Z (L rb (.inr (.inr (.inl rfl)))))).trans A.br,A.len,λi b d J v=>?_,A.nd1,A.nd2,λi c a=>?_⟩⟩
 ·obtain⟨V,W⟩:=A.tp i b d J v;have f:=V0 J;obtain⟨r,p⟩:=bl b f;exact⟨⟨(lR (O _ r (L _ (.inr (.inr (.inr ⟨b,f,.inl rfl⟩)))))).trans V.ob,(lQ (O _ p (L _ (.inr (.inr (.inr ⟨b,f,.inr rfl⟩)))))).trans V.li⟩,W⟩
 ·obtain⟨e,q⟩:=u i c a;refine⟨e,?_⟩;rcases q with z|z
  exact⟨by lia,by lia,by lia,λb J=>by have:=bl b J;lia⟩
  ·cases w:Pt i with
   |none=>exact bM w z|some x=>exact(A.pt i x w).2
noncomputable def pt0:Pts:=λ_=>af
noncomputable def pt1(q:Nat)(c:Cl):Pts:=λi=>if i=q then aa c else af
def fz.cell{Pt:Pts}{h:HH}{n:Nat}{t:Tr}{ro rb q:Nat}{c:Cl}(A:fz (pt1 q c) h n t ro rb):h[q]?=aa c:=by obtain⟨bs,A⟩:=A;exact(A.pt q c (bK rfl)).1
def fnd(d:Nd)(m:Nat):D:=if m<=d.en then(d.f m).enc else .aC
section
variable{T:FK->Option Fn}{G:az->Option W}{Pt:Pts}{n:Nat}{t:Tr}{ro rb:Nat}
@[simp]theorem QD(t:Tr)(ro rb:Nat):eN "apart" (tfs t ro rb)=af:=gh t ro rb rfl
@[simp]theorem QE(t:Tr)(ro rb:Nat):eN "found" (tfs t ro rb)=af:=gh t ro rb rfl
end
def fo(d:Nd)(m:Nat):Option St:=if m<=d.en then aa (d.f m)else af
def JO{d:Nd}{m:Nat}(h:m<=d.en):fo d m=aa (d.f m):=bK h
def QF{d:Nd}{m:Nat}(h:d.en<m):fo d m=af:=bL (by lia)
section
variable{t:Tr}
end
noncomputable def yM:S:=(.rai2 "NoMoment" (.v 1) (.v 2))
def jN:E:=(.aE (.v 4) "has" (cV (.v 5)))
def iS:Fn:=⟨["self","run","moment"],["self","run","moment","holder","branch","number"], (.seq (.ex (.aE (.v 0) "check_run" (cV (.v 1)))) (.seq (.set 3 (.aE (.v 0) "holder" (cU (.v 1) (.v 2)))) (.seq (.set 4 (.obi (.i (.v 0) "branches") (.v 3))) (.seq (.set 5 (.bin .sub (.v 2) (.aE (.v 0) "first" (cV (.v 3))))) (.seq (.v (.not jN) yM .nil) .bad)))))⟩
section
variable{T TX:FK->Option Fn}{G:az->Option W}{Pt:Pts}{h:HH}{n:Nat}{t:Tr}{ro rb:Nat}{bs:List Bx}
def yN{c:az}{s0:St}(P:TpP c T G)(k:Nat){n r:Nat}{t:Tp}{h:HH}(a:TAt c h n r t)(m:Nat)(O:t.most<m):
 runN T G (k+9) (.m c "has") [.o n,.p (.int m)] h=aa (.p (.bl ai),h):=by
 rw[run_eq P.has rfl];have w:=gf P (k+7) m;have L:¬((m:Int)<0):=by lia
 have J:(t.most:Int)<(m:Int):=by lia
 simp[gS,w,L,a.ob,J,c5]
def kX(P:TrP T G)(W:Wf t)(A:gM Pt h n t ro rb bs)(k m:Nat){i:Nat}{d:Nd}(J:t.ds[i]?=aa d)(L:d.fi<=m):
 runN T G (k+2) (.m "Tree" "holder") [.o n,.p (.int i),.p (.int m)] h=aa (.p (.int i),h):=by
 have q:=u6 P W A k (m:=m) J;rw[bO (by lia)]at q;have e1:eU (aK (runN T G (k+1)) G hdC) (evS (runN T G (k+1)) G hdB) (99999+1) [aa (.o n),aa (.p (.int i)),aa (.p (.int m))] h=aa (.nx [aa (.o n),aa (.p (.int i)),aa (.p (.int m))] h):=by rw[eU,q,gF,lA]
 rw[run_eq P.holder rfl];simp[fQ,turns,e1,c5]
def Fw(P:TrP T G)(W:Wf t)(A:gM Pt h n t ro rb bs)(k:Nat){i m:Nat}{d:Nd}(J:t.ds[i]?=aa d)(Z:d.en<m):
 ∃(b:Bx) (h1:HH),bs[i]?=aa b/\fz Pt h1 n t ro rb ∧
  aK (runN T G (k+11)) G jN [aa (.o n),aa (.p (.int i)),aa (.p (.int m)),aa (.p (.int i)),aa (.o b.1),aa (.p (.int ((m-d.fi:Nat):Int)))] h=aa (.p (.bl ai),h1) ∧
  ∀ x:S,evS (runN T G (k+11)) G (.seq (.ex (.aE (.v 0) "check_run" (.cons (.v 1) .nil)))
   (.seq (.set 3 (.aE (.v 0) "holder" (.cons (.v 1) (.cons (.v 2) .nil))))
   (.seq (.set 4 (.obi (.i (.v 0) "branches") (.v 3)))
   (.seq (.set 5 (.bin .sub (.v 2) (.aE (.v 0) "first" (.cons (.v 3) .nil)))) x)))) [aa (.o n),aa (.p (.int i)),aa (.p (.int m)),af,af,af] h=evS (runN T G (k+11)) G x [aa (.o n),aa (.p (.int i)),aa (.p (.int m)),aa (.p (.int i)),aa (.o b.1),aa (.p (.int ((m - d.fi:Nat):Int)))] h:=by
 have Y:=dY J;have w:d.fi<=m:=by unfold Nd.en at Z;lia
 have e1:=kX P W A (k+9) m J w;have B:=fC P W A (k+9) Y;obtain⟨b,L⟩:=jx (l:=bs) (by rw[A.len];exact Y);obtain⟨U,q,tp,E⟩:=A.tp i b d L J;have y:=iH P W A (k+10) J;have s:d.e<m-d.fi:=by unfold Nd.en at Z;lia
 have V:∃h1,runN T G (k+11) (.m "Branch" "has") [.o b.1,.p (.int ((m-d.fi:Nat):Int))] h=aa (.p (.bl ai),h1)/\fz Pt h1 n t ro rb:=by
  by_cases c:m-d.fi<=b.2.2.most
  ·obtain⟨h1,H,F,O,u,C,r,_⟩:=uY P.tp (k+2) U q (m-d.fi) c;rw[bO (by lia)]at O;exact⟨h1,O,_,A.step L J u C r⟩
  exact⟨h,yN (s0:=d.s0) P.tp (k+2) U (m-d.fi) (by lia),_,A⟩
 obtain⟨h1,O,D⟩:=V;have z:(m:Int)-(d.fi:Int)=((m-d.fi:Nat):Int):=by lia
 have ix:=rV A L;refine⟨b,h1,L,D,?_,λx=>?_⟩;simp[jN,U.ob,Ao,O]
 ·have j:evS (runN T G (k+11)) G (.ex (.aE (.v 0) "check_run" (.cons (.v 1) .nil))) [aa (.o n),aa (.p (.int i)),aa (.p (.int m)),af,af,af] h=aa (.nx [aa (.o n),aa (.p (.int i)),aa (.p (.int m)),af,af,af] h):=by simp[A.ob,B]
  have g:aK (runN T G (k+11)) G (.aE (.v 0) "holder" (.cons (.v 1) (.cons (.v 2) .nil))) [aa (.o n),aa (.p (.int i)),aa (.p (.int m)),af,af,af] h=aa (.p (.int i),h):=by simp[A.ob,e1]
  have f:aK (runN T G (k+11)) G (.obi (.i (.v 0) "branches") (.v 3)) [aa (.o n),aa (.p (.int i)),aa (.p (.int m)),aa (.p (.int i)),af,af] h=aa (.o b.1,h):=by simp[-atP,A.ob,A.br,ix]
  have a:aK (runN T G (k+11)) G (.bin .sub (.v 2) (.aE (.v 0) "first" (.cons (.v 3) .nil))) [aa (.o n),aa (.p (.int i)),aa (.p (.int m)),aa (.p (.int i)),aa (.o b.1),af] h=aa (.p (.int ((m-d.fi:Nat):Int)),h):=by simp[A.ob,y,rd,z]
  exact(dM j).trans ((dG g).trans ((dG f).trans (dG a)))
def IF(P:TrP T G)(W:Wf t)(A:gM Pt h n t ro rb bs)(k:Nat){i m:Nat}{d:Nd}(L:t.ds[i]?=aa d)(J:d.en<m):
 runN T G (k+12) (.m "Tree" "at") [.o n,.p (.int i),.p (.int m)] h=af:=by
 obtain⟨b,U,O,V,e1,e2⟩:=Fw P W A k L J;rw[run_eq P.at_ rfl];have:=e2 (.seq (.v (.not jN) .bad .nil) (.ret (.aE (.v 4) "at" (.cons (.v 5) .nil))));show iW (evS (runN T G (k+11)) G (.seq _ _) [aa (.o n),aa (.p (.int i)),aa (.p (.int m)),af,af,af] h) (fin h)=af;refine(bS (λx=>iW x (fin h)) this).trans ?_;simp[e1]
def ve{F:FK->List W->HH->Option (W×HH)}{R:XF}{D:az->Bool}{a b:S}{s s':Sl}{h g:HH}(e:evS F G a s h=aa (.nx s' g)):rsS F R D G (.seq a b) s h=rsS F R D G b s' g:=by rw[xs2,e]
def nj{F:FK->List W->HH->Option (W×HH)}{R:XF}{D:az->Bool}{e:E}{b:S}{i:Nat}{s:Sl}{h g:HH}{w:W}(e1:aK F G e s h=aa (w,g)):rsS F R D G (.seq (.set i e) b) s h=rsS F R D G b (s.set i (aa w)) g:=ve (by simp[e1])
def Fx(P:TrP T G)(l:TX (.m "Tree" "at")=aa iS)(W:Wf t)(A:gM Pt h n t ro rb bs)(k:Nat){i m:Nat}{d:Nd}(J:t.ds[i]?=aa d)(O:d.en<m)(E:m<=1000):
 ∃h1,gu T TX G (k+12) (.m "Tree" "at") [.o n,.p (.int i),.p (.int m)] h=aa (VQ "NoMoment",h1)/\fz Pt h1 n t ro rb:=by
 have j:=dY J;have l1:=W.l1;have q:d.fi<=m:=by unfold Nd.en at O;lia
 have e1:=kX P W A (k+9) m J q;have u:=fC P W A (k+9) j;obtain⟨b,h1,L,y,e2,_⟩:=Fw P W A k J O;obtain⟨C,B,tp,z⟩:=A.tp i b d L J;have r:=iH P W A (k+10) J;have s:(m:Int)-(d.fi:Int)=((m-d.fi:Nat):Int):=by lia
 have ix:=rV A L;refine⟨h1,?_,y⟩;rw[kH l rfl];show rsS (runN T G (k+11)) (gu T TX G (k+11)) (dk T) G (.seq _ _) [aa (.o n),aa (.p (.int i)),aa (.p (.int m)),af,af,af] h=_;have f:evS (runN T G (k+11)) G (.ex (.aE (.v 0) "check_run" (.cons (.v 1) .nil))) [aa (.o n),aa (.p (.int i)),aa (.p (.int m)),af,af,af] h=aa (.nx [aa (.o n),aa (.p (.int i)),aa (.p (.int m)),af,af,af] h):=by simp[A.ob,u]
 have e:aK (runN T G (k+11)) G (.aE (.v 0) "holder" (.cons (.v 1) (.cons (.v 2) .nil))) [aa (.o n),aa (.p (.int i)),aa (.p (.int m)),af,af,af] h=aa (.p (.int i),h):=by simp[A.ob,e1]
 have c:aK (runN T G (k+11)) G (.obi (.i (.v 0) "branches") (.v 3)) [aa (.o n),aa (.p (.int i)),aa (.p (.int m)),aa (.p (.int i)),af,af] h=aa (.o b.1,h):=by simp[-atP,A.ob,A.br,ix]
 have Z:aK (runN T G (k+11)) G (.bin .sub (.v 2) (.aE (.v 0) "first" (.cons (.v 3) .nil))) [aa (.o n),aa (.p (.int i)),aa (.p (.int m)),aa (.p (.int i)),aa (.o b.1),af] h=aa (.p (.int ((m-d.fi:Nat):Int)),h):=by simp[A.ob,r,rd,s]
 have x:big (i:Int)=ah:=by unfold big;exact bP (by lia)
 have w:big (m:Int)=ah:=by unfold big;exact bP (by lia)
 have Y:aK (runN T G (k+11)) G (.not jN) [aa (.o n),aa (.p (.int i)),aa (.p (.int m)),aa (.p (.int i)),aa (.o b.1),aa (.p (.int ((m-d.fi:Nat):Int)))] h=aa (.p (.bl ah),h1):=by simp[e2]
 have V:rsS (runN T G (k+11)) (gu T TX G (k+11)) (dk T) G (.v (.not jN) yM .nil) [aa (.o n),aa (.p (.int i)),aa (.p (.int m)),aa (.p (.int i)),aa (.o b.1),aa (.p (.int ((m-d.fi:Nat):Int)))] h=aa (VQ "NoMoment",h1):=by have g:∀a b,rsI (aa (aM.p (D.bl ah),h1)) a b=a h1:=λ_ _=>rfl;rw[xs3,Y,g];unfold yM;rw[xsR];simp[x,w]
 rw[ve f,nj e];show rsS _ _ _ G (.seq (.set 4 _) _) [aa (.o n),aa (.p (.int i)),aa (.p (.int m)),aa (.p (.int i)),af,af] h=_;rw[nj c];show rsS _ _ _ G (.seq (.set 5 _) _) [aa (.o n),aa (.p (.int i)),aa (.p (.int m)),aa (.p (.int i)),aa (.o b.1),af] h=_;rw[nj Z];show rsS _ _ _ G (.seq _ .bad) [aa (.o n),aa (.p (.int i)),aa (.p (.int m)),aa (.p (.int i)),aa (.o b.1),aa (.p (.int ((m-d.fi:Nat):Int)))] h=_;have U:evS (runN T G (k+11)) G (.v (.not jN) yM .nil) [aa (.o n),aa (.p (.int i)),aa (.p (.int m)),aa (.p (.int i)),aa (.o b.1),aa (.p (.int ((m-d.fi:Nat):Int)))] h=af:=by simp[e2,yM]
 rw[xs2,U];exact V
end
section
variable{T:FK->Option Fn}{G:az->Option W}{Pt:Pts}{n:Nat}{ro rb:Nat}{t:Tr}
def fM{F:FK->List W->HH->Option (W×HH)}{o:Cm}{a b:E}{s:Sl}{h g:HH}{x y:D}{v:Bool}(h1:aK F G a s h=aa (.p x,g))(h2:aK F G b s g=aa (.p y,g2))(hc:iB o x y=aa v):aK F G (.z o a b) s h=aa (.p (.bl v),g2):=by simp[h1,h2,rd,hc]
def QG{rs:List Nat}{a x:Nat}(h:rs[a]?=aa x):dI (.aj (cZ rs)) (.int (a:Int))=aa (.int (x:Int)):=by rw[d8,fY,cZ,VY,h];rfl
end
def JP(a b:Nat):eqv (.int (a:Int)) (.int (b:Int))=decide (a=b):=by
 by_cases z:a=b
 subst z;rw[lP];simp
 ·have:¬(a:Int)=(b:Int):=by lia
  simp[z,this]
section
variable{T:FK->Option Fn}{G:az->Option W}{Pt:Pts}{n:Nat}{ro rb:Nat}{t:Tr}
def MO{F:FK->List W->HH->Option (W×HH)}{a b:E}{s:Sl}{h g:HH}(h1:aK F G a s h=aa (.p (.bl ai),g)):aK F G (.and a b) s h=aa (.p (.bl ai),g):=by simp[h1]
def Fy{F:FK->List W->HH->Option (W×HH)}{a b:E}{s:Sl}{h g:HH}{v:Bool}(h1:aK F G a s h=aa (.p (.bl ah),g))(h2:aK F G b s g=aa (.p (.bl v),g2)):aK F G (.and a b) s h=aa (.p (.bl v),g2):=by simp[h1,h2]
def om{F:FK->List W->HH->Option (W×HH)}{a b:E}{s:Sl}{h g:HH}{x y z:D}(h1:aK F G a s h=aa (.p x,g))(h2:aK F G b s g=aa (.p y,g2))(hc:dI x y=aa z):aK F G (.y a b) s h=aa (.p z,g2):=by simp[-d8,-eV,h1,h2,rd,hc]
end
section
variable{t:Tr}
end
def MP(d:Nd)(q:Nat):(iR d)[q]?=fo d q:=by
 unfold fo
 by_cases c:q<=d.en
 rw[bK c];exact yL d c;rw[bL c];exact VP (by rw[oj];lia)
def Fz(n d m:Nat):clip n d (aa (m:Int))=min m n:=by
 have:¬((m:Int)<0):=by lia
 simp[clip,this];split<;>lia
def MQ(xs:List D)(m:Nat):cut xs af (aa (m:Int))=xs.take m:=by unfold cut;rw[Fz];show(xs.drop 0).take (min m xs.length-0)=_;rw[YA,Nat.sub_zero,List.take_eq_take_iff];lia
def MR(d:Nd)(m:Nat):qG (fH d) af (aa (m:Int))=aa (.aj (((iR d).take m).map St.enc)):=by unfold fH;rw[C8,MQ,List.map_take]
section
variable{G:az->Option W}{F:FK->List W->HH->Option (W×HH)}{s:Sl}{h g:HH}
def vr{i:Nat}{w:W}(h1:s[i]?=aa (aa w)):aK F G (.v i) s h=aa (w,h):=by simp[h1]
def QH{a b:E}{x y:D}{m:Int}(L:aK F G a s h=aa (.p x,h))(J:aK F G b s h=aa (.p (.int m),h))(hc:qG x af (aa m)=aa y):aK F G (.n a .nil (.cons b .nil)) s h=aa (.p y,h):=by simp[-C8,-qO,L,J,rd,hc]
end
def crC:E:=(.or (.not (.call "is_whole" (cV (.v 1)))) (.or (.z .lt (.v 1) (.j (.int 0))) (.z .ge (.v 1) (.obn (.i (.v 0) "branches")))))
def jd:Fn:=⟨["self","run"],["self","run"],(.v crC (.rai "NoRun" (.v 1)) .nil)⟩
def crX:S:=.ex (.aE (.v 0) "check_run" (cV (.v 1)))
def fxc(fn:Fn):Fn:=⟨fn.ps,fn.ns,.seq crX .bad⟩
def xw:E:=(.aE (.v 0) "at" (cU (.v 1) (.v 2)))
def jf:Fn:=⟨["self","run","moment","thing","worth"],["self","run","moment","thing","worth","state"], (.seq (.set 5 xw) (.seq (.ex (.call "check_thing" (cV (.v 3)))) .bad))⟩
def ctC:E:=(.and (.not (.call "is_name" (cV (.v 0)))) (.not (.call "is_cell" (cV (.v 0)))))
def iy:Fn:=⟨["thing"],["thing"],(.v ctC (.rai "NoThing" (.v 0)) .nil)⟩
structure TrX(TX:FK->Option Fn):Prop where
 cr:TX (.m "Tree" "check_run")=aa jd
 at_:TX (.m "Tree" "at")=aa iS
 end_:TX (.m "Tree" "end")=aa (fxc fS)
 parent:TX (.m "Tree" "parent")=aa (fxc fk)
 path:TX (.m "Tree" "path")=aa (fxc fy)
 children:TX (.m "Tree" "children")=aa (fxc fh)
 part:TX (.m "Tree" "part")=aa jf
 thing:TX "check_thing"=aa iy
structure Ny(T TX:FK->Option Fn)(G:az->Option W)(k:Nat)(f:FK)(ws:List W)(h:HH)(c:az)(g:HH):Prop where
 no:runN T G k f ws h=af
 rs:gu T TX G k f ws h=aa (c,g)
section
variable{T TX:FK->Option Fn}{G:az->Option W}{Pt:Pts}{h:HH}{n:Nat}{t:Tr}{ro rb:Nat}{bs:List Bx}
def MS{z:Int}(h1:-1000<=z)(h2:z<=1000):big z=ah:=by unfold big;exact bP (by lia)
def QI(P:TrP T G)(X:TrX TX)(W:Wf t)(A:gM Pt h n t ro rb bs)(k:Nat){z:Int}(h1:-1000<=z)(h2:z<=1000)(hz:z<0\/(t.ds.length:Int)<=z):Ny T TX G (k+2) (.m "Tree" "check_run") [.o n,.p (.int z)] h "NoRun" h:=by
 have l1:=W.l1;have l:=A.len;have w:=gf P.tp k z h;have V:=MS h1 h2;have c:aK (runN T G (k+1)) G crC [aa (.o n),aa (.p (.int z))] h=aa (.p (.bl ah),h):=by
  have O:bs.length<=100000:=by lia
  rcases hz with q|q
  simp[crC,w,q]
  ·by_cases J:z<0
   simp[crC,w,J]
   ·have U:(bs.length:Int)<=z:=by lia
    simp[crC,w,J,A.ob,A.br,O,U]
 constructor
 ·rw[run_eq P.check_run rfl];show iW (evS (runN T G (k+1)) G (.v crC .bad .nil) [aa (.o n),aa (.p (.int z))] h) (fin h)=af;rw[JN c];rfl
 ·rw[kH X.cr rfl];show rsS _ _ _ G (.v crC (.rai "NoRun" (.v 1)) .nil) [aa (.o n),aa (.p (.int z))] h=_;have L:∀a b,rsI (aa (aM.p (D.bl ah),h)) a b=a h:=λ_ _=>rfl;rw[xs3,c,L,xs1];simp[V]
def Ax{F:FK->List W->HH->Option (W×HH)}{R:XF}{D:az->Bool}{a b:S}{s:Sl}{h:HH}{r:az×HH}(e:evS F G a s h=af)(e2:rsS F R D G a s h=aa r):rsS F R D G (.seq a b) s h=aa r:=by rw[xs2,e];exact e2
def Ay{F:FK->List W->HH->Option (W×HH)}{e:E}{s:Sl}{h:HH}(z:aK F G e s h=af):evS F G (.ex e) s h=af:=by simp[z]
def oq{F:FK->List W->HH->Option (W×HH)}{m:az}{s:Sl}{as:Es}{ws:List W}(O:s[0]?=aa (aa (.o n)))(ob:oat h n=aa (VQ "Tree",tfs t ro rb))(J:eN m (tfs t ro rb)=af)(L:evs F G as s h=aa (ws,h)):aK F G (.aE (.v 0) m as) s h=F (.m "Tree" m) (.o n::ws) h:=by simp[O,ob,J,L]
def pI{F:FK->List W->HH->Option (W×HH)}{R:XF}{D:az->Bool}{m:az}{s:Sl}{as:Es}{ws:List W}(O:s[0]?=aa (aa (.o n)))(ob:oat h n=aa (VQ "Tree",tfs t ro rb))(J:eN m (tfs t ro rb)=af)(L:evs F G as s h=aa (ws,h)):rsE F R D G (.aE (.v 0) m as) s h=R (.m "Tree" m) (.o n::ws) h:=by rw[xe1];simp[rsM,O,ob,J,L]
def FA(P:TrP T G)(X:TrX TX)(W:Wf t)(A:gM Pt h n t ro rb bs)(k:Nat){z:Int}(h1:-1000<=z)(h2:z<=1000)(hz:z<0\/(t.ds.length:Int)<=z)(b:S)(s:Sl)(s0:s[0]?=aa (aa (.o n)))(O:s[1]?=aa (aa (.p (.int z)))):
 evS (runN T G (k+2)) G (.seq crX b) s h=af/\rsS (runN T G (k+2)) (gu T TX G (k+2)) (dk T) G (.seq crX b) s h=aa (VQ "NoRun",h):=by
 obtain⟨V,U⟩:=QI (G:=G) P X W A k h1 h2 hz;have L:evs (runN T G (k+2)) G (.cons (.v 1) .nil) s h=aa ([.p (.int z)],h):=by simp[O]
 have e1:aK (runN T G (k+2)) G (.aE (.v 0) "check_run" (.cons (.v 1) .nil)) s h=af:=(oq s0 A.ob (n8 t ro rb) L).trans V;have e2:rsE (runN T G (k+2)) (gu T TX G (k+2)) (dk T) G (.aE (.v 0) "check_run" (.cons (.v 1) .nil)) s h=aa (VQ "NoRun",h):=(pI s0 A.ob (n8 t ro rb) L).trans U;have J:evS (runN T G (k+2)) G crX s h=af:=Ay e1;constructor
 ·show ly (evS _ G crX s h) _=af;rw[J];rfl
 exact Ax J (by unfold crX;rw[xs4];exact e2)
def FD(P:TrP T G)(X:TrX TX)(W:Wf t)(A:gM Pt h n t ro rb bs)(k:Nat){z:Int}(h1:-1000<=z)(h2:z<=1000)(hz:z<0\/(t.ds.length:Int)<=z){m:az}{fn J:Fn}{b L:S}(U:T (.m "Tree" m)=aa fn)(O:TX (.m "Tree" m)=aa J)(V:fn.body=.seq crX b)(ex:J.body=.seq crX L){ws:List aM}(l1:(aM.o n::.p (.int z)::ws).length=fn.ps.length)(l2:(aM.o n::.p (.int z)::ws).length=J.ps.length):
 Ny T TX G (k+3) (.m "Tree" m) (.o n::.p (.int z)::ws) h "NoRun" h:=by
 constructor;rw[run_eq U l1,V,(FA (G:=G) P X W A k h1 h2 hz b (dX fn.ns.length (.o n::.p (.int z)::ws)) rfl rfl).1];rfl
 ·rw[kH O l2,ex];exact(FA (G:=G) P X W A k h1 h2 hz L (dX J.ns.length (.o n::.p (.int z)::ws)) rfl rfl).2
def Az(P:TrP T G)(X:TrX TX)(A:gM Pt h n t ro rb bs){k:Nat}{z m v:Int}{d:D}{c:az}{g:HH}(q:Ny T TX G k (.m "Tree" "at") [.o n,.p (.int z),.p (.int m)] h c g):Ny T TX G (k+1) (.m "Tree" "part") [.o n,.p (.int z),.p (.int m),.p d,.p (.int v)] h c g:=by
 have L:evs (runN T G k) G (.cons (.v 1) (.cons (.v 2) .nil)) [aa (.o n),aa (.p (.int z)),aa (.p (.int m)),aa (.p d),aa (.p (.int v)),af] h=aa ([.p (.int z),.p (.int m)],h):=rfl;have e1:aK (runN T G k) G xw [aa (.o n),aa (.p (.int z)),aa (.p (.int m)),aa (.p d),aa (.p (.int v)),af] h=af:=(oq rfl A.ob (xr t ro rb) L).trans q.no;have e2:rsE (runN T G k) (gu T TX G k) (dk T) G xw [aa (.o n),aa (.p (.int z)),aa (.p (.int m)),aa (.p d),aa (.p (.int v)),af] h=aa (c,g):=(pI rfl A.ob (xr t ro rb) L).trans q.rs;have J:evS (runN T G k) G (.set 5 xw) [aa (.o n),aa (.p (.int z)),aa (.p (.int m)),aa (.p d),aa (.p (.int v)),af] h=af:=by simp[e1]
 constructor
 ·rw[run_eq P.part rfl];show iW (ly (evS (runN T G k) G (.set 5 xw) [aa (.o n),aa (.p (.int z)),aa (.p (.int m)),aa (.p d),aa (.p (.int v)),af] h) _) (fin h)=af;rw[J];rfl
 ·rw[kH X.part rfl];refine Ax (s:=[aa (.o n),aa (.p (.int z)),aa (.p (.int m)),aa (.p d),aa (.p (.int v)),af]) J ?_;rw[xs6];exact e2
def FE(P:TrP T G)(X:TrX TX)(k:Nat)(h:HH):Ny T TX G (k+3) "check_thing" [.p (.str "g")] h "NoThing" h:=by
 have nm:runN T G (k+2) "is_name" [.p (.str "g")] h=aa (.p (.bl ai),h):=by rw[run_eq P.tp.prg.is_name rfl];simp[iG,P.tp.prg.LETTERS,rd,c5]
 have cl:runN T G (k+2) "is_cell" [.p (.str "g")] h=aa (.p (.bl ai),h):=by
  have w:runN T G (k+1) "is_whole" [.p (.str "g")] h=aa (.p (.bl ai),h):=by rw[run_eq P.tp.is_whole rfl];simp[iQ,rd,rds,c5]
  rw[run_eq P.th.is_cell rfl];simp[ju,w,c5]
 have c:aK (runN T G (k+2)) G ctC [aa (.p (.str "g"))] h=aa (.p (.bl ah),h):=by simp[ctC,nm,cl]
 constructor
 ·rw[run_eq P.th.check rfl];show iW (evS (runN T G (k+2)) G (.v ctC .bad .nil) [aa (.p (.str "g"))] h) (fin h)=af;rw[JN c];rfl
 ·rw[kH X.thing rfl];show rsS _ _ _ G (.v ctC (.rai "NoThing" (.v 0)) .nil) [aa (.p (.str "g"))] h=_;have L:∀a b,rsI (aa (aM.p (D.bl ah),h)) a b=a h:=λ_ _=>rfl;rw[xs3,c,L,xs1];have J:(reprText "g").length<=50000:=by decide +kernel
  simp[J]
def MT(P:TrP T G)(X:TrX TX)(W:Wf t)(A:gM Pt h n t ro rb bs)(k:Nat){i m:Nat}{d:Nd}(V:t.ds[i]?=aa d)(U:m<=d.en)(v:Int):∃g,Ny T TX G (k+13) (.m "Tree" "part") [.o n,.p (.int i),.p (.int m),.p (.str "g"),.p (.int v)] h "NoThing" g/\fz Pt g n t ro rb:=by
 obtain ⟨g,b,a⟩:=qm P W A k V U;obtain ⟨O,L⟩:=FE (G:=G) P X (k+9) g;have Z:evs (runN T G (k+12)) G (.cons (.v 1) (.cons (.v 2) .nil)) [aa (.o n),aa (.p (.int i)),aa (.p (.int m)),aa (.p (.str "g")),aa (.p (.int v)),af] h=aa ([.p (.int i),.p (.int m)],h):=rfl;have e1:aK (runN T G (k+12)) G xw [aa (.o n),aa (.p (.int i)),aa (.p (.int m)),aa (.p (.str "g")),aa (.p (.int v)),af] h=aa (.p (d.f m).enc,g):=(oq rfl A.ob (xr t ro rb) Z).trans b;have J:evS (runN T G (k+12)) G (.ex (.call "check_thing" (.cons (.v 3) .nil))) [aa (.o n),aa (.p (.int i)),aa (.p (.int m)),aa (.p (.str "g")),aa (.p (.int v)),aa (.p (d.f m).enc)] g=af:=Ay (by
  show bnd (evs _ G _ _ g) _=af;exact O)
 have Y:rsE (runN T G (k+12)) (gu T TX G (k+12)) (dk T) G (.call "check_thing" (.cons (.v 3) .nil)) [aa (.o n),aa (.p (.int i)),aa (.p (.int m)),aa (.p (.str "g")),aa (.p (.int v)),aa (.p (d.f m).enc)] g=aa (VQ "NoThing",g):=by rw[xe4];exact L
 refine⟨g,⟨?_,?_⟩,a⟩
 ·rw[run_eq P.part rfl];show iW (evS (runN T G (k+12)) G (.seq (.set 5 xw) (.seq (.ex (.call "check_thing" (.cons (.v 3) .nil))) _)) [aa (.o n),aa (.p (.int i)),aa (.p (.int m)),aa (.p (.str "g")),aa (.p (.int v)),af] h) (fin h)=af;rw[dG e1];show iW (ly (evS (runN T G (k+12)) G (.ex (.call "check_thing" (.cons (.v 3) .nil))) [aa (.o n),aa (.p (.int i)),aa (.p (.int m)),aa (.p (.str "g")),aa (.p (.int v)),aa (.p (d.f m).enc)] g) _) (fin h)=af;rw[J];rfl
 ·rw[kH X.part rfl];show rsS _ _ _ G (.seq (.set 5 xw) (.seq (.ex (.call "check_thing" (.cons (.v 3) .nil))) .bad)) [aa (.o n),aa (.p (.int i)),aa (.p (.int m)),aa (.p (.str "g")),aa (.p (.int v)),af] h=_;rw[nj e1];exact Ax (s:=[aa (.o n),aa (.p (.int i)),aa (.p (.int m)),aa (.p (.str "g")),aa (.p (.int v)),aa (.p (d.f m).enc)]) J (by rw[xs4];exact Y)
end
def dQ:Fn:=⟨["_law_e"],["_law_e","_law_flags"], (.seq (.set 1 (.aj ai (cT (.isx "NoMoment" (.v 0)) (.isx "NoRun" (.v 0)) (.isx "NoThing" (.v 0))))) (.seq (.set 1 (.bin .add (.v 1) (.aj ai (cV (.isx "NoText" (.v 0)))))) (.seq (.v (.or (.z .ne (.me .count (.v 1) (cV (.j (.bl ah)))) (.j (.int 1))) (.not (.isx "ValueError" (.v 0)))) (.ret (.aB (cU (.j (.str "refused")) (.neg (.j (.int 1)))))) .nil) (.ret (.aB (cU (.j (.str "refused")) (.me .lindex (.v 1) (cV (.j (.bl ah))))))))))⟩
noncomputable def jg(i:Int):D:=.aB [.str "refused",.int i]
def tU(h:HH):BS.nV dQ [.x "NoMoment"] h=aa (.p (jg 0),h):=by unfold BS.nV BS.nU;simp[dQ,nG,ur,c5,ug,uh,iV,jg]
def Ca(h:HH):BS.nV dQ [.x "NoRun"] h=aa (.p (jg 1),h):=by unfold BS.nV BS.nU;simp[dQ,nG,ur,c5,ug,uh,iV,jg]
def Cb(h:HH):BS.nV dQ [.x "NoThing"] h=aa (.p (jg 2),h):=by unfold BS.nV BS.nU;simp[dQ,nG,ur,c5,ug,uh,iV,jg]
noncomputable def e60:Nat->E
 |0=>(.aE (.v 0) "part" (.cons (.v 2) (.cons (.v 3) (.cons (.v 4) (.cons (.j (.int 7)) .nil)))))|1=>(.aE (.v 0) "at" (.cons (.v 2) (.cons (.v 3) .nil)))|2=>(.aE (.v 0) "end" (.cons (.v 2) .nil))|3=>(.aE (.v 0) "parent" (.cons (.v 2) .nil))|4=>(.aE (.v 0) "path" (.cons (.v 2) .nil))|_=>(.aE (.v 0) "children" (.cons (.v 2) .nil))
noncomputable def w60(i:Int):E:=(.z .eq (.v 1) (.j (.int i)))
def dF:Fn:=⟨["_law_tree","_law_way","_law_run","_law_moment","_law_thing_here"],["_law_tree","_law_way","_law_run","_law_moment","_law_thing_here","_law_e"], (.seq (.v (w60 0) (.ret (e60 0)) .nil) (.seq (.v (w60 1) (.ret (e60 1)) .nil) (.seq (.v (w60 2) (.ret (e60 2)) .nil) (.seq (.v (w60 3) (.ret (e60 3)) .nil) (.ret (.ite (w60 4) (e60 4) (e60 5)))))))⟩
noncomputable def n60:Nat->az
 |0=>"part" |1=>"at" |2=>"end" |3=>"parent" |4=>"path" |_=>"children"
noncomputable def a60(r m th:D):Nat->List W
 |0=>[.p r,.p m,.p th,.p (.int 7)]|1=>[.p r,.p m]|_=>[.p r]
def fX(T TX:FK->Option Fn)(G:az->Option W)(k:Nat):List W->HH->Option (W×HH):=BS.pC (runN T G k) (gu T TX G k) (dk T) G dF dQ
section
variable{T TX:FK->Option Fn}{G:az->Option W}{Pt:Pts}{n:Nat}{ro rb:Nat}{t:Tr}{F:FK->List W->HH->Option (W×HH)}{R:XF}{D0:az->Bool}{s:Sl}{h g:HH}
def vf{c e:E}{b:S}(h1:aK F G c s h=aa (.p (.bl ah),h)):evS F G (.seq (.v c (.ret e) .nil) b) s h=evS F G (.ret e) s h:=by
 cases z:aK F G e s h with
 |none=>simp[h1,z]|some q=>obtain⟨w,g⟩:=q;simp[h1,z]
def vg{c e:E}{b:S}(h1:aK F G c s h=aa (.p (.bl ah),h))(z:aK F G e s h=af):rsS F R D0 G (.seq (.v c (.ret e) .nil) b) s h=rsE F R D0 G e s h:=by
 have q:evS F G (.v c (.ret e) .nil) s h=af:=by simp[h1,z]
 have J:∀a b,rsI (aa (aM.p (D.bl ah),h)) a b=a h:=λ_ _=>rfl;rw[xs2,q];show rsS F R D0 G (.v c (.ret e) .nil) s h=_;rw[xs3,h1,J,xs5]
def jO{c e:E}{b:S}(h1:aK F G c s h=aa (.p (.bl ai),h)):rsS F R D0 G (.seq (.v c (.ret e) .nil) b) s h=rsS F R D0 G b s h:=ve (pH h1)
def c60{w:Nat}(J:s[1]?=aa (aa (.p (.int (w:Int)))))(i:Nat):aK F G (w60 (i:Int)) s h=aa (.p (.bl (decide (w=i))),h):=by refine fM (vr J) rfl ?_;rw[lZ,bK (ji (pW _ _)),JP]
def sL{w:Nat}(J:s[1]?=aa (aa (.p (.int (w:Int))))):aK F G (w60 (w:Int)) s h=aa (.p (.bl ah),h):=by
 have:=c60 (F:=F) (G:=G) (h:=h) J w
 rwa [bP rfl]at this
def gW{w i:Nat}(J:s[1]?=aa (aa (.p (.int (w:Int)))))(hi:¬w=i):aK F G (w60 (i:Int)) s h=aa (.p (.bl ai),h):=by
 have:=c60 (F:=F) (G:=G) (h:=h) J i
 rwa [bO hi]at this
def lt6{w:Nat}(h:w<6):w=0\/w=1\/w=2\/w=3\/w=4\/w=5:=by lia
def FF{w:Nat}(hw:w<6)(J:s[1]?=aa (aa (.p (.int (w:Int))))):evS F G dF.body s h=evS F G (.ret (e60 w)) s h:=by
 rcases lt6 hw with rfl|rfl|rfl|rfl|rfl|rfl
 exact vf (sL J);exact(fF (gW (i:=0) J (by decide))).trans (vf (sL J));exact(fF (gW (i:=0) J (by decide))).trans ((fF (gW (i:=1) J (by decide))).trans (vf (sL J)));exact(fF (gW (i:=0) J (by decide))).trans ((fF (gW (i:=1) J (by decide))).trans ((fF (gW (i:=2) J (by decide))).trans (vf (sL J))))
 ·refine(fF (gW (i:=0) J (by decide))).trans ((fF (gW (i:=1) J (by decide))).trans ((fF (gW (i:=2) J (by decide))).trans ((fF (gW (i:=3) J (by decide))).trans ?_)));have:=sL (F:=F) (G:=G) (h:=h) J;show bnd (aK F G (.ite (w60 ((4:Nat):Int)) (e60 4) (e60 5)) s h) _=bnd (aK F G (e60 4) s h) _;congr 1;show bnd (aK F G (w60 ((4:Nat):Int)) s h) _=_;rw[this];rfl
 ·refine(fF (gW (i:=0) J (by decide))).trans ((fF (gW (i:=1) J (by decide))).trans ((fF (gW (i:=2) J (by decide))).trans ((fF (gW (i:=3) J (by decide))).trans ?_)));have:=gW (F:=F) (G:=G) (h:=h) (i:=4) J (by decide);show bnd (aK F G (.ite (w60 ((4:Nat):Int)) (e60 4) (e60 5)) s h) _=bnd (aK F G (e60 5) s h) _;congr 1;show bnd (aK F G (w60 ((4:Nat):Int)) s h) _=_;rw[this];rfl
def QJ{w:Nat}(hw:w<6)(J:s[1]?=aa (aa (.p (.int (w:Int)))))(z:aK F G (e60 w) s h=af):rsS F R D0 G dF.body s h=rsE F R D0 G (e60 w) s h:=by
 have L:∀a b,rsI (aa (aM.p (D.bl ah),h)) a b=a h:=λ_ _=>rfl;have O:∀a b,rsI (aa (aM.p (D.bl ai),h)) a b=b h:=λ_ _=>rfl;rcases lt6 hw with rfl|rfl|rfl|rfl|rfl|rfl
 exact vg (sL J) z;exact(jO (gW (i:=0) J (by decide))).trans (vg (sL J) z);exact(jO (gW (i:=0) J (by decide))).trans ((jO (gW (i:=1) J (by decide))).trans (vg (sL J) z));exact(jO (gW (i:=0) J (by decide))).trans ((jO (gW (i:=1) J (by decide))).trans ((jO (gW (i:=2) J (by decide))).trans (vg (sL J) z)))
 ·refine(jO (gW (i:=0) J (by decide))).trans ((jO (gW (i:=1) J (by decide))).trans ((jO (gW (i:=2) J (by decide))).trans ((jO (gW (i:=3) J (by decide))).trans ?_)));rw[xs5,xe8,show aK F G (w60 4) s h=_ from sL J,L]
 ·refine(jO (gW (i:=0) J (by decide))).trans ((jO (gW (i:=1) J (by decide))).trans ((jO (gW (i:=2) J (by decide))).trans ((jO (gW (i:=3) J (by decide))).trans ?_)));rw[xs5,xe8,show aK F G (w60 4) s h=_ from gW (i:=4) J (by decide),O]
def MU{w:Nat}(hw:w<6)(ob:oat h n=aa (VQ "Tree",tfs t ro rb))(r m th:D):aK F G (e60 w) [aa (.o n),aa (.p (.int (w:Int))),aa (.p r),aa (.p m),aa (.p th),af] h=F (.m "Tree" (n60 w)) (.o n::a60 r m th w) h:=by
 rcases lt6 hw with rfl|rfl|rfl|rfl|rfl|rfl
 exact oq rfl ob (As t ro rb) rfl;exact oq rfl ob (xr t ro rb) rfl;exact oq rfl ob (Fj t ro rb) rfl;exact oq rfl ob (tT t ro rb) rfl;exact oq rfl ob (Au t ro rb) rfl;exact oq rfl ob (pG t ro rb) rfl
def Uv{w:Nat}(hw:w<6)(ob:oat h n=aa (VQ "Tree",tfs t ro rb))(r m th:D):rsE F R D0 G (e60 w) [aa (.o n),aa (.p (.int (w:Int))),aa (.p r),aa (.p m),aa (.p th),af] h=R (.m "Tree" (n60 w)) (.o n::a60 r m th w) h:=by
 rcases lt6 hw with rfl|rfl|rfl|rfl|rfl|rfl
 exact pI rfl ob (As t ro rb) rfl;exact pI rfl ob (xr t ro rb) rfl;exact pI rfl ob (Fj t ro rb) rfl;exact pI rfl ob (tT t ro rb) rfl;exact pI rfl ob (Au t ro rb) rfl;exact pI rfl ob (pG t ro rb) rfl
def yO{w:Nat}(hw:w<6)(ob:oat h n=aa (VQ "Tree",tfs t ro rb)){r m th d:D}{k:Nat}(b:runN T G k (.m "Tree" (n60 w)) (.o n::a60 r m th w) h=aa (.p d,g)):∃g2,fX T TX G k [.o n,.p (.int (w:Int)),.p r,.p m,.p th] h=aa (.p d,g2)/\(g2=g\/g2=h):=by obtain⟨g2,L,J⟩:=u5 h d g;refine⟨g2,?_,J⟩;have e1:=(MU (F:=runN T G k) (G:=G) hw ob r m th).trans b;have e2:evS (runN T G k) G dF.body (dX dF.ns.length [.o n,.p (.int (w:Int)),.p r,.p m,.p th]) h=aa (.rt (.p d) g):=(FF hw rfl).trans (kK e1);unfold fX BS.pC;rw[bK (show [aM.o n,.p (.int (w:Int)),.p r,.p m,.p th].length=dF.ps.length from rfl),e2,nI,L]
def vh{w:Nat}(hw:w<6)(ob:oat h n=aa (VQ "Tree",tfs t ro rb)){r m th:D}{k:Nat}{c:az}(q:Ny T TX G k (.m "Tree" (n60 w)) (.o n::a60 r m th w) h c g)(J:BS.lB c=ah){y:aM×HH}(L:BS.nV dQ [.x c] g=aa y):fX T TX G k [.o n,.p (.int (w:Int)),.p r,.p m,.p th] h=aa y:=by
 have e1:=(MU (F:=runN T G k) (G:=G) hw ob r m th).trans q.no;have e2:evS (runN T G k) G dF.body (dX dF.ns.length [.o n,.p (.int (w:Int)),.p r,.p m,.p th]) h=af:=by refine(FF hw rfl).trans ?_;have O:aK (runN T G k) G (e60 w) (dX dF.ns.length [.o n,.p (.int (w:Int)),.p r,.p m,.p th]) h=af:=e1;show bnd (aK _ G (e60 w) _ h) _=af;rw[O];rfl
 have U:rsS (runN T G k) (gu T TX G k) (dk T) G dF.body (dX dF.ns.length [.o n,.p (.int (w:Int)),.p r,.p m,.p th]) h=aa (c,g):=(QJ hw rfl e1).trans ((Uv hw ob r m th).trans q.rs);unfold fX BS.pC;rw[bK (show [aM.o n,.p (.int (w:Int)),.p r,.p m,.p th].length=dF.ps.length from rfl),e2,Bf];show(match rsS _ _ _ G _ _ h with|some (c,h')=>if BS.lB c then BS.nV dQ [.x c] h' else af|none=>af)=aa y;rw[U];show(if BS.lB c then BS.nV dQ [.x c] g else af)=aa y;rw[bK J,L]
end
section
variable{T TX:FK->Option Fn}{G:az->Option W}{Pt:Pts}{n:Nat}{ro rb:Nat}{t:Tr}{h:HH}{bs:List Bx}
def FG(P:TrP T G)(O:Wf t)(A:gM Pt h n t ro rb bs)(k:Nat):∀(f i:Nat)(d:Nd),t.ds[i]?=aa d->i<=f →
 eU (aK (runN T G (k+1)) G hdC) (evS (runN T G (k+1)) G hdB) (f+1) [aa (.o n),aa (.p (.int i)),aa (.p (.int (-1)))] h=aa (.nx [aa (.o n),aa (.p (.int 0)),aa (.p (.int (-1)))] h):=by
 have L:∀f,eU (aK (runN T G (k+1)) G hdC) (evS (runN T G (k+1)) G hdB) (f+1) [aa (.o n),aa (.p (.int ((0:Nat):Int))),aa (.p (.int (-1)))] h=aa (.nx [aa (.o n),aa (.p (.int 0)),aa (.p (.int (-1)))] h):=λf=>by
  have q:aK (runN T G (k+1)) G hdC [aa (.o n),aa (.p (.int ((0:Nat):Int))),aa (.p (.int (-1)))] h=aa (.p (.bl ai),h):=by simp[hdC]
  rw[eU,q,gF,lA];rfl
 intro f
 induction f with
 |zero =>
  intro i d J V;have:i=0:=by lia
  subst this;exact L 0
 |succ f U =>
  intro i d J V;rcases WV i with z|z
  subst z;exact L (f+1)
  ·obtain⟨p,W,j,g,e⟩:=(O.each i d J).par z;have a:¬i=0:=by lia
   have Y:=iH P O A k J;have q:aK (runN T G (k+1)) G hdC [aa (.o n),aa (.p (.int i)),aa (.p (.int (-1)))] h=aa (.p (.bl ah),h):=by
    have c:¬((i:Int)=0):=by lia
    have Z:(-1:Int)<(d.fi:Int):=by lia
    simp[hdC,c,a,A.ob,Y,Z]
   have b:evS (runN T G (k+1)) G hdB [aa (.o n),aa (.p (.int i)),aa (.p (.int (-1)))] h=aa (.nx [aa (.o n),aa (.p (.int d.par)),aa (.p (.int (-1)))] h):=by have ix2:dI d.org (.int 0)=aa (.int d.par):=rfl;simp[-d8,-eV,hdB,A.ob,A.og,rd,rT J z,ix2]
   rw[eU,q,gF,kq,b,fU,U d.par p W (by lia)]
def at_neg(P:TrP T G)(X:TrX TX)(L:Wf t)(A:gM Pt h n t ro rb bs)(k:Nat){i:Nat}{d:Nd}(g:t.ds[i]?=aa d):Ny T TX G (k+12) (.m "Tree" "at") [.o n,.p (.int i),.p (.int (-1))] h "NoMoment" h:=by
 have B:=dY g;have l1:=L.l1;have E:=fC P L A (k+9) B;have e1:runN T G (k+11) (.m "Tree" "holder") [.o n,.p (.int i),.p (.int (-1))] h=aa (.p (.int 0),h):=by have:=FG P L A (k+9) 99999 i d g (by lia);rw[run_eq P.holder rfl];simp[fQ,turns,this,c5]
 obtain⟨r,J⟩:=jx (l:=t.ds) (i:=0) (List.length_pos_iff.mpr L.l0);obtain⟨b,j⟩:=jx (l:=bs) (i:=0) (by rw[A.len];exact dY J);obtain⟨y,K,tp,I⟩:=A.tp 0 b r j J;have u:=((L.each 0 r J).zero rfl).1;have q:=iH P L A (k+10) J;rw[u]at q;have C:runN T G (k+11) (.m "Branch" "has") [.o b.1,.p (.int (-1))] h=aa (.p (.bl ai),h):=by rw[run_eq P.tp.has rfl];have w:=gf P.tp (k+9) (-1);simp[gS,w,c5]
 have ix:=rV A j;have f:evS (runN T G (k+11)) G (.ex (.aE (.v 0) "check_run" (.cons (.v 1) .nil))) [aa (.o n),aa (.p (.int i)),aa (.p (.int (-1))),af,af,af] h=aa (.nx [aa (.o n),aa (.p (.int i)),aa (.p (.int (-1))),af,af,af] h):=by simp[A.ob,E]
 have c:aK (runN T G (k+11)) G (.aE (.v 0) "holder" (.cons (.v 1) (.cons (.v 2) .nil))) [aa (.o n),aa (.p (.int i)),aa (.p (.int (-1))),af,af,af] h=aa (.p (.int 0),h):=by simp[A.ob,e1]
 have Z:aK (runN T G (k+11)) G (.obi (.i (.v 0) "branches") (.v 3)) [aa (.o n),aa (.p (.int i)),aa (.p (.int (-1))),aa (.p (.int 0)),af,af] h=aa (.o b.1,h):=by have V:atP (bs.map (·.1)) 0=aa b.1:=ix;simp[-atP,A.ob,A.br,V]
 have Y:aK (runN T G (k+11)) G (.bin .sub (.v 2) (.aE (.v 0) "first" (.cons (.v 3) .nil))) [aa (.o n),aa (.p (.int i)),aa (.p (.int (-1))),aa (.p (.int 0)),aa (.o b.1),af] h=aa (.p (.int (-1)),h):=by have W:runN T G (k+11) (.m "Tree" "first") [.o n,.p (.int 0)] h=aa (.p (.int 0),h):=q;simp[A.ob,W,rd]
 have U:aK (runN T G (k+11)) G jN [aa (.o n),aa (.p (.int i)),aa (.p (.int (-1))),aa (.p (.int 0)),aa (.o b.1),aa (.p (.int (-1)))] h=aa (.p (.bl ai),h):=by simp[jN,y.ob,Ao,C]
 have O:aK (runN T G (k+11)) G (.not jN) [aa (.o n),aa (.p (.int i)),aa (.p (.int (-1))),aa (.p (.int 0)),aa (.o b.1),aa (.p (.int (-1)))] h=aa (.p (.bl ah),h):=by simp[U]
 constructor
 ·rw[run_eq P.at_ rfl];show iW (evS (runN T G (k+11)) G (.seq _ (.seq (.set 3 _) (.seq (.set 4 _) (.seq (.set 5 _) (.seq (.v (.not jN) .bad .nil) _))))) [aa (.o n),aa (.p (.int i)),aa (.p (.int (-1))),af,af,af] h) (fin h)=af;have e:=(dM (b:=(.seq (.set 3 (.aE (.v 0) "holder" (.cons (.v 1) (.cons (.v 2) .nil)))) (.seq (.set 4 (.obi (.i (.v 0) "branches") (.v 3))) (.seq (.set 5 (.bin .sub (.v 2) (.aE (.v 0) "first" (.cons (.v 3) .nil)))) (.seq (.v (.not jN) .bad .nil) (.ret (.aE (.v 4) "at" (.cons (.v 5) .nil)))))))) f).trans ((dG c).trans ((dG Z).trans (dG Y)));refine(bS (λx=>iW x (fin h)) e).trans ?_;have e2:evS (runN T G (k+11)) G (.v (.not jN) .bad .nil) [aa (.o n),aa (.p (.int i)),aa (.p (.int (-1))),aa (.p (.int 0)),aa (.o b.1),aa (.p (.int (-1)))] h=af:=by simp[U]
  show iW (ly (evS (runN T G (k+11)) G (.v (.not jN) .bad .nil) [aa (.o n),aa (.p (.int i)),aa (.p (.int (-1))),aa (.p (.int 0)),aa (.o b.1),aa (.p (.int (-1)))] h) _) (fin h)=af;rw[e2];rfl
 ·rw[kH X.at_ rfl];show rsS (runN T G (k+11)) (gu T TX G (k+11)) (dk T) G (.seq _ _) [aa (.o n),aa (.p (.int i)),aa (.p (.int (-1))),af,af,af] h=_;rw[ve f,nj c];show rsS _ _ _ G (.seq (.set 4 _) _) [aa (.o n),aa (.p (.int i)),aa (.p (.int (-1))),aa (.p (.int 0)),af,af] h=_;rw[nj Z];show rsS _ _ _ G (.seq (.set 5 _) _) [aa (.o n),aa (.p (.int i)),aa (.p (.int (-1))),aa (.p (.int 0)),aa (.o b.1),af] h=_;rw[nj Y];have H:big (i:Int)=ah:=by unfold big;exact bP (by lia)
  have F:big (-1)=ah:=by unfold big;decide
  refine Ax (s:=[aa (.o n),aa (.p (.int i)),aa (.p (.int (-1))),aa (.p (.int 0)),aa (.o b.1),aa (.p (.int (-1)))]) (by simp[U,yM]) ?_;have z:∀a b,rsI (aa (aM.p (D.bl ah),h)) a b=a h:=λ_ _=>rfl;rw[xs3,O,z];unfold yM;rw[xsR];simp[H,F]
end
def AA{p:Pg}{st:St}(h:InP p st)(th:Th)(v:Int):InP p (th.put st v):=by cases th<;>exact⟨h.1,h.2⟩
def AB(th:Th)(a:St)(v:Int):(th.put a v).aF=a.aF:=by cases th<;>rfl
theorem vj(s0:St)(p:Pg)(aF:List Int):∀k,(itr s0 p aF k).aF<=s0.aF+k
 |0=>VR _
 |k+1=>by have:=vj s0 p aF k;have:=ng p aF (itr s0 p aF k);show(step p aF _).aF<=_;lia
theorem vm{s0:St}{p:Pg}{aF:List Int}{M e:Nat}(J:Pg.ok p)(L:InP p s0)(R:Run s0 p aF M e):∀k,k<=e->InP p (itr s0 p aF k)
 |0,_=>L|k+1,hk=>rM J (vm J L R k (by lia)) (R.on k (by lia))
def Wf.inr{t:Tr}(W:Wf t):∀(n i:Nat)(d:Nd),i<=n->t.ds[i]?=aa d->(d.s0.aF<=d.fi/\InP t.p d.s0)/\∀m,m<=d.en->(d.f m).aF<=m/\InP t.p (d.f m):=by
 intro n
 induction n with
 |zero =>
  intro i d hn U;have:i=0:=by lia
  subst this;have O:=W.each 0 d U;obtain⟨g,b⟩:=O.zero rfl;have L:d.s0.aF<=d.fi/\InP t.p d.s0:=by rw[b];exact⟨WM _,wX _⟩
  refine⟨L,λm J=>?_⟩;have e:=O.own m (by unfold Nd.en at J;lia);rw[g,X7]at e;rw[e];have:=vj d.s0 t.p t.aF m;exact⟨by lia,vm W.ok L.2 O.run m (by unfold Nd.en at J;lia)⟩
 |succ n Y =>
  intro i d hn U;rcases WV i with z|z
  exact Y i d (by lia) U
  ·have O:=W.each i d U;obtain⟨q,a,k,Z,h⟩:=O.par z;obtain⟨_,V⟩:=Y d.par q (by lia) a;obtain⟨th,v,j⟩:=O.put z q a;have L:d.s0.aF<=d.fi/\InP t.p d.s0:=by rw[j,AB];exact⟨(V d.fi Z).1,AA (V d.fi Z).2 th v⟩
   refine⟨L,λm J=>?_⟩
   by_cases c:d.fi<=m
   ·have e:=O.own (m-d.fi) (by unfold Nd.en at J;lia);rw[show d.fi+(m-d.fi)=m by lia]at e;rw[e];have:=vj d.s0 t.p t.aF (m-d.fi);exact⟨by lia,vm W.ok L.2 O.run (m-d.fi) (by unfold Nd.en at J;lia)⟩
   ·rw[h m (by lia)];exact V m (by lia)
def pqC:E:=(.and (.z .le (.bi .len ai (cV (.v 7))) (.v 6)) (.not (.call "_law_is_over" (cU (.v 0) (.y (.v 7) (.neg (.j (.int 1))))))))
def pqB:S:=(.ex (.me .append (.v 7) (cV (.call "_law_step" (cT (.v 0) (.v 1) (.y (.v 7) (.neg (.j (.int 1)))))))))
def pqA:E:=(.cat (.n (.v 2) .nil (cV (.v 3))) (.aj ai (cV (.call "_law_put" (cT (.y (.v 2) (.v 3)) (.v 4) (.v 5))))))
def fW:Fn:=⟨["_law_program_here","_law_asked_here","_law_row_here","_law_moment","_law_thing_here","_law_worth_here","_law_most"],["_law_program_here","_law_asked_here","_law_row_here","_law_moment","_law_thing_here","_law_worth_here","_law_most","_law_found"], (.seq (.set 7 pqA) (.seq (.j pqC pqB) (.ret (.v 7))))⟩
section
variable{T TX:FK->Option Fn}{G:az->Option W}{Pt:Pts}{n:Nat}{ro rb:Nat}{t:Tr}{h:HH}
def IG(L:LwS T)(k:Nat){st:St}(J:st.ok)(th:Th)(v:Int)(h:HH):runN T G (k+1) "_law_put" [.p st.enc,.p th.enc,.p (.int v)] h=aa (.p (th.put st v).enc,h):=by
 cases th with
 |nm x=>exact jU L k st J x v h
 |cl i O =>
  have:=mQ (G:=G) L k st J (i:Int) v (by lia) (by lia) h;rw[show((i:Int)).toNat=i by lia]at this;exact this
def II(L:LwS T)(k:Nat)(h:HH)(p:Pg)(d:Pg.ok p)(b:p.length<=1000)(aF:List Int)(u:Ask aF)(g:aF.length<=1000)(most:Nat)(v:most<=60)(Y V U O:W):∀(r f:Nat)(pre:List D)(st:St),pre.length+r=most->r<=f->At pre.length st->InP p st->st.aF<=pre.length →
 eU (aK (runN T G (k+17)) G pqC) (evS (runN T G (k+17)) G pqB) (f+1) [aa (.p (dS p)),aa (.p (.aj (cX aF))),aa Y,aa V,aa U,aa O,aa (.p (.int most)),aa (.r h.length)] (h++[.l (pre++[st.enc])]) =
  aa (.nx [aa (.p (dS p)),aa (.p (.aj (cX aF))),aa Y,aa V,aa U,aa O,aa (.p (.int most)),aa (.r h.length)] (h++[.l (pre++(sts p aF r st).map St.enc)])):=by
 intro r
 induction r with
 |zero =>
  intro f pre st m t a Z n;have c:¬((pre.length:Int)+1<=(most:Int)):=by lia
  simp[eU,pqC,rd,c,sts]
 |succ r j =>
  intro f pre st m t a Z n;have c:(pre.length:Int)+1<=(most:Int):=by lia
  have e2:-((pre.length:Int)+1)<=-1:=by lia
  have i:(-1+((pre.length:Int)+1)).toNat=pre.length:=by lia
  have o:=kW (G:=G) L (k+16) p b st Z;cases J:over p st with
  |true =>
   rw[J]at o;simp[eU,pqC,rd,c,sts,e2,i,o,J]
  |false =>
   rw[J]at o;have s:=nZ (G:=G) L k p d aF g st a.ok (a.small (by lia)) (by lia) J;cases f with
   |zero=>lia
   |succ f =>
    have q:=j f (pre++[st.enc]) (step p aF st) (by simp;lia) (by lia) (by simpa using qj d u a J) (rM d Z J) (by have:=ng p aF st;simp;lia);have hc:aK (runN T G (k+17)) G pqC [aa (.p (dS p)),aa (.p (.aj (cX aF))),aa Y,aa V,aa U,aa O,aa (.p (.int most)),aa (.r h.length)] (h++[.l (pre++[st.enc])])=aa (.p (.bl ah),h++[.l (pre++[st.enc])]):=by simp[pqC,rd,c,e2,i,o]
    have l:pre.length+1<100000:=by lia
    have e:evS (runN T G (k+17)) G pqB [aa (.p (dS p)),aa (.p (.aj (cX aF))),aa Y,aa V,aa U,aa O,aa (.p (.int most)),aa (.r h.length)] (h++[.l (pre++[st.enc])]) =
     aa (.nx [aa (.p (dS p)),aa (.p (.aj (cX aF))),aa Y,aa V,aa U,aa O,aa (.p (.int most)),aa (.r h.length)] (h++[.l ((pre++[st.enc])++[(step p aF st).enc])])):=by
     simp[pqB,rd,e2,i,s,l]
    rw[eU,hc,gF,kq,e,fU,q];simp[sts,J]
def MV:Wth 7:=by constructor<;>decide
def yP(B:T "_law_parted"=aa fW)(L:LwS T)(U:Wf t)(Y:t.p.length<=1000)(a:t.aF.length<=1000)(J:t.most<=60)(k:Nat){i m:Nat}{d:Nd}(Z:t.ds[i]?=aa d)(O:m<=d.en)(th:Th)(h:HH):
 ∃e,Run (th.put (d.f m) 7) t.p t.aF (t.most-m) e/\runN T G (k+18) "_law_parted" [.p (dS t.p),.p (.aj (cX t.aF)),.p (fH d),.p (.int m),.p th.enc,.p (.int 7),.p (.int t.most)] h=aa (.p (fH (Nd.of t i m d (th.put (d.f m) 7) e)),h):=by
 obtain⟨e,R,C⟩:=Ak (th.put (d.f m) 7) t.p t.aF (t.most-m);refine⟨e,R,?_⟩;have o:=U.at_ Z O;have H:=Wa O (U.xq Z);obtain⟨_,inr⟩:=U.inr i i d (VR _) Z;have V:(((iR d).take m).map St.enc).length=m:=by rw[V8,XJ,oj];lia
 have w:=IG (G:=G) L (k+16) o.ok th 7 h;have u:aK (runN T G (k+17)) G pqA [aa (.p (dS t.p)),aa (.p (.aj (cX t.aF))),aa (.p (fH d)),aa (.p (.int m)),aa (.p th.enc),aa (.p (.int 7)),aa (.p (.int t.most)),af] h=aa (.r h.length,h++[.l (((iR d).take m).map St.enc++[(th.put (d.f m) 7).enc])]):=by
  have e1:aK (runN T G (k+17)) G (.n (.v 2) .nil (.cons (.v 3) .nil)) [aa (.p (dS t.p)),aa (.p (.aj (cX t.aF))),aa (.p (fH d)),aa (.p (.int m)),aa (.p th.enc),aa (.p (.int 7)),aa (.p (.int t.most)),af] h=aa (.p (.aj (((iR d).take m).map St.enc)),h):=QH rfl rfl (MR d m);have e2:aK (runN T G (k+17)) G (.y (.v 2) (.v 3)) [aa (.p (dS t.p)),aa (.p (.aj (cX t.aF))),aa (.p (fH d)),aa (.p (.int m)),aa (.p th.enc),aa (.p (.int 7)),aa (.p (.int t.most)),af] h=aa (.p (d.f m).enc,h):=om rfl rfl (Fv d O);have g:aK (runN T G (k+17)) G (.aj ai (.cons (.call "_law_put" (.cons (.y (.v 2) (.v 3)) (.cons (.v 4) (.cons (.v 5) .nil)))) .nil)) [aa (.p (dS t.p)),aa (.p (.aj (cX t.aF))),aa (.p (fH d)),aa (.p (.int m)),aa (.p th.enc),aa (.p (.int 7)),aa (.p (.int t.most)),af] h=aa (.p (.aj [(th.put (d.f m) 7).enc]),h):=by generalize E.y (.v 2) (.v 3)=x at e2;simp[e2,w,rds,rd,dW]
  have l:(((iR d).take m).map St.enc).length+1<=100000:=by rw[V];lia
  have z:Dn (.p (.aj (((iR d).take m).map St.enc))) (.p (.aj [(th.put (d.f m) 7).enc])) h=aa (.r h.length,h++[.l (((iR d).take m).map St.enc++[(th.put (d.f m) 7).enc])]):=by rw[K0];exact bK (show _<=lim from l)
  unfold pqA;generalize E.n _ _ _=x at e1;generalize E.aj _ _=y at g;show bnd (aK _ G x _ h) _=_;rw[e1,dZ];show bnd (aK _ G y _ h) _=_;rw[g,dZ];exact z
 have A:=II (G:=G) L k h t.p U.ok Y t.aF U.ask a t.most J (.p (fH d)) (.p (.int m)) (.p th.enc) (.p (.int 7)) (t.most-m) 99999 (((iR d).take m).map St.enc) (th.put (d.f m) 7) (by rw[V];lia) (by lia) (by rw[V];exact o.put MV th) (AA (inr m O).2 th 7) (by rw[V,AB];exact(inr m O).1);have W:((iR d).take m).map St.enc++(sts t.p t.aF (t.most-m) (th.put (d.f m) 7)).map St.enc=(iR (Nd.of t i m d (th.put (d.f m) 7) e)).map St.enc:=by
  rw[C,←Yn];congr 1;refine List.ext_getElem? λq=>?_;rw[MP];have en:(Nd.of t i m d (th.put (d.f m) 7) e).en=m+e:=rfl;have b:∀j,(Nd.of t i m d (th.put (d.f m) 7) e).f j=if j<m then d.f j else itr (th.put (d.f m) 7) t.p t.aF (j-m):=λj=>rfl
  have tl:((iR d).take m).length=m:=by rw[XJ,oj];lia
  by_cases c:q<m
  rw[VF (by rw[tl];exact c),Xe c,yL d (by lia),JO (by rw[en];lia),b,bK c]
  ·rw[V7 (by rw[tl];lia),tl]
   by_cases D:q-m<e+1
   rw[JO (by rw[en];lia),b,bL c,VY,Yo D];rfl;rw[QF (by rw[en];lia),VP (by rw[V8,ZE];lia)]
 have s:evS (runN T G (k+17)) G (.j pqC pqB) [aa (.p (dS t.p)),aa (.p (.aj (cX t.aF))),aa (.p (fH d)),aa (.p (.int m)),aa (.p th.enc),aa (.p (.int 7)),aa (.p (.int t.most)),aa (.r h.length)] (h++[.l (((iR d).take m).map St.enc++[(th.put (d.f m) 7).enc])])=aa (.nx [aa (.p (dS t.p)),aa (.p (.aj (cX t.aF))),aa (.p (fH d)),aa (.p (.int m)),aa (.p th.enc),aa (.p (.int 7)),aa (.p (.int t.most)),aa (.r h.length)] (h++[.l ((iR (Nd.of t i m d (th.put (d.f m) 7) e)).map St.enc)])):=by rw[←W];exact A
 have F:evS (runN T G (k+17)) G fW.body (dX fW.ns.length [.p (dS t.p),.p (.aj (cX t.aF)),.p (fH d),.p (.int m),.p th.enc,.p (.int 7),.p (.int t.most)]) h=aa (.rt (.r h.length) (h++[.l ((iR (Nd.of t i m d (th.put (d.f m) 7) e)).map St.enc)])):=(dG u).trans ((dM s).trans (kK rfl));rw[run_eq B rfl,F,nI];have f:fin h (.r h.length) (h++[.l ((iR (Nd.of t i m d (th.put (d.f m) 7) e)).map St.enc)])=aa (.p (fH (Nd.of t i m d (th.put (d.f m) 7) e)),h):=by simp[fin,lat,fH]
 exact f
end
def Cd:E:=(.bi .max2 ai (cU (.j (.int 1)) (.bi .min2 ai (cU (.j (.int 6)) (.bi .len ai (cV (.v 0)))))))
def QK:E:=(.call "_law_drawn" (cT (.v 0) (.bin .add (.j (.int 500)) (.bin .mul (.j (.int 5)) (.v 8))) (.bi .len ai (cV (.v 6)))))
def QL:E:=(.call "_law_drawn" (cT (.v 0) (.bin .add (.j (.int 501)) (.bin .mul (.j (.int 5)) (.v 8))) (.bi .len ai (cV (.y (.v 6) (.v 9))))))
def QM:E:=(.call "_law_thing" (cU (.v 0) (.bin .add (.j (.int 502)) (.bin .mul (.j (.int 5)) (.v 8)))))
def QN:E:=(.call "_law_parted" (cP (.v 1) (.v 2) (.y (.v 6) (.v 9)) (.v 10) (.v 11) (.j (.int 7)) (.v 3)))
def QO:E:=(.z .ne (.call "_law_told" (cR (.v 4) (.j (.int 0)) (.v 9) (.v 10) (.v 11))) (.bin .sub (.bi .len ai (cV (.v 6))) (.j (.int 1))))
def QS:E:=(.z .ne (.call "_law_told" (cR (.v 4) (.j (.int 0)) (.v 9) (.bi .len ai (cV (.y (.v 6) (.v 9)))) (.v 11))) (.aB (cU (.j (.str "refused")) (.j (.int 0)))))
def MW:E:=(.aj ai (cU (.call "_law_told" (cR (.v 4) (.j (.int 0)) (.v 9) (.v 10) (.j (.str "g")))) (.call "_law_told" (cR (.v 4) (.j (.int 1)) (.v 9) (.neg (.j (.int 1))) (.j (.str "a"))))))
def QT:E:=(.z .ne (.v 12) (.aj ai (cU (.aB (cU (.j (.str "refused")) (.j (.int 2)))) (.aB (cU (.j (.str "refused")) (.j (.int 0)))))))
def xy:S:=(.seq (.set 9 QK) (.seq (.set 10 QL) (.seq (.set 11 QM) (.seq (.ex (.me .append (.v 6) (cV QN))) (.seq (.ex (.me .append (.v 7) (cV (.aB (cU (.v 9) (.v 10)))))) (.seq (.v QO (.ret (.j (.bl ai))) .nil) (.seq (.v QS (.ret (.j (.bl ai))) .nil) (.seq (.set 12 MW) (.v QT (.ret (.j (.bl ai))) .nil)))))))))
def IJ:E:=(.call "_law_told" (cR (.v 1) (.j (.int 1)) (.v 2) (.v 0) (.j (.str "a"))))
def QU:E:=(.z .ne (.comp ai .rng1 (cV (.bi .len ai (cV (.v 13)))) ["_law_at"] [(4,"_law_tree"),(9,"_law_run")] .nil IJ) (.v 13))
def QV:E:=(.z .ne (.call "_law_told" (cR (.v 4) (.j (.int 2)) (.v 9) (.j (.int 0)) (.j (.str "a")))) (.bin .sub (.bi .len ai (cV (.v 13))) (.j (.int 1))))
noncomputable def FH:E:=(.z .notN (.y (.v 7) (.y (.v 14) (.j (.int 0)))) (.j .aC))
def Ce:S:=(.set 14 (.bin .add (.aj ai (cV (.y (.y (.v 7) (.y (.v 14) (.j (.int 0)))) (.j (.int 0))))) (.v 14)))
noncomputable def Cf:E:=(.and (.z .notN (.v 1) (.j .aC)) (.z .eq (.y (.v 1) (.j (.int 0))) (.v 2)))
def QW:E:=(.comp ai .enu (cV (.v 7)) ["_law_k","_law_told_here"] [(9,"_law_run")] (cV Cf) (.v 0))
def MY:E:=(.call "_law_told" (cR (.v 1) (.v 0) (.v 2) (.j (.int 0)) (.j (.str "a"))))
def QX:E:=(.comp ai .seq (cV (.aB (cT (.j (.int 3)) (.j (.int 4)) (.j (.int 5))))) ["_law_way"] [(4,"_law_tree"),(9,"_law_run")] .nil MY)
def QY:E:=(.z .ne QX (.aj ai (cT (.y (.v 7) (.v 9)) (.v 14) (.v 15))))
def xA:S:=(.seq (.v QU (.ret (.j (.bl ai))) .nil) (.seq (.v QV (.ret (.j (.bl ai))) .nil) (.seq (.set 14 (.aj ai (cV (.v 9)))) (.seq (.j FH Ce) (.seq (.set 15 QW) (.v QY (.ret (.j (.bl ai))) .nil))))))
def MZ:E:=(.z .ne (.call "_law_told" (cR (.v 1) (.v 0) (.v 2) (.j (.int 0)) (.j (.str "a")))) (.aB (cU (.j (.str "refused")) (.j (.int 1)))))
def QZ:E:=(.comp ai .rng1 (cV (.j (.int 6))) ["_law_way"] [(4,"_law_tree"),(16,"_law_bad")] (cV MZ) (.v 0))
def yQ:S:=(.v (.z .ne QZ (.aj ai .nil)) (.ret (.j (.bl ai))) .nil)
def Q0:E:=(.and (.z .eq (.aE (.v 5) "children" (cV (.j (.int 0)))) (.aj ai .nil)) (.z .eq (.aE (.v 5) "at" (cU (.j (.int 0)) (.j (.int 0)))) (.y (.y (.v 6) (.j (.int 0))) (.j (.int 0)))))
def iT:Fn:=⟨["_law_script"],["_law_script","_law_program_here","_law_asked_here","_law_most","_law_tree","_law_other","_law_rows","_law_parents","_law_k","_law_run","_law_moment","_law_thing_here","_law_odd","_law_row_here","_law_path","_law_below","_law_bad"], (.seq (.set 1 (.call "_law_program" (cU (.v 0) (.j (.int 20))))) (.seq (.set 2 (.call "_law_asked" (cU (.v 0) (.j (.int 450))))) (.seq (.set 3 (.call "_law_drawn" (cT (.v 0) (.j (.int 440)) (.j (.int 17))))) (.seq (.set 4 (.make "Tree" (cT (.v 1) (.v 2) (.v 3)))) (.seq (.set 5 (.make "Tree" (cT (.v 1) (.v 2) (.v 3)))) (.seq (.set 6 (.aj ah (cV (.call "_law_states" (cT (.v 1) (.v 2) (.v 3)))))) (.seq (.set 7 (.aj ah (cV (.j .aC)))) (.seq (.for [(8,"_law_k")] .rng1 (cV Cd) xy) (.seq (.for [(9,"_law_run"),(13,"_law_row_here")] .enu (cV (.v 6)) xA) (.seq (.for [(16,"_law_bad")] .seq (cV (.aB (cU (.neg (.j (.int 1))) (.bi .len ai (cV (.v 6)))))) yQ) (.ret Q0)))))))))))⟩
structure rX(T TX:FK->Option Fn):Prop where
 lw:Lw T
 thing:T "_law_thing"=aa ig
 program:T "_law_program"=aa fJ
 st:LwS T
 parted:T "_law_parted"=aa fW
 q:TrQ T
 x:TrX TX
structure F60(T TX:FK->Option Fn)(G:az->Option W)(k:Nat)(F:FK->List W->HH->Option (W×HH)):Prop where
 me:∀c m,F (.m c m)=runN T G (k+18) (.m c m)
 fn:∀y:az,¬y="_law_told"->F (.f y)=runN T G (k+18) (.f y)
 told:F (.f "_law_told")=fX T TX G (k+17)
def eg(t:Tr):List D:=t.ds.map fH
noncomputable def jB(oc:Nat->Option Cl)(rw pr:List D):Pts:=λi=>if i=12 then aa (.l rw)else if i=13 then aa (.l pr)else oc i
def xE{oc:Nat->Option Cl}{rw:List D}{h:HH}{t:Tr}(A:fz (jB oc rw pr) h 0 t 1 5)(L O:List D){q:Nat}{c:Cl}(a:(q=12/\c=.l L/\O=pr)\/(q=13/\c=.l O/\L=rw)):fz (jB oc L O) (h.set q c) 0 t 1 5:=by
 have Z:h[12]?=aa (.l rw):=by obtain⟨_,U⟩:=A;exact(U.pt 12 _ rfl).1
 have Y:h[13]?=aa (.l pr):=by obtain⟨_,U⟩:=A;exact(U.pt 13 _ rfl).1
 have W:=dY Z;have V:=dY Y;refine A.keep (λi b hn=>?_) (λi d J=>?_)
 ·have:q≠i:=by
   intro z;subst z;rcases a with⟨rfl,_⟩|⟨rfl,_⟩
   exact gT hn.symm;exact gT hn.symm
  rw[V1 this]
 ·by_cases z:i=q
  ·subst z;rcases a with⟨rfl,rfl,rfl⟩|⟨rfl,rfl,rfl⟩
   ·cases J;exact⟨Wb W,.inr (λy=>gT y.symm)⟩
   ·cases J;exact⟨Wb V,.inr (λy=>gT y.symm)⟩
  ·rw[V1 (WI z)];have e:jB oc rw pr i=aa d:=by
    unfold jB at J⊢;rcases a with⟨rfl,rfl,rfl⟩|⟨rfl,rfl,rfl⟩
    rw[bL z]at J⊢;exact J
    ·by_cases y:i=12
     rw[bK y]at J⊢;exact J;rw[bL y,bL z]at J⊢;exact J
   obtain⟨_,U⟩:=A;exact⟨(U.pt i d e).1,.inr (by rw[e];exact λy=>gT y.symm)⟩
structure S60(s:Sl)(ns:List Int)(t:Tr):Prop where
 h0:s[0]?=aa (aa (.p (.aj (cX ns))))
 h1:s[1]?=aa (aa (.p (dS t.p)))
 h2:s[2]?=aa (aa (.p (.aj (cX t.aF))))
 h3:s[3]?=aa (aa (.p (.int t.most)))
 h4:s[4]?=aa (aa (.o 0))
 h5:s[5]?=aa (aa (.o 6))
 h6:s[6]?=aa (aa (.r 12))
 h7:s[7]?=aa (aa (.r 13))
 len:s.length=17
def S60.set{s:Sl}{J:List Int}{t:Tr}(S:S60 s J t)(q:Nat)(w:Option W)(L:7<q):S60 (s.set q w) J t:=by have e:∀i,i<=7->(s.set q w)[i]?=s[i]?:=λi O=>V1 (by lia);exact⟨(e 0 (by decide)).trans S.h0,(e 1 (by decide)).trans S.h1,(e 2 (by decide)).trans S.h2,(e 3 (by decide)).trans S.h3,(e 4 (by decide)).trans S.h4,(e 5 (by decide)).trans S.h5,(e 6 (by decide)).trans S.h6,(e 7 (by decide)).trans S.h7,by rw[Ws];exact S.len⟩
def S60.tr{s:Sl}{J:List Int}{t t':Tr}(S:S60 s J t)(m:SmT t t'):S60 s J t':=⟨S.h0,by rw[m.p];exact S.h1,by rw[m.aF];exact S.h2,by rw[m.most];exact S.h3,S.h4,S.h5,S.h6,S.h7,S.len⟩
def j9{s:Sl}{q:Nat}{w:Option W}(h:q<s.length):(s.set q w)[q]?=aa w:=Wb h
def vn{s:Sl}{q i:Nat}{w:Option W}(h:q≠i):(s.set q w)[i]?=s[i]?:=V1 h
section
variable{T TX:FK->Option Fn}{G:az->Option W}{F:FK->List W->HH->Option (W×HH)}{s:Sl}{h g:HH}{t:Tr}{oc:Nat->Option Cl}
def dN{a:E}{r:Es}{w:W}{ws:List W}(h1:aK F G a s h=aa (w,h))(h2:evs F G r s h=aa (ws,h)):evs F G (.cons a r) s h=aa (w::ws,h):=by simp[h1,h2]
theorem iY:evs F G .nil s h=aa ([],h):=rfl
def pT{f:az}{as:Es}{ws:List W}(h1:evs F G as s h=aa (ws,h)):aK F G (.call f as) s h=F (.f f) ws h:=by simp[h1]
def FI{i q:Nat}{xs:List D}(v:s[i]?=aa (aa (.r q)))(J:lat h q=aa xs):aK F G (.bi .len ai (.cons (.v i) .nil)) s h=aa (.p (.int xs.length),h):=by simp[v,rds,rd,J]
def tV{i q:Nat}{xs:List D}{e:E}{x:Int}{d:D}(v:s[i]?=aa (aa (.r q)))(J:lat h q=aa xs)(L:aK F G e s h=aa (.p (.int x),h))(ix:dI (.aj xs) (.int x)=aa d):aK F G (.y (.v i) e) s h=aa (.p d,h):=by simp[-d8,v,L,rd,J,ix]
def JQ{i q:Nat}{xs:List D}{e:E}{d:D}(v:s[i]?=aa (aa (.r q)))(J:lat h q=aa xs)(U:xs.length<1000)(O:aK F G e s h=aa (.p d,h)):evS F G (.ex (.me .append (.v i) (.cons e .nil))) s h=aa (.nx s (h.set q (.l (xs++[d])))):=by
 have L:meW .append (.r q) [.p d] h=aa (.p .aC,h.set q (.l (xs++[d]))):=by rw[jj,J];show(if xs.length<lim then _ else af)=_;exact bK (show xs.length<100000 by lia)
 have ok:mG (.r q) h=ah:=by rw[KY,J];rfl
 simp[-jj,v,O,kMe,ok,L]
def tW{rw:List D}(A:fz (jB oc rw pr) h 0 t 1 5):lat h 12=aa rw:=by obtain⟨_,J⟩:=A;unfold lat;rw[(J.pt 12 _ rfl).1];rfl
def AC{rw:List D}(A:fz (jB oc rw pr) h 0 t 1 5):lat h 13=aa pr:=by obtain⟨_,J⟩:=A;unfold lat;rw[(J.pt 13 _ rfl).1];rfl
def qo{t:Tr}{i:Nat}{d:Nd}(J:t.ds[i]?=aa d):dI (.aj (eg t)) (.int i)=aa (fH d):=by rw[d8,fY];unfold eg;rw[VY,J];rfl
def FJ{i:Nat}{j:Int}{a b:Int}(v:s[i]?=aa (aa (.p (.int j))))(J:big b=ah):aK F G (.bin .add (.j (.int a)) (.bin .mul (.j (.int b)) (.v i))) s h=aa (.p (.int (a+b*j)),h):=by simp[v,rd,J]
theorem AD(i:Int):dok 100 (jg i)=ah:=rfl
theorem FL(i:Int):aK F G (.aB (.cons (.j (.str "refused")) (.cons (.j (.int i)) .nil))) s h=aa (.p (jg i),h):=rfl
def M0(P:TrP T G)(V:Wf t){Pt:Pts}{k:Nat}(A:fz Pt h 0 t 1 5){i m:Nat}{d:Nd}(Z:t.ds[i]?=aa d)(Y:m<=d.en)(th:Th){e:Nat}(R:Run (th.put (d.f m) 7) t.p t.aF (t.most-m) e):
 ∃g,fX T TX G (k+17) [.o 0,.p (.int 0),.p (.int i),.p (.int m),.p th.enc] h=aa (.p (.int t.ds.length),g)/\fz Pt g 0 (t.add (Nd.of t i m d (th.put (d.f m) 7) e)) 1 5:=by
 obtain⟨_,J⟩:=id A;obtain⟨g,b,W⟩:=Fq P V J (k+4) Z Y th MV R;refine⟨g,?_,W⟩;have a:fin h (.p (.int t.ds.length)) g=aa (.p (.int t.ds.length),g):=by obtain⟨_,L⟩:=id W;refine lS 1 (gK J.og) (λz=>?_) _;have U:=lQ z;rw[J.og,L.og]at U;have O:=bS Zj (VN U);rw[jw V.l0,jw (by simp[Tr.add])]at O;simp[Tr.add]at O
 have e1:=(MU (F:=runN T G (k+17)) (G:=G) (w:=0) (by decide) J.ob (.int i) (.int m) th.enc).trans b;have e2:evS (runN T G (k+17)) G dF.body (dX dF.ns.length [.o 0,.p (.int ((0:Nat):Int)),.p (.int i),.p (.int m),.p th.enc]) h=aa (.rt (.p (.int t.ds.length)) g):=(FF (w:=0) (by decide) rfl).trans (kK e1);unfold fX BS.pC;rw[bK (show [aM.o 0,.p (.int 0),.p (.int i),.p (.int m),.p th.enc].length=dF.ps.length from rfl)];show(match iW (evS (runN T G (k+17)) G dF.body (dX dF.ns.length [.o 0,.p (.int ((0:Nat):Int)),.p (.int i),.p (.int m),.p th.enc]) h) (fin h)with|some r=>aa r|none=>_)=_;rw[e2,nI,a]
def M1(P:TrP T G)(X:TrX TX)(U:Wf t){Pt:Pts}{k:Nat}(A:fz Pt h 0 t 1 5){i m:Nat}{d:Nd}(O:t.ds[i]?=aa d)(L:d.en<m)(W:m<=1000)(x:D):
 ∃g,fX T TX G (k+17) [.o 0,.p (.int 0),.p (.int i),.p (.int m),.p x] h=aa (.p (jg 0),g)/\fz Pt g 0 t 1 5:=by
 obtain⟨_,J⟩:=id A;have V:=IF P U J (k+4) O L;obtain⟨g,b,Y⟩:=Fx P X.at_ U J (k+4) O L W;exact⟨g,vh (w:=0) (by decide) J.ob (Az (v:=7) P X J ⟨V,b⟩) rfl (tU g),Y⟩
def Q2(P:TrP T G)(X:TrX TX)(U:Wf t){Pt:Pts}{k:Nat}(A:fz Pt h 0 t 1 5){i m:Nat}{d:Nd}(O:t.ds[i]?=aa d)(L:m<=d.en):
 ∃g,fX T TX G (k+17) [.o 0,.p (.int 0),.p (.int i),.p (.int m),.p (.str "g")] h=aa (.p (jg 2),g)/\fz Pt g 0 t 1 5:=by
 obtain⟨_,J⟩:=id A;obtain⟨g,q,V⟩:=MT P X U J (k+4) O L 7;exact⟨g,vh (w:=0) (by decide) J.ob q rfl (Cb g),V⟩
def Q3(P:TrP T G)(X:TrX TX)(O:Wf t){Pt:Pts}{k:Nat}(A:fz Pt h 0 t 1 5){i:Nat}{d:Nd}(L:t.ds[i]?=aa d)(x:D):
 fX T TX G (k+17) [.o 0,.p (.int 1),.p (.int i),.p (.int (-1)),.p x] h=aa (.p (jg 0),h):=by
 obtain⟨_,J⟩:=id A;exact vh (w:=1) (by decide) J.ob (at_neg P X O J (k+5) L) rfl (tU h)
end
section
variable{T TX:FK->Option Fn}{G:az->Option W}{F:FK->List W->HH->Option (W×HH)}{s:Sl}{h g:HH}{t:Tr}{oc:Nat->Option Cl}
def vo(d:Nd):biD .len [fH d]=aa (.int ((d.en+1:Nat):Int)):=by unfold fH;rw[A9,V8,oj]
def xF(t:Tr)(x:Nd):eg (t.add x)=eg t++[fH x]:=by simp[eg,Tr.add]
def b60(P:TrP T G)(L:rX T TX){k:Nat}(Y:F60 T TX G k F)(o:List Int)(hl:o.length<=1000)(J:Wf t)(hpl:t.p.length<=1000)(hal:t.aF.length<=1000)(I:t.most<=60)(dl:t.ds.length<=50)(S:S60 s o t)(A:fz (jB oc (eg t) (fu t.ds)) h 0 t 1 5)(j:Nat):
 ∃s' g x,evS F G xy (s.set 8 (aa (.p (.int j)))) h=aa (.nx s' g)/\S60 s' o (t.add x)/\Wf (t.add x)/\fz (jB oc (eg (t.add x)) (fu (t.add x).ds)) g 0 (t.add x) 1 5:=by
 have l0:0<t.ds.length:=List.length_pos_iff.mpr J.l0;have l1:=J.l1;have rl:(eg t).length=t.ds.length:=by unfold eg;rw[V8]
 have K:=tW A;have X:=S.set 8 (aa (.p (.int j))) (by decide);have v8:(s.set 8 (aa (.p (.int j))))[8]?=aa (aa (.p (.int (j:Int)))):=j9 (by rw[S.len];decide);obtain⟨i,hi,di⟩:=mF (G:=G) L.lw o hl (500+5*(j:Int)) (t.ds.length:Int) (by lia);obtain⟨d,V⟩:=jx (l:=t.ds) (i:=i) (by lia);have en:=J.xq V;have m1:=J.m1;have x1:aK F G QK (s.set 8 (aa (.p (.int j)))) h=aa (.p (.int i),h):=by refine(pT (dN (vr X.h0) (dN (FJ v8 rfl) (dN (FI X.h6 K) iY)))).trans ?_;rw[Y.fn _ (by decide),rl];exact di (k+16) h
 have Q:=X.set 9 (aa (.p (.int i))) (by decide);have v9:((s.set 8 (aa (.p (.int j)))).set 9 (aa (.p (.int i))))[9]?=aa (aa (.p (.int (i:Int)))):=j9 (by rw[X.len];decide);have B:((s.set 8 (aa (.p (.int j)))).set 9 (aa (.p (.int i))))[8]?=aa (aa (.p (.int (j:Int)))):=(vn (by decide)).trans v8;have D:aK F G (.y (.v 6) (.v 9)) ((s.set 8 (aa (.p (.int j)))).set 9 (aa (.p (.int i)))) h=aa (.p (fH d),h):=tV Q.h6 K (vr v9) (qo V);have rln:aK F G (.bi .len ai (.cons (.y (.v 6) (.v 9)) .nil)) ((s.set 8 (aa (.p (.int j)))).set 9 (aa (.p (.int i)))) h=aa (.p (.int ((d.en+1:Nat):Int)),h):=by have:=vo d;generalize E.y (.v 6) (.v 9)=e at D;simp[D,rds,rd,this]
 obtain⟨m,hm,dm⟩:=mF (G:=G) L.lw o hl (501+5*(j:Int)) ((d.en+1:Nat):Int) (by lia);have H:m<=d.en:=by lia
 have x2:aK F G QL ((s.set 8 (aa (.p (.int j)))).set 9 (aa (.p (.int i)))) h=aa (.p (.int m),h):=by refine(pT (dN (vr Q.h0) (dN (FJ B rfl) (dN rln iY)))).trans ?_;rw[Y.fn _ (by decide)];exact dm (k+16) h
 have S3:=Q.set 10 (aa (.p (.int m))) (by decide);have r:(((s.set 8 (aa (.p (.int j)))).set 9 (aa (.p (.int i)))).set 10 (aa (.p (.int m))))[8]?=aa (aa (.p (.int (j:Int)))):=(vn (by decide)).trans B;obtain⟨th,rt⟩:=B5 (G:=G) L.lw L.thing o hl (502+5*(j:Int));have x3:aK F G QM (((s.set 8 (aa (.p (.int j)))).set 9 (aa (.p (.int i)))).set 10 (aa (.p (.int m)))) h=aa (.p th.enc,h):=by refine(pT (dN (vr S3.h0) (dN (FJ r rfl) iY))).trans ?_;rw[Y.fn _ (by decide)];exact rt (k+15) h
 have a:=S3.set 11 (aa (.p th.enc)) (by decide);obtain⟨e,R,rp⟩:=yP (G:=G) L.parted L.st J hpl hal I k V H th h;obtain⟨u,hu⟩:∃u,u=(((s.set 8 (aa (.p (.int j)))).set 9 (aa (.p (.int i)))).set 10 (aa (.p (.int m)))).set 11 (aa (.p th.enc)):=⟨_,rfl⟩;have b:u[9]?=aa (aa (.p (.int (i:Int)))):=by rw[hu];exact(vn (by decide)).trans ((vn (by decide)).trans v9)
 have O:u[10]?=aa (aa (.p (.int (m:Int)))):=by rw[hu];exact(vn (by decide)).trans (j9 (by rw[Q.len];decide))
 have c:u[11]?=aa (aa (.p th.enc)):=by rw[hu];exact j9 (by rw[S3.len];decide)
 rw[←hu]at a;generalize hx:Nd.of t i m d (th.put (d.f m) 7) e=x at rp;have x4:aK F G QN u h=aa (.p (fH x),h):=by refine(pT (dN (vr a.h1) (dN (vr a.h2) (dN (tV a.h6 K (vr b) (qo V)) (dN (vr O) (dN (vr c) (dN rfl (dN (vr a.h3) iY)))))))).trans ?_;rw[Y.fn _ (by decide)];exact rp
 have x5:=JQ (F:=F) (G:=G) a.h6 K (by rw[rl];lia) x4;have A1:=xE A (eg t++[fH x]) (fu t.ds) (q:=12) (.inl ⟨rfl,rfl,rfl⟩);have x6:evS F G (.ex (.me .append (.v 7) (.cons (.aB (.cons (.v 9) (.cons (.v 10) .nil))) .nil))) u (h.set 12 (.l (eg t++[fH x])))=aa (.nx u ((h.set 12 (.l (eg t++[fH x]))).set 13 (.l (fu t.ds++[.aB [.int i,.int m]])))):=by refine JQ a.h7 (AC A1) (by rw[jw J.l0];lia) ?_;simp[b,O,rds,rd,dW]
 have A2:=xE A1 (eg t++[fH x]) (fu t.ds++[.aB [.int i,.int m]]) (q:=13) (.inr ⟨rfl,rfl,rfl⟩);generalize hh2:((h.set 12 (.l (eg t++[fH x]))).set 13 (.l (fu t.ds++[.aB [.int i,.int m]])))=h2 at x6 A2;have xo:x.org=.aB [.int i,.int m]:=by rw[←hx];rfl
 have eo:fu t.ds++[.aB [.int i,.int m]]=fu (t.add x).ds:=by rw[←xo];exact(xm J.l0 x).symm
 rw[←xF,eo]at A2;obtain⟨n,b3,A3⟩:=M0 (TX:=TX) P J (k:=k) A2 V H th R;rw[hx]at A3;have a0:=J.at_ V H;have N:Wf (t.add x):=by rw[←hx];exact ML J V H (a0.put MV th) R (by lia) (th:=th) (v:=7) rfl
 have rl2:(eg (t.add x)).length=t.ds.length+1:=by rw[xF,Wg,rl];rfl
 have sm:SmT t (t.add x):=⟨rfl,rfl,rfl⟩;have Z:=a.tr sm;have y1:aK F G QO u h2=aa (.p (.bl ai),n):=by
  have e1:aK F G (.call "_law_told" (.cons (.v 4) (.cons (.j (.int 0)) (.cons (.v 9) (.cons (.v 10) (.cons (.v 11) .nil)))))) u h2=aa (.p (.int t.ds.length),n):=by refine(pT (dN (vr Z.h4) (dN rfl (dN (vr b) (dN (vr O) (dN (vr c) iY)))))).trans ?_;rw[Y.told];exact b3
  have e2:aK F G (.bin .sub (.bi .len ai (.cons (.v 6) .nil)) (.j (.int 1))) u n=aa (.p (.int t.ds.length),n):=by
   have q:=FI (F:=F) (G:=G) Z.h6 (tW A3);rw[rl2]at q;generalize E.bi _ _ _=z at q;have:((t.ds.length+1:Nat):Int)-1=(t.ds.length:Int):=by lia
   simp[-Ze,q,rd,this]
  exact fM e1 e2 (ne_self (pW _ _))
 have U:(t.add x).ds[i]?=aa d:=by show(t.ds++[x])[i]?=aa d;rw[VF (dY V)];exact V
 have C:∀g,lat g 12=aa (eg (t.add x))->aK F G (.bi .len ai (.cons (.y (.v 6) (.v 9)) .nil)) u g=aa (.p (.int ((d.en+1:Nat):Int)),g):=λg q=>by have a1:aK F G (.y (.v 6) (.v 9)) u g=aa (.p (fH d),g):=tV Z.h6 q (vr b) (qo U);have:=vo d;generalize E.y (.v 6) (.v 9)=e at a1;simp[a1,rds,rd,this]
 obtain⟨M,b4,A4⟩:=M1 P L.x N (k:=k) A3 U (m:=d.en+1) (by lia) (by lia) th.enc;have y2:aK F G QS u n=aa (.p (.bl ai),M):=by
  have e1:aK F G (.call "_law_told" (.cons (.v 4) (.cons (.j (.int 0)) (.cons (.v 9) (.cons (.bi .len ai (.cons (.y (.v 6) (.v 9)) .nil)) (.cons (.v 11) .nil)))))) u n=aa (.p (jg 0),M):=by refine(pT (dN (vr Z.h4) (dN rfl (dN (vr b) (dN (C n (tW A3)) (dN (vr c) iY)))))).trans ?_;rw[Y.told];exact b4
  exact fM e1 (FL 0) (ne_self (AD 0))
 obtain⟨W,b5,A5⟩:=Q2 P L.x N (k:=k) A4 U H;have b6:=Q3 P L.x N (k:=k) A5 U (.str "a");have y3:aK F G MW u M=aa (.p (.aj [jg 2,jg 0]),W):=by
  have e1:aK F G (.call "_law_told" (.cons (.v 4) (.cons (.j (.int 0)) (.cons (.v 9) (.cons (.v 10) (.cons (.j (.str "g")) .nil)))))) u M=aa (.p (jg 2),W):=by refine(pT (dN (vr Z.h4) (dN rfl (dN (vr b) (dN (vr O) (dN rfl iY)))))).trans ?_;rw[Y.told];exact b5
  have e2:aK F G (.call "_law_told" (.cons (.v 4) (.cons (.j (.int 1)) (.cons (.v 9) (.cons (.neg (.j (.int 1))) (.cons (.j (.str "a")) .nil)))))) u W=aa (.p (jg 0),W):=by refine(pT (dN (vr Z.h4) (dN rfl (dN (vr b) (dN (w:=.p (.int (-1))) rfl (dN rfl iY)))))).trans ?_;rw[Y.told];exact b6
  unfold MW;generalize E.call "_law_told" (.cons (.v 4) (.cons (.j (.int 0)) (.cons (.v 9) (.cons (.v 10) (.cons (.j (.str "g")) .nil)))))=p1 at e1;generalize E.call "_law_told" (.cons (.v 4) (.cons (.j (.int 1)) (.cons (.v 9) (.cons (.neg (.j (.int 1))) (.cons (.j (.str "a")) .nil)))))=p2 at e2;simp[e1,e2,rds,rd,dW]
 have S6:=Z.set 12 (aa (.p (.aj [jg 2,jg 0]))) (by decide);have y4:aK F G QT (u.set 12 (aa (.p (.aj [jg 2,jg 0])))) W=aa (.p (.bl ai),W) :=
  fM (vr (j9 (by rw[Z.len];decide))) (y:=.aj [jg 2,jg 0]) (g2:=W) rfl (ne_self rfl)
 refine⟨_,W,x,?_,S6,N,A5⟩;exact(dG x1).trans ((dG x2).trans ((dG x3).trans (by rw[←hu];exact(dM x5).trans ((dM x6).trans ((dM (pH y1)).trans ((dM (pH y2)).trans ((dG y3).trans (pH y4))))))))
theorem Q4(P:TrP T G)(L:rX T TX){k:Nat}(Y:F60 T TX G k F)(J:List Int)(O:J.length<=1000):∀(r j:Nat)(s:Sl)(h:HH)(t:Tr),Wf t->t.p.length<=1000->t.aF.length<=1000->t.most<=60->t.ds.length+r<=50->S60 s J t->fz (jB oc (eg t) (fu t.ds)) h 0 t 1 5 →
 ∃s' g t',gj (evS F G xy) [(8,"_law_k")] (upto (j:Int) r) s h=aa (.nx s' g)/\S60 s' J t'/\Wf t'/\SmT t t'/\t'.ds.length=t.ds.length+r/\t'.ds[0]?=t.ds[0]?/\fz (jB oc (eg t') (fu t'.ds)) g 0 t' 1 5
 |0,j,s,h,t,Wt,_,_,_,_,S,A=>⟨s,h,t,rfl,S,Wt,SmT.refl t,rfl,rfl,A⟩
 |r+1,j,s,h,t,Wt,h1,h2,h3,h4,S,A=>by
  obtain⟨Z,c,x,f,n,l,q⟩:=b60 P L Y J O Wt h1 h2 h3 (by lia) S A j;have v:(t.add x).ds.length=t.ds.length+1:=by simp[Tr.add]
  obtain⟨W,b,V,e,m,i,a,w,U,o⟩:=Q4 P L Y J O r (j+1) Z c (t.add x) l h1 h2 h3 (by lia) n q;refine⟨W,b,V,?_,m,i,SmT.trans (u:=t.add x) ⟨rfl,rfl,rfl⟩ a,by lia,U.trans ?_,o⟩
  ·rw[ID];have d:gj (evS F G xy) [(8,"_law_k")] (.int (j:Int)::upto ((j+1:Nat):Int) r) s h=kR (evS F G xy (s.set 8 (aa (.p (.int j)))) h) (gj (evS F G xy) [(8,"_law_k")] (upto ((j+1:Nat):Int) r)):=rfl;rw[d,f,fU,e]
  ·show(t.ds++[x])[0]?=_;rw[VF (List.length_pos_iff.mpr Wt.l0)]
end
section
variable{T TX:FK->Option Fn}{G:az->Option W}{F:FK->List W->HH->Option (W×HH)}{s:Sl}{h g:HH}{t:Tr}{oc:Nat->Option Cl}{Pt:Pts}
def Uw(P:TrP T G)(W:Wf t){k:Nat}(A:fz Pt h 0 t 1 5){i m:Nat}{d:Nd}(O:t.ds[i]?=aa d)(L:m<=d.en)(x:D):
 ∃g,fX T TX G (k+17) [.o 0,.p (.int 1),.p (.int i),.p (.int m),.p x] h=aa (.p (d.f m).enc,g)/\fz Pt g 0 t 1 5:=by
 obtain⟨_,J⟩:=id A;obtain⟨g,b,Y⟩:=qm P W J (k+5) O L;obtain⟨U,V,q⟩:=yO (TX:=TX) (w:=1) (by decide) J.ob (r:=.int i) (m:=.int m) (th:=x) b;refine⟨U,V,?_⟩;rcases q with z|z
 rw[z];exact Y;rw[z];exact A
def Q5(P:TrP T G)(V:Wf t){k:Nat}(A:fz Pt h 0 t 1 5){i:Nat}{d:Nd}(L:t.ds[i]?=aa d)(m x:D):
 ∃g,fX T TX G (k+17) [.o 0,.p (.int 2),.p (.int i),.p m,.p x] h=aa (.p (.int d.en),g)/\fz Pt g 0 t 1 5:=by
 obtain⟨_,J⟩:=id A;obtain⟨g,b,W⟩:=Fk P V J (k+7) L;obtain⟨O,U,q⟩:=yO (TX:=TX) (w:=2) (by decide) J.ob (r:=.int i) (m:=m) (th:=x) b;refine⟨O,U,?_⟩;rcases q with z|z
 rw[z];exact W;rw[z];exact A
def M3(t:Tr)(i:Nat)(d:Nd)(l:List Nat):Nat->D
 |3=>pS i d|4=>.aj (cZ l.reverse)|_=>.aj (cZ (kids t i))
def Ux(P:TrP T G)(L:rX T TX)(V:Wf t){k:Nat}(A:fz Pt h 0 t 1 5){i:Nat}{d:Nd}{l:List Nat}(O:t.ds[i]?=aa d)(pl:Pth t i l)(m x:D){w:Nat}(hw:w=3\/w=4\/w=5):
 fX T TX G (k+17) [.o 0,.p (.int (w:Int)),.p (.int i),.p m,.p x] h=aa (.p (M3 t i d l w),h):=by
 obtain⟨_,J⟩:=id A;have U:∀{w:Nat}(hw:w<6){y:D},runN T G (k+17) (.m "Tree" (n60 w)) (.o 0::a60 (.int i) m x w) h=aa (.p y,h)->fX T TX G (k+17) [.o 0,.p (.int (w:Int)),.p (.int i),.p m,.p x] h=aa (.p y,h):=λ{w} hw {y} b=>by obtain⟨W,Y,q⟩:=yO (TX:=TX) hw J.ob b;have:W=h:=q.elim id id;rw[Y,this]
 rcases hw with rfl|rfl|rfl
 exact U (w:=3) (by decide) (yK P L.q V J (k+14) O);exact U (w:=4) (by decide) (Ft P L.q V J (k+14) (dY O) pl);exact U (w:=5) (by decide) (n9 P L.q V J (k+14) (dY O))
def Q6(P:TrP T G)(L:rX T TX)(U:Wf t){k:Nat}(A:fz Pt h 0 t 1 5){z:Int}(h1:-1000<=z)(h2:z<=1000)(hz:z<0\/(t.ds.length:Int)<=z)(x:D){w:Nat}(hw:w<6):
 fX T TX G (k+17) [.o 0,.p (.int (w:Int)),.p (.int z),.p (.int 0),.p x] h=aa (.p (jg 1),h):=by
 obtain⟨_,J⟩:=id A;refine vh hw J.ob (c:="NoRun") (g:=h) ?_ rfl (Ca h);have O:∀k,Ny T TX G (k+3) (.m "Tree" "at") [.o 0,.p (.int z),.p (.int 0)] h "NoRun" h:=λk=>FD P L.x U J k h1 h2 hz P.at_ L.x.at_ rfl rfl rfl rfl;rcases lt6 hw with rfl|rfl|rfl|rfl|rfl|rfl
 exact Az (v:=7) P L.x J (O (k+13));exact O (k+14);exact FD P L.x U J (k+14) h1 h2 hz P.end_ L.x.end_ rfl rfl rfl rfl;exact FD P L.x U J (k+14) h1 h2 hz L.q.parent L.x.parent rfl rfl rfl rfl;exact FD P L.x U J (k+14) h1 h2 hz L.q.path L.x.path rfl rfl rfl rfl;exact FD P L.x U J (k+14) h1 h2 hz L.q.children L.x.children rfl rfl rfl rfl
def d60(P:TrP T G){k:Nat}(Y:F60 T TX G k F){l:List Int}(L:Wf t)(A:fz Pt h 0 t 1 5)(S:S60 s l t){i:Nat}{d:Nd}(U:t.ds[i]?=aa d)(b:s[9]?=aa (aa (.p (.int (i:Int)))))(J:s[13]?=aa (aa (.p (fH d)))):
 ∃g,aK F G QU s h=aa (.p (.bl ai),g)/\fz Pt g 0 t 1 5:=by
 have en:=L.xq U;have m1:=L.m1;have j:gc .rng1 [.int ((d.en+1:Nat):Int)]=aa (upto 0 (d.en+1)):=by
  rw[jW];have c:((-100000<=((d.en+1:Nat):Int):Bool)&&(((d.en+1:Nat):Int)<=100000:Bool))=ah:=by simp only[VH,bN];lia
  rw[bK c];congr 2
 have y:(iR d).map St.enc=(V5 (d.en+1)).filterMap λm=>aa (d.f m).enc:=by
  unfold iR
  induction V5 (d.en+1)with
  |nil=>rfl|cons a r q=>rw[VX,VX,Wl,q]
 obtain ⟨g,Z,O⟩:=MH (fO (evs F G .nil) (aK F G IJ) [aa (.o 0),aa (.p (.int i))]) (λ(m:Nat)=>D.int (0+(m:Int))) (λm=>aa (d.f m).enc) (λg=>fz Pt g 0 t 1 5) (V5 (d.en+1)) (λm u g B=>by
  have C:=List.mem_range.mp u;obtain⟨V,z,O⟩:=Uw (TX:=TX) P L (k:=k) B U (m:=m) (by lia) (.str "a");refine⟨V,?_,O⟩;have e:([D.int ((0:Int)+(m:Int))].map fT++[aa (.o 0),aa (.p (.int i))]:Sl)=[aa (.p (.int (m:Int))),aa (.o 0),aa (.p (.int i))]:=by rw[Int.zero_add];rfl
  have x:aK F G IJ [aa (.p (.int (m:Int))),aa (.o 0),aa (.p (.int i))] g=aa (.p (d.f m).enc,V):=by refine(pT (dN rfl (dN rfl (dN rfl (dN rfl (dN rfl iY)))))).trans ?_;rw[Y.told];exact z
  unfold fO;rw[e];simp[evs,x]) h A
 rw[←y]at Z;refine⟨g,?_,O⟩;have n:=vo d;have w:evs F G (.cons (.bi .len ai (.cons (.v 13) .nil)) .nil) s h=aa ([.p (.int ((d.en+1:Nat):Int))],h):=by simp[-Ze,J,rds,rd,n]
 have ce:aK F G (.comp ai .rng1 (.cons (.bi .len ai (.cons (.v 13) .nil)) .nil) ["_law_at"] [(4,"_law_tree"),(9,"_law_run")] .nil IJ) s h=aa (.p (fH d),g):=by refine qk (ws:=[.p (.int ((d.en+1:Nat):Int))]) (h1:=h) (fs:=[aa (.o 0),aa (.p (.int i))]) w ?_ ?_ rfl Z ?_;rw[show rds [W.p (D.int ((d.en+1:Nat):Int))] h=aa [D.int ((d.en+1:Nat):Int)] from rfl,Wr,j];rfl;simp[S.h4,b];rw[V8,oj];lia
 exact fM ce (vr J) (MN d)
def Uy(P:TrP T G){k:Nat}(Y:F60 T TX G k F){O:List Int}(W:Wf t)(A:fz Pt h 0 t 1 5)(S:S60 s O t){i:Nat}{d:Nd}(V:t.ds[i]?=aa d)(L:s[9]?=aa (aa (.p (.int (i:Int)))))(J:s[13]?=aa (aa (.p (fH d)))):
 ∃g,aK F G QV s h=aa (.p (.bl ai),g)/\fz Pt g 0 t 1 5:=by
 obtain⟨g,b,Z⟩:=Q5 (TX:=TX) P W (k:=k) A V (.int 0) (.str "a");refine⟨g,fM (x:=.int d.en) (y:=.int d.en) (g:=g) (g2:=g) ?_ ?_ (ne_self (pW _ _)),Z⟩
 ·refine(pT (dN (vr S.h4) (dN rfl (dN (vr L) (dN rfl (dN rfl iY)))))).trans ?_;rw[Y.told];exact b
 ·have U:=vo d;have q:aK F G (.bi .len ai (.cons (.v 13) .nil)) s g=aa (.p (.int ((d.en+1:Nat):Int)),g):=by simp[-Ze,J,rds,rd,U]
  have:((d.en+1:Nat):Int)-1=(d.en:Int):=by lia
  generalize E.bi _ _ _=z at q;simp[-Ze,q,rd,this]
def Q7(u:Wf t){O:List Int}{rw:List D}(A:fz (jB oc rw (fu t.ds)) h 0 t 1 5){x:Nat}{U:List Nat}(b:Pth t x U):∀(s:Sl)(rest:List Nat)(f:Nat),S60 s O t->x<t.ds.length->x<=f->x+rest.length<=1000 →
 eU (aK F G FH) (evS F G Ce) (f+1) (s.set 14 (aa (.p (.aj (cZ (x::rest)))))) h=aa (.nx (s.set 14 (aa (.p (.aj (cZ (U.reverse++rest)))))) h):=by
 have e:=AC A;have L:∀(s:Sl)(x:Nat)(rest:List Nat)(d:Nd),S60 s O t->t.ds[x]?=aa d->aK F G (.y (.v 7) (.y (.v 14) (.j (.int 0)))) (s.set 14 (aa (.p (.aj (cZ (x::rest)))))) h=aa (.p (pS x d),h):=λs x rest d S J=>by have Z:=S.set 14 (aa (.p (.aj (cZ (x::rest))))) (by decide);exact tV Z.h7 e (om (vr (j9 (by rw[S.len];decide))) rfl (QG (rs:=x::rest) (a:=0) (x:=x) rfl)) (vc J)
 induction b with
 |zero =>
  intro s rest f S V m i;obtain⟨d,J⟩:=jx V;have q:=L s 0 rest d S J;have tst:aK F G FH (s.set 14 (aa (.p (.aj (cZ (0::rest)))))) h=aa (.p (.bl ai),h):=fM q rfl rfl;rw[eU,tst,gF,lA];rfl
 |@step x d l J n r g =>
  intro s rest f S V m i;have q:=L s x rest d S J;have c:pS x d=d.org:=by unfold pS;rw[bL (by lia)]
  rw[c]at q;obtain⟨p,k,B,_⟩:=(u.each x d J).par n;have tst:aK F G FH (s.set 14 (aa (.p (.aj (cZ (x::rest)))))) h=aa (.p (.bl ah),h):=fM q rfl rfl;have Z:=S.set 14 (aa (.p (.aj (cZ (x::rest))))) (by decide);have o:evS F G Ce (s.set 14 (aa (.p (.aj (cZ (x::rest)))))) h=aa (.nx (s.set 14 (aa (.p (.aj (cZ (d.par::x::rest)))))) h):=by
   have e1:aK F G (.y (.y (.v 7) (.y (.v 14) (.j (.int 0)))) (.j (.int 0))) (s.set 14 (aa (.p (.aj (cZ (x::rest)))))) h=aa (.p (.int d.par),h):=om q rfl rfl;have e2:aK F G (.aj ai (.cons (.y (.y (.v 7) (.y (.v 14) (.j (.int 0)))) (.j (.int 0))) .nil)) (s.set 14 (aa (.p (.aj (cZ (x::rest)))))) h=aa (.p (.aj [.int d.par]),h):=by generalize E.y (.y _ _) _=z at e1;simp[e1,rds,rd,dW]
   have ad:lg .add (.aj [.int d.par]) (.aj (cZ (x::rest)))=aa (.aj (cZ (d.par::x::rest))):=by rw[kh,bK (by show _<=100000;simp[cZ];lia)];rfl
   have Y:aK F G (.bin .add (.aj ai (.cons (.y (.y (.v 7) (.y (.v 14) (.j (.int 0)))) (.j (.int 0))) .nil)) (.v 14)) (s.set 14 (aa (.p (.aj (cZ (x::rest)))))) h=aa (.p (.aj (cZ (d.par::x::rest))),h):=by have v:=vr (F:=F) (G:=G) (h:=h) (j9 (s:=s) (q:=14) (w:=aa (.p (.aj (cZ (x::rest))))) (by rw[S.len];decide));generalize E.aj _ _=z at e2;generalize E.v 14=y at v;simp[-kh,e2,v,rd,ad]
   have W:evS F G Ce (s.set 14 (aa (.p (.aj (cZ (x::rest)))))) h=aa (.nx ((s.set 14 (aa (.p (.aj (cZ (x::rest)))))).set 14 (aa (.p (.aj (cZ (d.par::x::rest)))))) h):=by unfold Ce;generalize E.bin _ _ _=z at Y;simp[Y]
   rw[ZM]at W;exact W
  cases f with
  |zero=>lia
  |succ f =>
   have:=g s (x::rest) f S (dY k) (by lia) (by simp;lia);rw[eU,tst,gF,kq,o,fU,this];simp
end
noncomputable def lU(i:Nat):D->Bool
 |.aB [.int a,_]=>decide (a=(i:Int))|_=>ai
def kd(i:Nat):Nat->List D->List D
 |_,[]=>[]
 |q,o::r=>if lU i o then .int (q:Int)::kd i (q+1) r else kd i (q+1) r
theorem FM(i:Nat):∀(ds:List Nd)(q:Nat),kd i q (ds.map Nd.org)=(V5 ds.length).filterMap λj=>if decide ((ds[j]?).map Nd.par=aa i)=ah then aa (D.int ((q+j:Nat):Int))else af
 |[],q=>rfl
 |d::ds,q=>by
  have L:=FM i ds (q+1);have J:lU i d.org=decide (d.par=i):=by
   show decide ((d.par:Int)=(i:Int))=_
   by_cases z:d.par=i
   rw[bP z,bP (by lia)];rw[bO z,bO (by lia)]
  rw[VU,XZ,Wl,abh];have e2:((V5 ds.length).filterMap ((λj=>if decide (((d::ds)[j]?).map Nd.par=aa i)=ah then aa (D.int ((q+j:Nat):Int))else af) ∘ Nat.succ))=(V5 ds.length).filterMap λj=>if decide ((ds[j]?).map Nd.par=aa i)=ah then aa (D.int ((q+1+j:Nat):Int))else af:=by congr 1;funext j;show(if decide (((d::ds)[j+1]?).map Nd.par=aa i)=ah then aa (D.int ((q+(j+1):Nat):Int))else af)=_;rw[XS,show q+(j+1)=q+1+j by lia]
  rw[e2,←L];show(if lU i d.org then .int (q:Int)::kd i (q+1) (ds.map Nd.org)else kd i (q+1) (ds.map Nd.org))=_;rw[J]
  by_cases z:d.par=i
  simp[z];simp[z]
def IK{t:Tr}(O:Wf t)(i:Nat):kd i 0 (fu t.ds)=cZ (kids t i):=by
 have L:cZ (kids t i)=(V5 (t.ds.length-1)).filterMap λj=>if decide ((t.ds[j+1]?).map Nd.par=aa i)=ah then aa (D.int (((j+1:Nat):Int)))else af:=by
  unfold kids cZ
  induction V5 (t.ds.length-1)with
  |nil=>rfl
  |cons a r J =>
   rw[VX,List.filter_cons,Wl]
   by_cases z:(t.ds[a+1]?).map Nd.par=aa i
   ·simp only[z,decide_true,if_true,VX];rw[J]
   ·simp only[z,decide_false,if_false,abj];rw[J]
 rw[L];unfold fu;show(if lU i .aC then _ else kd i 1 (t.ds.tail.map Nd.org))=_;rw[bL (show ¬lU i D.aC=ah from λz=>fm z),FM];cases e:t.ds with
 |nil=>exact bM e O.l0
 |cons x r =>
  show(V5 r.length).filterMap _=_;congr 1;funext j;rw[XS,show 1+j=j+1 by lia];rfl
section
variable{T TX:FK->Option Fn}{G:az->Option W}{F:FK->List W->HH->Option (W×HH)}{s:Sl}{h g:HH}{t:Tr}{oc:Nat->Option Cl}{Pt:Pts}
def g60(i:Nat)(q:Int){o:D}(L:o=.aC\/∃a b:Nat,o=.aB [.int a,.int b]):fO (evs F G (.cons Cf .nil)) (aK F G (.v 0)) [aa (.p (.int i))] [.int q,o] h=aa (if lU i o then aa (.int q)else af,h):=by
 have J:([D.int q,o].map fT++[aa (.p (.int i))]:Sl)=[aa (.p (.int q)),aa (.p o),aa (.p (.int i))]:=rfl;have c:aK F G Cf [aa (.p (.int q)),aa (.p o),aa (.p (.int i))] h=aa (.p (.bl (lU i o)),h):=by
  rcases L with rfl|⟨a,b,rfl⟩
  exact MO (fM rfl rfl rfl)
  ·refine Fy (fM (x:=.aB [.int (a:Int),.int (b:Int)]) (y:=.aC) rfl rfl rfl) (fM (x:=.int (a:Int)) (y:=.int (i:Int)) (om rfl rfl rfl) rfl ?_);rw[lZ,bK (ji (pW _ _))];show aa (eqv (.int (a:Int)) (.int (i:Int)))=aa (decide ((a:Int)=(i:Int)));rw[JP];congr 1
   by_cases z:a=i
   rw[bP z,bP (by lia)];rw[bO z,bO (by lia)]
 unfold fO;rw[J];cases z:lU i o with
 |_=>rw[z]at c;simp[evs,c]
theorem Q8(i:Nat){ds:List D}(J:(lat h 13).map (dw 0)=aa ds):∀(l:List D)(q:Nat),(∀o∈l,o=.aC\/∃a b:Nat,o=.aB [.int a,.int b])->eW (yd 13 ds (fO (evs F G (.cons Cf .nil)) (aK F G (.v 0)) [aa (.p (.int i))])) 2 (dw q l) h=aa (kd i q l,h)
 |[],q,_=>rfl
 |o::r,q,ho=>by
  have e1:=g60 (F:=F) (G:=G) (h:=h) i (q:Int) (ho o (V6 ..));have L:=Q8 i J r (q+1) λz O=>ho z (VZ _ O);have e2:yd 13 ds (fO (evs F G (.cons Cf .nil)) (aK F G (.v 0)) [aa (.p (.int i))]) [.int (q:Int),o] h=aa (if lU i o then aa (.int (q:Int))else af,h):=by unfold yd;rw[e1];exact bK J
  show bnd (yd 13 ds _ [.int (q:Int),o] h) (Bc (eW _ 2 (dw (q+1) r)))=_;rw[e2,dZ];show bnd (eW _ 2 (dw (q+1) r) h) (vU _)=aa (if lU i o then .int (q:Int)::kd i (q+1) r else kd i (q+1) r,h);rw[L,dZ];cases lU i o<;>rfl
def Cg(ds:List Nd):∀o∈fu ds,o=.aC\/∃a b:Nat,o=.aB [.int a,.int b]:=λo J=>by
 unfold fu at J;rcases List.mem_cons.mp J with z|z
 exact .inl z
 ·obtain⟨d,_,rfl⟩:=List.mem_map.mp z;exact .inr ⟨d.par,d.fi,rfl⟩
def f60(O:Wf t){Y:List Int}{rw:List D}(A:fz (jB oc rw (fu t.ds)) h 0 t 1 5)(S:S60 s Y t){i:Nat}(U:s[9]?=aa (aa (.p (.int (i:Int))))):aK F G QW s h=aa (.p (.aj (cZ (kids t i))),h):=by
 have J:=AC A;have l1:=O.l1;have L:=Q8 (F:=F) (G:=G) (h:=h) i (ds:=dw 0 (fu t.ds)) (by rw[J];rfl) (fu t.ds) 0 (Cg t.ds);rw[IK O]at L;have kl:(cZ (kids t i)).length<=lim:=by unfold kids cZ;rw[V8];have:=aaH (λj=>decide ((t.ds[j]?).map Nd.par=aa i)) ((V5 (t.ds.length-1)).map (·+1));rw[V8,ZE]at this;show _<=100000;lia
 have e1:evs F G (.cons (.v 7) .nil) s h=aa ([.r 13],h):=dN (vr S.h7) iY;have Z:frees s [(9,"_law_run")]=aa [aa (.p (.int i))]:=by simp[U]
 show bnd (evs F G (.cons (.v 7) .nil) s h) _=_;rw[e1,dZ];show nE ai .enu 2 (frees s [(9,"_law_run")]) (evs F G (.cons Cf .nil)) (aK F G (.v 0)) [.r 13] h=_;rw[Z];have V:(rds [W.r 13] h).bind (gc .enu)=aa (dw 0 (fu t.ds)):=by simp[rds,rd,J]
 unfold nE;rw[V];show(if gU [W.r 13]=ah then _ else qQ ai .enu 2 _ [W.r 13] _ h)=_;rw[bL (by simp[gU]),vW,L,dZ];show(if(cZ (kids t i)).length<=lim then aa (new ai _ h)else af)=_;rw[bK kl];rfl
def j60(P:TrP T G)(L:rX T TX){k:Nat}(Y:F60 T TX G k F){f:List Int}(n:Wf t){rw:List D}(A:fz (jB oc rw (fu t.ds)) h 0 t 1 5)(S:S60 s f t){i:Nat}{d:Nd}{l:List Nat}(Z:t.ds[i]?=aa d)(pl:Pth t i l)(W:s[9]?=aa (aa (.p (.int (i:Int)))))(U:s[14]?=aa (aa (.p (.aj (cZ l.reverse)))))(O:s[15]?=aa (aa (.p (.aj (cZ (kids t i)))))):
 aK F G QY s h=aa (.p (.bl ai),h):=by
 have g:=AC A;have m:eW (fO (evs F G .nil) (aK F G MY) [aa (.o 0),aa (.p (.int i))]) 1 (([3,4,5]:List Nat).map λ(w:Nat)=>D.int (w:Int)) h=aa (([3,4,5]:List Nat).filterMap λw=>aa (M3 t i d l w),h):=by
  refine yF _ (λ(w:Nat)=>D.int (w:Int)) _ h [3,4,5] λw hw=>?_;have V:w=3\/w=4\/w=5:=by simpa using hw
  have b:=Ux P L n (k:=k) A Z pl (.int 0) (.str "a") V;have a:([D.int (w:Int)].map fT++[aa (.o 0),aa (.p (.int i))]:Sl)=[aa (.p (.int (w:Int))),aa (.o 0),aa (.p (.int i))]:=rfl;have j:aK F G MY [aa (.p (.int (w:Int))),aa (.o 0),aa (.p (.int i))] h=aa (.p (M3 t i d l w),h):=by refine(pT (dN rfl (dN rfl (dN rfl (dN rfl (dN rfl iY)))))).trans ?_;rw[Y.told];exact b
  unfold fO;rw[a];simp[evs,j]
 have ce:aK F G QX s h=aa (.p (.aj [pS i d,.aj (cZ l.reverse),.aj (cZ (kids t i))]),h):=by refine qk (ws:=[.p (.aB [.int 3,.int 4,.int 5])]) (h1:=h) (fs:=[aa (.o 0),aa (.p (.int i))]) rfl rfl ?_ rfl m (show 3<=100000 by decide);simp[S.h4,W]
 refine fM ce (y:=.aj [pS i d,.aj (cZ l.reverse),.aj (cZ (kids t i))]) (g2:=h) ?_ (ne_self ?_)
 ·have e1:aK F G (.y (.v 7) (.v 9)) s h=aa (.p (pS i d),h):=tV S.h7 g (vr W) (vc Z);generalize E.y _ _=z at e1;simp[e1,U,O,rds,rd,dW]
 ·have e:dok 99 (pS i d)=ah:=by unfold pS;split<;>rfl
  have c:∀J:List Nat,dok 99 (.aj (cZ J))=ah:=λJ=>by rw[pX];exact rL 98 J
  rw[pX];simp[e,c]
def C60(P:TrP T G)(L:rX T TX){k:Nat}(Y:F60 T TX G k F){e:List Int}(J:Wf t){rw:List D}(A:fz (jB oc rw (fu t.ds)) h 0 t 1 5)(S:S60 s e t){i:Nat}{d:Nd}(U:t.ds[i]?=aa d)(W:s[9]?=aa (aa (.p (.int (i:Int)))))(O:s[13]?=aa (aa (.p (fH d)))):
 ∃s' g,evS F G xA s h=aa (.nx s' g)/\S60 s' e t/\fz (jB oc rw (fu t.ds)) g 0 t 1 5:=by
 have l1:=J.l1;have q:=dY U;obtain⟨z,x,y⟩:=d60 P Y J A S U W O;obtain⟨V,w,Z⟩:=Uy P Y J y S U W O;obtain⟨l,c⟩:=J.pth i i d (VR _) U;have f:=Q7 (F:=F) (G:=G) J Z c s [] 99999 S q (by lia) (by simp;lia);rw[Wz]at f;have a:=S.set 14 (aa (.p (.aj (cZ l.reverse)))) (by decide);have b:(s.set 14 (aa (.p (.aj (cZ l.reverse)))))[9]?=aa (aa (.p (.int (i:Int)))):=(vn (by decide)).trans W;have u:=f60 (F:=F) (G:=G) J Z a b;have m:=a.set 15 (aa (.p (.aj (cZ (kids t i))))) (by decide);have r:=j60 P L Y J Z m U c ((vn (by decide)).trans b) ((vn (by decide)).trans (j9 (by rw[S.len];decide))) (j9 (by rw[a.len];decide));have o:aK F G (.aj ai (.cons (.v 9) .nil)) s V=aa (.p (.aj (cZ [i])),V):=by simp[W,rds,rd,dW,cZ]
 have n:evS F G (.j FH Ce) (s.set 14 (aa (.p (.aj (cZ [i]))))) V=aa (.nx (s.set 14 (aa (.p (.aj (cZ l.reverse))))) V):=f;exact⟨_,V,(dM (pH x)).trans ((dM (pH w)).trans ((dG o).trans ((dM n).trans ((dG u).trans (pH r))))),m,Z⟩
theorem Q9(P:TrP T G)(L:rX T TX){k:Nat}(Y:F60 T TX G k F){O:List Int}(V:Wf t):∀(r:List Nd)(q:Nat)(s:Sl)(h:HH),(∀j d,r[j]?=aa d->t.ds[q+j]?=aa d)->S60 s O t->fz (jB oc (eg t) (fu t.ds)) h 0 t 1 5 →
 ∃s' g,gj (su .enu 12 (dw 0 (eg t)) (evS F G xA)) [(9,"_law_run"),(13,"_law_row_here")] (dw q (r.map fH)) s h=aa (.nx s' g)/\S60 s' O t/\fz (jB oc (eg t) (fu t.ds)) g 0 t 1 5
 |[],q,s,h,_,S,A=>⟨s,h,rfl,S,A⟩
 |d::r,q,s,h,hr,S,A=>by
  have b:t.ds[q]?=aa d:=hr 0 d rfl;have u:=(S.set 9 (aa (.p (.int (q:Int)))) (by decide)).set 13 (aa (.p (fH d))) (by decide);obtain⟨J,U,m,o,W⟩:=C60 P L Y V A u b ((vn (by decide)).trans (j9 (by rw[S.len];decide))) (j9 (by rw[Ws,S.len];decide));obtain⟨Z,c,l,n,v⟩:=Q9 P L Y V r (q+1) J U (λj f a=>by have:=hr (j+1) f a;rwa [show q+(j+1)=q+1+j by lia]at this) o W;refine⟨Z,c,?_,n,v⟩;have i:su .enu 12 (dw 0 (eg t)) (evS F G xA) ((s.set 9 (aa (.p (.int (q:Int))))).set 13 (aa (.p (fH d)))) h=aa (.nx J U):=by unfold su;rw[m];refine bK ?_;unfold kT;rw[tW W];rfl
  have e:gj (su .enu 12 (dw 0 (eg t)) (evS F G xA)) [(9,"_law_run"),(13,"_law_row_here")] (dw q ((d::r).map fH)) s h=kR (su .enu 12 (dw 0 (eg t)) (evS F G xA) ((s.set 9 (aa (.p (.int (q:Int))))).set 13 (aa (.p (fH d)))) h) (gj (su .enu 12 (dw 0 (eg t)) (evS F G xA)) [(9,"_law_run"),(13,"_law_row_here")] (dw (q+1) (r.map fH))):=rfl;rw[e,i,fU,l]
def D60(P:TrP T G)(L:rX T TX){k:Nat}(Y:F60 T TX G k F){U:List Int}(Z:Wf t)(A:fz Pt h 0 t 1 5)(S:S60 s U t){z:Int}(h1:-1000<=z)(h2:z<=1000)(hz:z<0\/(t.ds.length:Int)<=z)(J:s[16]?=aa (aa (.p (.int z)))):evS F G yQ s h=aa (.nx s h):=by
 have W:eW (fO (evs F G (.cons MZ .nil)) (aK F G (.v 0)) [aa (.o 0),aa (.p (.int z))]) 1 ((V5 6).map λ(w:Nat)=>D.int (0+(w:Int))) h=aa ((V5 6).filterMap λ_=>af,h):=by
  refine yF _ (λ(w:Nat)=>D.int (0+(w:Int))) _ h (V5 6) λw hw=>?_;have b:=Q6 P L Z (k:=k) A h1 h2 hz (.str "a") (List.mem_range.mp hw);have O:([D.int (0+(w:Int))].map fT++[aa (.o 0),aa (.p (.int z))]:Sl)=[aa (.p (.int (w:Int))),aa (.o 0),aa (.p (.int z))]:=by rw[Int.zero_add];rfl
  have e1:aK F G (.call "_law_told" (.cons (.v 1) (.cons (.v 0) (.cons (.v 2) (.cons (.j (.int 0)) (.cons (.j (.str "a")) .nil)))))) [aa (.p (.int (w:Int))),aa (.o 0),aa (.p (.int z))] h=aa (.p (jg 1),h):=by refine(pT (dN rfl (dN rfl (dN rfl (dN rfl (dN rfl iY)))))).trans ?_;rw[Y.told];exact b
  have V:aK F G MZ [aa (.p (.int (w:Int))),aa (.o 0),aa (.p (.int z))] h=aa (.p (.bl ai),h):=fM e1 (FL 1) (ne_self (AD 1));unfold fO;rw[O];simp[evs,V]
 have ce:aK F G QZ s h=aa (.p (.aj []),h):=by refine qk (ws:=[.p (.int 6)]) (h1:=h) (fs:=[aa (.o 0),aa (.p (.int z))]) rfl rfl ?_ rfl W (WM _);simp[S.h4,J]
 exact pH (fM ce rfl (ne_self rfl))
def oth(p:Pg)(aF:List Int)(most e:Nat)(i:Nat):Option Cl:=if i<6 then af else([.o "Tree" (tfs (Tr.new p aF most e) 7 11),.l [.aC],.o "Branch" ((Tp.new p aF St.zero most).fs 10),.l [St.zero.enc],.l [St.zero.enc],.b [8]]:List Cl)[i-6]?
def M4{p:Pg}{aF:List Int}{e:Nat}{rw:List D}(Y:Pg.ok p)(Z:Ask aF)(k:most<=100)(R:Run St.zero p aF most e)(A:fz (jB (oth p aF most e) rw pr) h 0 t 1 5):fz (pt1 12 (.l rw)) h 6 (Tr.new p aF most e) 7 11:=by
 obtain⟨_,j⟩:=A;have c:∀i d,jB (oth p aF most e) rw pr i=aa d->h[i]?=aa d:=λi d O=>(j.pt i d O).1;have g:=c 6 _ rfl;have f:=c 7 _ rfl;have a:=c 8 _ rfl;have W:=c 10 _ rfl;have V:=c 11 _ rfl;have U:=c 12 _ rfl;refine⟨[(8,10,Tp.new p aF St.zero most)],⟨by unfold oat;rw[g];rfl,by unfold lat;rw[f];rfl,by unfold bat;rw[V];rfl,rfl,λi b d J O=>?_,by simp,by simp,λi m L=>?_⟩⟩
 ·have z:i=0:=by
   cases i with
   |zero=>rfl|succ i=>simp at J
  subst z;simp at J;subst J;simp[Tr.new]at O;subst O;exact⟨⟨by unfold oat;rw[a];rfl,by unfold lat;rw[W];rfl⟩,yJ Y Z (qi.mono (by decide)) R (by lia),rfl,rfl⟩
 ·unfold pt1 at L
  by_cases z:i=12
  ·rw[bK z]at L;cases L;subst z;exact⟨U,by decide,by decide,by decide,λb J=>by simp at J;subst J;exact⟨show(12:Nat)≠8 by decide,show(12:Nat)≠10 by decide⟩⟩
  rw[bL z]at L;exact gT L
def z60(P:TrP T G)(L:rX T TX){k:Nat}(Y:F60 T TX G k F){n:List Int}{p:Pg}{aF:List Int}{e:Nat}(V:Pg.ok p)(Z:Ask aF)(W:most<=100)(R:Run St.zero p aF most e)(A:fz (jB (oth p aF most e) (eg t) pr) h 0 t 1 5)(S:S60 s n t){d:Nd}(w:t.ds[0]?=aa d)(z:d.f 0=St.zero):
 ∃g,aK F G Q0 s h=aa (.p (.bl ah),g):=by
 have B:=M4 V Z W R A;have l:=Fo V Z W R;obtain⟨_,J⟩:=id B;have u:(Tr.new p aF most e).ds[0]?=aa ⟨0,0,St.zero,e,itr St.zero p aF⟩:=rfl;have a:=n9 (G:=G) P L.q l J (k+15) (i:=0) (show 0<1 by decide);have r:kids (Tr.new p aF most e) 0=[]:=rfl;rw[r]at a;obtain⟨g,b,D⟩:=qm P l J (k+6) u (m:=0) (WM _);have O:lat g 12=aa (eg t):=by unfold lat;rw[D.cell (Pt:=pt0)];rfl
 have e1:aK F G (.aE (.v 5) "children" (.cons (.j (.int 0)) .nil)) s h=aa (.p (.aj (cZ [])),h):=by
  have U:F (.m "Tree" "children") [.o 6,.p (.int 0)] h=aa (.p (.aj (cZ [])),h):=by rw[Y.me];exact a
  simp[S.h5,J.ob,U]
 have e2:aK F G (.aE (.v 5) "at" (.cons (.j (.int 0)) (.cons (.j (.int 0)) .nil))) s h=aa (.p St.zero.enc,g):=by
  have U:F (.m "Tree" "at") [.o 6,.p (.int 0),.p (.int 0)] h=aa (.p St.zero.enc,g):=by rw[Y.me];exact b
  simp[S.h5,J.ob,U]
 refine⟨g,Fy (g:=h) (fM e1 (y:=.aj []) (g2:=h) rfl rfl) (fM e2 (y:=St.zero.enc) (g2:=g) ?_ ?_)⟩
 ·have C:aK F G (.y (.v 6) (.j (.int 0))) s g=aa (.p (fH d),g):=tV (x:=((0:Nat):Int)) S.h6 O rfl (qo w);have c:=Fv d (m:=0) (WM _);rw[z]at c;exact om C rfl c
 rw[lZ,bK (ji (yD 98 _)),lP]
def Ci(P:TrP T G)(L:rX T TX){k:Nat}(Y:F60 T TX G k F)(ns:List Int)(I:ns.length<=1000):∃h',BS.nU F G iT [.p (.aj (cX ns))] []=aa (.p (.bl ah),h'):=by
 obtain⟨pg,C,rp⟩:=uV (G:=G) L.lw L.program ns I 20;obtain⟨O,K,hal,ra⟩:=BY (G:=G) L.lw ns I 450;obtain⟨J,hm,dm⟩:=mF (G:=G) L.lw ns I 440 17 (by lia);obtain⟨e,R,B⟩:=Ak St.zero pg O J;have A:pg.length<=1000:=by have:=C.hi;lia
 have Z:J<=100:=by lia
 have b1:=xu P (k+14) pg O J e [];have b2:=xu P (k+14) pg O J e [.o "Tree" (tfs (Tr.new pg O J e) 1 5),.l [.aC],.o "Branch" ((Tp.new pg O St.zero J).fs 4),.l [St.zero.enc],.l [St.zero.enc],.b [2]];have W1:=Fo C.ok K Z R;have st:=rR (G:=G) L.st k pg C.ok A O K (by lia) J (by lia);have rz:((sts pg O J St.zero).map St.enc)=(iR ⟨0,0,St.zero,e,itr St.zero pg O⟩).map St.enc:=by
  rw[B];unfold iR;have en:Nd.en ⟨0,0,St.zero,e,itr St.zero pg O⟩=e:=by show 0+e=e;lia
  rw[en]
 obtain⟨U,hh2⟩:∃U:HH,U=[.o "Tree" (tfs (Tr.new pg O J e) 1 5),.l [.aC],.o "Branch" ((Tp.new pg O St.zero J).fs 4),.l [St.zero.enc],.l [St.zero.enc],.b [2],.o "Tree" (tfs (Tr.new pg O J e) 7 11),.l [.aC],.o "Branch" ((Tp.new pg O St.zero J).fs 10),.l [St.zero.enc],.l [St.zero.enc],.b [8]]:=⟨_,rfl⟩;have A1:fz (jB (oth pg O J e) (eg (Tr.new pg O J e)) (fu (Tr.new pg O J e).ds)) (U++[.l (eg (Tr.new pg O J e)),.l [.aC]]) 0 (Tr.new pg O J e) 1 5:=by
  have A0:=Fp (Pt:=pt0) (h:=[]) C.ok K Z R (λi c z=>gT z);refine A0.keep (λi hi _=>?_) (λi c hc=>?_)
  ·rw[hh2];have:i<6:=hi;have:i=0\/i=1\/i=2\/i=3\/i=4\/i=5:=by lia
   rcases this with rfl|rfl|rfl|rfl|rfl|rfl<;>rfl
  ·rw[hh2];unfold jB at hc
   by_cases t:i=12
   rw[bK t]at hc;cases hc;subst t;exact⟨rfl,.inl (show 6<=12 by decide)⟩
   ·rw[bL t]at hc
    by_cases n:i=13
    rw[bK n]at hc;cases hc;subst n;exact⟨rfl,.inl (show 6<=13 by decide)⟩
    ·rw[bL n]at hc;unfold oth at hc
     by_cases z6:i<6
     rw[bK z6]at hc;exact gT hc
     ·rw[bL z6]at hc;have il:=dY hc;have:i=6\/i=7\/i=8\/i=9\/i=10\/i=11:=by simp at il;lia
      refine⟨?_,.inl (show 6<=i by lia)⟩;rcases this with rfl|rfl|rfl|rfl|rfl|rfl<;>exact hc
 have S0:S60 [aa (.p (.aj (cX ns))),aa (.p (dS pg)),aa (.p (.aj (cX O))),aa (.p (.int J)),aa (.o 0),aa (.o 6),aa (.r 12),aa (.r 13),af,af,af,af,af,af,af,af,af] ns (Tr.new pg O J e):=⟨rfl,rfl,rfl,rfl,rfl,rfl,rfl,rfl,rfl⟩;obtain⟨c,hc6,hcm⟩:∃c:Nat,c<=6/\aK F G Cd [aa (.p (.aj (cX ns))),aa (.p (dS pg)),aa (.p (.aj (cX O))),aa (.p (.int J)),aa (.o 0),aa (.o 6),aa (.r 12),aa (.r 13),af,af,af,af,af,af,af,af,af] (U++[.l (eg (Tr.new pg O J e)),.l [.aC]])=aa (.p (.int c),U++[.l (eg (Tr.new pg O J e)),.l [.aC]]):=by
  have ln:(cX ns).length=ns.length:=by simp[cX]
  have mn:(if(ns.length:Int)<6 then(ns.length:Int)else 6)=((min 6 ns.length:Nat):Int):=by split<;>lia
  have mx:(if((min 6 ns.length:Nat):Int)>1 then((min 6 ns.length:Nat):Int)else 1)=((max 1 (min 6 ns.length):Nat):Int):=by split<;>lia
  refine⟨max 1 (min 6 ns.length),by lia,?_⟩;have q1:∀(s:Sl)(h:HH),s[0]?=aa (aa (.p (.aj (cX ns))))->aK F G (.bi .len ai (.cons (.v 0) .nil)) s h=aa (.p (.int (ns.length:Int)),h):=λs h v=>by simp[v,rds,rd,ln]
  have q2:∀(s:Sl)(h:HH),s[0]?=aa (aa (.p (.aj (cX ns))))->aK F G (.bi .min2 ai (.cons (.j (.int 6)) (.cons (.bi .len ai (.cons (.v 0) .nil)) .nil))) s h=aa (.p (.int ((min 6 ns.length:Nat):Int)),h):=λs h v=>by
   have:=q1 s h v;have H:biD .min2 [.int 6,.int (ns.length:Int)]=aa (.int ((min 6 ns.length:Nat):Int)):=by rw[zl,mn]
   generalize E.bi .len ai (.cons (.v 0) .nil)=z at this;simp[-zl,this,rds,rd,H]
  have S:=q2 _ (U++[.l (eg (Tr.new pg O J e)),.l [.aC]]) S0.h0;have H:biD .max2 [.int 1,.int ((min 6 ns.length:Nat):Int)]=aa (.int ((max 1 (min 6 ns.length):Nat):Int)):=by rw[zm,mx]
  unfold Cd;generalize E.bi .min2 ai _=z at S;generalize ((min 6 ns.length:Nat):Int)=v at S H;simp[-zm,S,rds,rd,H]
 obtain⟨u,w,V,c1,S1,f,m1,l1,z1,A2⟩:=Q4 (oc:=oth pg O J e) P L Y ns I c 0 _ _ _ W1 A (by show O.length<=1000;lia) (by show J<=60;lia) (by show 1+c<=50;lia) S0 A1;obtain⟨y,g,c2,M,N⟩:=Q9 P L Y f V.ds 0 u w (λj d hj=>by rw[X7];exact hj) S1 A2;have ll:=f.l1;have Q:(eg V).length=V.ds.length:=by unfold eg;rw[V8]
 have d1:=D60 P L Y f N (M.set 16 (aa (.p (.int (-1)))) (by decide)) (z:=-1) (by decide) (by decide) (.inl (by decide)) (j9 (by rw[M.len];decide));have S3:=M.set 16 (aa (.p (.int (-1)))) (by decide);have d2:=D60 P L Y f N (S3.set 16 (aa (.p (.int (V.ds.length:Int)))) (by decide)) (z:=(V.ds.length:Int)) (by lia) (by lia) (.inr (Int.le_refl _)) (j9 (by rw[S3.len];decide));have S4:=S3.set 16 (aa (.p (.int (V.ds.length:Int)))) (by decide);obtain⟨g3,c3⟩:=z60 P L Y C.ok K Z R N S4 (z1.trans rfl) rfl;have y1:∀x,aK F G (.call "_law_program" (.cons (.v 0) (.cons (.j (.int 20)) .nil))) (aa (.p (.aj (cX ns)))::x) []=aa (.p (dS pg),[]):=λx=>by
  have:F "_law_program" [.p (.aj (cX ns)),.p (.int 20)] []=aa (.p (dS pg),[]):=by rw[Y.fn _ (by decide)];exact rp (k+11) []
  simp[this]
 have y2:∀x,aK F G (.call "_law_asked" (.cons (.v 0) (.cons (.j (.int 450)) .nil))) (aa (.p (.aj (cX ns)))::x) []=aa (.p (.aj (cX O)),[]):=λx=>by
  have:F "_law_asked" [.p (.aj (cX ns)),.p (.int 450)] []=aa (.p (.aj (cX O)),[]):=by rw[Y.fn _ (by decide)];exact ra (k+15) []
  simp[this]
 have y3:∀x,aK F G (.call "_law_drawn" (.cons (.v 0) (.cons (.j (.int 440)) (.cons (.j (.int 17)) .nil)))) (aa (.p (.aj (cX ns)))::x) []=aa (.p (.int J),[]):=λx=>by
  have:F "_law_drawn" [.p (.aj (cX ns)),.p (.int 440),.p (.int 17)] []=aa (.p (.int J),[]):=by rw[Y.fn _ (by decide)];exact dm (k+16) []
  simp[this]
 have y4:∀x,aK F G (.make "Tree" (.cons (.v 1) (.cons (.v 2) (.cons (.v 3) .nil)))) (aa (.p (.aj (cX ns)))::aa (.p (dS pg))::aa (.p (.aj (cX O)))::aa (.p (.int J))::x) []=aa (.o 0,[.o "Tree" (tfs (Tr.new pg O J e) 1 5),.l [.aC],.o "Branch" ((Tp.new pg O St.zero J).fs 4),.l [St.zero.enc],.l [St.zero.enc],.b [2]]):=λx=>by
  have b1':F (.m "Tree" "__init__") [.o 0,.p (dS pg),.p (.aj (cX O)),.p (.int J)] [.o "Tree" []]=aa (.p .aC,[.o "Tree" (tfs (Tr.new pg O J e) 1 5),.l [.aC],.o "Branch" ((Tp.new pg O St.zero J).fs 4),.l [St.zero.enc],.l [St.zero.enc],.b [2]]):=by rw[Y.me];exact b1
  simp[b1']
 have y5:∀x,aK F G (.make "Tree" (.cons (.v 1) (.cons (.v 2) (.cons (.v 3) .nil)))) (aa (.p (.aj (cX ns)))::aa (.p (dS pg))::aa (.p (.aj (cX O)))::aa (.p (.int J))::x) [.o "Tree" (tfs (Tr.new pg O J e) 1 5),.l [.aC],.o "Branch" ((Tp.new pg O St.zero J).fs 4),.l [St.zero.enc],.l [St.zero.enc],.b [2]]=aa (.o 6,U):=λx=>by
  have b2':F (.m "Tree" "__init__") [.o 6,.p (dS pg),.p (.aj (cX O)),.p (.int J)] [.o "Tree" (tfs (Tr.new pg O J e) 1 5),.l [.aC],.o "Branch" ((Tp.new pg O St.zero J).fs 4),.l [St.zero.enc],.l [St.zero.enc],.b [2],.o "Tree" []]=aa (.p .aC,U):=by rw[Y.me,hh2];exact b2
  simp[b2']
 have y6:∀x,aK F G (.aj ah (.cons (.call "_law_states" (.cons (.v 1) (.cons (.v 2) (.cons (.v 3) .nil)))) .nil)) (aa (.p (.aj (cX ns)))::aa (.p (dS pg))::aa (.p (.aj (cX O)))::aa (.p (.int J))::x) U=aa (.r 12,U++[.l (eg (Tr.new pg O J e))]):=λx=>by
  have u:F "_law_states" [.p (dS pg),.p (.aj (cX O)),.p (.int J)] U=aa (.p (fH ⟨0,0,St.zero,e,itr St.zero pg O⟩),U):=by rw[Y.fn _ (by decide),show runN T G (k+18) "_law_states" [.p (dS pg),.p (.aj (cX O)),.p (.int J)] U=_ from st U,rz];rfl
  have a:U.length=12:=by rw[hh2];rfl
  have rr:eg (Tr.new pg O J e)=[fH ⟨0,0,St.zero,e,itr St.zero pg O⟩]:=rfl;simp[u,rds,rd,dW,a,rr]
 have y7:∀x,aK F G (.aj ah (.cons (.j .aC) .nil)) x (U++[.l (eg (Tr.new pg O J e))])=aa (.r 13,U++[.l (eg (Tr.new pg O J e)),.l [.aC]]):=λx=>by
  have a:U.length=12:=by rw[hh2];rfl
  simp[rds,rd,dW,a]
 have f1:evS F G (.for [(8,"_law_k")] .rng1 (.cons Cd .nil) xy) [aa (.p (.aj (cX ns))),aa (.p (dS pg)),aa (.p (.aj (cX O))),aa (.p (.int J)),aa (.o 0),aa (.o 6),aa (.r 12),aa (.r 13),af,af,af,af,af,af,af,af,af] (U++[.l (eg (Tr.new pg O J e)),.l [.aC]])=aa (.nx u w):=by
  have rg:gc .rng1 [.int (c:Int)]=aa (upto 0 c):=by
   rw[jW];have c:((-100000<=(c:Int):Bool)&&((c:Int)<=100000:Bool))=ah:=by simp only[VH,bN];lia
   rw[bK c];congr 2
  have ap:gU [W.p (D.int (c:Int))]=ah:=rfl;have X:gj (evS F G xy) [(8,"_law_k")] (upto 0 c) [aa (.p (.aj (cX ns))),aa (.p (dS pg)),aa (.p (.aj (cX O))),aa (.p (.int J)),aa (.o 0),aa (.o 6),aa (.r 12),aa (.r 13),af,af,af,af,af,af,af,af,af] (U++[.l (eg (Tr.new pg O J e)),.l [.aC]])=aa (.nx u w):=c1;have B:evs F G (.cons Cd .nil) [aa (.p (.aj (cX ns))),aa (.p (dS pg)),aa (.p (.aj (cX O))),aa (.p (.int J)),aa (.o 0),aa (.o 6),aa (.r 12),aa (.r 13),af,af,af,af,af,af,af,af,af] (U++[.l (eg (Tr.new pg O J e)),.l [.aC]])=aa ([.p (.int c)],U++[.l (eg (Tr.new pg O J e)),.l [.aC]]):=dN hcm iY;show bnd (evs F G (.cons Cd .nil) _ _) _=_;rw[B,dZ];show kFor _ _ _ _ _ _=_;unfold kFor;rw[show rds [W.p (D.int (c:Int))] (U++[.l (eg (Tr.new pg O J e)),.l [.aC]])=aa [D.int (c:Int)] from rfl,Wr,rg];show(if gU [W.p (D.int (c:Int))]=ah then _ else _)=_;rw[bK ap];exact X
 have f2:evS F G (.for [(9,"_law_run"),(13,"_law_row_here")] .enu (.cons (.v 6) .nil) xA) u w=aa (.nx y g):=by
  have B:evs F G (.cons (.v 6) .nil) u w=aa ([.r 12],w):=dN (vr S1.h6) iY;show bnd (evs F G (.cons (.v 6) .nil) _ _) _=_;rw[B,dZ];show kFor _ _ _ _ _ _=_;unfold kFor;have rs:(rds [W.r 12] w).bind (gc .enu)=aa (dw 0 (eg V)):=by simp[rds,rd,tW A2]
  rw[rs];show(if gU [W.r 12]=ah then _ else zx _ _ _ _ _ _ _)=_;rw[bL (by simp[gU])];exact c2
 have f3:evS F G (.for [(16,"_law_bad")] .seq (.cons (.aB (.cons (.neg (.j (.int 1))) (.cons (.bi .len ai (.cons (.v 6) .nil)) .nil))) .nil) yQ) y g=aa (.nx ((y.set 16 (aa (.p (.int (-1))))).set 16 (aa (.p (.int (V.ds.length:Int))))) g):=by
  have e1:aK F G (.aB (.cons (.neg (.j (.int 1))) (.cons (.bi .len ai (.cons (.v 6) .nil)) .nil))) y g=aa (.p (.aB [.int (-1),.int (V.ds.length:Int)]),g):=by have q:=FI (F:=F) (G:=G) M.h6 (tW N);rw[Q]at q;generalize E.bi _ _ _=z at q;simp[q,rds,rd,dW]
  show bnd (evs F G (.cons _ .nil) _ _) _=_;rw[dN e1 iY,dZ];show kFor _ _ _ _ _ _=_;unfold kFor;rw[show(rds [W.p (D.aB [D.int (-1),D.int (V.ds.length:Int)])] g).bind (gc .seq)=aa [D.int (-1),D.int (V.ds.length:Int)] from rfl];show(if gU [W.p (D.aB [D.int (-1),D.int (V.ds.length:Int)])]=ah then _ else _)=_;rw[bK (show gU [W.p (D.aB [D.int (-1),D.int (V.ds.length:Int)])]=ah from rfl)];show kR (evS F G yQ (y.set 16 (aa (.p (.int (-1))))) g) (gj (evS F G yQ) [(16,"_law_bad")] [D.int (V.ds.length:Int)])=_;rw[d1,fU];show kR (evS F G yQ ((y.set 16 (aa (.p (.int (-1))))).set 16 (aa (.p (.int (V.ds.length:Int))))) g) (gj (evS F G yQ) [(16,"_law_bad")] [])=_;rw[d2,fU];rfl
 have bd:evS F G iT.body (dX iT.ns.length [.p (.aj (cX ns))]) []=aa (.rt (.p (.bl ah)) g3) :=
  (dG (y1 _)).trans ((dG (y2 _)).trans ((dG (y3 _)).trans ((dG (y4 _)).trans ((dG (y5 _)).trans ((dG (y6 _)).trans ((dG (y7 _)).trans ((dM f1).trans ((dM f2).trans ((dM f3).trans (kK c3))))))))))
 obtain⟨h9,f9,_⟩:=u5 [] (.bl ah) g3;refine⟨h9,?_⟩;unfold BS.nU;rw[bK (show [W.p (D.aj (cX ns))].length=iT.ps.length from rfl),bd,nI,f9]
end
end BT
end
section
namespace BF
open PySem PySem.Spec PyProof.Rows L2 BS
variable{K:VE}
def yR(P:VV)(w:Wj)(K:VE)(mg:az->Option aA)(x:az)(z:aM):Prop:=∃u v,mg x=aa u/\RelV v u/\∀m H,RW P w K m H v z
def FN(X:K.In h)(G:h.Ns VW mg)(a:Wp K VW x=aa (aa (.int n t))):yR P w K mg x (.p (.int n)) :=
 ⟨_,.int n,Ww X G a,⟨t,rfl⟩,λ_ _=>.p (.int n)⟩
inductive iz:List az->List aA->Prop
 |nil:iz [] []
 |cons{x:az}{xs:List az}{t:Tok}{vs:List aA}(h:PyData.strOk x=ah)(r:iz xs vs):iz (x::xs) (.str x t::vs)
theorem iz.vals:∀{xs:List az}{vs:List aA},iz xs vs->dJ (xs.map V.str) vs
 |_,_,.nil=>.nil|_,_,.cons _ r=>.cons ⟨_,rfl⟩ r.vals
theorem iz.rds{K:VE}:∀{xs:List az}{vs:List aA},iz xs vs->RDs K m H (xs.map V.str) (xs.map aN.str)
 |_,_,.nil=>.nil|_,_,.cons h r=>.cons (.str _ h) r.rds
theorem iz.len:∀{xs:List az}{vs:List aA},iz xs vs->vs.length=xs.length
 |_,_,.nil=>rfl
 |_,_,.cons _ r=>by simp[r.len]
def FO(X:K.In h)(G:h.Ns VW mg)(a:Wp K VW x=aa (aa (.ref f)))
(l:K.lookup f=aa ⟨.type "tuple",af,.seq its n,sl⟩)(J:xs.length<=1000)(r:iz xs its.toList):yR P w K mg x (.p (.aB (xs.map aN.str))):=by
 refine⟨_,.ref f,Ww X G a,rfl,λm H=>.p (.aB (.inr ⟨_,its,n,⟨l,rfl,rfl,?_,r.vals⟩,rfl⟩) r.rds)⟩;have:=r.len;have e:its.size=xs.length:=by rw[←this];simp
 rw[e];exact X8 (AZ J)
inductive jP(w:Wj):List (az×Int)->List Z3->Prop
 |nil:jP w [] []
 |cons{x:az}{n:Int}{kvs:List (az×Int)}{t u:Tok}{es:List Z3}(r:jP w kvs es):jP w ((x,n)::kvs) (⟨PyData.keyHash w.params x,.str x t,.int n u⟩::es)
theorem jP.ex:∀{kvs:List (az×Int)}{es:List Z3},jP w kvs es->∃vs:List (Key×aA),KV ((kvs.map λq=>(q.1,V.int q.2)).map λq=>((Sum.inr q.1:Key),q.2)) vs/\Pairs (ef P w) es vs/\vs.map (·.1)=kvs.map (λq=>(Sum.inr q.1:Key))/\(∀e∈es,∃k,(ef P w).is k e.key=ah/\e.hash=(ef P w).hash k)
 |_,_,.nil=>⟨[],.nil,.nil,rfl,λe J=>nomatch J⟩
 |_,_,@jP.cons _ x n kvs t u es r=>by
  obtain⟨vs,W,U,O,L⟩:=r.ex (P:=P);have is:(ef P w).is (Sum.inr x) (.str x t)=ah:=by show Zp x (.str x t)=ah;simp[Zp]
  refine⟨(Sum.inr x,.int n u)::vs,.cons ⟨rfl,u,rfl⟩ W,.cons is rfl U,by simp[O],λe J=>?_⟩;rcases List.mem_cons.mp J with rfl|J
  exact⟨Sum.inr x,is,rfl⟩;exact L e J
def Cj{P:VV}{w:Wj}{h:au}{mg:az->Option aA}(X:K.In h)(G:h.Ns VW mg){x:az}{f:VS}{es:Array Z3}{n:Nat}{kvs:List (az×Int)}(a:Wp K VW x=aa (aa (.ref f)))
(l:K.lookup f=aa {cls:=.type "dict",data:=.dict es n})(b:(f==Yd)=ai)(r:jP w kvs es.toList)(J:(kvs.map (·.1)).Nodup):yR P w K mg x (.k (.t (kvs.map λq=>(q.1,aN.int q.2)))):=by
 obtain⟨Y,W,U,O,L⟩:=r.ex (P:=P);refine⟨_,.ref f,Ww X G a,rfl,λm H=>.k (es:=kvs.map λq=>(q.1,V.int q.2)) ⟨b,Y,W,λg d=>⟨_,es,n,d _ _ l,⟨rfl,rfl,rfl⟩,rfl,λe c=>L e (by simpa using c),U,?_⟩⟩ ?_⟩
 ·rw[O];have e:(kvs.map λq=>(Sum.inr q.1:Key))=(kvs.map (·.1)).map Sum.inr:=by simp
  rw[e];exact List.pairwise_map.mpr (J.imp λh z=>h (Sum.inr.inj z))
 ·clear r J W U O L l
  induction kvs with
  |nil=>exact .nil|cons q kvs Z=>exact .cons (λ_ _=>.int _) Z
noncomputable def look{κ J:Type}[DecidableEq κ](l:List (κ×J))(x:κ):Option J:=match l with
 |[]=>af
 |(y,a)::r=>if y=x then aa a else look r x
theorem jy{κ J:Type}[DecidableEq κ]{Q:κ->J->Prop}:∀{l:List (κ×J)} (_:∀p∈l,Q p.1 p.2) {x:κ}{a:J},look l x=aa a->Q x a
 |[],_,_,_,e=>by exact BT.gT e
 |(y,b)::r,h,x,a,e=>by
  rw[look]at e;split at e
  ·rename_i z;cases e;subst z;exact h (y,b) V6
  exact jy (λp L=>h p (VZ _ L)) e
theorem lI{K:VE}:∀J:List Int,RDs K m H (J.map V.int) (BT.cX J)
 |[]=>.nil|n::r=>.cons (.int n) (lI r)
def FP(tb:TB K H)(J:LL K H a (ns.map V.int))(e:∃h',g [.p (.aj (BT.cX ns))] []=aa (.p (.bl ah),h')):spF P w K g [.ref a] H (λv _=>v=.bl ah) λ_ _ _=>False:=by obtain⟨h',e⟩:=e;refine⟨[],_,[],_,h',⟨List.nodup_nil,rfl,λi a L z=>by simp at z,tb⟩,.cons (.p (.aj (J.elim (λq=>.inl ⟨q,by simp⟩) .inr) (lI ns))) .nil,e,λv U O _ _ r=>oM r⟩
end BF
end
section
namespace BG
open PySem PySem.Spec PySem.Calls PyProof.Rows L2 BS BF
variable{K:VE}{st:Zy}
def IL(H:∀p∈K,h.get? p.1=aa p.2):K.In h:=by
 intro a o e;obtain⟨p,L,J⟩:∃p∈K,p.1=a/\p.2=o:=by
  clear H
  induction K with
  |nil=>exact BT.gT e
  |cons q r O =>
   rw[XI]at e;split at e
   ·rename_i c;cases e;exact⟨q,V6,(bR c).symm,rfl⟩
   ·obtain⟨p,L,J⟩:=O e;exact⟨p,VZ _ L,J⟩
 rw[←J.1,←J.2];exact H p L
inductive Rc(K:VE)(x qual:az)(st:Zy)(f:VS):Prop
 |mk(fd:WT)(F:Fun K x qual st f fd)(kV doc pm:aA)(an:Option VS)(cdv ct:aA)(e:fd=WL x qual (gC st) (dD st) (cY st) .none kV doc pm an cdv ct):Rc K x qual st f
def oX(e:F9 K f=aa (yU x qual st)):Rc K x qual st f:=by
 unfold F9 at e;split at e
 ·rename_i c b W Y l;have J:=VN e;unfold yU at J;obtain⟨nm,V,a,i,Z,d,cl,g,L,O,pm,an,U,ct,h⟩:=W;simp only[FS.mk.injEq]at J;obtain⟨rfl,rfl,rfl,rfl,rfl,rfl,rfl,rfl,rfl,hc⟩:=J;have F:=KC (K:=K) (x:=nm) (qual:=V) (st:=st) (f:=f) (kV:=L) (doc:=O) (pm:=pm) (an:=an) (cdv:=U) (ct:=ct) l hc (by simp only[Wh,l]);exact⟨_,F,L,O,pm,an,U,ct,rfl⟩
 exact BT.gT e
def nth{J:Type}{l:List J}{a:J}(i:Nat)(h:l[i]?=aa a):a∈l:=V0 h
noncomputable def pJ(J:List az):Bool:=J.all λn=>!(n.cps[0]?==aa 60)
def Re(y:az):(BT.jm y).cps[0]?=aa 60:=by show(((#[60]:Array Nat)++y.cps)++#[62])[0]?=aa 60;rw[←aaB];simp
def rY(h:pJ ns=ah)(y:az):ns.contains (BT.jm y)=ai:=by
 cases e:ns.contains (BT.jm y)with
 |false=>rfl
 |true =>
  have:=List.all_eq_true.mp h _ (List.contains_iff_mem.mp e);rw[Re]at this;exact aR this
def vp(h:pJ fn.ns=ah):kU K q fd fn:=λy J=>by rw[rY h y]at J;exact aR J
section
variable{K:VE}
def lV(e:refOf o=aa f):o=aa (aa (.ref f)):=by unfold refOf at e;split at e;cases e;rfl;exact BT.gT e
def M5(X:K.In h)(G:h.Ns VW mg)(e:fD K (.fn x f st)=fE w (.fn x f st))
(sc:eX fn.ns fn.ps (cY st))(U:∀(kV doc pm:aA)(an:Option VS)(cdv ct:aA)(us:List aA),us.length=fn.ps.length->abb (WL x x (gC st) (dD st) (cY st) .none kV doc pm an cdv ct) ⟨us,[]⟩=pure (fn.ps.zip us))
(V:CSs (cY st) fn.ns fn.body (dD st))(tg:∀fd,Wp K VW x=aa (aa (.ref f))->(∃oc J L,K.lookup f=aa ⟨oc,J,.func fd,L⟩)->kU K x fd fn):Def K mg x fn:=by
 simp only[fD,fE,Ov.fn.injEq]at e;obtain⟨fd,F,kV,doc,pm,an,cdv,ct,rfl⟩:=oX e.2;refine⟨f,_,st,Ww X G (lV e.1),F,sc,F.binds U,V,tg _ (lV e.1) ?_⟩;obtain⟨oc,J,kV,doc,pm,an,cdv,ct,osl,e1,O,_⟩:=F.ex;exact⟨oc,J,osl,O⟩
def xG(e:fD K (.cls c C)=fE w (.cls c C)):pA K c C:=by simp only[fD,fE,Ov.b.injEq,NX,VH,bN]at e;obtain⟨⟨⟨⟨⟨⟨a,Z⟩,Y⟩,W⟩,V⟩,U⟩,O⟩:=e;refine⟨a,⟨Z,Y,W,V⟩,λf L=>?_,O⟩;have J:f∈attrs:=List.contains_iff_mem.mp L;exact bQ (p:=Wc K (.ref C) f=aa af) (List.all_eq_true.mp U f J)
def IM(X:K.In h)(G:h.Ns VW mg)(V:fD K (.cls c C)=fE w (.cls c C))(L:fD K (.mk C)=fE w (.mk C))(e:fD K (.me C m x qual f st)=fE w (.me C m x qual f st))
(sc:eX fn.ns fn.ps (cY st))(U:∀(kV doc pm:aA)(an:Option VS)(cdv ct:aA)(us:List aA),us.length=fn.ps.length->abb (WL x qual (gC st) (dD st) (cY st) .none kV doc pm an cdv ct) ⟨us,[]⟩=pure (fn.ps.zip us))
(W:CSs (cY st) fn.ns fn.body (dD st))(tg:pJ fn.ns=ah):Ew K mg c m fn:=by
 have O:=xG V;simp only[fD,fE,Ov.fn.injEq]at e;obtain⟨e1,e2⟩:=e;obtain⟨Y,F,kV,doc,pm,an,cdv,ct,rfl⟩:=oX e2;have J:meB K C m f=ah:=by
  cases q:meB K C m f with
  |true=>rfl|false=>rw[q]at e1;exact BT.gT e1
 simp only[meB,VH,bN]at J;simp only[fD,fE,Ov.b.injEq,mkB,VH]at L;refine⟨C,f,_,x,qual,st,O,Ww X G O.cn,⟨J.1,J.2,F.kp⟩,λz=>?_,F,sc,F.binds U,W,vp tg⟩;subst z;exact⟨L.1,J.1,J.2,L.2⟩
def none_of(X:K.In h)(G:h.Ns VW mg)(e:fD K (.no x)=fE w (.no x)):mg x=af:=by simp only[fD,fE,Ov.b.injEq,bN]at e;exact PySem.W.mg_none_of X G e
def FQ(h:intOf v=aa x):∃t,v=.int x t:=by cases v<;>simp[intOf]at h;exact⟨_,by rw[h]⟩
def FU(h:strOf v=aa x):∃t,v=.str x t:=by cases v<;>simp[strOf]at h;exact⟨_,by rw[h]⟩
def gB(X:K.In h)(G:h.Ns VW mg)(e:fD K (.int x n)=fE w (.int x n)):yR P w K mg x (.p (.int n)):=by
 simp only[fD,fE,Ov.int.injEq]at e;split at e
 ·rename_i v J;obtain⟨t,rfl⟩:=FQ e;exact FN X G J
 exact BT.gT e
theorem AE:∀{xs:List az}{vs:List aA},xs.all PyData.strOk=ah->vs.map strOf=xs.map aa->iz xs vs
 |[],[],_,_=>.nil
 |[],_::_,_,h=>by simp at h
 |_::_,[],_,h=>by simp at h
 |x::xs,v::vs,k,h=>by simp only[VX,X9]at h;simp only[List.all_cons,VH]at k;obtain⟨t,rfl⟩:=FU h.1;exact .cons k.1 (AE k.2 h.2)
theorem AF:∀{kvs:List (az×Int)}{es:List Z3},es.map (λe=>(e.hash,strOf e.key,intOf e.val))=kvs.map (λq=>(PyData.keyHash w.params q.1,aa q.1,aa q.2))->jP w kvs es
 |[],[],_=>.nil
 |[],_::_,h=>by simp at h
 |_::_,[],h=>by simp at h
 |(x,n)::kvs,⟨ha,k,v⟩::es,h=>by simp only[VX,X9,aad]at h;obtain⟨⟨rfl,O,L⟩,J⟩:=h;obtain⟨t,rfl⟩:=FU O;obtain⟨u,rfl⟩:=FQ L;exact .cons (AF J)
def FW(X:K.In h)(G:h.Ns VW mg)(e:fD K (.aB x f xs)=fE w (.aB x f xs))(V:xs.length<=1000)(U:xs.all PyData.strOk=ah):yR P w K mg x (.p (.aB (xs.map aN.str))):=by simp only[fD,fE,Ov.seq.injEq]at e;obtain⟨e1,e2,J⟩:=e;obtain⟨o,l,L⟩:=Option.map_eq_some_iff.mp e2;rw[l]at J;obtain⟨cl,Z,Y,O⟩:=o;simp only[shp,aad]at L;obtain⟨rfl,rfl,W⟩:=L;have:O=#[]:=ZG W;subst this;simp only[Wr,Cq]at J;cases Y<;>simp only[Yk,reduceCtorEq]at J;exact FO X G (lV e1) l V (AE U J)
def FY(X:K.In h)(G:h.Ns VW mg){x:az}{f:VS}{kvs:List (az×Int)}(e:fD K (.dct x f kvs)=fE w (.dct x f kvs))(V:(f==Yd)=ai)(U:(kvs.map (·.1)).Nodup):yR P w K mg x (.k (.t (kvs.map λq=>(q.1,aN.int q.2)))):=by simp only[fD,fE,Ov.dct.injEq]at e;obtain⟨e1,e2,J⟩:=e;obtain⟨o,l,L⟩:=Option.map_eq_some_iff.mp e2;rw[l]at J;obtain⟨cl,Z,Y,O⟩:=o;simp only[shp,aad]at L;obtain⟨rfl,rfl,W⟩:=L;have:O=#[]:=ZG W;subst this;simp only[Wr,Jh]at J;cases Y<;>simp only[Yk,reduceCtorEq]at J;exact Cj X G (lV e1) l V (AF J) U
end
def yS{J:Type}{us:List J}{n:Nat}(h:us.length=n+1):∃a r,us=a::r/\r.length=n:=by
 cases us with
 |nil=>simp at h|cons a r=>exact⟨a,r,rfl,by simpa using h⟩
def len0{J:Type}{us:List J}(h:us.length=0):us=[]:=ZT h
def M6{L:Type}{us:List L}(h:us.length=1):∃J,us=[J]:=by obtain⟨J,r,rfl,g⟩:=yS h;exact⟨J,by rw[len0 g]⟩
def IP{O:Type}{us:List O}(h:us.length=2):∃L J,us=[L,J]:=by obtain⟨L,r,rfl,g⟩:=yS h;obtain⟨J,rfl⟩:=M6 g;exact⟨L,J,rfl⟩
def IQ{U:Type}{us:List U}(h:us.length=3):∃O L J,us=[O,L,J]:=by obtain⟨O,r,rfl,g⟩:=yS h;obtain⟨L,J,rfl⟩:=IP g;exact⟨O,L,J,rfl⟩
def IR{V:Type}{us:List V}(h:us.length=4):∃U O L J,us=[U,O,L,J]:=by obtain⟨U,r,rfl,g⟩:=yS h;obtain⟨O,L,J,rfl⟩:=IQ g;exact⟨U,O,L,J,rfl⟩
def IS{W:Type}{us:List W}(h:us.length=5):∃V U O L J,us=[V,U,O,L,J]:=by obtain⟨V,r,rfl,g⟩:=yS h;obtain⟨U,O,L,J,rfl⟩:=IR g;exact⟨V,U,O,L,J,rfl⟩
def Rf{Y:Type}{us:List Y}(h:us.length=6):∃W V U O L J,us=[W,V,U,O,L,J]:=by obtain⟨W,r,rfl,g⟩:=yS h;obtain⟨V,U,O,L,J,rfl⟩:=IS g;exact⟨W,V,U,O,L,J,rfl⟩
def Uz{Z:Type}{us:List Z}(h:us.length=7):∃Y W V U O L J,us=[Y,W,V,U,O,L,J]:=by obtain⟨Y,r,rfl,g⟩:=yS h;obtain⟨W,V,U,O,L,J,rfl⟩:=Rf g;exact⟨Y,W,V,U,O,L,J,rfl⟩
noncomputable abbrev BdT(x qual:az)(st:Zy)(fn:aX):Prop:=∀(kV L U:aA)(V:Option VS)(O ct:aA)(J:List aA),J.length=fn.ps.length->abb (WL x qual (gC st) (dD st) (cY st) .none kV L U V O ct) ⟨J,[]⟩=pure (fn.ps.zip J)
structure CkB(x qual:az)(s:Zy)(f:aX):Prop where
 ck:CSs (cY s) f.ns f.body (dD s):=by repeat' (first|rfl|constructor|decide +kernel)
 sc:eX f.ns f.ps (cY s):=by constructor<;>first|rfl|decide +kernel
 bd:BdT x qual s f:=by intro _ _ _ _ _ _ us hl;first|(obtain⟨a0,a1,rfl⟩:=IP hl;rfl)|(obtain⟨a0,rfl⟩:=M6 hl;rfl)|(obtain⟨a0,a1,a2,rfl⟩:=IQ hl;rfl)|(obtain⟨a0,a1,a2,a3,rfl⟩:=IR hl;rfl)|(obtain rfl:=len0 hl;rfl)|(obtain⟨a0,a1,a2,a3,a4,rfl⟩:=IS hl;rfl)|(obtain⟨a0,a1,a2,a3,a4,a5,rfl⟩:=Rf hl;rfl)|(obtain⟨a0,a1,a2,a3,a4,a5,a6,rfl⟩:=Uz hl;rfl)
def ce{p:Prop}(h:p:=by repeat' (first|rfl|constructor|decide +kernel)):p:=h
def dk{p:Prop}(h:p:=by decide +kernel):p:=h
def hn{w:Wj}{J:List Qy}(L:∀q∈J,fD K q=fE w q)(i:Nat){a:Qy}(h:J[i]?=aa a):fD K a=fE w a:=L _ (nth i h)
def xH(K:VE)(mg:az->Option aA)(p:bA×aX):Prop:=(∀x,p.1=.f x->Def K mg x p.2)/\(∀c m,p.1=.m c m->Ew K mg c m p.2)/\∀L,p.1=.l L->False
def dd(d:Def K mg x fn):xH K mg (.f x,fn):=⟨λy e=>by cases e;exact d,λc m e=>(by cases e),λL e=>by cases e⟩
def dm(d:Ew K mg c m fn):xH K mg (.m c m,fn):=⟨λy e=>(by cases e),λc m e=>by cases e;exact d,λL e=>by cases e⟩
def dg{J:Type}{Q:J->Prop}{a:J}{l:List J}(h:Q a)(t:∀p∈l,Q p):∀p∈a::l,Q p:=List.forall_mem_cons.mpr ⟨h,t⟩
def AG{J:Type}{Q:J->Prop}:∀p∈([]:List J),Q p:=λ_ h=>bM h WA
section
variable{K:VE}
def dd0(X:K.In h)(G:h.Ns VW mg)(e:fD K (.fn x f st)=fE w (.fn x f st))(c:CkB x x st fn)(tg:pJ fn.ns=ah:=by decide +kernel):xH K mg (.f x,fn) :=
 dd (M5 X G e c.sc c.bd c.ck λ_ _ _=>vp tg)
def dm0(X:K.In h)(G:h.Ns VW mg)(L:fD K (.cls c C)=fE w (.cls c C))(J:fD K (.mk C)=fE w (.mk C))(e:fD K (.me C m x qual f st)=fE w (.me C m x qual f st))(k:CkB x qual st fn)(tg:pJ fn.ns=ah:=by decide +kernel):xH K mg (.m c m,fn) :=
 dm (IM X G L J e k.sc k.bd k.ck tg)
end
structure M7(K:VE)(tl:List (az×VS×VS)):Prop where
 all:∀z∈BT.jF,(∃c P,(z,c,P)∈tl/\W4 K z=aa (c,P))\/W4 K z=af
 hd:∀q∈tl,Zv K q.2.1 q.2.2=ah
def fG(e:fD K (.no x)=fE w (.no x)):W4 K x=af:=by simp only[fD,fE,Ov.b.injEq,bN]at e;unfold W4;rw[e]
def yT(e:K.lookup b=aa o):b∈K.map (·.1):=List.mem_map.mpr ⟨(b,o),PySem.W.mem_of_lookupK e,rfl⟩
def Ck 
(D:K.In s₁.heap)(M:s₁.heap.Ns VW mg)(R:s₁.heap.Ns XX mb)(Q:∀x:az,x≠"__name__"->mb x=Yj x)(j:s₁.heap.NoLimit)(hg:s₁.gens=#[])
(l:s₁.heap.get? a=aa {cls:=.type "list",data:=.seq vs.toArray})(hi:abi vs ns)(hl:ns.length<=ak)(hr:fN k aba)
(hT:M7 K tl)(W:∀p∈tl,s₁.heap.get? p.2.2=aa (Y0 #[]))(S:∀p∈tl,K.lookup p.2.2=af)
(F:∀base:au,gE P w K mg base CX0 k fa fd [x] sp)(f:∀(s:VG)(u:aA),K.In s.heap->BindsTo s fd ⟨[u],[]⟩ [(x,u)])
(I:∀H:Hp,TB K H->LL K H a (ns.map V.int)->sp [.ref a] H (λv _=>v=.bl ah) λ_ _ _=>False):
 ao (V4 P w) aba (.call (.ref fa) ⟨[.ref a],[]⟩) (λr s'=>r=.ok (.ret (.bool ah))/\OldK s₁.heap s'.heap/\s'.os=s₁.os/\ZP s'.gens) s₁:=by
 have rv:=sY hi;have i:=hi.length;have E:∀p∈tl,p.2.2≠a:=λp L z=>by have:=W p L;rw[z,l]at this;cases this
 let B:HO:=.frz {cls:=.type "list",data:=.seq vs.toArray} (.aj (ns.map V.int))
 let H:Hp:=λb=>if ∃p∈tl,p.2.2=b then aa (.tbl #[])else if b=a/\K.lookup a=af then aa B else af
 have Ht:∀p∈tl,H p.2.2=aa (.tbl #[]):=λp L=>bK ⟨p,L,rfl⟩;have O:∀b u,H b=aa u->(∃p∈tl,p.2.2=b/\u=.tbl #[])\/(b=a/\K.lookup a=af/\u=B):=λb u e=>by
  by_cases X:∃p∈tl,p.2.2=b
  ·have g:aa (HO.tbl #[])=aa u:=(bK X).symm.trans e;obtain⟨p,L,U⟩:=X;exact .inl ⟨p,L,U,(VN g).symm⟩
  ·have g:(if b=a/\K.lookup a=af then aa B else af)=aa u:=(bL X).symm.trans e
   by_cases C:b=a/\K.lookup a=af
   ·rw[bK C]at g;exact .inr ⟨C.1,C.2,(VN g).symm⟩
   rw[bL C]at g;exact BT.gT g
 have G:∀{b:VS}{o:aq}{n:Array Z3}{t:Nat},s₁.heap.get? b=aa o->o.data=.dict n t->H b=af:=λ{b o n t} e d=>by
  cases q:H b with
  |none=>rfl
  |some u =>
   rcases O b u q with⟨p,L,U,_⟩|⟨U,_⟩
   ·have z:=W p L;rw[U,e]at z;cases z;cases d
   ·rw[U,l]at e;cases e;have d':Data.seq vs.toArray _=Data.dict n t:=d;cases d'
 have Z:∀ {b:VS}{m:az->Option aA},s₁.heap.Ns b m->(vz s₁.heap H).Ns b m:=λ{b m} ⟨o,n,t,e,d,r⟩=>⟨o,n,t,vA e (G e d),d,r⟩;have T:K.In (vz s₁.heap H):=λb o e=>vA (D b o e) (by
  cases q:H b with
  |none=>rfl
  |some u =>
   rcases O b u q with⟨p,L,U,_⟩|⟨U,h3,_⟩
   rw[←U,S p L]at e;exact BT.gT e
   ·rw[U,h3] at e;exact BT.gT e)
 have hM:Mod K mg (vz s₁.heap H):=⟨T,Z M,⟨mb,Z R,Q⟩,let ⟨mc,h1,U⟩:=j;⟨mc,Z h1,U⟩⟩;have aI:HOk P w H s₁.heap:=λb u e=>by
  rcases O b u e with⟨p,L,U,rfl⟩|⟨U,_,rfl⟩
  subst U;exact W p L;subst U;exact⟨l,by rw[V8];exact hl,vs,_,rv,l⟩
 have e0:pK P w K mg (vz s₁.heap H) aba [] s₁ H:=⟨rfl,hM,λb o e=>Gc e,Nat.le_of_eq (AJ _ _),trivial,λb R=>bM (show b∈([]:List VS) from R) (by simp),aI,.of_eq hg⟩;have tb:TB K H:=λz hz c Pt e=>by
  rcases hT.all z hz with⟨c3,P3,m3,y⟩|y
  ·rw[e]at y;cases y;exact⟨#[],Ht _ m3,trivial,λpos v q=>by cases q⟩
  rw[e]at y;cases y
 have hS:LL K H a (ns.map V.int):=by
  cases N:K.lookup a with
  |some o =>
   have e:=D a o N;rw[l]at e;cases e;exact .inr ⟨vs,_,N,by rw[i];exact hl,rv⟩
  |none =>
   refine .inl (.inr ⟨{cls:=.type "list",data:=.seq vs.toArray},?_⟩);have e1:H a=(if a=a/\K.lookup a=af then aa B else af):=bL λ⟨p,L,z⟩=>E p L z;rw[e1,bK ⟨rfl,N⟩]
 refine YL ((F _).run aba [] s₁ H ⟨[.ref a],[]⟩ [.ref a] [.ref a] _ _ hr e0 (f s₁ (.ref a) D) (.cons rfl .nil) (I H tb hS)) λr s' h=>?_;cases r with
 |error e=>exact Wy h
 |ok fl =>
  cases fl with
  |ret u =>
   obtain⟨v,H',os,A,un,Y,r',q⟩:=h;have q':v=.bl ah:=q;subst q';obtain rfl:u=abd ah:=r';have kp:∀b o,s₁.heap.get? b=aa o->(s'.heap.get? b=aa o)\/∃p∈tl,p.2.2=b/\∃J,s'.heap.get? b=aa (Y0 (#[]++J)):=λb o e=>by
    cases q:H b with
    |none=>exact .inl (un.keep b o e q (by intro z;exact bM (show b∈([]:List VS) from z) (by simp)) (by simp))
    |some u =>
     rcases O b u q with⟨p,L,U,rfl⟩|⟨U,h3,rfl⟩
     ·obtain⟨J,z⟩:=un.tbls b _ q;exact .inr ⟨p,L,U,J,Y b _ z⟩
     ·have z2:=un.frzs b _ _ q;obtain⟨e1,_⟩:=aI b _ q;obtain⟨e2,_⟩:=Y b _ z2;rw[e]at e1;cases e1;exact .inl e2
   refine⟨rfl,⟨λb o e=>?_,λb o e=>?_⟩,os,A⟩
   ·rcases kp b o e with z|⟨p,L,rfl,J,z⟩
    exact .inl z
    ·have e2:=W p L;rw[e]at e2;cases e2;have tA:=(Yg D (hT.hd p L)).tab e;exact .inr (.inl ⟨tA.isCodeTable,rfl,#[],J,rfl,z⟩)
   ·rcases kp b o e with z|⟨p,L,rfl,J,z⟩
    exact⟨o,z⟩;exact⟨_,z⟩
  |_=>exact Wy h
noncomputable def rZ:List az:=["NoMoment","NoRun","NoThing","NoText"]
def FZ(h:lB c=ah):c∈rZ:=by have:=List.contains_iff_mem.mp h;simp only[Xa,WA,or_false]at this;simp only[rZ,Xa,WA,or_false];rcases this with h|h|h|h<;>simp[h]
def F0(h:lB cn=ah):BT.nG c cn=(cn==c):=by
 have:=List.contains_iff_mem.mp h;simp only[Xa,WA,or_false]at this;unfold BT.nG;have L:(cn==("TapeError":az))=ai:=by rcases this with rfl|rfl|rfl|rfl<;>decide
 have J:(cn==("ValueError":az))=ai:=by rcases this with rfl|rfl|rfl|rfl<;>decide
 rw[L,J,Yi,Yi]
def xJ{xs:List (az×VS)}(h:xs.map (·.1)=rZ){c:az}(hc:lB c=ah):∃C,(c,C)∈xs:=by have:=FZ hc;rw[←h]at this;obtain⟨p,J,rfl⟩:=List.mem_map.mp this;exact⟨p.2,J⟩
section
variable{K:VE}{D:VS}
def iA(e:Ga K c C=ah):CN K c C/\nR K C:=by unfold Ga at e;obtain⟨e1,e2⟩:=Bool.and_eq_true_iff.mp e;exact⟨bQ (p:=Wp K VW c=aa (aa (.ref C))) e1,⟨e2⟩⟩
def IT(e:fD K (.exc D xs)=fE w (.exc D xs))(Z:xs.map (·.1)=rZ):Qn K D/\nR K D/\CN K "TapeError" D:=by simp only[fD,fE,Ov.b.injEq]at e;unfold JR at e;obtain⟨e1,e2⟩:=Bool.and_eq_true_iff.mp e;have a:=List.all_eq_true.mp e2;refine⟨⟨λc hc=>?_⟩,(iA e1).2,(iA e1).1⟩;obtain⟨C,m⟩:=xJ Z hc;have q:=a _ m;unfold Gb at q;simp only[VH,bN]at q;obtain⟨⟨⟨⟨⟨⟨⟨⟨⟨⟨⟨Y,l⟩,k⟩,j⟩,i⟩,h⟩,g⟩,f⟩,d⟩,W⟩,V⟩,U⟩:=q;refine⟨C,(iA Y).1,⟨k,j,i,h,g,f,d,W,λo L _=>?_,V⟩,(iA Y).2,l⟩;obtain⟨n,J⟩:=xJ Z L;have z:=List.all_eq_true.mp U _ J;have O:=a _ J;unfold Gb at O;simp only[VH]at O;refine⟨n,(iA O.1.1.1.1.1.1.1.1.1.1.1).1,?_⟩;rw[F0 L];exact bQ z
def jz{c:az}{C:VS}{m x qual:az}{f:VS}{fn:aX}{rn:List az}(Z:fD K (.cls c C)=fE w (.cls c C))(e:fD K (.me C m x qual f st)=fE w (.me C m x qual f st))
(b:iF (cY st) fn.ns rn fn.body (dD st))(sc:eX fn.ns fn.ps (cY st):=by constructor<;>first|rfl|decide +kernel)(W:BdT x qual st fn:=by intro _ _ _ _ _ _ us L;first|(obtain⟨O,U,rfl⟩:=IP L;rfl)|(obtain⟨O,rfl⟩:=M6 L;rfl)|(obtain⟨O,U,V,rfl⟩:=IQ L;rfl)|(obtain⟨O,U,V,g,rfl⟩:=IR L;rfl)|(obtain⟨O,U,V,g,k,rfl⟩:=IS L;rfl))(tg:pJ fn.ns=ah:=by decide +kernel):wG rn K c m fn:=by
 have Y:=xG Z;simp only[fD,fE,Ov.fn.injEq]at e;obtain⟨e1,e2⟩:=e;obtain⟨i,F,kV,a,h,j,d,ct,rfl⟩:=oX e2;have J:meB K C m f=ah:=by
  cases q:meB K C m f with
  |true=>rfl|false=>rw[q]at e1;exact BT.gT e1
 simp only[meB,VH,bN]at J;exact⟨C,f,_,x,qual,st,Y,⟨J.1,J.2,F.kp⟩,F,sc,F.binds W,b,vp tg⟩
def IU(X:K.In h)(G:h.Ns VW mg){x:az}{f:VS}{fn:aX}(e:fD K (.fn x f st)=fE w (.fn x f st))
(k:CkB x x st fn){b:BT.S}{rn:List az}(Y:iF (cY st) fn.ns rn b (dD st))
(tg:∀fd,Wp K VW x=aa (aa (.ref f))->(∃oc J U,K.lookup f=aa ⟨oc,J,.func fd,U⟩)->kU K x fd fn):EI rn K mg x ⟨fn.ps,fn.ns,b⟩:=by
 simp only[fD,fE,Ov.fn.injEq]at e;obtain⟨fd,F,kV,L,V,Z,O,ct,rfl⟩:=oX e.2;refine⟨f,_,st,Ww X G (lV e.1),F,k.sc,F.binds k.bd,Y,tg _ (lV e.1) ?_⟩;obtain⟨oc,J,kV,L,V,Z,O,ct,osl,e1,W,_⟩:=F.ex;exact⟨oc,J,osl,W⟩
noncomputable def IV:List Zy->List Zy
 |[.Try b _ _ _ _]=>b|_=>[]
def F2{rn:List az}{T TX:bA->Option aX}{G:az->Option aM}(X:K.In h)(m:h.Ns VW mg)(XT:Txt P w K mg T G)(YT:BN rn K mg TX)(e:fD K (.exc D xs)=fE w (.exc D xs))(E:xs.map (·.1)=rZ)
{k i:Nat}{fn J:aX}{n rn tn:az}{f p:VS}{str:Zy}{B p2 A z y H pos:Pos}(d:fD K (.fn tn f st)=fE w (.fn tn f st))(g:fD K (.fn rn p str)=fE w (.fn rn p str))
(M:dD st=[.Try (IV (dD st)) [.ExceptHandler (aa (.Name "TapeError" B)) (aa n) [.Return (aa (.Call (.Name rn p2) [.Name n A] [] z)) y] H] [] [] pos])
(N:iF (cY st) fn.ns [] fn.body (IV (dD st)))(hi:fn.ns[i]?=aa n)(Z:(cY st).names.lookup n=aa .local)
(b:d7 (cY st) "TapeError"=ah)(a:d7 (cY st) rn=ah)(W:CkB rn rn str J)
(Q:CSs (cY st) fn.ns fn.body (IV (dD st)):=by repeat' (first|rfl|constructor|decide +kernel))(s3:eX fn.ns fn.ps (cY st):=by constructor<;>first|rfl|decide +kernel)
(I:BdT tn tn st fn:=by intro _ _ _ _ _ _ us L;first|(obtain⟨l,j,rfl⟩:=IP L;rfl)|(obtain⟨l,j,s,rfl⟩:=IQ L;rfl)|(obtain⟨l,j,s,a3,rfl⟩:=IR L;rfl)|(obtain⟨l,j,s,a3,a4,rfl⟩:=IS L;rfl))
(tg:pJ fn.ns=ah:=by decide +kernel)(U:dR n=ah:=by decide +kernel)(V:dR rn=ah:=by decide +kernel)(O:pJ J.ns=ah:=by decide +kernel)(Y:gk J.ns=ai:=by decide +kernel):
 ∃c fd ps,mg tn=aa (.ref c)/\Wh K (.ref c)=ah/\Binds K fd ps []/\∀base,gE P w K mg base CX0 (2*(k+1)) c fd ps (spF P w K (pC (aO T G k) (BT.gu T TX G k) (BT.dk T) G fn J)):=by
 obtain⟨v,u,t⟩:=IT e E;simp only[fD,fE,Ov.fn.injEq]at d g;obtain⟨fd,F,kV,S,pm,an,cdv,ct,rfl⟩:=oX d.2;obtain⟨R,o,C,q,x,anr,r,ctr,rfl⟩:=oX g.2;refine⟨f,_,fn.ps,Ww X m (lV d.1),F.kp,F.binds I,λbase=>?_⟩;exact EM XT YT v F s3 M Q N (rY tg) hi Z U b (by decide) (Ww X m t) u a V (Ww X m (lV g.1)) o.kp (o.binds W.bd) (Mn (k:=0) XT.blt o W.sc W.ck Y (rY O))
end
def F3{l:PySem.W.OpenLaw}{n k:Nat}{q:VV}{loose:List az}{XP:(az->Option aA)->au->Prop}{d:DefRec}{as:List VS}{i:List Qy}{ts:List VS}{tl:List (az×VS×VS)}{T:bA->Option aX}{G:az->Option aM}{fn:aX}{x tn:az}{told:List aM->aL->Option (aM×aL)}
(hn:l.most=aa n)(z:n<=ak)(B:d.params.defaults=[])(hr:fN (2*k+1+1) aba)(O:fn.ps=[x])(hT:T (.f d.name)=aa fn)(t:ts=tl.map (·.2.2))(v:tl.all (λp=>!as.contains p.2.2)=ah)
(FT:∀(w:Wj)(K:VE),(∀q∈i,fD K q=fE w q)->M7 K tl)
(F:∀(P:VV)(w:Wj)(mg:az->Option aA)(K:VE) (h:au),K.In h->h.Ns VW mg->(∀q∈i,fD K q=fE w q)->Txt P w K mg T G)
(FX:∀(P:VV)(w:Wj)(mg:az->Option aA)(K:VE) (h:au),K.In h->h.Ns VW mg->(∀q∈i,fD K q=fE w q)->∃r fd ps,mg tn=aa (.ref r)/\Wh K (.ref r)=ah/\Binds K fd ps []/\∀base,gE P w K mg base CX0 (2*k) r fd ps (spF P w K told))
(Z:∀j:List Int,j.length<=n->∃h',nU (nT tn told (aO T G k)) G fn [.p (.aj (BT.cX j))] []=aa (.p (.bl ah),h')):
 PySem.W.WalkO q loose XP (sees as i ts).says l.row.toRowW d [] (λf vs=>abe f vs):=by
 refine Att.vK hn B λw D J mg mb r o pm cd doc a vs j V Y ho hd hcd A c U L hg=>?_;obtain⟨K,k0,k1,k2,S⟩:=Y;have C:=IL k1;have X:=F l.prog w mg K J.heap C V.T.g k2;obtain⟨fa',fd',R,Q,N,M,I⟩:=FX l.prog w mg K J.heap C V.T.g k2;obtain⟨f,fd,st,E,h2,h3,h4,h5,h6⟩:=(X.defs _ fn hT).ex;rw[A]at E;cases E;refine Ck (sp:=spF l.prog w K (nU (nT tn told (aO T G k)) G fn)) (x:=x) (k:=2*k+1+1) (fd:=fd) (tl:=tl) C V.T.g V.T.b V.T.builtins V.T.nolimit hg c U (Wa L z) hr (FT w K k2) (λp y=>S _ (by rw[t];exact List.mem_map_of_mem y)) (λp y=>?_) (λbase=>?_) (λs u hK=>?_) (λH tb hS=>FP tb hS (Z j L))
 ·cases e:K.lookup p.2.2 with
  |none=>rfl
  |some o =>
   have m:=yT e;rw[k0]at m;have:=List.all_eq_true.mp v p y;rw[List.contains_iff_mem.mpr m]at this;exact aR this
 ·have:=EK (base:=base) X k h2 h3 h5 h6 Q N M (I base);rw[O]at this;exact this
 ·have:=h4 s [u] hK (by rw[O];rfl);rw[O]at this;exact this
section
variable{P:VV}{w:Wj}{K:VE}{h:au}{mg:az->Option aA}{D:VS}{xs:List (az×VS)}
def F4{rn:List az}(e:fD K (.exc D xs)=fE w (.exc D xs))(W:xs.map (·.1)=rn):(∀c,rn.contains c=ah->∃C,CN K c C/\nR K C/\uM K C D=ah)/\nR K D/\CN K "TapeError" D:=by simp only[fD,fE,Ov.b.injEq]at e;unfold JR at e;obtain⟨e1,e2⟩:=Bool.and_eq_true_iff.mp e;have Z:=List.all_eq_true.mp e2;refine⟨λc hc=>?_,(iA e1).2,(iA e1).1⟩;have:c∈rn:=List.contains_iff_mem.mp hc;rw[←W]at this;obtain⟨p,Y,rfl⟩:=List.mem_map.mp this;have q:=Z _ Y;unfold Gb at q;simp only[VH,bN]at q;obtain⟨⟨⟨⟨⟨⟨⟨⟨⟨⟨⟨J,L⟩,j⟩,i⟩,h⟩,g⟩,f⟩,d⟩,a⟩,V⟩,U⟩,O⟩:=q;exact⟨p.2,(iA J).1,(iA J).2,L⟩
def F5{rn:List az}{TX:bA->Option aX}(X:K.In h)(W:h.Ns VW mg)(e:fD K (.exc D xs)=fE w (.exc D xs))(U:xs.map (·.1)=rn)(df:∀x fn,TX (.f x)=aa fn->EI rn K mg x fn)(me:∀c m fn,TX (.m c m)=aa fn->wG rn K c m fn)(O:∀L fn,TX (.l L)=aa fn->False:=by intro L fn e;cases e):BN rn K mg TX :=
 ⟨df,me,λc hc=>by obtain⟨C,J,V,_⟩:=(F4 e U).1 c hc;exact⟨C,J,Ww X W J,V⟩,O⟩
end
end BG
end
section
namespace BL
open PySem PySem.Spec PyProof.Rows L2 BS BF BG
def UA:CkB "is_whole" "is_whole" (top 12) BT.iQ:={}
def UB:CkB "is_name" "is_name" (top 13) BT.iG:={}
def UC:CkB "is_cell" "is_cell" (top 14) BT.ju:={}
def UD:CkB "inner_sums" "inner_sums" (top 15) BT.gw:={}
def UE:CkB "begun" "begun" (top 24) BT.nW:={}
def Rg:CkB "check_thing" "check_thing" (top 25) BT.f7:={}
def UF:CkB "worth_in" "worth_in" (top 26) BT.jI:={}
def UG:CkB "laid_out" "laid_out" (top 27) BT.jH:={}
def UH:CkB "of_two" "of_two" (top 28) BT.mD:={}
def UI:CkB "worth_of" "worth_of" (top 29) BT.f6:={}
def UJ:CkB "reckoned" "reckoned" (top 30) BT.jJ:={}
def UK:CkB "cell_by" "cell_by" (top 31) BT.kI:={}
def UL:CkB "is_over" "is_over" (top 32) BT.jo:={}
def UM:CkB "place_behind" "place_behind" (top 33) BT.gD:={}
def UN:CkB "with_worth" "with_worth" (top 34) BT.iI:={}
def UO:CkB "with_name" "with_name" (top 35) BT.i7:={}
def UP:CkB "with_thing" "with_thing" (top 36) BT.gy:={}
def UQ:CkB "brought" "brought" (top 37) BT.jq:={}
def UR:CkB "stepped" "stepped" (top 38) BT.kJ:={}
def US:CkB "_law_cell" "_law_cell" (top 46) BT.iP:={}
def UT:CkB "_law_drawn" "_law_drawn" (top 47) BT.i8:={}
def UU:CkB "_law_sum" "_law_sum" (top 48) BT.gG:={}
def UV:CkB "_law_row" "_law_row" (top 49) BT.kL:={}
def UW:CkB "_law_program" "_law_program" (top 50) BT.fJ:={}
def UX:CkB "_law_asked" "_law_asked" (top 51) BT.i9:={}
def UY:CkB "_law_worth" "_law_worth" (top 52) BT.kN:={}
def UZ:CkB "_law_is_over" "_law_is_over" (top 53) BT.jv:={}
def U0:CkB "_law_write" "_law_write" (top 54) BT.kO:={}
def U1:CkB "_law_put" "_law_put" (top 55) BT.pF:={}
def U3:CkB "_law_step" "_law_step" (top 56) BT.lT:={}
def U4:CkB "_law_states" "_law_states" (top 57) BT.iL:={}
def U5:CkB "_law_thing" "_law_thing" (top 58) BT.ig:={}
def U6:CkB "_law_of" "_law_of" (top 59) BT.tS:={}
def Rh:CkB "_law_refused" "_law_refused" (top 60) BT.dQ:={}
def U7:CkB "_law_parted" "_law_parted" (top 62) BT.fW:={}
def U8:CkB "law" "law" (top 63) BT.iT:={}
def M8:CkB "__init__" "Tape.__init__" (fj 41 0) BT.ja:={}
def M9:CkB "at" "Tape.at" (fj 41 1) BT.kM:={}
def Na:CkB "end" "Tape.end" (fj 41 2) BT.jL:={}
def IW:CkB "behind" "Tape.behind" (fj 41 10) BT.g8:={}
def IX:CkB "is_last" "Tape.is_last" (fj 41 11) BT.fV:={}
def IY:CkB "keep" "Tape.keep" (fj 41 12) BT.g9:={}
def IZ:CkB "reach" "Tape.reach" (fj 41 13) BT.iJ:={}
def Ja:CkB "has" "Tape.has" (fj 41 14) BT.gS:={}
def Jb:CkB "check" "Tape.check" (fj 41 15) BT.iK:={}
def Nb:CkB "__init__" "Branch.__init__" (fj 43 0) BT.iw:={}
def Nc:CkB "__init__" "Tree.__init__" (fj 44 0) BT.jb:={}
def Nf:CkB "part" "Tree.part" (fj 44 1) BT.jc:={}
def Ng:CkB "at" "Tree.at" (fj 44 2) BT.kP:={}
def Nh:CkB "end" "Tree.end" (fj 44 3) BT.fS:={}
def Ni:CkB "parent" "Tree.parent" (fj 44 4) BT.fk:={}
def Nj:CkB "path" "Tree.path" (fj 44 5) BT.fy:={}
def Nk:CkB "children" "Tree.children" (fj 44 6) BT.fh:={}
def Jc:CkB "check_run" "Tree.check_run" (fj 44 10) BT.fZ:={}
def Jd:CkB "first" "Tree.first" (fj 44 11) BT.gA:={}
def Je:CkB "holder" "Tree.holder" (fj 44 12) BT.fQ:={}
def tab:List (bA×aX):=[(.f "is_whole",BT.iQ),(.f "is_name",BT.iG),(.f "is_cell",BT.ju),(.f "inner_sums",BT.gw),(.f "begun",BT.nW),(.f "check_thing",BT.f7),(.f "worth_in",BT.jI),(.f "laid_out",BT.jH),(.f "of_two",BT.mD),(.f "worth_of",BT.f6),(.f "reckoned",BT.jJ),(.f "cell_by",BT.kI),(.f "is_over",BT.jo),(.f "place_behind",BT.gD),(.f "with_worth",BT.iI),(.f "with_name",BT.i7),(.f "with_thing",BT.gy),(.f "brought",BT.jq),(.f "stepped",BT.kJ),(.f "_law_cell",BT.iP),(.f "_law_drawn",BT.i8),(.f "_law_sum",BT.gG),(.f "_law_row",BT.kL),(.f "_law_program",BT.fJ),(.f "_law_asked",BT.i9),(.f "_law_worth",BT.kN),(.f "_law_is_over",BT.jv),(.f "_law_write",BT.kO),(.f "_law_put",BT.pF),(.f "_law_step",BT.lT),(.f "_law_states",BT.iL),(.f "_law_thing",BT.ig),(.f "_law_of",BT.tS),(.f "_law_refused",BT.dQ),(.f "_law_parted",BT.fW),(.f "law",BT.iT),(.m "Tape" "__init__",BT.ja),(.m "Branch" "at",BT.kM),(.m "Branch" "end",BT.jL),(.m "Branch" "behind",BT.g8),(.m "Branch" "is_last",BT.fV),(.m "Branch" "keep",BT.g9),(.m "Branch" "reach",BT.iJ),(.m "Branch" "has",BT.gS),(.m "Branch" "check",BT.iK),(.m "Branch" "__init__",BT.iw),(.m "Tree" "__init__",BT.jb),(.m "Tree" "part",BT.jc),(.m "Tree" "at",BT.kP),(.m "Tree" "end",BT.fS),(.m "Tree" "parent",BT.fk),(.m "Tree" "path",BT.fy),(.m "Tree" "children",BT.fh),(.m "Tree" "check_run",BT.fZ),(.m "Tree" "first",BT.gA),(.m "Tree" "holder",BT.fQ)]
noncomputable def aD:List (az×aM):=[("CELL_COUNT",.p (.int 4)),("WORTH_COUNT",.p (.int 10007)),("ROW",.p (.int 0)),("NAMES",.p (.int 1)),("CELLS",.p (.int 2)),("CALLS",.p (.int 3)),("ASKED",.p (.int 4)),("SAID",.p (.int 5)),("MOST_CALLS",.p (.int 6)),("MOST_MARKS",.p (.int 8)),("LETTERS",.p (.aB ((["a","b","c","d","e","f"]:List az).map aN.str))),("INNER_COUNTS",.k (.t (([("num",0),("name",0),("cell",1),("add",2),("sub",2),("mul",2),("less",2)]:List (az×Int)).map λq=>(q.1,aN.int q.2))))]
noncomputable abbrev T:bA->Option aX:=look tab
noncomputable abbrev G:az->Option aM:=look aD
def Jf:List (bA×aX):=[(.m "Tree" "check_run",BT.jd),(.m "Tree" "at",BT.iS),(.m "Tree" "end",(BT.fxc BT.fS)),(.m "Tree" "parent",(BT.fxc BT.fk)),(.m "Tree" "path",(BT.fxc BT.fy)),(.m "Tree" "children",(BT.fxc BT.fh)),(.m "Tree" "part",BT.jf),(.f "check_thing",BT.iy)]
noncomputable abbrev TX:bA->Option aX:=look Jf
def prg:BT.Prg T G:=⟨rfl,rfl,rfl,rfl,rfl,rfl,rfl,rfl,rfl,rfl,rfl,rfl,rfl,rfl,rfl,rfl,rfl,rfl,rfl,rfl,rfl,rfl,rfl,rfl,rfl,rfl⟩
def tpp:BT.TpP "Branch" T G:=⟨prg,rfl,rfl,rfl,rfl,rfl,rfl,rfl,rfl,rfl⟩
def trp:BT.TrP T G:=⟨tpp,⟨rfl⟩,rfl,rfl,rfl,rfl,rfl,rfl,rfl,rfl,rfl,⟨rfl,rfl⟩,⟨rfl⟩⟩
def lws:BT.rX T TX:=⟨⟨rfl,rfl,rfl,rfl,rfl⟩,rfl,rfl,⟨rfl,rfl,rfl,⟨_,rfl⟩,rfl,rfl⟩,rfl,⟨rfl,rfl,rfl⟩,⟨rfl,rfl,rfl,rfl,rfl,rfl,rfl,rfl⟩⟩
def run(J:List Int)(h:J.length<=1000):∃h',nU (nT "_law_told" (BT.fX T TX G 39) (aO T G 40)) G BT.iT [.p (.aj (BT.cX J))] []=aa (.p (.bl ah),h') :=
 BT.Ci (T:=T) (TX:=TX) (G:=G) (k:=22) (F:=nT "_law_told" (BT.fX T TX G 39) (aO T G 40)) trp lws ⟨λ_ _=>rfl,λy L=>z8 L,wI⟩ J h
def Ri(w:Wj)(K:VE)(J:∀q∈qys,fD K q=fE w q):M7 K tl:=by
 refine⟨λz L=>?_,λp O=>?_⟩
 ·simp only[BT.jF,Xa,WA,or_false]at L;rcases L with rfl|rfl|rfl|rfl|rfl|rfl|rfl|rfl|rfl|rfl|rfl|rfl|rfl|rfl|rfl
  exact .inr (fG (w:=w) (hn J 69 rfl));exact .inr (fG (w:=w) (hn J 70 rfl));exact .inr (fG (w:=w) (hn J 71 rfl));exact .inr (fG (w:=w) (hn J 72 rfl));exact .inr (fG (w:=w) (hn J 73 rfl));exact .inr (fG (w:=w) (hn J 74 rfl));exact .inr (fG (w:=w) (hn J 75 rfl));exact .inr (fG (w:=w) (hn J 76 rfl));exact .inr (fG (w:=w) (hn J 77 rfl));exact .inr (fG (w:=w) (hn J 78 rfl));exact .inr (fG (w:=w) (hn J 79 rfl));exact .inr (fG (w:=w) (hn J 80 rfl));exact .inr (fG (w:=w) (hn J 81 rfl));exact .inr (fG (w:=w) (hn J 82 rfl));exact .inr (fG (w:=w) (hn J 83 rfl))
 simp[tl]at O
def txt(P:VV)(w:Wj)(mg:az->Option aA)(K:VE)(h:au)(X:K.In h)(O:h.Ns VW mg)(J:∀q∈qys,fD K q=fE w q):Txt P w K mg T G:=by have V:=Ri w K J;have all:∀p∈tab,xH K mg p:=dg (dd0 X O (hn J 0 rfl) UA) <|dg (dd0 X O (hn J 1 rfl) UB) <|dg (dd0 X O (hn J 2 rfl) UC) <|dg (dd0 X O (hn J 3 rfl) UD) <|dg (dd0 X O (hn J 4 rfl) UE) <|dg (dd0 X O (hn J 5 rfl) Rg) <|dg (dd0 X O (hn J 6 rfl) UF) <|dg (dd0 X O (hn J 7 rfl) UG) <|dg (dd0 X O (hn J 8 rfl) UH) <|dg (dd0 X O (hn J 9 rfl) UI) <|dg (dd0 X O (hn J 10 rfl) UJ) <|dg (dd0 X O (hn J 11 rfl) UK) <|dg (dd0 X O (hn J 12 rfl) UL) <|dg (dd0 X O (hn J 13 rfl) UM) <|dg (dd0 X O (hn J 14 rfl) UN) <|dg (dd0 X O (hn J 15 rfl) UO) <|dg (dd0 X O (hn J 16 rfl) UP) <|dg (dd0 X O (hn J 17 rfl) UQ) <|dg (dd0 X O (hn J 18 rfl) UR) <|dg (dd0 X O (hn J 19 rfl) US) <|dg (dd0 X O (hn J 20 rfl) UT) <|dg (dd0 X O (hn J 21 rfl) UU) <|dg (dd0 X O (hn J 22 rfl) UV) <|dg (dd0 X O (hn J 23 rfl) UW) <|dg (dd0 X O (hn J 24 rfl) UX) <|dg (dd0 X O (hn J 25 rfl) UY) <|dg (dd0 X O (hn J 26 rfl) UZ) <|dg (dd0 X O (hn J 27 rfl) U0) <|dg (dd0 X O (hn J 28 rfl) U1) <|dg (dd0 X O (hn J 29 rfl) U3) <|dg (dd0 X O (hn J 30 rfl) U4) <|dg (dd0 X O (hn J 31 rfl) U5) <|dg (dd0 X O (hn J 32 rfl) U6) <|dg (dd0 X O (hn J 33 rfl) Rh) <|dg (dd0 X O (hn J 34 rfl) U7) <|dg (dd0 X O (hn J 35 rfl) U8) <|dg (dm0 X O (hn J 84 rfl) (hn J 85 rfl) (hn J 90 rfl) M8) <|dg (dm0 X O (hn J 86 rfl) (hn J 87 rfl) (hn J 91 rfl) M9) <|dg (dm0 X O (hn J 86 rfl) (hn J 87 rfl) (hn J 92 rfl) Na) <|dg (dm0 X O (hn J 86 rfl) (hn J 87 rfl) (hn J 93 rfl) IW) <|dg (dm0 X O (hn J 86 rfl) (hn J 87 rfl) (hn J 94 rfl) IX) <|dg (dm0 X O (hn J 86 rfl) (hn J 87 rfl) (hn J 95 rfl) IY) <|dg (dm0 X O (hn J 86 rfl) (hn J 87 rfl) (hn J 96 rfl) IZ) <|dg (dm0 X O (hn J 86 rfl) (hn J 87 rfl) (hn J 97 rfl) Ja) <|dg (dm0 X O (hn J 86 rfl) (hn J 87 rfl) (hn J 98 rfl) Jb) <|dg (dm0 X O (hn J 86 rfl) (hn J 87 rfl) (hn J 99 rfl) Nb) <|dg (dm0 X O (hn J 88 rfl) (hn J 89 rfl) (hn J 100 rfl) Nc) <|dg (dm0 X O (hn J 88 rfl) (hn J 89 rfl) (hn J 101 rfl) Nf) <|dg (dm0 X O (hn J 88 rfl) (hn J 89 rfl) (hn J 102 rfl) Ng) <|dg (dm0 X O (hn J 88 rfl) (hn J 89 rfl) (hn J 103 rfl) Nh) <|dg (dm0 X O (hn J 88 rfl) (hn J 89 rfl) (hn J 104 rfl) Ni) <|dg (dm0 X O (hn J 88 rfl) (hn J 89 rfl) (hn J 105 rfl) Nj) <|dg (dm0 X O (hn J 88 rfl) (hn J 89 rfl) (hn J 106 rfl) Nk) <|dg (dm0 X O (hn J 88 rfl) (hn J 89 rfl) (hn J 107 rfl) Jc) <|dg (dm0 X O (hn J 88 rfl) (hn J 89 rfl) (hn J 108 rfl) Jd) <|dg (dm0 X O (hn J 88 rfl) (hn J 89 rfl) (hn J 109 rfl) Je) <|AG;refine⟨λx fn e=>?_,λc m fn e=>?_,λL fn e=>?_,λx z e=>?_,?_⟩;exact jy (Q:=λk fn=>∀x,k=.f x->Def K mg x fn) (l:=tab) (λp U=>(all p U).1) e x rfl;exact jy (Q:=λk fn=>∀c m,k=.m c m->Ew K mg c m fn) (l:=tab) (λp U=>(all p U).2.1) e c m rfl;exact jy (Q:=λk fn=>∀L,k=.l L->False) (l:=tab) (λp U=>(all p U).2.2) e L rfl;exact jy (Q:=λx z=>yR P w K mg x z) (l:=aD) (dg (gB X O (hn J 36 rfl)) <|dg (gB X O (hn J 37 rfl)) <|dg (gB X O (hn J 38 rfl)) <|dg (gB X O (hn J 39 rfl)) <|dg (gB X O (hn J 40 rfl)) <|dg (gB X O (hn J 41 rfl)) <|dg (gB X O (hn J 42 rfl)) <|dg (gB X O (hn J 43 rfl)) <|dg (gB X O (hn J 44 rfl)) <|dg (gB X O (hn J 45 rfl)) <|dg (FW X O (hn J 46 rfl) (by decide) (by decide +kernel)) <|dg (FY X O (hn J 47 rfl) (by decide) (by decide +kernel)) <|AG) e;exact dg (none_of X O (hn J 48 rfl)) <|dg (none_of X O (hn J 49 rfl)) <|dg (none_of X O (hn J 50 rfl)) <|dg (none_of X O (hn J 51 rfl)) <|dg (none_of X O (hn J 52 rfl)) <|dg (none_of X O (hn J 53 rfl)) <|dg (none_of X O (hn J 54 rfl)) <|dg (none_of X O (hn J 55 rfl)) <|dg (none_of X O (hn J 56 rfl)) <|dg (none_of X O (hn J 57 rfl)) <|dg (none_of X O (hn J 58 rfl)) <|dg (none_of X O (hn J 59 rfl)) <|dg (none_of X O (hn J 60 rfl)) <|dg (none_of X O (hn J 61 rfl)) <|dg (none_of X O (hn J 62 rfl)) <|dg (none_of X O (hn J 63 rfl)) <|dg (none_of X O (hn J 64 rfl)) <|dg (none_of X O (hn J 65 rfl)) <|dg (none_of X O (hn J 66 rfl)) <|dg (none_of X O (hn J 67 rfl)) <|dg (none_of X O (hn J 68 rfl)) <|AG
noncomputable abbrev rn:List az:=(["NoMoment","NoRun","NoThing","NoText"]:List az)
def cxT:iF (cY (top 61)) BT.dF.ns [] BT.dF.body (IV (dD (top 61))):=.cons ce (.v rfl ce (.one (.ret (.aE rfl rfl (by decide) ce ce))) .nil) (.cons ce (.v rfl ce (.one (.ret (.aE rfl rfl (by decide) ce ce))) .nil) (.cons ce (.v rfl ce (.one (.ret (.aE rfl rfl (by decide) ce ce))) .nil) (.cons ce (.v rfl ce (.one (.ret (.aE rfl rfl (by decide) ce ce))) .nil) (.one (.ret (.ite rfl ce (.aE rfl rfl (by decide) ce ce) (.aE rfl rfl (by decide) ce ce)))))))
def Jg:iF (cY (fj 44 10)) BT.jd.ns rn BT.jd.body (dD (fj 44 10)):=.one (.v rfl ce (.one (.rai rfl rfl rfl rfl (by decide +kernel) ce)) .nil)
def Nl:iF (cY (fj 44 2)) BT.iS.ns rn BT.iS.body (dD (fj 44 2)):=.cons ce (.ex rfl (.aE rfl rfl (by decide) ce ce)) (.cons ce (.setx rfl (.aE rfl rfl (by decide) ce ce)) (.cons ce (.set rfl) (.cons ce (.setx rfl (.bin (.no rfl))) (.cons ce (.v rfl ce (.one (.rai2 rfl rfl rfl rfl (by decide +kernel) (by decide +kernel) ce ce)) .nil) .bads))))
def Nn:iF (cY (fj 44 3)) (BT.fxc BT.fS).ns rn (BT.fxc BT.fS).body (dD (fj 44 3)):=.cons ce (.ex rfl (.aE rfl rfl (by decide) ce ce)) .bads
def Np:iF (cY (fj 44 4)) (BT.fxc BT.fk).ns rn (BT.fxc BT.fk).body (dD (fj 44 4)):=.cons ce (.ex rfl (.aE rfl rfl (by decide) ce ce)) .bads
def Nq:iF (cY (fj 44 5)) (BT.fxc BT.fy).ns rn (BT.fxc BT.fy).body (dD (fj 44 5)):=.cons ce (.ex rfl (.aE rfl rfl (by decide) ce ce)) .bads
def Nr:iF (cY (fj 44 6)) (BT.fxc BT.fh).ns rn (BT.fxc BT.fh).body (dD (fj 44 6)):=.cons ce (.ex rfl (.aE rfl rfl (by decide) ce ce)) .bads
def Nt:iF (cY (fj 44 1)) BT.jf.ns rn BT.jf.body (dD (fj 44 1)):=.cons ce (.setx rfl (.aE rfl rfl (by decide) ce ce)) (.cons ce (.ex rfl (.call rfl (by decide +kernel) ce (.cons rfl ce (.no rfl) .nil))) .bads)
def U9:iF (cY (top 25)) BT.iy.ns rn BT.iy.body (dD (top 25)):=.one (.v rfl ce (.one (.rai rfl rfl rfl rfl (by decide +kernel) ce)) .nil)
def txX(w:Wj)(mg:az->Option aA)(K:VE)(h:au)(X:K.In h)(O:h.Ns VW mg)(J:∀q∈qys,fD K q=fE w q):BN rn K mg TX:=by have all:∀p∈Jf,(∀x,p.1=.f x->EI rn K mg x p.2)/\∀c m,p.1=.m c m->wG rn K c m p.2:=dg ⟨λx e=>(by cases e),λc m e=>(by cases e;exact jz (hn J 88 rfl) (hn J 107 rfl) Jg)⟩ <|dg ⟨λx e=>(by cases e),λc m e=>(by cases e;exact jz (hn J 88 rfl) (hn J 102 rfl) Nl)⟩ <|dg ⟨λx e=>(by cases e),λc m e=>(by cases e;exact jz (hn J 88 rfl) (hn J 103 rfl) Nn)⟩ <|dg ⟨λx e=>(by cases e),λc m e=>(by cases e;exact jz (hn J 88 rfl) (hn J 104 rfl) Np)⟩ <|dg ⟨λx e=>(by cases e),λc m e=>(by cases e;exact jz (hn J 88 rfl) (hn J 105 rfl) Nq)⟩ <|dg ⟨λx e=>(by cases e),λc m e=>(by cases e;exact jz (hn J 88 rfl) (hn J 106 rfl) Nr)⟩ <|dg ⟨λx e=>(by cases e),λc m e=>(by cases e;exact jz (hn J 88 rfl) (hn J 101 rfl) Nt)⟩ <|dg ⟨λx e=>(by cases e;exact IU X O (hn J 5 rfl) Rg U9 (λ_ _ _=>vp dk)),λc m e=>(by cases e)⟩ <|AG;refine F5 X O (hn J 111 rfl) rfl (λx fn e=>?_) (λc m fn e=>?_);exact jy (Q:=λk fn=>∀x,k=.f x->EI rn K mg x fn) (l:=Jf) (λp L=>(all p L).1) e x rfl;exact jy (Q:=λk fn=>∀c m,k=.m c m->wG rn K c m fn) (l:=Jf) (λp L=>(all p L).2) e c m rfl
def tld(P:VV)(w:Wj)(mg:az->Option aA)(K:VE)(h:au)(X:K.In h)(O:h.Ns VW mg)(J:∀q∈qys,fD K q=fE w q):
 ∃L fd ps,mg "_law_told"=aa (.ref L)/\Wh K (.ref L)=ah/\Binds K fd ps []/\∀base,gE P w K mg base CX0 (2*40) L fd ps (spF P w K (BT.fX T TX G 39)) :=
 F2 (i:=5) X O (txt P w mg K h X O J) (txX w mg K h X O J) (hn J 111 rfl) rfl (hn J 110 rfl) (hn J 33 rfl) rfl cxT rfl rfl rfl rfl Rh
noncomputable abbrev lw:DefRec:=⟨"law",gC (top 63),dD (top 63),cY (top 63),Sq (top 63)⟩
def df:PySem.W.defOf qg "law"=aa (lw,[]):=by kernel_rfl
def th:pg.theDef "law"=aa (lw.params,lw.body,lw.scope):=by kernel_rfl
def walk:PySem.W.WalkO qg loo (PySem.W.XL qg []) (sees adr qys tas).says PySem.Challenge.rw_backtape_k60_trees.row.toRowW lw [] (λf vs=>abe f vs) :=
 F3 (l:=PySem.Challenge.rw_backtape_k60_trees) (n:=63) (k:=40) (x:="_law_script") (d:=lw) (T:=T) (G:=G) (ts:=tas) (fn:=BT.iT) rfl (by decide) rfl ⟨rfl,by decide,by decide⟩ rfl rfl (tl:=tl) rfl (by decide +kernel) Ri txt tld λJ L=>run J (by lia)
end BL
open PySem PySem.W PyProof.Rows
set_option maxRecDepth 100000 in
set_option maxHeartbeats 0 in
theorem PySem.Challenge.cw_backtape_k60_trees_holds : PySem.Challenge.rw_backtape_k60_trees.Holds := by
 w_on;refine PySem.W.holds_law (by decide +kernel) λsaid=>?_
 refine PySem.W.holds_open (q:=BL.qg) (loose:=BL.loo) (XP:=XL BL.qg []) (YP:=(BG.sees BL.adr BL.qys BL.tas).says) (d:=BL.lw) (kwd:=[]) BL.left (BG.sees BL.adr BL.qys BL.tas).of (BG.sees BL.adr BL.qys BL.tas).keeps (λs e=>xl_of s (Bool.and_eq_true_iff.mp e).1) XL.keeps BL.df BL.th (by kernel_rfl) (λs e=>recFacts_of (Bool.and_eq_true_iff.mp e).2) rfl (by first|assumption|decide +kernel) (by decide +kernel) ⟨rfl,rfl,rfl,rfl,rfl,by decide +kernel⟩ ?hw BL.walk
 (case hw=>w_witness2)
#print axioms PySem.Challenge.cw_backtape_k60_trees_holds
end
end

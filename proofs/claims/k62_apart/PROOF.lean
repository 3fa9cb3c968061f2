import PyProof.Rows.All
import Wide.All
import OpenK.AllK
import Wide.FinOn
import PyProof.EqAt
import PyProof.EqKinds
import PyProof.TupleCall
import Open.Tree
import Wide.Once
import KE.KLam
import KE.KNestM
import KE.KIsAll
import OpenK.KMore
import KE.KSortTup
import PyProof.Rows.SetFrom
import PyProof.IsiH_list
import PyProof.Rows.Exc
import KE.KDictOf
import PySem.Syntax
import PySem.Builtin.Str.Common
import PyProof.SliceList
import PyProof.StrCalls2
import KE.KIntText
import PyProof.NeData
import PyProof.ExcAttrAll.ValueError
import PyProof.ZipIter
import KE.KRevIter
import KE.KItemsList
import KE.KDictSum
import PyProof.DictWalks
import KE.KPairComp
import KE.KEqDict
import PyProof.StrBlock2
import PyProof.StrBlockL
import PyProof.ConsumeWalk
import PyProof.ListRange
import PyProof.EnumFor
import PyProof.EnumMake
import PyProof.EnumStmt
import PyProof.CompFree
import PyProof.PlainList
import PyProof.Draws
import PyProof.StrWalks
import PyProof.StrLawsTight
import KE.KTryDeep
import PyProof.FString
import PyProof.FitsInt
import PyProof.RulesAs
import PyProof.ExcBaseAll.ValueError
import Lean
import PySem.Challenge.RW_backtape_k62_apart
set_option autoImplicit true
set_option Elab.async false
set_option linter.all false
set_option maxRecDepth 100000
set_option maxHeartbeats 8000000
set_option genSizeOf false
set_option compiler.extract_closed false
set_option bootstrap.genMatcherCode false
noncomputable section
local macro_rules
 |`($n:num^$x)=>`(rightact% HPow.hPow $n $x)
 |`($f $a*^$x)=>`($f $a* $x)
 |`($f^$x)=>`($f $x)
def cP:Nat->Lean.Syntax->Lean.MacroM (Lean.TSyntax `rcasesPat)
 |n+1,x=>match x with
  |`(($a,$l,*))=>do let q<-(a.raw::l.getElems.toList.map (·.raw)).mapM (cP n);let q:=q.toArray;`(rcasesPat|⟨$[$q:rcasesPat],*⟩)
  |`($i:ident)=>`(rcasesPat|$i:ident)
  |`(_)=>`(rcasesPat|_)
  |_=>Lean.Macro.throwUnsupported
 |_,_=>Lean.Macro.throwUnsupported
local macro_rules
 |`(tactic|let $d:letDecl)=>do let q<-cP 19 d.raw[0][0];`(tactic|obtain $q:rcasesPat:=$(⟨d.raw[0][4]⟩))
local macro_rules
 |`(ω $x*)=>`(.int $x*)
local macro_rules
 |`(θ $x)=>`(List $x)
local macro_rules
 |`(ψ $x)=>`(Option $x)
local macro_rules
 |`(tactic|simp! [$a,*] $[$l:location]?)=>`(tactic|simp only [$a,*] $[$l:location]?)
local macro_rules
 |`(φ $x*)=>let i:=Lean.mkIdent;`($(i `runN) $(i `T) $(i `G) $x*)
local macro_rules
 |`(π $x*)=>let i:=Lean.mkIdent;`($(i `ZI) $(i `X.prog) $x*)
local macro_rules
 |`(ξ $x*)=>let i:=Lean.mkIdent;`($(i `Inv) $(i `X) $(i `zt) $(i `σ) $x*)
local macro_rules
 |`(η $x*)=>let i:=Lean.mkIdent;`($(i `tD) $(i `X) $(i `F) $(i `G) $x*)
local macro_rules
 |`(abbrev $i:declId $s:optDeclSig $v:declVal)=>do let q:=Lean.mkNode ``Lean.Parser.Command.declSig #[s.raw[0],s.raw[1][0]];`(@[simp]theorem $i:declId $q:declSig $v:declVal)
local macro_rules
 |`(def $i:declId $s:optDeclSig $v:declVal)=>`(noncomputable def $i:declId $s:optDeclSig $v:declVal)
local macro_rules
 |`(∅)=>`(by decide)
local macro_rules
 |`(())=>`(by lia)
local macro_rules
 |`(#v[$x,*])=>`(List.toArray [$x,*])
local macro_rules
 |`(#[$x,*])=>`(⟨$x,*⟩)
def bK:=@if_pos
def bL:=@if_neg
def bM:=@absurd
def bN:=@decide_eq_true_eq
def bO:=@decide_eq_false
def bP:=@decide_eq_true
def bQ:=@of_decide_eq_true
def bR:=@eq_of_beq
def bS:=@congrArg
def bT:=@beq_eq_false_iff_ne
def bU:=@beq_iff_eq
open PySem renaming Value->aA,Addr->az,Str->ay,wpAny->av,Heap->au,Obj->aq,codeAny->ao,sizeLine->ak
open Option renaming some->aa,none->af
open Bool renaming true->ah,false->ai
open PySem.W renaming Frag->Zm,keepIn->Z2,findIn->Z3,nsIn->aag,mg_of->aai,emptyDict->aaC,hideAll->aaE,fnOf->aaF,tabIn->aaQ,kitOne->aaT,instObj->aaY,callWith_K->aa9,kia_one->abc,specialIn->abd,hasDictIn->abe,hideAll_get->abq,codeHd_of_K->abr,plainGet->abS,of_hideAll->ach,codeIn->acj,cellsFrom_some->acA,openSeen->acE,takesIn->acF,methodCall_KW->acG,isFn->acH,envX->acI,tabObj->acX,lookIn->acY,byRow2->acZ,plainGet_of->ac8,callWith_K0->ac9,recOk->adg,mroIn->adh,plainOver->adu,methodObj->adw,xlAt->ady,ksm_same->adC,codeHdIn->adD,takerIn->adR,readsIn->adS,makesIn->adT,SharedT->aep,excIn->aeq,hideAll_none->aeF,codeRec_of->ae2,wideGood->afi,handedIn->afj,clsGoodW->afk,absHeap->afw,findCls->afA
open PySem renaming wpAny_bind->Zn,Shared->Zo,wpAny_pure->Zq,Expr->Zt,Program->ZE,model->ZI,mainGlobals->ZL,Stmt->ZO,World->ZW,starEach->Z4,Around->Z7,wpAny_newObj_type->Z8,wpAny_holding->Z9,wpAny_mono->aaa,Scope->aak,sliceBounds->aao,FuncData->aap,compareOp->aaw,wpAny_Call_Name_kw->aaB,wpAny_truthy_bool->aaP,binaryOp->aa1,wpAny_setState_of->aa7,valueAt->aa8,wpAny_callSpecial?_slot->abb,wpAny_setField->abf,wpAny_passesOwn->abo,wpAny_standAt->abw,call_meets->abx,mem_of_lookup->abz,backTo->abH,wpAny_execs_cons->abI,wpAny_call_entry->abJ,builtinsNs->abK,assignEach->abL,wpAny_loadPart'->abO,letOwnedTupleGo->abP,comprehension->abQ,NameKind->abT,sysModules->ab3,fits_of_scanBound->ab4,Expr->ab8,wpAny_typeOf->acd,scanBound->ace,bootBuiltins->acf,wpAny_isInstance->aci,codeAny_call_builtin->ack,strLen_append->acn,Operator->acr,Comprehension->acs,wpAny_execs_nil->acu,swapsWith->acv,Builtin->acN,wpAny_call->acS,wpAny_Return_some->acT,pickOrder->acU,noteFrame->acV,wpAny_attempt->ac3,holding->ac4,excClassObj->ac5,attributeBase->ac6,Stmt->ade,codeAny_compStart_list->adf,wpAny_updateSeq->adn,wpAny_pyReprObj_gives->ado,wpAny_ite_split->adp,importedModules->adq,Result->adt,sliceRange->adx,wpAny_newFunctionEnv->adB,rawInt->adG,assign->adH,wpAny_setEntries_of->adM,wpAny_field->adN,spliced->adO,sizeLine_eq->adP,keywordEach->adQ,storeSet->ad4,compEnvC->ad5,behindInMarks->ad6,PassesOwn->aeb,DictEntry->aee,Arguments->aeg,wpAny_rule->ael,wpAny_Assign_Name->aem,notedBy->aen,foldedSetIterable->aeo,Keyword->aex,IsPart->aeA,wpAny_Try_except->aeB,noFill_tuple_add->aeC,wpAny_looks_onW->aeL,wpAny_in_of->aeM,wpAny_BinOp->aeN,theTreesLotGoes->aeO,standAt->aeP,pyNext->aeQ,getMethod->aeR,getItem->aeS,cellsFrom->aeT,ofString_length->aeU,Within->aeV,wpAny_newFunctionEnv_cells->ae0,wpAny_binaryOp_repeat_ref->ae6,wpAny_FormattedValue_repr->ae7,setAddHashedIn->ae8,cLine->ae9,bltViewBooted->afa,wpAny_getItem_list_slice->afg,wpAny_list_append_plain->afp,seq_tuple_add->afr,compTurn_list->afs,callerA->aft,bindArgs->afu,backToKw->afv,call->afz
open Bool renaming and_eq_true->Zp,false_ne_true->aah,or_eq_true->aa3,or_false->ab9,not_eq_true'->adL,or_eq_false_iff->afd,false_eq_true->afE
open PySem.Heap renaming get?_push_of_some->Zr,lt_size->Zy,get?_push_size->ZH,get?_update_self->aad,SameBut->aaq,size_push->aaA,get?_update_other->aaN,MadeExcOf->abU,HeldW->aeE,ExtBut->afo
open List renaming getElem?_append_left->Zs,getElem?_eq_getElem->Zu,size_toArray->Zx,mem_cons_of_mem->Zz,length_map->ZA,getElem?_set_ne->ZD,mem_cons_self->ZF,range->ZG,mem_of_getElem?->ZJ,getElem?_eq_none->ZM,replicate->ZN,getElem?_map->ZP,length_cons->ZQ,length_set->ZV,length_append->ZX,map_cons->ZY,getElem?_set_self->ZZ,mem_append_right->Z1,filterMap_cons->Z6,getElem?_append_right->aab,length_filter_le->aaj,length_nil->aam,length_range->aar,append_nil->aau,append_assoc->aay,map_nil->aaH,getElem?_replicate->aaK,getD_eq_getElem?_getD->aaS,map_map->aaV,foldl_cons->aa2,map_congr_left->aa6,not_mem_nil->aba,singleton_append->abg,map_append->abh,length_replicate->abi,mem_append_left->abm,getElem?_of_mem->abn,mem_or_eq_of_mem_set->abu,drop_eq_getElem_cons->abv,lookup_cons->abA,replicate_succ->abB,lookup->abC,getElem?_range->abD,getElem?_take_of_lt->abF,length_singleton->abV,all_eq_true->ab0,mem_cons->ab7,length_take->acJ,getElem_mem->acK,drop_length->acL,reverse_singleton->acP,range_succ_eq_map->acQ,find?_cons_of_neg->acR,of_mem_zip->ac0,nil_append->ac1,foldl->adb,nodup_nil->adi,length_reverse->adj,mem_singleton->adz,contains_cons->adA,flatten_cons->adK,isEmpty_nil->adZ,getElem_map->ad0,getElem_inj->ad1,eq_nil_of_length_eq_zero->ad2,count_eq_zero_of_not_mem->ad3,mem_append->aei,length->aej,length_eraseIdx_of_lt->aev,getElem?_eq_none_iff->aey,drop_zero->aez,sum_cons->aeH,head_eq_of_cons_eq->aeI,getElem?_cons_succ->aeJ,filterMap_eq_map'->aeX,take_append_drop->ae3,map_set->ae4,getElem?_toArray->ae5,range'->afn
open Option.some renaming inj->Zv,injEq->acg
open Nat renaming le_refl->Zw,lt_or_ge->ZR,ne_of_lt->ZS,le_trans->ZT,lt_of_lt_of_le->ZU,le_succ->aal,lt_irrefl->aas,lt_succ_self->aav,zero_le->aax,le_of_lt->aaL,eq_zero_or_pos->aaX,lt_succ_of_lt->aa4,ne_of_gt->abj,mul_comm->abX,mul_div_cancel->adE,mod_lt->adV,succ_pos->adY,succ_le_succ->aec,not_lt_zero->aet,div_add_mod->aeu,lt_trans->afb,div_le_div_right->afm
open PySem.Str renaming ofString->ZC,empty->aby,ofString_eq_toList->ae1
open Option renaming bind_some->Z0,map_some->acO,getD_some->afB,getD_none->afC
open Array renaming length_toList->Z5,getElem?_eq_getElem->aae,getElem?_eq_none->aaD,getElem?_append_left->aek,getElem?_extract->aeK,getElem?_toList->aeY,getElem?_push->afe
open PySem.Heap.SameBut renaming update->aac,refl->ac2
open PyProof.Rows renaming callWith_type1->aaf,slot_tuple_getitem->aaR,firstMet->aa0,envOfC->abp,IntsAre->acy,callWith_builtin1->ada,plainGoodE->adI,plainGoodD->adJ,AllBare->adW,drecsOf->aea,Subscript_->afh,tail_any->afq
open Ne renaming symm->aan
open False renaming elim->aat
open PySem.F renaming plainAttrs_list->aaz,plain_extend_loop->aaU,type_list_append->aco,slot_list_append->acp,args_tuple_add_2->acq,entry_tuple_add->acw,slot_tuple_add->acB,excBase_ValueError->adX,entry_extend_loop->ad9,plain_list_iadd->aer,slot_set_iter->aeD
open PySem.Obj renaming mapFields->aaG,mapSeq->abG
open PySem.Calls renaming spliced_cons->aaI,Name_function_global->abl,spliced_nil->abM,evalArgs_plain->ab1,Constant_str->acm,loadGlobal_global->acD,callWith_builtin->acM
open PySem.Value renaming ref->aaJ,str->abR,builtin->ab5,none->ab6,type->acW,isStrOf->ads,isInt->ad7,int->ad8,isInt_shape->afx
open Sum renaming inr->aaM,inl->afy
open PySem.NameKind renaming free->aaO,cell->aeh
open PySem.PassesOwn renaming looking->aaW,never->abW,leaving->aeW
open PySem.Around renaming under_plainId->aaZ,frames_deeper->aeZ
open Int renaming toNat_natCast->aa5,zero_add->afc
open PySem.Builtin.List renaming listTooLong->abk,listExtendWith->abN,listLengthHint->adm,listSameRef->adF
open PySem.Builtin.Str renaming occurrences->abt
open True renaming intro->abE
open List.cons renaming injEq->abY
open PySem.Builtin.Slice renaming slicePlaces->abZ
open PySem.pickOrder renaming go->acz
open ForInStep renaming yield->acC
open Sum.inr renaming inj->ac7
open PySem.Builtin.Tuple renaming tupleTooMany->adk,tupleItemsOf->adl
open Prod.mk renaming inj->adU,injEq->aes
open PySem.Heap.IsSliceOf renaming new->aed
open Classical renaming axiomOfChoice->aef
open List.Pairwise renaming map->aew
open Prod renaming ext->aeG
open PyProof.Rows.IntsAre renaming length->afl
open PySem.Code renaming quiet_builtin->afD
section
namespace L2
open PySem PySem.Spec PyProof.Rows
def g9(s:ade):aeg:=match s with
 |.FunctionDef _ a _ _ _ _ _ _ _ _=>a|_=>{posonlyargs:=[],args:=[],vararg:=af,kwonlyargs:=[],kw_defaults:=[],kwarg:=af,defaults:=[]}
def dg(s:ade):θ ade:=match s with
 |.FunctionDef _ _ b _ _ _ _ _ _ _=>b|_=>[]
def cV(s:ade):aak:=match s with
 |.FunctionDef _ _ _ _ _ _ J _ _ _=>J|_=>{kind:=.function,names:=[],isGenerator:=ai,isCoroutine:=ai}
end L2
end
section
@[elab_as_elim]theorem rwe{c:α->Prop}{a b:α}(h:a=b)(x:c b):c a:=by subst h;exact x
@[elab_as_elim]theorem rwf{c:α->Prop}{a b:α}(h:b=a)(x:c b):c a:=by subst h;exact x
def f6{p q r:Prop}(J:p)(b:q)(a:r):p∧q∧r:=#[J,b,a]
def nE{p q r s:Prop}(L:p)(b:q)(a:r)(J:s):p∧q∧r∧s:=#[L,b,a,J]
def pR{p q r s t:Prop}(O:p)(b:q)(a:r)(L:s)(J:t):p∧q∧r∧s∧t:=#[O,b,a,L,J]
def lU{p:Prop}{q r:α→Prop}(L:p)(x:α)(a:q x)(J:r x):p∧∃x:α,q x∧r x:=#[L,x,a,J]
def lV{p:Prop}{q r:α→β→Prop}(O:p)(x:α)(y:β)(L:q x y)(J:r x y):p∧∃x:α,∃y:β,q x y∧r x y:=#[O,x,y,L,J]
def cY{p q:α→Prop}(x:α)(b:p x)(a:q x):∃x:α,p x∧q x:=#[x,b,a]
def eH{p q r:α→Prop}(x:α)(b:p x)(a:q x)(J:r x):∃x:α,p x∧q x∧r x:=#[x,b,a,J]
def kW{p q r s:α→Prop}(x:α)(b:p x)(a:q x)(L:r x)(J:s x):∃x:α,p x∧q x∧r x∧s x:=#[x,b,a,L,J]
def pS{p q:α→Prop}{r:α→β→Prop}(x:α)(b:p x)(a:q x)(y:β)(J:r x y):∃x:α,p x∧q x∧∃y:β,r x y:=#[x,b,a,y,J]
def uS{p:α→β→Prop}(x:α)(y:β)(a:p x y):∃x:α,∃y:β,p x y:=#[x,y,a]
def eW{p q:α→β→Prop}(x:α)(y:β)(a:p x y)(J:q x y):∃x:α,∃y:β,p x y∧q x y:=#[x,y,a,J]
def dO{p q r:α→β→Prop}(x:α)(y:β)(a:p x y)(L:q x y)(J:r x y):∃x:α,∃y:β,p x y∧q x y∧r x y:=#[x,y,a,L,J]
def fh{p q r s:α→β→Prop}(x:α)(y:β)(a:p x y)(O:q x y)(L:r x y)(J:s x y):∃x:α,∃y:β,p x y∧q x y∧r x y∧s x y:=#[x,y,a,O,L,J]
def qW{p:α→β→γ→Prop}(x:α)(y:β)(z:γ)(J:p x y z):∃x:α,∃y:β,∃z:γ,p x y z:=#[x,y,z,J]
def ji{p q r:α→β→γ→Prop}(x:α)(y:β)(z:γ)(O:p x y z)(L:q x y z)(J:r x y z):∃x:α,∃y:β,∃z:γ,p x y z∧q x y z∧r x y z:=#[x,y,z,O,L,J]
def ig{p q r s:α→β→γ→Prop}(x:α)(y:β)(z:γ)(U:p x y z)(O:q x y z)(L:r x y z)(J:s x y z):∃x:α,∃y:β,∃z:γ,p x y z∧q x y z∧r x y z∧s x y z:=#[x,y,z,U,O,L,J]
def fL{p q r s t:α→β→γ→Prop}(x:α)(y:β)(z:γ)(V:p x y z)(U:q x y z)(O:r x y z)(L:s x y z)(J:t x y z):∃x:α,∃y:β,∃z:γ,p x y z∧q x y z∧r x y z∧s x y z∧t x y z:=#[x,y,z,V,U,O,L,J]
def kX{p q r s t:α→β→γ→δ→Prop}(x:α)(y:β)(z:γ)(w:δ)(V:p x y z w)(U:q x y z w)(O:r x y z w)(L:s x y z w)(J:t x y z w):∃x:α,∃y:β,∃z:γ,∃w:δ,p x y z w∧q x y z w∧r x y z w∧s x y z w∧t x y z w:=#[x,y,z,w,V,U,O,L,J]
def jj{p q r s t a:α→β→γ→δ→ε→Prop}(x:α)(y:β)(z:γ)(w:δ)(v:ε)(W:p x y z w v)(V:q x y z w v)(U:r x y z w v)(O:s x y z w v)(L:t x y z w v)(J:a x y z w v):∃x:α,∃y:β,∃z:γ,∃w:δ,∃v:ε,p x y z w v∧q x y z w v∧r x y z w v∧s x y z w v∧t x y z w v∧a x y z w v:=#[x,y,z,w,v,W,V,U,O,L,J]
def uxA{p q:Prop}{G:Prop}(h:p∧q)(k:p→q→G):G:=by let(L,J):=h;exact k L J
def jk{p q r:Prop}{G:Prop}(h:p∧q∧r)(k:p→q→r→G):G:=by let(O,L,J):=h;exact k O L J
def oq{p q r s:Prop}{G:Prop}(h:p∧q∧r∧s)(k:p→q→r→s→G):G:=by let(U,O,L,J):=h;exact k U O L J
def nM{p q r s t:Prop}{G:Prop}(h:p∧q∧r∧s∧t)(k:p→q→r→s→t→G):G:=by let(V,U,O,L,J):=h;exact k V U O L J
def Cb{p q r s:Prop}{t a b:α→Prop}{G:Prop}(h:p∧q∧r∧s∧∃x:α,t x∧a x∧b x)(k:p→q→r→s→∀x:α,t x→a x→b x→G):G:=by let(Y,W,V,U,x,O,L,J):=h;exact k Y W V U x O L J
def oz{p q r:Prop}{s t a b c d:α→β→Prop}{G:Prop}(h:p∧q∧r∧∃x:α,∃y:β,s x y∧t x y∧a x y∧b x y∧c x y∧d x y)(k:p→q→r→∀x:α,∀y:β,s x y→t x y→a x y→b x y→c x y→d x y→G):G:=by let(e,Z,Y,x,y,W,V,U,O,L,J):=h;exact k e Z Y x y W V U O L J
def MW{p q:Prop}{r s:α→Prop}{G:Prop}(h:p∧q∧∃x:α,r x∧s x)(k:p→q→∀x:α,r x→s x→G):G:=by let(U,O,x,L,J):=h;exact k U O x L J
def jB{p:Prop}{q r:α→Prop}{G:Prop}(h:p∧∃x:α,q x∧r x)(k:p→∀x:α,q x→r x→G):G:=by let(O,x,L,J):=h;exact k O x L J
def MY{p:Prop}{q r s:α→Prop}{G:Prop}(h:p∧∃x:α,q x∧r x∧s x)(k:p→∀x:α,q x→r x→s x→G):G:=by let(U,x,O,L,J):=h;exact k U x O L J
def Io{p:Prop}{q:α→Prop}{r s:α→β→Prop}{G:Prop}(h:p∧∃x:α,q x∧∃y:β,r x y∧s x y)(k:p→∀x:α,q x→∀y:β,r x y→s x y→G):G:=by let(U,x,O,y,L,J):=h;exact k U x O y L J
def nN{p:Prop}{q r:α→β→Prop}{G:Prop}(h:p∧∃x:α,∃y:β,q x y∧r x y)(k:p→∀x:α,∀y:β,q x y→r x y→G):G:=by let(O,x,y,L,J):=h;exact k O x y L J
def uT{p:Prop}{q r s:α→β→Prop}{G:Prop}(h:p∧∃x:α,∃y:β,q x y∧r x y∧s x y)(k:p→∀x:α,∀y:β,q x y→r x y→s x y→G):G:=by let(U,x,y,O,L,J):=h;exact k U x y O L J
def uxE{p:α→Prop}{G:Prop}(h:∃x:α,p x)(k:∀x:α,p x→G):G:=by let(x,J):=h;exact k x J
def cX{p q:α→Prop}{G:Prop}(h:∃x:α,p x∧q x)(k:∀x:α,p x→q x→G):G:=by let(x,L,J):=h;exact k x L J
def dU{p q r:α→Prop}{G:Prop}(h:∃x:α,p x∧q x∧r x)(k:∀x:α,p x→q x→r x→G):G:=by let(x,O,L,J):=h;exact k x O L J
def D4{p q r s:α→Prop}{G:Prop}(h:∃x:α,p x∧q x∧r x∧s x)(k:∀x:α,p x→q x→r x→s x→G):G:=by let(x,U,O,L,J):=h;exact k x U O L J
def mU{p q r s t:α→Prop}{G:Prop}(h:∃x:α,p x∧q x∧r x∧s x∧t x)(k:∀x:α,p x→q x→r x→s x→t x→G):G:=by let(x,V,U,O,L,J):=h;exact k x V U O L J
def qX{p q:α→Prop}{r:α→β→Prop}{G:Prop}(h:∃x:α,p x∧q x∧∃y:β,r x y)(k:∀x:α,p x→q x→∀y:β,r x y→G):G:=by let(x,O,L,y,J):=h;exact k x O L y J
def qE{p:α→β→Prop}{G:Prop}(h:∃x:α,∃y:β,p x y)(k:∀x:α,∀y:β,p x y→G):G:=by let(x,y,J):=h;exact k x y J
def fz{p q:α→β→Prop}{G:Prop}(h:∃x:α,∃y:β,p x y∧q x y)(k:∀x:α,∀y:β,p x y→q x y→G):G:=by let(x,y,L,J):=h;exact k x y L J
def gK{p q r:α→β→Prop}{G:Prop}(h:∃x:α,∃y:β,p x y∧q x y∧r x y)(k:∀x:α,∀y:β,p x y→q x y→r x y→G):G:=by let(x,y,O,L,J):=h;exact k x y O L J
def mV{p q r s:α→β→Prop}{G:Prop}(h:∃x:α,∃y:β,p x y∧q x y∧r x y∧s x y)(k:∀x:α,∀y:β,p x y→q x y→r x y→s x y→G):G:=by let(x,y,U,O,L,J):=h;exact k x y U O L J
def qY{p q r s t:α→β→Prop}{G:Prop}(h:∃x:α,∃y:β,p x y∧q x y∧r x y∧s x y∧t x y)(k:∀x:α,∀y:β,p x y→q x y→r x y→s x y→t x y→G):G:=by let(x,y,V,U,O,L,J):=h;exact k x y V U O L J
def D5{p:α→β→γ→Prop}{G:Prop}(h:∃x:α,∃y:β,∃z:γ,p x y z)(k:∀x:α,∀y:β,∀z:γ,p x y z→G):G:=by let(x,y,z,J):=h;exact k x y z J
def fV{p q r:α→β→γ→Prop}{G:Prop}(h:∃x:α,∃y:β,∃z:γ,p x y z∧q x y z∧r x y z)(k:∀x:α,∀y:β,∀z:γ,p x y z→q x y z→r x y z→G):G:=by let(x,y,z,O,L,J):=h;exact k x y z O L J
def we{p q r s:α→β→γ→Prop}{G:Prop}(h:∃x:α,∃y:β,∃z:γ,p x y z∧q x y z∧r x y z∧s x y z)(k:∀x:α,∀y:β,∀z:γ,p x y z→q x y z→r x y z→s x y z→G):G:=by let(x,y,z,U,O,L,J):=h;exact k x y z U O L J
def jz{p q r s t:α→β→γ→Prop}{G:Prop}(h:∃x:α,∃y:β,∃z:γ,p x y z∧q x y z∧r x y z∧s x y z∧t x y z)(k:∀x:α,∀y:β,∀z:γ,p x y z→q x y z→r x y z→s x y z→t x y z→G):G:=by let(x,y,z,V,U,O,L,J):=h;exact k x y z V U O L J
def qM{p q:α→β→γ→δ→Prop}{G:Prop}(h:∃x:α,∃y:β,∃z:γ,∃w:δ,p x y z w∧q x y z w)(k:∀x:α,∀y:β,∀z:γ,∀w:δ,p x y z w→q x y z w→G):G:=by let(x,y,z,w,L,J):=h;exact k x y z w L J
def wj{p q r:α→β→γ→δ→Prop}{G:Prop}(h:∃x:α,∃y:β,∃z:γ,∃w:δ,p x y z w∧q x y z w∧r x y z w)(k:∀x:α,∀y:β,∀z:γ,∀w:δ,p x y z w→q x y z w→r x y z w→G):G:=by let(x,y,z,w,O,L,J):=h;exact k x y z w O L J
def Cd{p q r s:α→β→γ→δ→Prop}{G:Prop}(h:∃x:α,∃y:β,∃z:γ,∃w:δ,p x y z w∧q x y z w∧r x y z w∧s x y z w)(k:∀x:α,∀y:β,∀z:γ,∀w:δ,p x y z w→q x y z w→r x y z w→s x y z w→G):G:=by let(x,y,z,w,U,O,L,J):=h;exact k x y z w U O L J
def iX{p q r s t:α→β→γ→δ→ε→Prop}{G:Prop}(h:∃x:α,∃y:β,∃z:γ,∃w:δ,∃v:ε,p x y z w v∧q x y z w v∧r x y z w v∧s x y z w v∧t x y z w v)(k:∀x:α,∀y:β,∀z:γ,∀w:δ,∀v:ε,p x y z w v→q x y z w v→r x y z w v→s x y z w v→t x y z w v→G):G:=by let(x,y,z,w,v,V,U,O,L,J):=h;exact k x y z w v V U O L J
def kY{p q r s t:α→β→γ→δ→ε→ζ→Prop}{G:Prop}(h:∃x:α,∃y:β,∃z:γ,∃w:δ,∃v:ε,∃u:ζ,p x y z w v u∧q x y z w v u∧r x y z w v u∧s x y z w v u∧t x y z w v u)(k:∀x:α,∀y:β,∀z:γ,∀w:δ,∀v:ε,∀u:ζ,p x y z w v u→q x y z w v u→r x y z w v u→s x y z w v u→t x y z w v u→G):G:=by let(x,y,z,w,v,u,V,U,O,L,J):=h;exact k x y z w v u V U O L J
end
section
namespace BR
open PySem PySem.W PyProof.Rows
def wk:θ aq->BT->Nat->ψ (BT×Nat)
 |[],T,n=>aa (T,n)
 |o::r,T,n=>match ((T.ins n o).get n).isSome with
  |true=>wk r (T.ins n o) (n+1)|false=>af
theorem tX(J:Life):∀{l:θ aq}{T O:BT}{n L:Nat},wk l T n=aa (O,L)->(afw O L J).objs.toList=(afw T n J).objs.toList++l
 |[],T,O,n,L,h=>by cases h;simp
 |o::r,T,O,n,L,h=>by
  unfold wk at h;cases g:((T.ins n o).get n).isSome with
  |false=>replace h:=g ▸ h;cases h
  |true =>
   replace h:=g ▸ h;refine rwe (tX _ h)^rwe (absHeap_ins g) ?_;show((afw T n J).objs.push o).toList++r=_;simp
def toT(s:Zo):ψ aep:=match wk s.heap.objs.toList .nil 0 with
 |some (T,n)=>aa #[T,n,s.heap.life,s.gens,s.drawn,s.toks,s.os]|none=>af
def Ip{s:Zo}{t:aep}(h:toT s=aa t):t.abs=s:=by
 unfold toT at h;cases e:wk _ _ 0 with
 |none=>replace h:=e ▸ h;cases h
 |some r =>
  let(T,n):=r;replace h:=e ▸ h;cases h;have:=tX s.heap.life e;let((objs,life),g,d,k,o):=s;show Shared.mk _ g d k o=Shared.mk _ g d k o;exact rwe ((by
   exact bS (Heap.mk · _)^Array.toList_inj.mp (by
    refine rwe this ?_;simp[afw,BT.list]:(afw T n _).objs.toList=objs.toList):afw T n _=#[objs,life])) rfl
def qN(b:String->ψ acN)(p:ZE)(w:ZW)(c:Nat)(a:ψ aA):Nat->aep->Thread->ψ aep
 |0,_,_=>af
 |n+1,s,t=>match through t with
  |true=>aa s
  |false=>match stepOk c a t with
   |false=>af
   |true=>match stepT (denote b) p w s t with
    |some (e,d)=>qN b p w c a n e d|none=>af
section
variable{tb:String->ψ acN}{p:ZE}{w:ZW}{n₀:Nat}{ann:ψ aA}
theorem tY:∀{n:Nat}{s a:aep}{t:Thread},qN tb p w n₀ ann n s t=aa a->topRun tb p w n₀ ann n s.abs t=aa a.abs
 |0,_,_,_,h=>by cases h
 |n+1,s,a,t,h=>by
  unfold qN at h;unfold topRun;cases O:through t with
  |true=>replace h:=O ▸ h;cases h;rfl
  |false =>
   replace h:=O ▸ h;cases L:stepOk _ _ t with
   |false=>replace h:=L ▸ h;cases h
   |true =>
    replace h:=L ▸ h;cases J:stepT _ p w s t with
    |none=>replace h:=J ▸ h;cases h|some r=>rw[J]at h;exact rwe (stepT_spec J)^tY h
end
def qZ(b:String->ψ acN)(p:ZE)(w:ZW)(N:Nat)(a:Zo):ψ aep :=
 match a.heap.isNs ZL&&a.gens.size==0 with
 |true=>(toT a).bind λL=>(qN b p w a.heap.objs.size (a.heap.nsMap ZL "__annotations__") N L^topStub p).bind λJ =>
  match staticsOk (adq p.main.body) a.heap J.abs.heap&&namesBound p J.abs.heap&&gensDone J.abs&&laidKept a.heap J.abs.heap with
   |true=>aa J|false=>af
 |false=>af
def yC{b:String->ψ acN}{p:ZE}{w:ZW}{N:Nat}{a:Zo}{t:aep}(h:qZ b p w N a=aa t):topFrom b p w N a=aa t.abs:=by
 unfold qZ at h;unfold topFrom;cases e:(a.heap.isNs _&&a.gens.size==0)with
 |false=>replace h:=e ▸ h;cases h
 |true =>
  replace h:=e ▸ h;refine cX (Option.bind_eq_some_iff.mp h) λL V h=>(cX (Option.bind_eq_some_iff.mp h) λJ U h=>?_);have O:=tY U;rw[Ip V]at O
  grind
def iM(a:String->ψ acN)(p:ZE)(w:ZW)(N:Nat):ψ aep:=(fencedOpening a p w N).bind^qZ a p w N
def Iq{a:String->ψ acN}{p:ZE}{w:ZW}{N:Nat}{J:Type}{f:Zo->J}{x:J}(h:(iM a p w N).map (λt=>f t.abs)=aa x):(openEnds a p w N).map f=aa x:=by refine cX (Option.map_eq_some_iff.mp h) λt O e=>(cX (Option.bind_eq_some_iff.mp O) λL V U=>?_);unfold openEnds;refine rwe V ?_;show(topFrom _ p w N _).map f=aa x;exact rwe (yC U)^bS _ e
def D6{J U O L:Type}{o:ψ J}{f:J->U×O}{g:J->L}{x:U}{y:O}{z:L}(b:o.map (λt=>(f t).1)=aa x)(a:o.map (λt=>(f t).2)=aa y)(V:o.map g=aa z):o.map (λt=>(f t,g t))=aa ((x,y),z):=by
 cases o with
 |none=>cases a
 |some t =>
  have e1:(f t).1=x:=Zv b;have e2:(f t).2=y:=Zv a;have W:g t=z:=Zv V;show aa (f t,g t)=_;rw[←e1,←e2,←W]
def LA(b:String->ψ acN)(p q:ZE)(a J:θ ay)(O:Zo->Bool)(L:Bool)(N:Nat)(w:ZW):Prop :=
 (iM b p w N).map (λt=>(acE q a J O L t.abs).1)=aa^PyProof.Rows.expectedOf q
def LB(b:String->ψ acN)(p q:ZE)(a J:θ ay)(O:Zo->Bool)(L:Bool)(N:Nat)(w:ZW):Prop :=
 (iM b p w N).map (λt=>((acE q a J O L t.abs).2.1,(acE q a J O L t.abs).2.2.1,(acE q a J O L t.abs).2.2.2.1,(acE q a J O L t.abs).2.2.2.2.1))=aa (afa,ah,ah,PySem.pinGoodD^aea q)
def LC(b:String->ψ acN)(p q:ZE)(a J:θ ay)(O:Zo->Bool)(L:Bool)(N:Nat)(w:ZW):Prop :=
 (iM b p w N).map (λt=>(acE q a J O L t.abs).2.2.2.2.2)=aa (adI q^PySem.W.looseW q a,adJ q a,afi q,afk q a)
def MZ{d:String->ψ acN}{p q:ZE}{c J:θ ay}{O:Zo->Bool}{L:Bool}{N:Nat}{w:ZW}(h:LB d p q c J O L N w)(f:LC d p q c J O L N w):
 (iM d p w N).map (λt=>(acE q c J O L t.abs).2)=aa (afa,ah,ah,PySem.pinGoodD^aea q,adI q^PySem.W.looseW q c,adJ q c,afi q,afk q c):=by
 unfold LB at h;unfold LC at f;cases e:iM _ p w N with
 |none=>replace h:=e ▸ h;cases h
 |some t =>
  rw[e]at h f;have a:=Zv h;have b:=Zv f;have V:=adU (adU a).2;have U:=adU V.2;exact bS _^aeG (adU a).1^aeG V.1^aeG U.1^aeG U.2 b
def LO(a:String->ψ acN)(p:ZE)(N:Nat){J:Type}(L:Zo->J)(O:ZW->J)(w:ZW):Prop:=(iM a p w N).map (λt=>L t.abs)=aa^O w
def Ir{b:String->ψ acN}{p q:ZE}{a J:θ ay}{U:Zo->Bool}{L:Bool}{N:Nat}{V:Type}{O:Zo->V}{W:ZW->V}{w:ZW}(d:LA b p q a J U L N w)(c:LB b p q a J U L N w)(Y:LC b p q a J U L N w)(Z:LO b p N O W w):
 (openEnds b p w N).map (λs=>(acE q a J U L s,O s))=aa (openGood q a,W w):=by
 exact Iq (f:=λs=>(acE q _ _ _ _ s,O s))^D6 (f:=λt=>acE q _ _ _ _ _) (g:=λt=>O _) d (MZ c Y) Z
end BR
end
section
namespace BG
open PySem PySem.Spec PySem.Calls PyProof.Rows L2
structure FS where
 name:ay
 qual:ay
 params:aeg
 body:FuncBody
 scope:aak
 globals:az
 closure:θ (ay×az)
 defaults:aA
 builtins:az
 code:Bool
def Iu(K:Zm)(f:az):ψ FS:=match K.lookup f with
 |some ⟨_,_,.func a,_⟩=>aa #[a.name,a.qualname,a.params,a.body,a.scope,a.globals,a.closure,a.defaults,a.builtins,acj K a.code a.qualname]|_=>af
def Al(x a:ay)(st:ade):FS:=#[x,a,g9 st,.stmts^dg st,cV st,ZL,[],.none,abK,ah]
def strOf:aA->ψ ay
 |.str x _=>aa x|_=>af
def intOf:aA->ψ Int
 |.int i _=>aa i|_=>af
def refOf:ψ^ψ aA->ψ az
 |some^aa^.ref a=>aa a|_=>af
inductive Qy
 |fn(x:ay)(f:az)(st:ade)|int(x:ay)(n:Int)|aB(x:ay)(f:az)(xs:θ ay)|dct(x:ay)(f:az)(kvs:θ (ay×Int))|no(x:ay)|cls(c:ay)(C:az)|me(C:az)(m x qual:ay)(f:az)(st:ade)|mk(C:az)
 |tab(x:ay)(c P:az)|bm(b:az)|fv(x:ay)(f:az)|exc(D:az)(xs:θ (ay×az))
 |str(x s:ay)|stp(f:az)(xs:θ ay)|dtp(x:ay)(f:az)(kvs:θ (ay×az))
inductive Ov
 |fn(a:ψ az)(o:ψ FS)|int(n:ψ Int)|seq(a:ψ az)(c:ψ (aA×ψ az×Nat))(xs:ψ^θ^ψ ay)|dct(a:ψ az)(c:ψ (aA×ψ az×Nat))(xs:ψ^θ (Int×ψ ay×ψ Int))|b(x:Bool)
def shp(o:aq):aA×ψ az×Nat:=(o.cls,o.dict,o.slots.size)
def D7(o:aq):ψ^θ^ψ ay:=match o.data with
 |.seq J _=>aa^J.toList.map strOf|_=>af
def Mi(o:aq):ψ^θ (Int×ψ ay×ψ Int):=match o.data with
 |.dict J _=>aa (J.toList.map λe=>(e.hash,strOf e.key,intOf e.val))|_=>af
def Rl:aA->ψ Int
 |.ref a=>aa (a:Int)|_=>af
def Rm(o:aq):ψ^θ (Int×ψ ay×ψ Int):=match o.data with
 |.dict J _=>aa (J.toList.map λe=>(e.hash,strOf e.key,Rl e.val))|_=>af
def attrs:θ ay:=["program","asked","gap","most","kept","farthest","front","now","origins","branches","tape","named"]
def Rn(K:Zm)(c:ay)(C:az):Bool:=decide (aag K ZL c=aa^aa^.ref C)&&abS K C aby&&abe K C&&adu K C&&decide (Z3 K (.ref C) "__setattr__"=aa^aa^.builtin "object.__setattr__") &&
 (attrs.all λf=>decide (Z3 K (.ref C) f=aa af))&&adS K C^.type "type"
def meB(K:Zm)(C:az)(m:ay)(f:az):Bool:=decide (Z3 K (.ref C) m=aa^aa^.ref f)&&acH K^.ref f
def mkB(K:Zm)(C:az):Bool:=adT K C&&Z2 K^.ref C
def bmB(K:Zm)(b:az):Bool:=decide (aag K ZL "__builtins__"=aa^aa^.ref b)&&decide (b≠abK)&&(match K.lookup b with
 |some ⟨.type "module",aa d,.plain,_⟩=>d==abK
 | _=>ai)
def Wj(K:Zm)(C D:az):Bool:=match K.lookup C with
 |some ⟨_,_,.cls a,_⟩=>a.mro.contains^.ref D|_=>ai
def M0(K:Zm)(c:ay)(C:az):Bool:=decide (aag K ZL c=aa^aa^.ref C)&&aeq K C [.type "ValueError",.type "Exception",.type "BaseException",.type "object"] "ValueError.__new__"
def Iw(K:Zm)(D:az)(a:θ (ay×az))(c:ay)(C:az):Bool:=M0 K c C&&Wj K C D&&decide (Z3 K (.ref C) "__getattribute__"=aa^aa^.builtin "BaseException.__getattribute__")&&decide (Z3 K (.ref C) "__getattr__"=aa af) &&
 decide (adh K C^.type "BaseException"=aa ah)&&abe K C&&decide (Z3 K (.ref C) "__class__"=aa^aa^.builtin "object.__class__")&&decide (abd K (.builtin "object.__class__") "__get__"=aa^aa^.builtin "getset_descriptor.__get__") &&
 decide (acF K^.builtin "object.__class__"=aa ah)&&decide (adh K C^.type "object"=aa ah)&&decide (aaT K (.ref C)^.type "ValueError"=aa ah)&&a.all λq=>decide (aaT K (.ref C)^.ref q.2=aa (q.1==c))
def Wk(K:Zm)(D:az)(a:θ (ay×az)):Bool:=M0 K "TapeError" D&&a.all λq=>Iw K D a q.1 q.2
def eX(K:Zm):Qy->Ov
 |.fn x f _=>.fn (refOf^aag K ZL x)^Iu K f|.int x _=>ω (match aag K ZL x with|some^aa v=>intOf v|_=>af)|.aB x f _=>.seq (refOf^aag K ZL x) ((K.lookup f).map shp)^(K.lookup f).bind D7|.dct x f _=>.dct (refOf^aag K ZL x) ((K.lookup f).map shp)^(K.lookup f).bind Mi|.no x=>.b (decide (aag K ZL x=aa af))|.cls c C=>.b^Rn K c C|.me C m _ _ f _=>.fn (if meB K C m f then aa f else af)^Iu K f|.mk C=>.b^mkB K C|.tab x c P=>.b (decide (aaQ K x=aa (c,P))&&adD K c P)|.bm b=>.b^bmB K b|.fv x f=>.b (decide (aag K ZL x=aa^aa^.ref f)&&Z2 K^.ref f)|.exc D J=>.b^Wk K D J|.str x _=>.seq af af (match aag K ZL x with|some^aa v=>aa [strOf v]|_=>af)|.stp f _=>.seq af ((K.lookup f).map shp)^(K.lookup f).bind D7|.dtp x f _=>.dct (refOf^aag K ZL x) ((K.lookup f).map shp)^(K.lookup f).bind Rm
def eY(w:ZW):Qy->Ov
 |.fn x f st=>.fn (aa f)^aa^Al x x st|.int _ n=>ω^aa n|.aB _ f O=>.seq (aa f) (aa (.type "tuple",af,0))^aa^O.map aa|.dct _ f J=>.dct (aa f) (aa (.type "dict",af,0))^aa (J.map λq=>(PyData.keyHash w.params q.1,aa q.1,aa q.2))|.no _=>.b ah|.cls _ _=>.b ah|.me _ _ x L f st=>.fn (aa f)^aa^Al x L st|.mk _=>.b ah|.tab _ _ _=>.b ah|.bm _=>.b ah|.fv _ _=>.b ah|.exc _ _=>.b ah|.str _ s=>.seq af af^aa [aa s]|.stp f O=>.seq af (aa (.type "tuple",af,0))^aa^O.map aa|.dtp _ f J=>.dct (aa f) (aa (.type "dict",af,0))^aa (J.map λq=>(PyData.keyHash w.params q.1,aa q.1,aa (q.2:Int)))
def KOf(b:θ az)(h:au):Zm:=b.map λa=>(a,(h.get? a).getD default)
def sees(as:θ az)(J:θ Qy)(ts:θ az):PySem.W.Hook where
 α:=Bool×θ Ov×θ^ψ aq
 obs:=λs=>(as.all λa=>(s.heap.get? a).isSome,J.map^eX^KOf as s.heap,ts.map s.heap.get?)
 val:=λw=>(ah,J.map^eY w,ts.map λ_=>aa (acX #v[]))
 says:=λw h=>∃K:Zm,K.map (·.1)=as/\(∀p∈K,h.get? p.1=aa p.2)/\(∀q∈J,eX K q=eY w q)/\∀P∈ts,h.get? P=aa (acX #v[])
 of:=λw s e=>by have e1:=bS Prod.fst e;have e2:=bS (λp=>p.2.1) e;have b:=bS (λp=>p.2.2) e;refine#[KOf as s.heap,by simp[KOf,Function.comp_def],λp L=>?_,λq U=>List.map_inj_left.mp e2 q U,λP O=>List.map_inj_left.mp b P O];let(a,Y,rfl):=List.mem_map.mp L;have Z:=List.all_eq_true.mp e1 a Y;let(o,V):=Option.isSome_iff_exists.mp Z;show s.heap.get? a=aa^(s.heap.get? a).getD default;rw[V];rfl
 keeps:=λw h h' ⟨K,m,n,k,t⟩ hk=>#[K,m,λp L=>hk _ _^n p L,k,λP O=>hk _ _^t P O]
end BG
end
section
namespace BL
open PySem PySem.Spec PyProof.Rows L2 BG
@[reducible]noncomputable def pg:ZE:=PySem.Challenge.pw_backtape_k62_apart
def qg:ZE:=PySem.W.view pg [0,2,3,4,5,6,8,9,10,11,12,13,14,15,17,18,19,20,21,22,23,24,25,26,27,28,29,30,31,32,33,34,35,36,37,38,40,41,43,44,46,47,48,49,50,51,52,53,54,55,56,57,58]
@[reducible]noncomputable def loo:θ ay:=["INNER_COUNTS"]
def top(i:Nat):ade:=pg.main.body.getD i^.Pass #[0,0,0,0]
def Ro:ade->θ ade
 |.ClassDef _ _ _ b _ _ _ _ _ _ _=>b|_=>[]
def dR(i j:Nat):ade:=(Ro^top i).getD j^.Pass #[0,0,0,0]
def Wl:ade->Pos
 |.FunctionDef _ _ _ _ _ _ _ _ _ p=>p|_=>#[0,0,0,0]
@[reducible]noncomputable def adr:θ az:=[2,3,30,31,43,44,55,56,67,68,79,80,83,84,90,91,97,98,104,105,111,112,118,119,125,126,132,133,139,140,146,147,153,154,160,161,167,168,174,175,181,182,188,189,195,196,202,203,209,210,216,217,230,231,237,238,244,245,298,299,305,306,312,313,319,320,326,327,333,334,371,372,389,390,392,393,408,409,415,416,422,423,429,430,436,437,443,444,448,449,453,454,458,459,463,464,470,471,477,478,484,485,491,492,494,495,505,506,512,513,519,520,526,527,531,532,536,537,543,544,550,551,557,558,562,563,569,570,576,577,581,582]
def qys:θ Qy:=[.fn "is_whole" 91^top 12,
 .fn "is_name" 98^top 13,
 .fn "is_cell" 105^top 14,
 .fn "inner_sums" 112^top 15,
 .fn "begun" 119^top 24,
 .fn "check_thing" 126^top 25,
 .fn "worth_in" 133^top 26,
 .fn "laid_out" 140^top 27,
 .fn "of_two" 147^top 28,
 .fn "worth_of" 154^top 29,
 .fn "reckoned" 161^top 30,
 .fn "cell_by" 168^top 31,
 .fn "is_over" 175^top 32,
 .fn "place_behind" 182^top 33,
 .fn "with_worth" 189^top 34,
 .fn "with_name" 196^top 35,
 .fn "with_thing" 203^top 36,
 .fn "brought" 210^top 37,
 .fn "stepped" 217^top 38,
 .fn "_law_cell" 506^top 46,
 .fn "_law_drawn" 513^top 47,
 .fn "_law_sum" 520^top 48,
 .fn "_law_row" 527^top 49,
 .fn "_law_program" 532^top 50,
 .fn "_law_asked" 537^top 51,
 .fn "_law_thing" 544^top 52,
 .fn "_law_of" 551^top 53,
 .fn "_law_tree" 558^top 54,
 .fn "_law_all" 563^top 55,
 .fn "_law_refused" 570^top 56,
 .fn "law" 582^top 58,
 .int "CELL_COUNT" 4,
 .int "WORTH_COUNT" 10007,
 .int "ROW" 0,
 .int "NAMES" 1,
 .int "CELLS" 2,
 .int "CALLS" 3,
 .int "ASKED" 4,
 .int "SAID" 5,
 .int "MOST_CALLS" 6,
 .int "MOST_MARKS" 8,
 .aB "LETTERS" 83 ["a","b","c","d","e","f"],
 .dct "INNER_COUNTS" 84 [("num",0),("name",0),("cell",1),("add",2),("sub",2),("mul",2),("less",2)],
 .no "len",
 .no "abs",
 .no "int",
 .no "list",
 .no "tuple",
 .no "isinstance",
 .no "str",
 .no "bool",
 .no "range",
 .no "reversed",
 .no "enumerate",
 .no "zip",
 .no "min",
 .no "max",
 .no "sorted",
 .no "sum",
 .no "all",
 .no "any",
 .no "set",
 .no "ValueError",
 .no "dict",
 .no "worths_of",
 .no "last_change",
 .no "next_change",
 .no "moments_so",
 .no "last_so",
 .no "next_so",
 .no "visits",
 .no "last_visit",
 .no "when_said",
 .no "next_within",
 .no "last_within",
 .no "first_other",
 .no "writer_of",
 .no "judged",
 .no "remade",
 .cls "Tape" 372,
 .mk 372,
 .cls "Branch" 393,
 .mk 393,
 .cls "Tree" 495,
 .mk 495,
 .me 372 "__init__" "__init__" "Tape.__init__" 231^dR 41 0,
 .me 393 "at" "at" "Tape.at" 238^dR 41 1,
 .me 393 "end" "end" "Tape.end" 245^dR 41 2,
 .me 393 "behind" "behind" "Tape.behind" 299^dR 41 10,
 .me 393 "is_last" "is_last" "Tape.is_last" 306^dR 41 11,
 .me 393 "keep" "keep" "Tape.keep" 313^dR 41 12,
 .me 393 "reach" "reach" "Tape.reach" 320^dR 41 13,
 .me 393 "has" "has" "Tape.has" 327^dR 41 14,
 .me 393 "check" "check" "Tape.check" 334^dR 41 15,
 .me 393 "__init__" "__init__" "Branch.__init__" 390^dR 43 0,
 .me 495 "__init__" "__init__" "Tree.__init__" 409^dR 44 0,
 .me 495 "part" "part" "Tree.part" 416^dR 44 1,
 .me 495 "at" "at" "Tree.at" 423^dR 44 2,
 .me 495 "end" "end" "Tree.end" 430^dR 44 3,
 .me 495 "parent" "parent" "Tree.parent" 437^dR 44 4,
 .me 495 "path" "path" "Tree.path" 444^dR 44 5,
 .me 495 "children" "children" "Tree.children" 449^dR 44 6,
 .me 495 "shared" "shared" "Tree.shared" 454^dR 44 7,
 .me 495 "ends_with" "ends_with" "Tree.ends_with" 464^dR 44 9,
 .me 495 "check_run" "check_run" "Tree.check_run" 471^dR 44 10,
 .me 495 "first" "first" "Tree.first" 478^dR 44 11,
 .me 495 "holder" "holder" "Tree.holder" 485^dR 44 12,
 .fn "_law_told" 577^top 57,
 .exc 31 [("NoMoment",44),("NoRun",56),("NoThing",68),("NoText",80)],
 .me 495 "found" "found" "Tree.found" 492^dR 44 13,
 .me 495 "apart" "apart" "Tree.apart" 459^dR 44 8]
@[reducible]noncomputable def tl:θ (ay×az×az):=[]
@[reducible]noncomputable def tas:θ az:=[]
@[reducible]noncomputable def LA:ZW->Prop:=BR.LA treeTable pg qg loo (adq pg.main.body) (λs=>ady qg [] s&&adg [] s) ah 8284
def la0(w:ZW):LA^w.withFollow "special-get-raises" ai:=by unfold LA BR.LA;kernel_rfl
def la1(w:ZW):LA^w.withFollow "special-get-raises" ah:=by unfold LA BR.LA;kernel_rfl
@[reducible]noncomputable def LB:ZW->Prop:=BR.LB treeTable pg qg loo (adq pg.main.body) (λs=>ady qg [] s&&adg [] s) ah 8284
def lb0(w:ZW):LB^w.withFollow "special-get-raises" ai:=by unfold LB BR.LB;kernel_rfl
def lb1(w:ZW):LB^w.withFollow "special-get-raises" ah:=by unfold LB BR.LB;kernel_rfl
@[reducible]noncomputable def LC:ZW->Prop:=BR.LC treeTable pg qg loo (adq pg.main.body) (λs=>ady qg [] s&&adg [] s) ah 8284
def lc0(w:ZW):LC^w.withFollow "special-get-raises" ai:=by unfold LC BR.LC;kernel_rfl
def lc1(w:ZW):LC^w.withFollow "special-get-raises" ah:=by unfold LC BR.LC;kernel_rfl
@[reducible]noncomputable def LO:ZW->Prop:=BR.LO treeTable pg 8284 (sees adr qys tas).obs (sees adr qys tas).val
def lo0(w:ZW):LO^w.withFollow "special-get-raises" ai:=by unfold LO BR.LO;kernel_rfl
def lo1(w:ZW):LO^w.withFollow "special-get-raises" ah:=by unfold LO BR.LO;kernel_rfl
def left:PySem.W.LeftO pg qg loo (λs=>ady qg [] s&&adg [] s) (sees adr qys tas).obs (sees adr qys tas).val 8284:=λw=>BR.Ir (acZ (P:=LA) "special-get-raises" la0 la1 w) (acZ (P:=LB) "special-get-raises" lb0 lb1 w) (acZ (P:=LC) "special-get-raises" lc0 lc1 w)^acZ (P:=LO) "special-get-raises" lo0 lo1 w
end BL
end
section
namespace L2
open PySem PySem.Spec PyProof.Rows
@[reducible]noncomputable def Key:=Sum Int ay
def lW:Key->aA->Bool
 |.inl k,v=>ad7 k v|.inr x,v=>ads x v
def Rp(w:ZW):Key->Int
 |.inl k=>hashInt k|.inr x=>hashStr w x
theorem dX:∀{k:Key}{v:aA},lW k v=ah->(∃i t,k=afy i/\v=ad8 i t)\/(∃x t,k=aaM x/\v=abR x t)
 |.inl i,v,h=>by let(t,e):=afx h;exact .inl^eW i t rfl e
 |.inr x,v,h=>by let(t,e):=Value.isStrOf_shape h;exact .inr^eW x t rfl e
def Ce(i:Int)(t:Tok):lW (.inl i)^ω i t=ah:=by simp[lW,ad7]
def Cf(x:ay)(t:Tok):lW (.inr x)^.str x t=ah:=by simp[lW,ads]
def M1(a b:Int):decide ((afy a:Key)=afy b)=(a==b):=by
 by_cases e:a=b
 subst e;simp;exact rwe (bO (λq=>e^Sum.inl.inj q))^(beq_eq_false_iff_ne.mpr e).symm
def M3(a b:ay):decide ((aaM a:Key)=aaM b)=decide (a=b):=by
 by_cases e:a=b
 simp;exact rwe (bO (λq=>e^ac7 q))^rwe (bO e) rfl
def M4(a:Int)(b:ay):decide ((afy a:Key)=aaM b)=ai:=bO (λq=>nomatch q)
def M5(a:ay)(b:Int):decide ((aaM a:Key)=afy b)=ai:=bO (λq=>nomatch q)
def eN(prog:ZE)(w:ZW):PySem.KeyKind prog w Key where
 is:=lW
 hash:=Rp w
 inj:=λv a b U L=>by
  rcases dX U with⟨i,t,rfl,rfl⟩|⟨x,t,rfl,rfl⟩
  ·rcases dX L with⟨j,u,rfl,e⟩|⟨y,u,rfl,e⟩
   ·injection e with e1 _;rw[e1]
   exact nomatch e
  ·rcases dX L with⟨j,u,rfl,e⟩|⟨y,u,rfl,e⟩
   exact nomatch e
   ·injection e with e1 _;rw[e1]
 byValue:=λk v h=>by rcases dX h with⟨i,t,rfl,rfl⟩|⟨x,t,rfl,rfl⟩<;>rfl
 pyHash:=λJ h=>by
  rcases dX J with⟨i,t,rfl,rfl⟩|⟨x,t,rfl,rfl⟩
  exact wpAny_pyHash_int h;exact wpAny_pyHash_str h
 eqBool:=λO J h=>by
  rcases dX O with⟨i,t,rfl,rfl⟩|⟨x,t,rfl,rfl⟩
  ·rcases dX J with⟨j,u,rfl,rfl⟩|⟨y,u,rfl,rfl⟩
   rw[M1]at h;exact wpAny_eqBool_int h;rw[M4]at h;exact SeqAt.EqAt.int_str i t y u _ _ _ _ h
  ·rcases dX J with⟨j,u,rfl,rfl⟩|⟨y,u,rfl,rfl⟩
   rw[M5]at h;exact SeqAt.EqAt.str_int x t j u _ _ _ _ h;rw[M3]at h;exact wpAny_eqBool_str h
 «strs»:=λk x t v h=>by
  rcases dX h with⟨i,u,rfl,e⟩|⟨y,u,rfl,e⟩
  exact nomatch e
  ·injection e with e1 _
   subst e1;cases v<;>rfl
def wm(a:ZE)(w:ZW)(i:Int)(t:Tok):(eN a w).is (.inl i)^ω i t=ah:=Ce i t
def j4(a:ZE)(w:ZW)(x:ay)(t:Tok):(eN a w).is (.inr x)^.str x t=ah:=Cf x t
end L2
namespace L2
open PySem PySem.Spec PyProof.Rows
inductive V
 |aC|bl(b:Bool)|int(i:Int)|str(x:ay)|byt(b:Array UInt8)|flt(b:UInt64)|ref(a:az)|ty(n:String)
 deriving DecidableEq
def RelV:V->aA->Prop
 |.aC,u=>u=ab6|.bl b,u=>u=Value.bool b|.int i,u=>∃t,u=ad8 i t|.str x,u=>∃t,u=abR x t|.byt b,u=>∃t,u=Value.bytes b t|.flt b,u=>∃t,u=Value.float b t|.ref a,u=>u=aaJ a|.ty n,u=>u=acW n
@[reducible]noncomputable def dw:θ V->θ aA->Prop:=Paired RelV
def dw.length{a:θ V}{b:θ aA}(r:dw a b):a.length=b.length:=Paired.length r
theorem dw.get:∀{a:θ V}{b:θ aA}{i:Nat}{x:V},dw a b->a[i]?=aa x->∃u,b[i]?=aa u/\RelV x u
 |_,_,_,_,.nil,e=>by simp at e
 |_,_,0,_,.cons r _,e=>by simp at e;subst e;exact(cY _ rfl r)
 |_,_,i+1,x,.cons _ t,e=>by exact cX (dw.get t^by simpa using e) λu L J=>((cY u (by simpa using L) J))
theorem dw.set{x:V}{u:aA}(r:RelV x u):∀{a:θ V}{b:θ aA}(i:Nat),dw a b->dw (a.set i x)^b.set i u
 |_,_,_,.nil=>.nil|_,_,0,.cons _ t=>.cons r t|_,_,i+1,.cons q t=>.cons q^dw.set r i t
theorem dw.append:∀{b a:θ V}{d c:θ aA},dw b d->dw a c->dw (b++a) (d++c)
 |_,_,_,_,.nil,s=>s|_,_,_,_,.cons r t,s=>.cons r^dw.append t s
theorem dw.take:∀{a:θ V}{b:θ aA}(n:Nat),dw a b->dw (a.take n)^b.take n
 |_,_,0,_=>.nil|_,_,_+1,.nil=>.nil|_,_,n+1,.cons r t=>.cons r^dw.take n t
theorem dw.drop:∀{a:θ V}{b:θ aA}(n:Nat),dw a b->dw (a.drop n)^b.drop n
 |_,_,0,r=>r|_,_,_+1,.nil=>.nil|_,_,n+1,.cons _ t=>dw.drop n t
def tE:ψ V->ψ aA->Prop
 |some v,aa u=>RelV v u|none,af=>True|_,_=>False
def KV{κ:Type}:θ (κ×V)->θ (κ×aA)->Prop:=Paired λ(p:κ×V)(q:κ×aA)=>p.1=q.1/\RelV p.2 q.2
def kV:Key->V
 |.inl i=>ω i|.inr x=>.str x
inductive HO
 |aj(xs:θ V)
 |aB(xs:θ V)
 |dK(kvs:θ (Key×V))|dT(kvs:θ (θ Key×V))
 |set(S:Int->Bool)(n:Nat)
 |ins(C dx:az)(fs:θ (ay×V))
 |own(x:az)
 |xd(fs:θ (ay×V))
 |met(f x:az)
 |rng(lo hi:Int)
 |frz(o:aq)(u:HO)
 |tbl(ps:Array aA)
 |ext(J:au->Prop)
@[reducible]noncomputable def Hp:=az->ψ HO
def upd(H:Hp)(a:az)(o:HO):Hp:=λb=>if b=a then aa o else H b
def fD{H:Hp}{a:az}{o:HO}:upd H a o a=aa o:=by unfold upd;exact rwe (bK rfl) rfl
def dD{H:Hp}{a b:az}{o:HO}(h:b≠a):upd H a o b=H b:=by unfold upd;exact rwe (bL h) rfl
def fq{H:Hp}{a b:az}{o:HO}(h:H a=aa o)(c:H b=af):a≠b:=by rintro rfl;replace c:=h ▸ c;cases c
section
variable(P:ZE)(w:ZW)
def jh(H:Hp)(h:au)(a:az):HO->Prop
 |.aj O=>O.length<=ak/\∃(L:θ aA) (n:Nat),dw O L/\h.get? a=aa {cls:=.type "list",data:=.seq L.toArray n}|.aB O=>O.length<=ak/\∃L:θ aA,dw O L/\IsTup h a L.toArray|.dK J=>J.length<=ak/\(a==ab3)=ai/\∃Z,KV J Z/\h.DictOf (eN P w) a Z
 |.dT J=>J.length<=ak/\(a==ab3)=ai/\∃O:θ (θ Key×az×aA),
  Paired (λ(p:θ Key×V)(q:θ Key×az×aA)=>p.1=q.1/\H q.2.1=aa^.aB^p.1.map kV/\RelV p.2 q.2.2) J O ∧
  ∃o d i,h.get? a=aa o/\o.ExactDict/\o.data=.dict d i/\d.toList=O.map^entryOfKey^tupleKind^eN P w/\(O.map (·.1)).Nodup
 |.set S n=>h.SetOf (intKind P w) a S n|.ins C W j=>H W=aa^.own a/\j.length<=1000/\W≠a/\h.get? a=aa (aaY C W) ∧
  ∃U,h.Ns1 W U/\(∀f,tE (j.lookup f)^U f)/\aeV U (j.map (·.1))
 |.own _=>∃o,h.get? a=aa o|.xd j=>∃U,h.Ns1 a U/\∀f,tE (j.lookup f)^U f|.rng lo g=>∃t u v,h.get? a=aa {cls:=.type "range",data:=.fields #v[ω lo t,ω g u,ω 1 v]}|.frz o u=>h.get? a=aa o/\jh H h a u|.tbl e=>h.get? a=aa {cls:=.none,data:=.fields e}|.met f x=>h.get? a=aa^adw (.ref f)^.ref x|.ext Y=>Y h/\(∃o,h.get? a=aa o)/\∀c b:au,Y c->(∀o,c.get? a=aa o->b.get? a=aa o)->Y b
def HOk(H:Hp)(h:au):Prop:=∀a o,H a=aa o->jh P w H h a o
end
section
variable{P:ZE}{w:ZW}{H H':Hp}{h h':au}{a:az}{o:HO}
def jh.lt(x:jh P w H h a o):a<h.objs.size:=by
 cases o with
 |aj J=>exact nN x λ_ _ _ _ e=>(Zy e)
 |aB J=>exact jB x λ_ _ _ p=>p.lt
 |set S n=>exact qM x λo _ _ _ e _=>(Zy e)
 |ins C V b=>exact nM x λ_ _ _ e _=>(Zy e)
 |own y=>exact uxE x λ_ e=>(Zy e)
 |xd b=>let(_,(_,_,_,e,_),_):=x;exact Zy e
 |rng lo U=>exact D5 x λ_ _ _ e=>(Zy e)
 |frz c u=>exact uxA x λe _=>(Zy e)
 |tbl O=>exact Zy^x|met f y=>exact Zy^x|ext L=>refine jk x ?_;rintro _ ⟨_,e⟩ _;exact Zy e|_=>let(_,_,_,_,o,_,_,e,_):=x;exact Zy e
theorem Paired.Rq{O L:Type}{F G:O->L->Prop}:∀{J:θ O}{c:θ L},Paired F J c->(∀a b,F a b->G a b)->Paired G J c
 |_,_,.nil,_=>.nil|_,_,.cons r t,f=>.cons (f _ _ r)^Paired.Rq t f
def jh.stay(x:jh P w H h a o)(k:∀b u,(b=a\/H b=aa^.own a)->h.get? b=aa u->h'.get? b=aa u)
(l:∀b,H b=aa^.own a->H' b=aa^.own a)(j:∀b D,H b=aa^.aB D->H' b=aa^.aB D):jh P w H' h' a o:=by
 induction o with
 |aj D=>let(z,O,n,r,e):=x;exact#[z,O,n,r,k _ _ (.inl rfl) e]|aB D=>let(z,O,r,B,e,c):=x;exact#[z,O,r,B,k _ _ (.inl rfl) e,c]|dK W=>let(z,y,Z,r,B,J,L,e,c):=x;exact#[z,y,Z,r,B,J,L,k _ _ (.inl rfl) e,c]
 |dT W =>
  let(z,y,D,r,B,J,L,e,c):=x;exact#[z,y,D,Paired.Rq r λp q z=>#[z.1,j _ _ z.2.1,z.2.2],B,J,L,k _ _ (.inl rfl) e,c]
 |set S n=>let(B,J,L,t,e,c):=x;exact#[B,J,L,t,k _ _ (.inl rfl) e,c]
 |ins C A E =>
  let(d,z,g,e,V,(U,J,L,e2,c),r):=x;exact#[l _ d,z,g,k _ _ (.inl rfl) e,V,#[U,J,L,k _ _ (.inr d) e2,c],r]
 |own y=>let(B,e):=x;exact#[B,k _ _ (.inl rfl) e]|xd E=>let(V,(U,J,L,e,c),r):=x;exact#[V,#[U,J,L,k _ _ (.inl rfl) e,c],r]|rng lo s=>let(t,u,v,e):=x;exact#[t,u,v,k _ _ (.inl rfl) e]|frz B u i=>let(e,q):=x;exact#[k _ _ (.inl rfl) e,i q]
 |tbl Y =>
  have e:h.get? a=aa {cls:=.none,data:=.fields Y}:=x;show h'.get? a=aa {cls:=.none,data:=.fields Y};exact k a _ (.inl rfl) e
 |met f y =>
  have e:h.get? a=aa^adw (.ref f)^.ref y:=x;show h'.get? a=aa^adw (.ref f)^.ref y;exact k a _ (.inl rfl) e
 |ext m=>let(p,(o,e),st):=x;exact#[st _ _ p λo q=>k _ _ (.inl rfl) q,#[o,k _ _ (.inl rfl) e],st]
def HOk.lt(x:HOk P w H h)(e:H a=aa o):a<h.objs.size:=(x a o e).lt
def HOk.fresh(x:HOk P w H h)(e:h.objs.size<=a):H a=af:=by
 cases q:H a with
 |none=>rfl|some u=>exact bM (ZU (x.lt q) e)^aas _
def HOk.aG(x:HOk P w H h)(k:∀b u,h.get? b=aa u->h'.get? b=aa u):HOk P w H h':=λa o e =>
 (x a o e).stay (λb u _ q=>k b u q) (λ_ q=>q) λ_ _ q=>q
def HOk.laid(x:HOk P w H h)(k:∀b u,h.get? b=aa u->h'.get? b=aa u)(d:h.objs.size<=a)(new:jh P w (upd H a o) h' a o):HOk P w (upd H a o) h':=λb u e=>by
 have hn:=x.fresh d
 by_cases J:b=a
 subst J;rw[fD]at e;cases e;exact new
 ·rw[dD J]at e;exact(x b u e).stay (λc v _ q=>k c v q) (λc q=>by rw[dD^fq q hn];exact q) λc L q=>by rw[dD^fq q hn];exact q
end
def Rd(H:Hp)(a:az)(u:HO):Prop:=H a=aa u\/∃o,H a=aa^.frz o u
def Rd.ok{P:ZE}{w:ZW}{H:Hp}{h:au}{a:az}{u:HO}(r:Rd H a u)(x:HOk P w H h):jh P w H h a u:=by
 rcases r with r|⟨o,r⟩
 exact x a u r;exact uxA (x a _ r) λ_ q=>q
def Mut:ψ HO->Prop
 |some^.aj _=>True|some^.dK _=>True|some^.dT _=>True|some^.set _ _=>True|some^.ins _ _ _=>True|some^.ext _=>True|_=>False
section
variable{P:ZE}{w:ZW}{H:Hp}{h h':au}{x e:az}{o':HO}
def HOk.write(f:HOk P w H h)(d:Mut^H x)(Z:e=x\/H e=aa^.own x)(k:∀b u,b≠e->h.get? b=aa u->h'.get? b=aa u)(W:∃u,h'.get? e=aa u)
(new:jh P w (upd H x o') h' x o'):HOk P w (upd H x o') h':=λb u q=>by
 have L:∀c y,H c=aa^.own y->c≠x:=λc y r z=>by subst z;rw[r]at d;exact d
 have O:∀c U,H c=aa^.aB U->c≠x:=λc U r z=>by subst z;rw[r]at d;exact d
 by_cases V:b=x
 subst V;rw[fD]at q;cases q;exact new
 ·rw[dD V]at q
  by_cases J:b=e
  ·have Y:H b=aa^.own x:=by
    rcases Z with z|z
    exact bM (J.trans z) V;rw[J];exact z
   rw[q]at Y;cases Y;let(v,a):=W;exact#[v,by rw[J];exact a]
  ·refine(f b u q).stay (λc v hc r=>k c v ?_ r) (λc r=>by rw[dD^L c b r];exact r) λc U r=>by rw[dD^O c U r];exact r
   rcases hc with rfl|hc
   exact J
   ·rintro rfl
    rcases Z with z|z
    exact L c b hc z;rw[hc]at z;cases z;exact V rfl
end
structure Un(fs ex:θ az)(H H':Hp)(h h':au):Prop where
 keep:∀b o,h.get? b=aa o->H b=af->b∉fs->b∉ex->h'.get? b=aa o
 slot:∀b o,h.get? b=aa o->H b=af->b∈fs->b∉ex->∃sl,h'.get? b=aa {o with slots:=sl}
 free:∀b o,h.get? b=aa o->H b=af->b∉ex->H' b=af
 there:∀b o,h.get? b=aa o->b∉ex->∃o',h'.get? b=aa o'
 tups:∀b xs,H b=aa^.aB xs->H' b=aa^.aB xs
 frzs:∀b o u,H b=aa^.frz o u->H' b=aa^.frz o u
 tbls:∀b ps,H b=aa^.tbl ps->∃more,H' b=aa^.tbl (ps++more)
section
variable{fs fs' ex ex':θ az}{H H1 H2:Hp}{h h1 h2 h':au}{a x e:az}{o:HO}
def Un.any(u:Un fs ex H H1 h h1){b:az}{c:aq}(q:h.get? b=aa c)(n:H b=af)(J:b∉ex):∃d,h1.get? b=aa {c with slots:=d}:=by
 by_cases L:b∈fs
 exact u.slot b _ q n L J;exact#[_,u.keep b c q n L J]
def Un.aG(k:∀b u,h.get? b=aa u->h'.get? b=aa u):Un fs ex H H h h' :=
 #[λb c q _ _ _=>k b _ q,λb c q _ _ _=>#[_,k b c q],λ_ _ _ n _=>n,λb c q _=>#[c,k b _ q],λ_ _ q=>q,λ_ _ _ q=>q,λ_ J q=>#[#v[],by refine rwe q ?_;simp]]
def Un.refl:Un fs ex H H h h:=Un.aG λ_ _ q=>q
theorem Un.laid(k:∀b u,h.get? b=aa u->h'.get? b=aa u)(hp:h.objs.size<=a)(hn:H a=af):Un fs ex H (upd H a o) h h' where
 keep:=λb u q _ _ _=>k b u q
 slot:=λb u q _ _ _=>#[u.slots,k b u q]
 free:=λb u q n _=>by rw[dD^ZS^ZU (Zy q) hp];exact n
 there:=λb u q _=>#[u,k b u q]
 tups:=λb J q=>by rw[dD^fq q hn];exact q
 frzs:=λb u J q=>by rw[dD^fq q hn];exact q
 tbls:=λb L q=>#[#v[],by rw[dD^fq q hn,q];simp]
def Un.write(c:Mut^H x)(Y:e=x\/H e=aa^.own x)(k:∀b u,b≠e->h.get? b=aa u->h'.get? b=aa u)(O:∃u,h'.get? e=aa u):Un fs ex H (upd H x o) h h':=by
 have U:∀b,H b=af->b≠x:=λb n z=>by subst z;rw[n]at c;exact c
 have V:∀b,H b=af->b≠e:=λb n z=>by
  subst z;rcases Y with r|r
  exact U b n r;replace r:=n ▸ r;cases r
 have L:∀b u,H b=aa u->¬Mut^aa u->b≠x:=λb u q d z=>by subst z;rw[q]at c;exact d c
 refine #[λb u q n _ _=>k b u (V b n) q,λb u q n _ _=>#[_,k b u (V b n) q],λb u q n _=>by exact rwe (dD^U b n) n,λb u q _=>?_,
  λb W q=>by exact rwe (dD (L b _ q λz=>z)) q,λb u W q=>by exact rwe (dD (L b _ q λz=>z)) q,λb Z q=>#[#v[],by refine rwe (dD (L b _ q λz=>z))^rwe q ?_;simp]]
 by_cases J:b=e
 subst J;exact O;exact#[u,k b u J q]
end
def trk(h:au)(H:Hp):θ az:=(ZG h.objs.size).filter λa=>(H a).isSome
def wo(h:au)(H:Hp):au:=aaE h^trk h H
def Cg(h:au)(H:Hp):(wo h H).objs.size=h.objs.size:=PySem.W.hideAll_size _ _
def wu{h:au}{H:Hp}{b:az}{o:aq}(e:h.get? b=aa o)(n:H b=af):(wo h H).get? b=aa o :=
 abq _ e λJ=>by have q:=(List.mem_filter.mp J).2;rw[n]at q;simp at q
def Iz{h:au}{H:Hp}{b:az}{o:aq}(e:(wo h H).get? b=aa o):h.get? b=aa o/\H b=af:=by
 have J:=ach _ e;refine#[J,?_];cases q:H b with
 |none=>rfl
 |some x =>
  replace e:=(aeF _^List.mem_filter.mpr #[List.mem_range.mpr^Zy J,by simp[q]]:(wo h H).get? b=af) ▸ e;cases e
def IA(g h:au)(L:az):θ (az×aq):=(ZG h.objs.size).filterMap λa=>if a=L\/(g.get? a).isSome=ah then af else(h.get? a).map λo=>(a,o)
def rest(g h:au)(L d:az):θ (az×aq):=(IA g h L).filter λp=>decide (p.1≠d)
end L2
namespace L2
open PySem PySem.Spec PyProof.Rows
structure Mod(K:Zm)(mg:ay->ψ aA)(base:au):Prop where
 kin:K.In base
 glob:base.Ns ZL mg
 blt:∃mb,base.Ns abK mb/\∀x:ay,x≠"__name__"->mb x=acf x
 nolimit:base.NoLimit
structure Cx where
 prog:ZE
 w:ZW
 K:Zm
 mg:ay->ψ aA
 base:au
 A:Z7
 N:θ ay
 s₀:Zo
 H₀:Hp
 env:Env
 outer:θ Env
 stack:θ Env
 ex:θ az
 fn:ay->Bool
 calm:Bool
 pn:θ (az×aq)
 xe:aA->Zo->Prop
def frs(l:θ Env):θ az:=l.filterMap (·.frame)
@[reducible]noncomputable def Cx.fs(X:Cx):θ az:=frs X.outer
def Vis(a:aak)(x:ay):Prop:=a.names.lookup x=aa .local\/a.names.lookup x=aa .cell\/a.names.lookup x=aa .free
def Loc(a:aak)(x:ay):Prop:=a.names.lookup x=aa .local\/a.names.lookup x=aa .cell
def Look(a:Env)(h:au)(m:ay->ψ aA)(x:ay)(u:aA):Prop :=
 (a.kindOf x=aa .local/\m x=aa u)\/((a.kindOf x=aa .cell\/a.kindOf x=aa .free)/\∃c,a.cells.lookup x=aa c/\h.IsCell c^aa u)
structure Cx.Ok(X:Cx):Prop where
 mod:Mod X.K X.mg X.base
 kind:X.env.scope.kind=.function
 glob:X.env.globals=ZL
 blt:X.env.builtins=abK
 above:X.s₀.heap.objs.size<=X.env.locals
 inj:∀x y c,X.env.cells.lookup x=aa c->X.env.cells.lookup y=aa c->x=y
 has:∀x,(X.env.kindOf x=aa .cell\/X.env.kindOf x=aa .free)->∃c,X.env.cells.lookup x=aa c
 cab:∀x c,X.fn x=ah->X.env.cells.lookup x=aa c->X.s₀.heap.objs.size<=c
 hd:X.calm=ah->X.A.handled=af
 frames:X.A.frames=aa X.stack
 stk:X.stack=X.outer\/(X.stack=X.env::X.outer/\X.env.frame=aa X.env.locals)
 exf:∀b∈X.ex,b≠X.env.locals/\∀x c,X.env.cells.lookup x=aa c->c≠b
 bs:∀b o,X.base.get? b=aa o->X.s₀.heap.get? b=aa o/\X.H₀ b=af
 bsz:X.base.objs.size<=X.s₀.heap.objs.size
 noex:∀b o,X.base.get? b=aa o->b∉X.ex
 exfs:∀b∈X.ex,b∉X.fs
 jW:X.s₀.heap.FunFrames X.base X.outer
 frf:∀b∈X.fs,X.H₀ b=af
structure Inv(X:Cx)(zt:θ (az×aq))(σ:θ^ψ V)(H:Hp)(s:Zo):Prop where
 ok:X.Ok
 os:s.os=X.s₀.os
 bare:adW s.gens
 base:Un X.fs X.ex X.H₀ H X.s₀.heap s.heap
 loc:∃m,s.heap.Ns X.env.locals m/\∀(i:Nat)(x:ay)(v:V),X.N[i]?=aa x->σ[i]?=aa^aa v->Vis X.env.scope x->∃u,RelV v u/\Look X.env s.heap m x u
 cell:∀x c,X.env.cells.lookup x=aa c->∃v,s.heap.IsCell c v
 free:H X.env.locals=af
 freeC:∀x c,X.env.cells.lookup x=aa c->H c=af
 pin:∀p∈X.pn++zt,s.heap.get? p.1=aa p.2/\H p.1=af/\p.1≠X.env.locals/\p.1∉X.fs/\∀v,p.2.data≠.cell v
 aI:HOk X.prog X.w H s.heap
 len:σ.length=X.N.length
section
variable{X:Cx}{zt:θ (az×aq)}{σ:θ^ψ V}{H H':Hp}{s:Zo}{h':au}
def Cx.Ok.Wm(a:X.Ok){b:az}{o:aq}(e:X.base.get? b=aa o):b∉X.fs:=λJ=>by have:=(a.jW.mem J).1;replace this:=e ▸ this;cases this
def Inv.bs(I:ξ H s):∀b o,X.base.get? b=aa o->s.heap.get? b=aa o/\H b=af:=λb o e =>
 #[I.base.keep b o (I.ok.bs b o e).1 (I.ok.bs b o e).2 (I.ok.Wm e)^I.ok.noex b o e,I.base.free b o (I.ok.bs b o e).1 (I.ok.bs b o e).2^I.ok.noex b o e]
def Inv.bk(I:ξ H s):∀b o,X.base.get? b=aa o->s.heap.get? b=aa o:=λb o e=>(I.bs b o e).1
def Inv.mod(I:ξ H s):Mod X.K X.mg X.base:=I.ok.mod
def Inv.kIn(I:ξ H s):X.K.In s.heap:=I.ok.mod.kin.keeps I.bk
def Inv.lt(I:ξ H s):X.env.locals<s.heap.objs.size:=let ⟨_,hn,_⟩:=I.loc;hn.lt
def Inv.sz(I:ξ H s):X.s₀.heap.objs.size<=s.heap.objs.size:=ZT I.ok.above^aaL I.lt
def Inv.Wo(I:ξ H s){a:az}(h:s.heap.objs.size<=a):a∉X.fs:=λL=>by exact jB (I.ok.jW.mem L) λ_ o J _=>(bM (ZU (Zy J)^ZT I.sz h)^aas _)
def Inv.cne(I:ξ H s):∀x c,X.env.cells.lookup x=aa c->c≠X.env.locals:=λx c e z=>by refine fz (I.cell x c e) λv o L U=>?_;let(m,(V,W,Y,J,O,_),_):=I.loc;replace L:=J ▸ z ▸ L;cases L;replace U:=O ▸ U;cases U
def Inv.jW(I:ξ H s):s.heap.FunFrames X.base X.outer:=by
 have all:∀(l:θ _),(∀b∈frs l,b∈X.fs)->X.s₀.heap.FunFrames X.base l->s.heap.FunFrames X.base l:=by
  intro l
  induction l with
  |nil=>intro _ _;trivial
  |cons V r U =>
   rintro c ⟨g,⟨L,o,a,hn,f,h⟩,d⟩
   have O:=c L (by unfold frs;refine rwe Z6 ?_;exact rwe a ZF);refine uxE (I.base.slot L o f (I.ok.frf L O) O λz=>I.ok.exfs L z O) λW e=>?_;exact(f6 g ((fh L _ a hn e h))^U (λb J=>c b^by unfold frs;refine rwe Z6 ?_;exact rwe a^Zz _ J) d)
 exact all _ (λ_ J=>J) I.ok.jW
def Inv.stack(I:ξ H s):s.heap.FunFrames X.base X.stack:=by
 rcases I.ok.stk with e|⟨e,a⟩
 rw[e];exact I.jW
 ·rw[e];let(m,hn,_):=I.loc;refine .cons (by rw[I.ok.kind];decide) a hn ?_ I.jW;exact Heap.get?_none_of_le^ZT I.ok.bsz I.ok.above
def Inv.kZ(I:ξ H s):∀b∈frs X.stack,b∈X.env.locals::X.fs:=λb J=>by
 rcases I.ok.stk with e|⟨e,a⟩
 rw[e]at J;exact Zz _ J
 ·rw[e]at J;unfold frs at J;rw[Z6,a]at J;exact J
def Inv.uU(I:ξ H s):∀b∈frs X.stack,H b=af:=λb J=>by
 rcases List.mem_cons.mp^I.kZ b J with e|J
 exact rwe e I.free;exact jB (I.ok.jW.mem J) λ_ o L _=>(I.base.free b o L (I.ok.frf b J) λz=>I.ok.exfs b z J)
def Inv.step{g':Array GenState}{t':Nat}{d':Drawn}{ch:θ az}(I:ξ H s)
(O:∀b∈ch,(b∈X.ex\/X.s₀.heap.objs.size<=b)/\b≠X.env.locals/\(∀x c,X.env.cells.lookup x=aa c->c≠b)/\∀p∈X.pn++zt,p.1≠b)
(F:∀b o,b≠X.env.locals->b∉X.fs->b∉ch->s.heap.get? b=aa o->H b=af->h'.get? b=aa o)
(K:∀b o,b≠X.env.locals->b∈X.fs->b∉ch->s.heap.get? b=aa o->H b=af->∃T,h'.get? b=aa {o with slots:=T})(free:∀b o,b∉ch->s.heap.get? b=aa o->H b=af->H' b=af)
(M:∀b o,b∉ch->s.heap.get? b=aa o->∃Q,h'.get? b=aa Q)
(N:∀b G,H b=aa^.aB G->H' b=aa^.aB G)(R:∀b o u,H b=aa^.frz o u->H' b=aa^.frz o u)(P:∀b S,H b=aa^.tbl S->∃a,H' b=aa^.tbl (S++a))
(ns:∀m,s.heap.Ns X.env.locals m->h'.Ns X.env.locals m)(E:HOk X.prog X.w H' h')(C:adW g'):
 Inv X zt σ H' {s with heap:=h',gens:=g',drawn:=d',toks:=t'}:=by
 have Z:∀b o,X.s₀.heap.get? b=aa o->b≠X.env.locals:=λb o e=>ZS^ZU (Zy e) I.ok.above;have V:∀b o,X.s₀.heap.get? b=aa o->b∉X.ex->b∉ch:=λb o e J W=>by
  rcases (O b W).1 with z|z
  exact J z;exact bM (ZU (Zy e) z)^aas _
 have U:∀x c,X.env.cells.lookup x=aa c->∀v,s.heap.IsCell c v->h'.IsCell c v:=λx c e v ⟨o,Y,g⟩=>by
  have L:c∉ch:=λz=>(O c z).2.2.1 x c e rfl
  by_cases hc:c∈X.fs
  ·let(T,q):=K c o (I.cne x c e) hc L Y^I.freeC x c e;exact#[_,q,g]
  exact#[o,F c o (I.cne x c e) hc L Y^I.freeC x c e,g]
 refine#[I.ok,I.os,C,#[λb o e n W J=>?_,λb o e n W J=>?_,λb o e n J=>?_,λb o e J=>?_,λb G e=>N b G^I.base.tups b G e,λb o G e=>R b o G^I.base.frzs b o G e,λb S e=>?_],?_,λx c e=>?_,?_,λx c e=>?_,λp t=>?_,E,I.len];exact F b o (Z b o e) W (V b o e J) (I.base.keep b o e n W J)^I.base.free b o e n J
 ·let(T,e1):=I.base.slot b o e n W J;let(f,e2):=K b _ (Z b o e) W (V b o e J) e1^I.base.free b o e n J;exact#[f,e2]
 ·let(Q,e1):=I.base.there b o e J;exact free b Q (V b o e J) e1^I.base.free b o e n J
 ·let(Q,e1):=I.base.there b o e J;exact M b Q (V b o e J) e1
 ·let(A,e1):=I.base.tbls b S e;let(y,e2):=P b _ e1;exact#[A++y,by rw[e2,Array.append_assoc]]
 ·let(m,hn,B):=I.loc;refine#[m,ns m hn,λi x v e1 e2 D=>?_];let(u,r,l):=B i x v e1 e2 D;refine#[u,r,?_];rcases l with l|⟨k,c,e,z⟩
  exact .inl l;exact .inr #[k,c,e,U x c e _ z]
 ·let(v,z):=I.cell x c e;exact#[v,U x c e v z]
 ·let(m,(o,_,_,Y,_),_):=I.loc;exact free _ o (λz=>(O _ z).2.1 rfl) Y I.free
 ·let(v,o,Y,g):=I.cell x c e;exact free c o (λz=>(O c z).2.2.1 x c e rfl) Y^I.freeC x c e
 ·let(e,n,j,h,d):=I.pin p t;have L:p.1∉ch:=λz=>(O p.1 z).2.2.2 p t rfl;exact#[F p.1 p.2 j h L e n,free p.1 p.2 L e n,j,h,d]
def Inv.un{t':Nat}(I:ξ H s)(u:Un X.fs [] H H' s.heap h')(a:HOk X.prog X.w H' h'):ξ H' {s with heap:=h',toks:=t'}:=by
 let(m,(o,g,h,V,r),_):=id I.loc;let(c,Z):=u.any V I.free (by simp);exact I.step (g':=s.gens) (d':=s.drawn) (ch:=[]) (λ_ z=>nomatch z) (λb o _ L _ e n=>u.keep b o e n L^by simp) (λb o _ L _ e n=>u.slot b o e n L^by simp) (λb o _ e n=>u.free b o e n^by simp) (λb o _ e=>u.there b o e^by simp) u.tups u.frzs u.tbls (λf Y=>by let(d,O,U,J,W):=Y;rw[V]at J;cases J;exact#[_,O,U,Z,W]) a I.bare
def Inv.call{g':Array GenState}{t':Nat}{d':Drawn}{ch:θ az}(I:ξ H s)(u:Un (frs X.stack) ch H H' s.heap h')(f:HOk X.prog X.w H' h')(a:adW g')
(L:∀b∈ch,(b∈X.ex\/X.s₀.heap.objs.size<=b)/\b≠X.env.locals/\(∀x c,X.env.cells.lookup x=aa c->c≠b)/\∀p∈X.pn++zt,p.1≠b):
 Inv X zt σ H' {s with heap:=h',gens:=g',drawn:=d',toks:=t'}:=by
 let(m,(o,j,k,W,r),_):=id I.loc;let(g,O):=u.any W I.free λz=>(L _ z).2.1 rfl;exact I.step (ch:=ch) L (λb o O d l e n=>u.keep b o e n (λz=>(List.mem_cons.mp^I.kZ b z).elim O d) l) (λb o _ _ l e n=>u.any e n l) (λb o l e n=>u.free b o e n l) (λb o l e=>u.there b o e l) u.tups u.frzs u.tbls (λi Z=>by let(h,U,V,J,Y):=Z;rw[W]at J;cases J;exact#[_,U,V,O,Y]) f a
def Inv.turned{t':Nat}{J:az}(I:ξ H s)(k:∀b o,b≠J->s.heap.get? b=aa o->h'.get? b=aa o)(hn:H J=af)(O:J≠X.env.locals)
(h:J∈X.ex\/X.s₀.heap.objs.size<=J)(g:∀x c,X.env.cells.lookup x=aa c->c≠J)(Y:∀p∈X.pn++zt,p.1≠J):ξ H {s with heap:=h',toks:=t'}:=by
 have L:∀b u,H b=aa u->b≠J:=λb u e z=>by rw[z,hn]at e;cases e
 refine I.step (g':=s.gens) (d':=s.drawn) (ch:=[J]) (λb W=>?_) (λb o _ _ f e _=>k b o (λz=>f^by simp[z]) e) (λb o _ _ f e _=>#[o.slots,k b o (λz=>f^by simp[z]) e]) (λ_ _ _ _ n=>n)
  (λb o f e=>#[o,k b o (λz=>f^by simp[z]) e]) (λ_ _ e=>e) (λ_ _ _ e=>e) (λb d e=>#[#v[],by rw[e];simp]) (λm V=>?_) (λb u e=>?_) I.bare
 ·have e:b=J:=by simpa using W
  subst e;exact#[h,O,g,Y]
 ·let(o,Z,a,U,r):=V;exact#[o,Z,a,k _ o (aan O) U,r]
 ·refine(I.aI b u e).stay (λc v f q=>k c v ?_ q) (λ_ q=>q) λ_ _ q=>q;rcases f with z|z
  rw[z];exact L b u e;exact L c _ z
def Inv.tok(I:ξ H s)(t:Nat):ξ H {s with toks:=t}:=I.un Un.refl I.aI
def Inv.aG{t':Nat}(I:ξ H s)(k:∀b u,s.heap.get? b=aa u->h'.get? b=aa u):ξ H {s with heap:=h',toks:=t'}:=I.un (Un.aG k)^I.aI.aG k
def Inv.laid{a:az}{o:HO}{t':Nat}(I:ξ H s)(k:∀b u,s.heap.get? b=aa u->h'.get? b=aa u)(c:s.heap.objs.size<=a)(new:jh X.prog X.w (upd H a o) h' a o):
 Inv X zt σ (upd H a o) {s with heap:=h',toks:=t'}:=I.un (Un.laid k c^I.aI.fresh c)^I.aI.laid k c new
def Inv.write{x e:az}{o:HO}{d:Nat}(I:ξ H s)(a:Mut^H x)(L:e=x\/H e=aa^.own x)(k:∀b u,b≠e->s.heap.get? b=aa u->h'.get? b=aa u)(J:∃u,h'.get? e=aa u)
(new:jh X.prog X.w (upd H x o) h' x o):ξ (upd H x o) {s with heap:=h',toks:=d}:=I.un (Un.write a L k J)^I.aI.write a L k J new
def Inv.mW{J:θ (az×aq)}(I:ξ H s)(h:∀p∈J,s.heap.get? p.1=aa p.2/\H p.1=af/\p.1≠X.env.locals/\p.1∉X.fs/\∀v,p.2.data≠.cell v):Inv X J σ H s :=
 #[I.ok,I.os,I.bare,I.base,I.loc,I.cell,I.free,I.freeC,λp L=>(List.mem_append.mp L).elim (λz=>I.pin p^abm _ z)^h p,I.aI,I.len]
def wA{N:θ ay}(J:N.Nodup){i j:Nat}{x:ay}(a:N[i]?=aa x)(b:N[j]?=aa x):i=j:=by refine uxE (List.getElem?_eq_some_iff.mp a) λO e1=>?_;refine uxE (List.getElem?_eq_some_iff.mp b) λL e2=>?_;exact(ad1 J).mp^e1.trans e2.symm
def pT{M:Model}{A:Z7}{E:aA->Zo->Prop}{i:Nat}{x:ay}{v:V}{u:aA}{Q:Unit->Zo->Prop}(I:ξ H s)(hN:X.N.Nodup)(hi:X.N[i]?=aa x)(O:Loc X.env.scope x)(r:RelV v u)
(h:∀s',Inv X zt (σ.set i^aa v) H s'->(∃a,aaq a s.heap s'.heap/\(a=X.env.locals\/X.env.cells.lookup x=aa a))->Q Unit.unit s')(hf:X.fn x=ah\/X.env.scope.names.lookup x=aa .local:=by first|exact .inl rfl|exact .inr rfl|assumption):av M A (storeName X.env x u) Q E s:=by
 let(m,hn,hl):=id I.loc;have B:(X.env.scope.kind==.class||(X.env.scope.kind==.module&&X.env.locals != X.env.globals))=ai:=by rw[I.ok.kind];rfl
 have W:i<σ.length:=by rw[I.len];exact(List.getElem?_eq_some_iff.mp hi).1
 have cne:=I.cne;have L:∀{a:az}{g:au},(∃o,s.heap.get? a=aa o/\H a=af)->aaq a s.heap g->HOk X.prog X.w H g:=λ{a g} ha J b ob e=>by
  let(_,_,U):=ha;refine(I.aI b ob e).stay (λc F hc q=>(J.2 c ?_).trans q) (λ_ q=>q) λ_ _ q=>q
  rintro rfl
  rcases hc with rfl|hc
  rw[U]at e;cases e;rw[U]at hc;cases hc
 rcases O with hk|hk
 ·refine wpAny_storeName_local hk hn (λg hn' J=>?_) B;let(oL,_,_,hoL,_):=id hn;refine h _ #[I.ok,I.os,I.bare,#[λb o e n f O=>?_,λb o e n f O=>?_,I.base.free,λb o e O=>?_,I.base.tups,I.base.frzs,I.base.tbls],#[_,hn',λj y P e1 e2 e3=>?_],λy c e=>?_,I.free,I.freeC,λp hp=>?_,L #[oL,hoL,I.free] J,by simpa using I.len] #[_,J,.inl rfl];exact(J.2 b^ZS^ZU (Zy e) I.ok.above).trans^I.base.keep b o e n f O
  ·let(S,e1):=I.base.slot b o e n f O;exact#[S,(J.2 b^ZS^ZU (Zy e) I.ok.above).trans e1]
  ·let(o',e1):=I.base.there b o e O;exact#[o',(J.2 b^ZS^ZU (Zy e) I.ok.above).trans e1]
  ·by_cases Y:j=i
   ·subst Y;rw[hi]at e1;cases e1;rw[ZZ W]at e2;cases e2;exact#[u,r,.inl #[hk,by simp]]
   ·rw[ZD^aan Y]at e2;let(R,T,q):=hl j y P e1 e2 e3;refine#[R,T,?_];rcases q with⟨k,e⟩|⟨k,c,e,z⟩
    ·refine .inl #[k,?_];have:y≠x:=λe=>Y^wA hN e1 (e ▸ hi);simp[this,e]
    exact .inr #[k,c,e,z.sameBut J^cne y c e]
  ·let(F,z):=I.cell y c e;exact#[F,z.sameBut J^cne y c e]
  ·let(e,n,G,nf,d):=I.pin p hp;exact#[(J.2 p.1 G).trans e,n,G,nf,d]
 ·have Z:X.fn x=ah:=by
   rcases hf with z|z
   exact z;rw[z]at hk;cases hk
  let(c,hc):=I.ok.has x^.inl hk;let(F,z):=I.cell x c hc;refine wpAny_storeName_cell I.ok.kind hk hc z (λg D J=>?_);let(oc,t,l):=id z;refine h {s with heap:=g} #[I.ok,I.os,I.bare,#[λb o e n f O=>?_,λb o e n f O=>?_,I.base.free,λb o e O=>?_,I.base.tups,I.base.frzs,I.base.tbls],#[m,hn.sameBut J^aan^cne x c hc,λj y P e1 e2 e3=>?_],λy K e=>?_,I.free,I.freeC,λp hp=>?_,L #[oc,t,I.freeC x c hc] J,by simpa using I.len] #[c,J,.inr hc];exact(J.2 b^ZS^ZU (Zy e)^I.ok.cab x c Z hc).trans^I.base.keep b o e n f O
  ·let(S,e1):=I.base.slot b o e n f O;exact#[S,(J.2 b^ZS^ZU (Zy e)^I.ok.cab x c Z hc).trans e1]
  ·let(o',e1):=I.base.there b o e O;exact#[o',(J.2 b^ZS^ZU (Zy e)^I.ok.cab x c Z hc).trans e1]
  ·by_cases Y:j=i
   ·subst Y;rw[hi]at e1;cases e1;rw[ZZ W]at e2;cases e2;exact#[u,r,.inr #[.inl hk,c,hc,D]]
   ·rw[ZD^aan Y]at e2;let(R,T,q):=hl j y P e1 e2 e3;refine#[R,T,?_];rcases q with q|⟨k,K,e,z'⟩
    exact .inl q
    ·refine .inr #[k,K,e,z'.sameBut J ?_]
     rintro rfl
     exact Y^wA hN e1 (I.ok.inj _ _ _ e hc ▸ hi)
  ·by_cases C:K=c
   subst C;exact#[_,D]
   ·let(w2,z2):=I.cell y K e;exact#[w2,z2.sameBut J C]
  ·let(e,n,G,nf,d):=I.pin p hp;refine#[(J.2 p.1 ?_).trans e,n,G,nf,d];intro q;rw[q,t]at e;have q':oc=p.2:=Zv e;exact d F (by rw[←q'];exact l)
def rj{M:Model}{A:Z7}{E:aA->Zo->Prop}{i:Nat}{x:ay}{v:V}{u:aA}{Q:Unit->Zo->Prop}(I:ξ H s)(O:X.N.Nodup)(b:X.N[i]?=aa x)(J:Loc X.env.scope x)(r:RelV v u)
(h:∀a,Inv X zt (σ.set i^aa v) H a->Q Unit.unit a)(L:X.fn x=ah\/X.env.scope.names.lookup x=aa .local:=by first|exact .inl rfl|exact .inr rfl|assumption):av M A (storeName X.env x u) Q E s :=
 pT I O b J r (λa U _=>h _ U) L
def Inv.tZ{a:Zo}{ch:θ az}(I:ξ H s)(O:a.os=s.os)(u:Un (frs X.stack) ch H H' s.heap a.heap)(V:HOk X.prog X.w H' a.heap)(U:adW a.gens)
(J:∀b∈ch,(b∈X.ex\/X.s₀.heap.objs.size<=b)/\b≠X.env.locals/\(∀x c,X.env.cells.lookup x=aa c->c≠b)/\∀p∈X.pn++zt,p.1≠b):ξ H' a:=by
 let(W,f,g,d,L):=a;have e:L=s.os:=O;subst e;exact I.call (g':=f) (t':=d) (d':=g) u V U J
end
@[reducible]noncomputable def XK:=aA->ψ az->Hp->Prop
@[reducible]noncomputable def St:=θ^ψ V
@[reducible]noncomputable def VK:=V->Hp->Prop
@[reducible]noncomputable def TE:=St->Hp->VK->Prop
@[reducible]noncomputable def TT:=St->Hp->(Bool->Hp->Prop)->Prop
@[reducible]noncomputable def TA:=St->Hp->(θ V->Hp->Prop)->Prop
structure Ends where
 nx:St->Hp->Prop
 rt:VK
 bk:St->Hp->Prop:=λ_ _=>False
 ct:St->Hp->Prop:=λ_ _=>False
@[reducible]noncomputable def TS:=Ends->St->Hp->Prop
inductive EP(X:Cx)(zt:θ (az×aq))(σ:St)(Q:VK)(u:aA)(s':Zo):Prop
 |mk(v:V)(H':Hp)(I:ξ H' s')(r:RelV v u)(q:Q v H'):EP X zt σ Q u s'
inductive TP(X:Cx)(zt:θ (az×aq))(σ:St)(Q:Bool->Hp->Prop)(b:Bool)(s':Zo):Prop
 |mk(H':Hp)(I:ξ H' s')(q:Q b H'):TP X zt σ Q b s'
inductive AP(X:Cx)(zt:θ (az×aq))(σ:St)(Q:θ V->Hp->Prop)(us:θ aA)(s':Zo):Prop
 |mk(vs:θ V)(H':Hp)(I:ξ H' s')(r:dw vs us)(q:Q vs H'):AP X zt σ Q us s'
def SP(X:Cx)(a:θ (az×aq))(D:Ends)(f:Flow)(b:Zo):Prop :=
 match f with
 |.next=>∃J L,Inv X a J L b/\D.nx J L|.brk=>∃J L,Inv X a J L b/\D.bk J L|.cont=>∃J L,Inv X a J L b/\D.ct J L|.ret u=>∃v J L,Inv X a J L b/\RelV v u/\D.rt v L
def PE(X:Cx)(e:ab8)(t:TE):Prop :=
 ∀(L:θ (az×aq)) (s:Zo) (J:St) (H:Hp) (Q:VK),Inv X L J H s->t J H Q->av (π X.w) X.A (eval e X.env) (EP X L J Q) X.xe s
def PT(X:Cx)(e:ab8)(t:TT):Prop :=
 ∀(L:θ (az×aq)) (s:Zo) (J:St) (H:Hp) (Q:Bool->Hp->Prop),Inv X L J H s->t J H Q->av (π X.w) X.A (isTrue e X.env^eval e X.env) (TP X L J Q) X.xe s
def PW(X:Cx)(e:ab8)(t:TT):Prop :=
 ∀(J:Sem aA)(O:θ (az×aq)) (s:Zo) (L:St) (H:Hp) (Q:Bool->Hp->Prop),Inv X O L H s->t L H Q->av (π X.w) X.A (isTrue e X.env J) (TP X O L Q) X.xe s
def PW.pt{X:Cx}{e:ab8}{t:TT}(h:PW X e t):PT X e t:=h _
def PA(X:Cx)(a:θ ab8)(t:TA):Prop :=
 ∀(L:Pos)(O:θ (az×aq)) (s:Zo) (J:St) (H:Hp) (Q:θ V->Hp->Prop),Inv X O J H s->t J H Q->av (π X.w) X.A (adO^abH L^Z4 a X.env) (AP X O J Q) X.xe s
def PS(X:Cx)(st:ade)(t:TS):Prop :=
 ∀(L:θ (az×aq)) (s:Zo) (J:St) (H:Hp) (D:Ends),Inv X L J H s->t D J H->av (π X.w) X.A (exec st X.env) (SP X L D) X.xe s
def PSs(X:Cx)(st:θ ade)(t:TS):Prop :=
 ∀(L:θ (az×aq)) (s:Zo) (J:St) (H:Hp) (D:Ends),Inv X L J H s->t D J H->av (π X.w) X.A (execs st X.env) (SP X L D) X.xe s
def thn{J:Type}{t:Sem J}{Q L:J->Zo->Prop}{M:Model}{A:Z7}{E:aA->Zo->Prop}{s:Zo}(h:av M A t Q E s)(O:∀a s,Q a s->L a s):av M A t L E s:=aaa h O λ_ _ x=>x
end L2
namespace L2
open PySem PySem.Spec PyProof.Rows
section
variable{X:Cx}
def bin{a b:ab8}{p o:TE}(i:PE X a p)(g:PE X b o){l:θ (az×aq)}{s:Zo}{σ:St}{H:Hp}{R:V->V->Hp->Prop}(I:Inv X l σ H s)(h:p σ H λx n=>o σ n λy H2=>R x y H2)
{U:Type}{Q:U->Zo->Prop}{f:aA->aA->Sem U}
(e:∀v u m x y H2,Inv X l σ H2 m->RelV x v->RelV y u->R x y H2->av (π X.w) X.A (f v u) Q X.xe m):
 av (π X.w) X.A (eval a X.env) (λv L=>av (π X.w) X.A (eval b X.env) (λu J=>av (π X.w) X.A (f v u) Q X.xe J) X.xe L) X.xe s:=by
 refine thn (i l s σ H _ I h) λv W O=>?_;let(x,n,k,Z,d):=O;refine thn (g l W σ n _ k d) λu m O=>?_;let(y,H2,j,Y,c):=O;exact e v u m x y H2 j Z Y c
def Wp(i:Nat):TE:=fun J H Q=>∃v,J[i]?=aa^aa v/\Q v H
def tC(v:V):TE:=λ_ H Q=>Q v H
def D8{i:Nat}{x:ay}{b:Pos}(Y:X.N[i]?=aa x)(U:Vis X.env.scope x)(L:(x==("__debug__":ay))=ai:=by decide)(O:(x==("__classdict__":ay))=ai:=by decide):PE X (.Name x b)^Wp i:=by
 rintro f s σ H Q I ⟨v,e,h⟩
 refine cX I.loc λm hn W=>(cX (W i x v Y e U) λu r l=>?_);have fin:EP X _ σ Q u s:=#[v,H,I,r,h];rcases l with⟨J,V⟩|⟨J,c,d,a⟩
 exact wpAny_Name (wpAny_loadName_local I.ok.kind J hn V fin) L
 ·rcases J with J|J
  exact wpAny_Name (wpAny_loadName_cell I.ok.kind J d a fin) L;exact wpAny_Name (wpAny_loadName_free I.ok.kind J d a fin O) L
def yD{i j m}:PE X (.Constant (ω i) j m)^tC^ω i:=λ_ _ _ H _ I h=>wpAny_Constant_int #[ω i,H,I.tok _,#[_,rfl],h]
def Rr{b j m}:PE X (.Constant (.bool b) j m)^tC^.bl b:=λ_ _ _ H _ I h=>Constant_bool #[.bl b,H,I,rfl,h]
def M6{j m}:PE X (.Constant .none j m)^tC .aC:=λ_ _ _ H _ I h=>Constant_none #[.aC,H,I,rfl,h]
def M7{x j m}:PE X (.Constant (.str x) j m)^tC^.str x:=λ_ _ _ H _ I h=>acm #[.str x,H,I.tok _,#[_,rfl],h]
def Gl(X:Cx)(x:ay):Prop:=X.env.kindOf x=aa .globalImplicit
def jm{E:aA->Zo->Prop}{a:θ (az×aq)}{s:Zo}{σ:St}{H:Hp}{x:ay}{u:aA}{pos:Pos}{Q:aA->Zo->Prop}(I:Inv X a σ H s)(L:Gl X x)(J:X.mg x=aa u)(h:Q u s)
(O:(x==("__debug__":ay))=ai:=by decide):av (π X.w) X.A (eval (.Name x pos) X.env) Q E s :=
 abl I.ok.kind L (acD (by exact rwe I.ok.glob^I.mod.glob.keeps I.bk) J h) O
def jC{E:aA->Zo->Prop}{b:θ (az×aq)}{s:Zo}{σ:St}{H:Hp}{x:ay}{u:aA}{a:Pos}{Q:aA->Zo->Prop}(I:Inv X b σ H s)(O:Gl X x)(L:X.mg x=af)(J:acf x=aa u)(h:Q u s)
(hn:x≠"__name__":=by decide)(U:(x==("__debug__":ay))=ai:=by decide):av (π X.w) X.A (eval (.Name x a) X.env) Q E s:=by
 refine cX I.mod.blt λY W V=>?_;exact abl I.ok.kind O (Calls.loadGlobal_builtin (by exact rwe I.ok.glob^I.mod.glob.keeps I.bk) L (by exact rwe I.ok.blt^W.keeps I.bk) ((V x hn).trans J) h) U
def qO{x:ay}{v:V}{u:aA}{a:Pos}(L:Gl X x)(J:X.mg x=aa u)(r:RelV v u)(O:(x==("__debug__":ay))=ai:=by decide):PE X (.Name x a)^tC v :=
 λ_ _ _ H _ I h=>jm I L J #[v,H,I,r,h] O
def oA{x:ay}{v:V}{u:aA}{a:Pos}(O:Gl X x)(L:X.mg x=af)(J:acf x=aa u)(r:RelV v u)(hn:x≠"__name__":=by decide)(U:(x==("__debug__":ay))=ai:=by decide):PE X (.Name x a)^tC v :=
 λ_ _ _ H _ I h=>jC I O L J #[v,H,I,r,h] hn U
variable{a b:ab8}{ta tb:TE}{pos:Pos}
def tB(t:TE):TT:=fun J H Q=>t J H λx L=>∃c,x=.bl c/\Q c L
def M8{e:ab8}{t:TE}(h:PE X e t)(U:∀J,isTrue e X.env J=(do let v ←J;aeP e.pos;ac4 [v]^truthy v):=by intro _;rfl):PT X e^tB t:=by intro O s L H Q I hw;refine isTrue_plain (thn (h O s L H _ I hw) λv i ⟨x,g,I1,c,f⟩=>?_)^U _;let(d,rfl,q):=f;cases c;exact aaP #[g,I1,q]
variable{tA tB':TT}{rest:θ ab8}
def Rt(t u:TT):TT:=fun J H Q=>t J H λc L=>if c=ah then u J L Q else Q ai L
def tOr(t u:TT):TT:=fun J H Q=>t J H λc L=>if c=ah then Q ah L else u J L Q
def Ru(t:TT):TT:=fun J H Q=>t J H λc L=>Q (!c) L
def IB(L:PT X a tA):PW X (.BoolOp .And [a] pos) tA:=by
 intro U O s J H Q I h;refine isTrue_and (thn (L _ s J H Q I h) λc V e=>?_);cases c with
 |true=>exact isTrue_and_nil e|false=>exact e
def M9(L:PT X a tA):PW X (.BoolOp .Or [a] pos) tA:=by
 intro U O s J H Q I h;refine isTrue_or (thn (L _ s J H Q I h) λc V e=>?_);cases c with
 |false=>exact isTrue_or_nil e|true=>exact e
def D9(W:PT X a tA)(V:PW X (.BoolOp .And (b::rest) pos) tB'):PW X (.BoolOp .And (a::b::rest) pos)^Rt tA tB':=by
 intro d Z s J H Q I h;refine isTrue_and (thn (W _ s J H _ I h) λc e U=>?_);let(Y,O,L):=U;cases c with
 |true=>exact V _ _ _ J _ Q O L|false=>exact#[Y,O,L]
def Mj(W:PT X a tA)(V:PW X (.BoolOp .Or (b::rest) pos) tB'):PW X (.BoolOp .Or (a::b::rest) pos)^tOr tA tB':=by
 intro d Z s J H Q I h;refine isTrue_or (thn (W _ s J H _ I h) λc e U=>?_);let(Y,O,L):=U;cases c with
 |true=>exact#[Y,O,L]|false=>exact V _ _ _ J _ Q O L
def Na(O:PT X a tA):PT X (.UnaryOp .Not a pos)^Ru tA:=λV s L H Q I h=>isTrue_not (thn (O _ s L H (λc J=>Q _ _) I h) λc W z=>by let(J,U,q):=z;exact#[J,U,q])
def Ml(ta tb:TE):TE:=fun J H Q=>ta J H λx L=>∃c,x=.bl c/\if c=ah then tb J L Q else Q (.bl ai) L
def Rv(ta tb:TE):TE:=fun J H Q=>ta J H λx L=>∃c,x=.bl c/\if c=ah then Q (.bl ah) L else tb J L Q
def Mm(ta:TE):TE:=fun J H Q=>ta J H λx L=>∃c,x=.bl c/\Q (.bl (!c)) L
def Ea{m}{t:TE}(h:PE X a t):PE X (.BoolOp m [a] pos) t:=λL s J H Q I hw=>BoolOp_one^h _ s J H Q I hw
def Eb(Y:PE X a ta)(W:PE X (.BoolOp .And (b::rest) pos) tb):PE X (.BoolOp .And (a::b::rest) pos)^Ml ta tb:=by
 intro d s L H Q I h;refine BoolOp_and (thn (Y _ s L H _ I h) λv e U=>?_);let(x,Z,O,V,J):=U;let(c,rfl,J):=J;cases V;refine aaP ?_;cases c with
 |true=>exact W _ _ L _ Q O J|false=>exact#[.bl _,Z,O,rfl,J]
def Mn(Y:PE X a ta)(W:PE X (.BoolOp .Or (b::rest) pos) tb):PE X (.BoolOp .Or (a::b::rest) pos)^Rv ta tb:=by
 intro d s L H Q I h;refine BoolOp_or (thn (Y _ s L H _ I h) λv e U=>?_);let(x,Z,O,V,J):=U;let(c,rfl,J):=J;cases V;refine aaP ?_;cases c with
 |false=>exact W _ _ L _ Q O J|true=>exact#[.bl _,Z,O,rfl,J]
def Nb(L:PE X a ta):PE X (.UnaryOp .Not a pos)^Mm ta:=by intro O s J H Q I h;refine UnaryOp_ (thn (L _ s J H _ I h) λv g ⟨x,f,I1,e,d⟩=>(cX d ?_));rintro c rfl d;cases e;exact not_of^aaP #[.bl _,f,I1,rfl,d]
def tIf(t:TT)(ta tb:TE):TE:=fun J H Q=>t J H λc L=>if c=ah then ta J L Q else tb J L Q
def Ec{c:ab8}(f:PT X c tA)(W:PE X a ta)(V:PE X b tb):PE X (.IfExp c a b pos)^tIf tA ta tb:=by
 intro Y s J H Q I h;refine wpAny_IfExp (thn (f _ s J H _ I h) λd Z U=>?_);let(e,O,L):=U;cases d with
 |true=>exact W _ _ J _ Q O L|false=>exact V _ _ J _ Q O L
end
end L2
namespace L2
open PySem PySem.Spec PyProof.Rows
def SqL(K:Zm)(H:Hp)(a:az)(b:θ V):Prop :=
 Rd H a (.aj b) ∨
  ∃(o:aq) (J:Array aA) (n:Nat),K.lookup a=aa o/\o.cls=.type "list"/\o.dict=af/\o.data=.seq J n/\J.size<=ak/\dw b J.toList
def SqT(K:Zm)(H:Hp)(a:az)(b:θ V):Prop :=
 Rd H a (.aB b) ∨
  ∃(o:aq) (J:Array aA) (n:Nat),K.lookup a=aa o/\o.cls=.type "tuple"/\o.data=.seq J n/\J.size<=ak/\dw b J.toList
def Wq:aA->ψ V
 |.none=>aa .aC|.bool b=>aa^.bl b|.int i _=>aa^ω i|.str x _=>aa^.str x|.bytes b _=>aa^.byt b|.float b _=>aa^.flt b|.ref a=>aa^.ref a|.type n=>aa^.ty n|_=>af
def RelV.abs{x:V}{u:aA}(r:RelV x u):Wq u=aa x:=by
 cases x with
 |aC=>cases r;rfl|bl _=>cases r;rfl|ref _=>cases r;rfl|ty _=>cases r;rfl|_=>let(t,rfl):=r;rfl
def RelV.inj{x y:V}{u:aA}(r:RelV x u)(q:RelV y u):x=y:=Zv^r.abs.symm.trans q.abs
theorem dw.inj:∀{b a:θ V}{c:θ aA},dw b c->dw a c->b=a
 |_,_,_,.nil,.nil=>rfl
 |_,_,_,.cons r t,.cons e d=>by exact rwe (r.inj e)^rwe (dw.inj t d) rfl
section
variable{X:Cx}{zt:θ (az×aq)}{σ:St}{H:Hp}{s:Zo}{a:az}{xs ys:θ V}
def Inv.list(I:ξ H s)(h:SqL X.K H a xs):∃J:θ aA,dw xs J/\PlainL s.heap a J.toArray/\xs.length<=ak:=by
 rcases h with h|⟨o,J,n,c,f,d,b,g,r⟩
 exact nN (h.ok I.aI) λz J n r e=>(eH J r ((fh _ n e rfl rfl rfl)) z)
 ·refine(eH _ r ((fh o n (I.kIn a o c) f d^by simpa using b)) ?_);have e:=r.length;simp![Z5]at e;lia
def Inv.tuple(I:ξ H s)(h:SqT X.K H a xs):∃J:θ aA,dw xs J/\IsTup s.heap a J.toArray/\xs.length<=ak:=by
 rcases h with h|⟨o,J,n,c,d,b,f,r⟩
 exact jB (h.ok I.aI) λz J r p=>((eH J r p z))
 ·refine(eH _ r ((pS o (I.kIn a o c) d n^by simpa using b)) ?_);have e:=r.length;simp![Z5]at e;lia
def Inv.wB(I:ξ H s)(h:SqL X.K H a xs)(b:SqL X.K H a ys):xs=ys:=by
 let(V,r,(o,n,e,_,_,d),_):=I.list h;let(O,U,(W,Y,J,_,_,L),_):=I.list b;replace J:=e ▸ J;cases J;replace L:=d ▸ L
 injection L with c _
 have:=by simpa using bS Array.toList c
 subst this;exact r.inj U
def Inv.Ci(I:ξ H s)(h:SqT X.K H a xs)(b:SqT X.K H a ys):xs=ys:=by
 let(V,r,(o,e,_,n,d),_):=I.tuple h;let(O,U,(W,J,_,Y,L),_):=I.tuple b;replace J:=e ▸ J;cases J;replace L:=d ▸ L
 injection L with c _
 have:=by simpa using bS Array.toList c
 subst this;exact r.inj U
end
@[reducible]noncomputable def Cx.tG(X:Cx)(E:aA->Zo->Prop):Cx:={X with xe:=E}
@[reducible]noncomputable def Cx.nox(X:Cx):Cx:=X.tG λ_ _=>False
def Cx.Ok.tG{X:Cx}(a:X.Ok)(E:aA->Zo->Prop):(X.tG E).Ok :=
 #[a.mod,a.kind,a.glob,a.blt,a.above,a.inj,a.has,a.cab,a.hd,a.frames,a.stk,a.exf,a.bs,a.bsz,a.noex,a.exfs,a.jW,a.frf]
def Cx.Ok.lX{X:Cx}{E:aA->Zo->Prop}(a:(X.tG E).Ok):X.Ok :=
 #[a.mod,a.kind,a.glob,a.blt,a.above,a.inj,a.has,a.cab,a.hd,a.frames,a.stk,a.exf,a.bs,a.bsz,a.noex,a.exfs,a.jW,a.frf]
section
variable{X:Cx}{zt:θ (az×aq)}{σ:St}{H:Hp}{s:Zo}{E:aA->Zo->Prop}
def Inv.tG(I:ξ H s)(E:aA->Zo->Prop):Inv (X.tG E) zt σ H s:=#[I.ok.tG E,I.os,I.bare,I.base,I.loc,I.cell,I.free,I.freeC,I.pin,I.aI,I.len]
def Inv.lX(I:Inv (X.tG E) zt σ H s):ξ H s:=#[I.ok.lX,I.os,I.bare,I.base,I.loc,I.cell,I.free,I.freeC,I.pin,I.aI,I.len]
def SP.lX{D:Ends}{f:Flow}{a:Zo}(h:SP (X.tG E) zt D f a):SP X zt D f a:=by
 cases f with
 |ret u=>exact fV h λv J L I r q=>((ji v J L I.lX r q))
 |_=>exact fz h fun J L I q=>((eW J L I.lX q))
def PSs.nox{st:θ ade}{t:TS}(h:PSs X.nox st t):PSs X st t:=λL s J H D I hw =>
 aaa (h _ s J H D (I.tG _) hw) (λ_ _ q=>q.lX) λ_ _ z=>aat z
end
section
variable{X:Cx}{st:ade}{rest:θ ade}{t u:TS}{e:ab8}{te:TE}{pos:Pos}
def Rx:TS:=λD J H=>D.nx J H
def Ry(t u:TS):TS:=λD J H=>t {D with nx:=u D} J H
def IC:PSs X [] Rx:=λ_ _ J H _ I h=>acu^eW J H I h
def wC(b:PS X st t)(a:PSs X rest u):PSs X (st::rest)^Ry t u:=by
 intro U s L H D I h;refine abI (thn (b _ s L H _ I h) λf V q=>?_);cases f with
 |next =>
  exact fz q fun J W O q=>(a _ _ _ _ D O q)
 |_=>exact q
def mX(a:PS X st t):PSs X [st] t:=by
 intro L s J H D I h;refine abI (thn (a _ s J H D I h) λf O q=>?_);cases f with
 |next=>exact acu q|_=>exact q
def Wr:TS:=λD J H=>D.bk J H
def YM:TS:=λD J H=>D.ct J H
def Inv.quiet{a:θ (az×aq)}{σ:St}{H:Hp}{s:Zo}(I:Inv X a σ H s):interactive X.env=ai:=by simp[interactive,I.ok.kind]
def Rz(te:TE):TS:=λD J H=>te J H λ_ L=>D.nx J L
def ID(O:PE X e te)(L:acv e af pos.line X.env=pure ai:=by rfl):PS X (.Expr e pos)^Rz te:=λU s J H D I h=>wpAny_Expr_any (thn (O _ s J H _ I h) λv c ⟨x,b,I1,d,a⟩=>(eW J b I1 a)) I.quiet L
def Ws(te:TE):TS:=λD J H=>te J H D.rt
def yE(L:PE X e te):PS X (.Return (aa e) pos)^Ws te:=λO s J H D I h=>acT (thn (L _ s J H _ I h) λv d ⟨x,c,I1,a,b⟩=>(ji x J c I1 a b))
def Wu(c:TT)(t u:TS):TS:=λD J H=>c J H λb L=>if b=ah then t D J L else u D J L
def RB{c:ab8}{a b:θ ade}{f:TT}(g:PT X c f)(W:PSs X a t)(V:PSs X b u):PS X (.If c a b pos)^Wu f t u:=by
 intro Y s J H D I h;refine wpAny_If (thn (g _ s J H _ I h) λd Z U=>?_);let(e,O,L):=U;cases d with
 |true=>exact W _ _ J _ D O L|false=>exact V _ _ J _ D O L
end
@[reducible]noncomputable def TG:=V->St->Hp->(St->Hp->Prop)->Prop
@[reducible]noncomputable def TGs:=θ V->St->Hp->(St->Hp->Prop)->Prop
def PG(X:Cx)(target:ab8)(t:TG):Prop :=
 ∀(O:θ (az×aq)) (s:Zo) (L:St) (H:Hp) (v:V) (u:aA) (Q:St->Hp->Prop),Inv X O L H s->RelV v u->t v L H Q →
  av (π X.w) X.A (adH target X.env u) (λ_ W=>∃J U,Inv X O J U W/\Q J U) X.xe s
def PGs(X:Cx)(a:θ ab8)(t:TGs):Prop :=
 ∀(O:θ (az×aq)) (s:Zo) (L:St) (H:Hp) (U:θ V) (W:θ aA) (Q:St->Hp->Prop),Inv X O L H s->dw U W->t U L H Q →
  av (π X.w) X.A (assignInOrder ((abL a X.env).map (·.2)) W) (λ_ Z=>∃J Y,Inv X O J Y Z/\Q J Y) X.xe s
@[reducible]noncomputable def Nc:=V->V->V->Hp->(Hp->Prop)->Prop
def RC(X:Cx)(t:Nc):Prop :=
 ∀(L:θ (az×aq)) (s:Zo) (J:St) (H:Hp) (o i v:V) (O U u:aA) (Q:Hp->Prop),Inv X L J H s->RelV o O->RelV i U->RelV v u->t o i v H Q →
  av (π X.w) X.A (setItem O U u) (λ_ Y=>∃W,Inv X L J W Y/\Q W) X.xe s
@[reducible]noncomputable def TIp:=V->V->Hp->VK->Prop
def PIp(X:Cx)(O:acr)(t:TIp):Prop :=
 ∀(L:θ (az×aq)) (s:Zo) (J:St) (H:Hp) (x y:V) (v u:aA) (Q:VK),Inv X L J H s->RelV x v->RelV y u->t x y H Q →
  av (π X.w) X.A (inplaceOp O v u) (EP X L J Q) X.xe s
section
variable{X:Cx}{pos:Pos}
def Am(i:Nat):TG:=λv J H Q=>Q (J.set i^aa v) H
def An{i:Nat}{x:ay}(O:X.N.Nodup)(a:X.N[i]?=aa x)(J:Loc X.env.scope x)(L:X.fn x=ah\/X.env.scope.names.lookup x=aa .local:=by first|exact .inl rfl|exact .inr rfl|assumption):PG X (.Name x pos)^Am i:=λW s V H v u Q I r h=>wpAny_assign_Name^rj I O a J r (λY U=>(eW _ H U h)) L
def RE:TGs:=λL J H Q=>L=[]/\Q J H
def RG(t:TG)(u:TGs):TGs:=λO L H Q=>∃v r,O=v::r/\t v L H fun J U=>u r J U Q
def IE:PGs X [] RE:=by
 rintro a s σ H b c Q I r ⟨e,h⟩
 exact assignInOrder_nil^eW σ H I h
def Ed{e:ab8}{a:θ ab8}{t:TG}{u:TGs}(d:PG X e t)(c:PGs X a u)
(O:(abL (e::a) X.env).map (·.2)=adH e X.env::(abL a X.env).map (·.2):=by rfl):PGs X (e::a)^RG t u:=by
 intro U s J H V W Q I r h;refine fz h ?_;rintro v vr rfl h;cases r with
 |cons r L =>
  exact rwe O^assignInOrder_cons (thn (d _ s J H _ _ _ I r h) λ_ g ⟨f,i,I1,b⟩=>(c _ _ _ _ _ _ Q I1 L b))
def Wv(K:Zm)(n:Nat)(t:TGs):TG:=λv L H Q=>∃a J,v=.ref a/\SqT K H a J/\J.length=n/\t J L H Q
def Nf{d:θ ab8}{k:Nat}{t:TGs}{n:Nat}(i:X.calm=ah)(h:PGs X d t)
(hn:(abL d X.env).length=n:=by rfl)(J:(abL d X.env).findIdx? (·.1)=af:=by rfl):PG X (.Tuple d k pos)^Wv X.K n t:=by
 intro Y s O H v u Q I r hw;refine mV hw ?_;rintro a j rfl f g hw;cases r;refine dU (I.tuple f) λU L W Z=>?_;exact assign_Tuple_tuple (I.ok.hd i) W (by simp[hn,←g,L.length]) J λc V=>(h _ _ O H _ _ Q (I.aG λb o e=>V b o (ZS^Zy e) e) (by simpa using L) hw)
def RI(a L:TE)(t:Nc):TG:=λv J H Q=>a J H λo V=>L J V λi U=>t o i v U λO=>Q J O
def Ng{o i:ab8}{a L:TE}{t:Nc}(U:PE X o a)(g:PE X i L)(O:RC X t)
(V:∀ v,adH (.Subscript o i pos) X.env v=(do
  let m ←ac4 [v]^eval o X.env
  let M ←ac4 [v,m] (eval i X.env)
  aeP pos
  ac4 [v,m,M] (setItem m M v)
  release [v,m,M] []):=by intro _;rfl):PG X (.Subscript o i pos)^RI a L t:=by
 intro W s J H v u Q I r h;rw[V];exact Zn^Z9 (thn (U _ s J H _ I h) λm n ⟨x,p,I1,c,f⟩=>(Zn^Z9 (thn (g _ _ J _ _ I1 f) λM l ⟨y,H2,I2,b,e⟩=>(Zn^abw^Zn^Z9 (thn (O _ _ J _ x y v _ _ u _ I2 c b r e) λ_ k ⟨j,I3,d⟩=>(wpAny_release^eW J j I3 d))))))
def Ef(a:TE)(g:TG):TS:=λD J H=>a J H λx L=>g x J L D.nx
def Nh{a e:ab8}{b:TE}{g:TG}(U:PE X e b)(O:PG X a g)(L:swapsWithSole [a] e pos.line X.env=pure ai:=by rfl)(hw:swappedStores [a] e X.env=pure af:=by rfl)
(f:(abL [a] X.env).map (·.2)=[adH a X.env]:=by rfl):PS X (.Assign [a] e pos)^Ef b g:=by
 intro V s J H D I h;refine wpAny_Assign_stores (thn (U _ s J H _ I h) λv i ⟨x,j,I1,c,d⟩=>?_) L hw;exact rwe f (thn (O _ _ J _ x v _ I1 c d) λ_ W q=>q)
def Eg{i:Nat}{x:ay}{e:ab8}{c:TE}{b:Pos}(Y:X.N.Nodup)(g:X.N[i]?=aa x)(O:Loc X.env.scope x)(W:PE X e c)(U:acv e (aa^.Name x b) pos.line X.env=pure ai:=by rfl)(V:X.fn x=ah\/X.env.scope.names.lookup x=aa .local:=by first|exact .inl rfl|exact .inr rfl|assumption):
 PS X (.Assign [.Name x b] e pos)^Ef c^Am i:=by
 intro L s J H D I h;refine aem (thn (W L s J H _ I h) λv k ⟨y,j,I1,d,f⟩=>?_) U;exact rj I1 Y g O d (λa Z=>#[_,j,Z,f]) V
def RJ(i:Nat)(a:TE)(L:TIp):TS:=λD J H=>∃x,J[i]?=aa^aa x/\a J H λy U=>L x y U λz O=>D.nx (J.set i^aa z) O
def Ni{i:Nat}{x:ay}{e:ab8}{t:TE}{V:acr}{Y:TIp}{q:Pos}(j:X.N.Nodup)(B:X.N[i]?=aa x)(W:Loc X.env.scope x)(g:PE X e t)(a:PIp X V Y)(f:X.fn x=ah\/X.env.scope.names.lookup x=aa .local:=by first|exact .inl rfl|exact .inr rfl|assumption):
 PS X (.AugAssign (.Name x q) V e pos)^RJ i t Y:=by
 rintro C s σ H D I ⟨v,e1,h⟩
 refine cX I.loc λm hn d=>?_;have U:Vis X.env.scope x:=by rcases W with k|k;exact .inl k;exact .inr^.inl k
 refine cX (d i x v B e1 U) λu r l=>(wpAny_AugAssign_Name ?_);have Z:av (π X.w) X.A (eval e X.env) (λw O=>av (π X.w) X.A (inplaceOp V u w) (λr L=>av (π X.w) X.A (storeName X.env x r) (λ_=>SP X C D .next) X.xe L) X.xe O) X.xe s:=by exact thn (g _ s σ H _ I h) λw R ⟨y,S,I1,F,K⟩=>(thn (a _ _ σ _ v y u w _ I1 r F K) λz Q ⟨P,H2,I2,E,G⟩=>(rj I2 j B W E (λo n=>(eW _ H2 n G)) f))
 rcases l with⟨J,b⟩|⟨J,c,M,p⟩
 exact wpAny_loadName_local I.ok.kind J hn b Z
 ·rcases J with J|J
  exact wpAny_loadName_cell I.ok.kind J M p Z
  ·rcases W with k|k
   ·have:X.env.scope.names.lookup x=aa _:=J;rw[k]at this;cases this
   ·have:X.env.scope.names.lookup x=aa _:=J;rw[k]at this;cases this
end
section
variable{X:Cx}{pos:Pos}
def Eh(c:TT)(a:TS):TS:=λD J H=>∃W:Nat->St->Hp->Prop,(∃m,W m J H)/\∀m J H,W m J H →
 c J H λb U=>if b=ah then ∃N:St->Hp->Prop,(∀L V,N L V->∃O,O<m/\W O L V)/\a {D with nx:=N,ct:=N,bk:=D.nx} J U else D.nx J U
def Ei{c:ab8}{J:θ ade}{r:TT}{t:TS}(u:aeb (π X.w) X.A X.env X.xe)(z:PT X c r)(m:PSs X J t):PS X (.While c J [] pos)^Eh r t:=by
 rintro B s σ H D I ⟨W,⟨E,y⟩,turn⟩
 refine wpAny_While^codeAny_whileLoop (λn l=>∃O j,Inv X _ O j l/\W n O j) ?_ _^eW σ H I y
 rintro n C ⟨v,F,I1,x⟩
 refine abo u (thn (z _ _ _ _ _ I1^turn n _ _ x) λb q k=>?_);let(o,i,U):=k;cases b with
 |true =>
  refine cX U λN h U=>(abo u (thn (m _ _ _ _ _ i U) λf p Y=>?_));cases f with
  |next =>
   let(L,g,e,Z):=Y;let(a,d,V):=h _ _ Z;exact#[a,d,L,g,e,V]
  |cont =>
   let(L,g,e,Z):=Y;let(a,d,V):=h _ _ Z;exact#[a,d,L,g,e,V]
  |_=>exact Y
 |false =>
  exact acu^eW v o i U
end
structure It where
 go:Nat->Hp->Prop
 yld:Nat->Hp->V->Hp->Prop
 stop:Nat->Hp->Prop
def rA(X:Cx)(a:θ (az×aq))(H:Hp)(b:az):Prop :=
 H b=af/\b≠X.env.locals/\b∉X.fs/\(b∈X.ex\/X.s₀.heap.objs.size<=b)/\(∀x c,X.env.cells.lookup x=aa c->c≠b)/\∀p∈X.pn++a,p.1≠b
def Inv.IF{X:Cx}{a:θ (az×aq)}{σ:St}{H d:Hp}{s:Zo}{b:az}(I:Inv X a σ H s)(J:s.heap.objs.size<=b)(hn:d b=af):rA X a d b:=by
 refine#[hn,abj^ZU I.lt J,I.Wo J,.inr^ZT I.sz J,λx c e z=>?_,λp L z=>(bM (ZU (Zy (I.pin p L).1)^by exact rwe z J)^aas _)]
 ·refine uxE (I.cell x c e) λv q=>?_;exact bM (ZU q.lt^by exact rwe z J)^aas _
structure Turn(P:ZE)(w:ZW)(K:Zm)(tg:ab8)(J:It)(fp:θ az)(it:az)(tn:Nat->au->Prop):Prop where
 mem:it∈fp
 obj:∀i h,tn i h->∀b∈fp,∃o,h.get? b=aa o/\∀v,o.data≠.cell v
 keep:∀i h h',tn i h->(∀b∈fp,∀o,h.get? b=aa o->h'.get? b=aa o)->tn i h'
 item:∀(X:Cx),X.prog=P->X.w=w->X.K=K->X.calm=ah->∀(i:Nat)(zt:θ (az×aq)) (s:Zo) (σ:St) (H:Hp) (E:aA->Zo->Prop),ξ H s->(∀b∈fp,rA X zt H b)->tn i s.heap->J.go i H →
  av (ZI P w) X.A (aeQ^.ref it) (λr s1=>∃ u,r=aa u ∧
   av (ZI P w) X.A (abP tg (.ref it) u) (λ_ s2=>∃ x H',ξ H' s2/\RelV x u/\J.yld i H x H'/\tn (i+1) s2.heap/\∀ b∈fp,H' b=af) E s1) E s
 done:∀(X:Cx),X.prog=P->X.w=w->X.K=K->X.calm=ah->∀(i:Nat)(zt:θ (az×aq)) (s:Zo) (σ:St) (H:Hp) (E:aA->Zo->Prop),ξ H s->(∀b∈fp,rA X zt H b)->tn i s.heap->J.stop i H →
  av (ZI P w) X.A (aeQ^.ref it) (λr s1=>r=af/\Inv X zt σ H s1) E s
 self:∀(A:Z7)(i:Nat)(s:Zo)(Q:aA->Zo->Prop) (E:aA->Zo->Prop),tn i s.heap->Q (.ref it) s->av (ZI P w) A (pyIter^.ref it) Q E s
@[reducible]noncomputable def TI:=St->Hp->(It->Hp->Prop)->Prop
def PIE(X:Cx)(a:θ (az×aq))(σ:St)(d:ab8)(R:It->Hp->Prop)(L:aA)(c:Zo):Prop :=
 ∃(V:az) (W:θ az) (U:Nat->au->Prop) (J:It) (O:Hp),L=.ref V/\Inv X a σ O c/\Turn X.prog X.w X.K d J W V U/\U 0 c.heap/\(∀b∈W,rA X a O b)/\R J O
def PI(X:Cx)(a iter:ab8)(O:TI):Prop :=
 ∀(L:θ (az×aq)) (s:Zo) (J:St) (H:Hp) (R:It->Hp->Prop),Inv X L J H s->O J H R →
  av (π X.w) X.A (eval iter X.env) (λv U=>av (π X.w) X.A (pyIter v) (PIE X L J a R) X.xe U) X.xe s
def Ao{M:Model}{A:Z7}{E:aA->Zo->Prop}{s:Zo}{b:ab8}{L:az}{u:aA}{o:aq}{n:String}{a:Array aA}{Q:Unit->Zo->Prop}(O:s.heap.get? L=aa o)(c:o.cls=.type n)(U:o.data=.fields a)
(hn:["enumerate","zip","dict_itemiterator","dict_reverseitemiterator","odict_iterator","itertools.zip_longest","itertools.pairwise"].contains n=ai)(J:Q Unit.unit s):av M A (abP b (.ref L) u) Q E s:=by
 unfold abP;cases b<;>first
  |exact Zq J
  | (cases u<;>first
   |exact Zq J
   | (refine Zn (wpAny_load O ?_)
      rw[c,U];show av M A (if (["enumerate","zip","dict_itemiterator","dict_reverseitemiterator","odict_iterator","itertools.zip_longest","itertools.pairwise"].contains n&&a[0]?==aa^adG _)=ah then _ else _) Q E s;rw[bL^by intro h;rw[hn,Bool.false_and] at h;cases h];exact Zq J))
def Itl(K:Zm)(a:az):It :=
 #[λi H=>∃J x,SqL K H a J/\J[i]?=aa x,λi H x L=>L=H/\∀J,SqL K H a J->J[i]?=aa x,λi H=>∃J,SqL K H a J/\J.length<=i]
def Itt(K:Zm)(a:az):It :=
 #[λi H=>∃J x,SqT K H a J/\J[i]?=aa x,λi H x L=>L=H/\∀J,SqT K H a J->J[i]?=aa x,λi H=>∃J,SqT K H a J/\J.length<=i]
def Itr(lo:Int)(n:Nat):It:=#[λi _=>i<n,λi H x J=>J=H/\x=ω (lo+i),λi _=>n<=i]
theorem Cj{P:ZE}{w:ZW}{K:Zm}{tg:ab8}(a J:az):Turn P w K tg (Itl K a) [J] J (λi h=>h.IsListIter J a i) where
 mem:=by simp
 obj:=λi h st b L=>by
  have e:b=J:=by simpa using L
  subst e;let(o,e,c,d):=st;exact#[o,e,λv z=>by rw[d]at z;cases z]
 keep:=λi h W st k=>st.at λo e=>k J (by simp) o e
 item:=by intro X j hw l hc i A s y H E I V st g;subst j hw l;let(B,x,U,f):=g;let(Z,Y,p,F):=I.list U;let(u,M,D):=Y.get f;let(t,r,N,q,n,m):=V J (by simp);refine wpAny_pyNext_list_item st p.isList (x:=u) (by simpa using M) λW O C=>?_;have R:Inv X A y H {s with heap:=W}:=I.turned (t':=s.toks) (λb o L e=>(C.2 b L).trans e) t r q n m;let(o,e,c,d):=id O;exact#[u,rfl,Ao (s:={s with heap:=W}) e c d ∅ #[x,H,R,D,#[rfl,λS G=>by rw[I.wB G U];exact f],O,λb L=>(V b L).1]]
 done:=by intro X j hw l hc i A s y H E I V st g;subst j hw l;let(B,U,f):=g;let(Z,Y,p,F):=I.list U;let(t,r,N,q,n,m):=V J (by simp);have T:=Y.length;exact wpAny_pyNext_list_end (I.ok.hd hc) st p.isList (by simp;lia) λW Q=>#[rfl,I.turned (t':=s.toks) (λb o L e=>Q b o L e) t r q n m]
 self:=λ_ _ _ _ _ st h=>wpAny_pyIter_listiter st h
theorem yF{P:ZE}{w:ZW}{K:Zm}{tg:ab8}(a L:az):Turn P w K tg (Itt K a) [L] L (λi h=>h.IsTupleIter L a i) where
 mem:=by simp
 obj:=λi h st b O=>by
  have e:b=L:=by simpa using O
  subst e;let(o,e,c,d):=st;exact#[o,e,λv z=>by rw[d]at z;cases z]
 keep:=λi h Y st k=>st.at λo e=>k L (by simp) o e
 item:=by intro X j hw l hc i A s y H E I W st g;subst j hw l;let(B,x,V,f):=g;let(J,Z,p,F):=I.tuple V;let(u,M,D):=Z.get f;let(t,r,N,q,n,m):=W L (by simp);refine wpAny_pyNext_tuple_item st (show s.heap.IsTuple a J.toArray from p) (x:=u) (by simpa using M) λY U C=>?_;have R:Inv X A y H {s with heap:=Y}:=I.turned (t':=s.toks) (λb o O e=>(C.2 b O).trans e) t r q n m;let(o,e,c,d):=id U;exact#[u,rfl,Ao (s:={s with heap:=Y}) e c d ∅ #[x,H,R,D,#[rfl,λS G=>by rw[I.Ci G V];exact f],U,λb O=>(W b O).1]]
 done:=by intro X j hw l hc i A s y H E I W st g;subst j hw l;let(B,V,f):=g;let(J,Z,p,F):=I.tuple V;let(t,r,N,q,n,m):=W L (by simp);have T:=Z.length;exact wpAny_pyNext_tuple_end (I.ok.hd hc) st (show s.heap.IsTuple a J.toArray from p) (by simp;lia) λY Q=>#[rfl,I.turned (t':=s.toks) (λb o O e=>Q b o O e) t r q n m]
 self:=λ_ _ _ _ _ st h=>wpAny_pyIter_tupleiter st h
theorem yG{P:ZE}{w:ZW}{K:Zm}{tg:ab8}(J:az)(lo:Int)(n:Nat):Turn P w K tg (Itr lo n) [J] J (λi h=>IsRangeIter h J (lo+(i:Nat)*1) ((n:Int)-(i:Nat)) 1) where
 mem:=by simp
 obj:=λi h st b L=>by
  have e:b=J:=by simpa using L
  subst e;exact#[_,st,λv z=>by have q:Data.fields _=Data.cell v:=z;cases q]
 keep:=λi h V st k=>k J (by simp) _ st
 item:=by intro X Z hw a hc i m s l H E I U st Y;subst Z hw a;let(j,g,x,f,d,c):=U J (by simp);have W:=Walks.range (prog:=X.prog) (w:=X.w) (I.ok.hd hc) J lo 1 n;refine W.item i s _ _ Y st λv V p u O r=>?_;let(t,rfl):=u;have A:Inv X m l H {s with heap:=V,toks:=p}:=I.turned (λb o L e=>r b o (by simpa using L) e) j g f d c;refine#[_,rfl,Ao (s:={s with heap:=V,toks:=p}) (n:="range_iterator") O rfl rfl ∅ #[ω (lo+i),H,A,#[t,?_],#[rfl,rfl],O,λb L=>(U b L).1]];rw[Int.mul_one]
 done:=by intro X Z hw a hc i m s l H E I U st Y;subst Z hw a;let(j,g,x,f,d,c):=U J (by simp);exact wpAny_pyNext_range_end (I.ok.hd hc) st (by have:n<=i:=Y;lia) λV y=>#[rfl,I.turned (t':=s.toks) (λb o L e=>y b o L e) j g f d c]
 self:=λ_ _ _ _ _ st h=>wpAny_pyIter_rangeiter st h
end L2
namespace L2
open PySem PySem.Spec PyProof.Rows
section
variable{X:Cx}{tg:ab8}
def RK(K:Zm)(tl:TE):TI:=fun L H R=>tl L H λx J=>∃a,x=.ref a/\(∃O,SqL K J a O)/\R (Itl K a) J
def Ww(K:Zm)(tl:TE):TI:=fun L H R=>tl L H λx J=>∃a,x=.ref a/\(∃O,SqT K J a O)/\R (Itt K a) J
def Aq{l:ab8}{tl:TE}(O:PE X l tl):PI X tg l^RK X.K tl:=by
 intro V s J H R I h;refine thn (O _ s J H _ I h) λv j ⟨x,g,I1,c,d⟩=>(dU d ?_);rintro a rfl ⟨i,f⟩ q;cases c;refine dU (I1.list f) λL W p Y=>(wpAny_pyIter_list p.isList^(jj _ _ _ _ g rfl (I1.aG λb o e=>Zr _ e) (Cj a _) ((eH _ (ZH _ rfl) rfl rfl)) (λb U=>?_) q));have e:=by simpa using U
 subst e;exact I1.IF (Zw _)^I1.aI.fresh^Zw _
def Nj{l:ab8}{tl:TE}(O:PE X l tl):PI X tg l^Ww X.K tl:=by
 intro V s J H R I h;refine thn (O _ s J H _ I h) λv j ⟨x,g,I1,c,d⟩=>(dU d ?_);rintro a rfl ⟨i,f⟩ q;cases c;refine dU (I1.tuple f) λL W p Y=>(wpAny_pyIter_tuple (p)^(jj _ _ _ _ g rfl (I1.aG λb o e=>Zr _ e) (yF a _) ((eH _ (ZH _ rfl) rfl rfl)) (λb U=>?_) q));have e:=by simpa using U
 subst e;exact I1.IF (Zw _)^I1.aI.fresh^Zw _
def wD{d:θ (az×aq)}{σ:St}{H:Hp}{s:Zo}{R:It->Hp->Prop}{E:aA->Zo->Prop}{lo a:Int}{t u v:Tok}{f:Nat}(I:Inv X d σ H s)(h:-(2^62)<=lo)(g:lo<2^62)(U:-(2^62)<=a)(O:a<2^62)
(q:R (Itr lo (a-lo).toNat) H):av (π X.w) X.A (pyIter^.ref s.heap.objs.size) (PIE X d σ tg R) E {s with heap:=s.heap.push {cls:=.type "range",data:=.fields #v[.int lo t,.int a u,.int 1 v]},toks:=f}:=by
 refine wpAny_pyIter_range (IsRange.new ..) (small_one h g U O) ?_;have J:Inv X d σ H { s with heap:=s.heap.push { cls:=.type "range",data:=.fields #v[.int lo t,.int a u,.int 1 v] },toks:=f }:=I.aG λb o e=>Zr _ e;refine #[(s.heap.push { cls:=.type "range",data:=.fields #v[ω lo t,ω a u,ω 1 v] }).objs.size,[(s.heap.push { cls:=.type "range",data:=.fields #v[ω lo t,ω a u,ω 1 v] }).objs.size],_,_,H,rfl,
  J.aG (t':=f) λb o e=>Zr _ e,yG _ lo (a - lo).toNat,?_,λb L=>?_,q]
 ·have e1:lo+((0:Nat):Int)*1=lo:=by simp
  have e2:(((a-lo).toNat:Nat):Int)-((0:Nat):Int)=Builtin.Range.rangeSize lo a 1:=by rw[rangeSize_one];split<;>lia
  show IsRangeIter _ _ (lo+((0:Nat):Int)*1) ((((a-lo).toNat:Nat):Int)-((0:Nat):Int)) 1;rw[e1,e2];exact ZH _ rfl
 ·have e:b=(s.heap.push {cls:=.type "range",data:=.fields #v[ω lo t,ω a u,ω 1 v]}).objs.size:=by simpa using L
  subst e;exact J.IF (Zw _)^J.aI.fresh^Zw _
def RL(a:TA):TI:=fun J H R=>a J H λL O=>∃j:Int,L=[ω j]/\-(2^62)<=j/\j<2^62/\R (Itr 0 j.toNat) O
def RM(a:TA):TI:=fun J H R=>a J H λL O=>∃i j:Int,L=[ω i,ω j]/\(-(2^62)<=i/\i<2^62/\-(2^62)<=j/\j<2^62)/\R (Itr i (j-i).toNat) O
def Ck{a:ab8}{d:TA}{p c:Pos}(V:Gl X "range")(U:X.mg "range"=af)(W:PA X [a] d)(O:Z4 [a] X.env=[(ai,eval a X.env)]:=by rfl):PI X tg (.Call (.Name "range" p) [a] [] c)^RL d:=by
 intro Y s J H R I h;refine Call_^jC I V U boot_range^aaf (thn (W _ _ s J H _ I h) λi k ⟨g,l,I1,e,b⟩=>(D4 b ?_)) O rfl;rintro j rfl b f q;cases e with
 |cons r L =>
  cases L;let(t,rfl):=r;exact call_range_1 (wD I1 () () b f^by simpa using q)
def Co{a b:ab8}{g:TA}{p f:Pos}(Y:Gl X "range")(W:X.mg "range"=af)(Z:PA X [a,b] g)(V:Z4 [a,b] X.env=[(ai,eval a X.env),(ai,eval b X.env)]:=by rfl)(J:Z4 [b] X.env=[(ai,eval b X.env)]:=by rfl):
 PI X tg (.Call (.Name "range" p) [a,b] [] f)^RM g:=by
 intro c s O H R I h;refine Call_^jC I Y W boot_range (aaf (thn (Z _ _ s O H _ I h) λu v ⟨o,w,I1,k,e⟩=>?_) (by exact rwe V^rwe J rfl)^by refine rwe J ?_;rfl);refine gK e ?_;rintro i j rfl ⟨e,n,m,l⟩ q;cases k with
 |cons r L =>
  cases L with
  |cons U L =>
   cases L;let(t,rfl):=r;let(d,rfl):=U;exact call_range_2^wD I1 e n m l q
def Nk(Z:TI)(g:TG)(c:TS):TS:=λD L H=>Z L H λJ b=>∃W:Nat->Nat->St->Hp->Prop,(∃m,W 0 m L b)/\∀i m L H,W i m L H →
 (J.stop i H/\D.nx L H)\/(J.go i H/\∃N:St->Hp->Prop,(∀O U,N O U->∃Y,Y<m/\W (i+1) Y O U)/\∀x U,J.yld i H x U->g x L U fun V a=>c {D with nx:=N,ct:=N,bk:=D.nx} V a)
def nO(a:θ az)(h:au):θ (az×aq):=a.filterMap λb=>(h.get? b).map λo=>(b,o)
def iN{a:θ az}{h:au}{b:az}{o:aq}(J:b∈a)(e:h.get? b=aa o):(b,o)∈nO a h:=List.mem_filterMap.mpr (cY b J^by refine rwe e ?_;rfl)
def Cq{a:θ az}{h:au}{p:az×aq}(c:p∈nO a h):p.1∈a/\h.get? p.1=aa p.2:=by
 refine cX (List.mem_filterMap.mp c) λb J e=>?_;cases q:h.get? b with
 |none=>replace e:=q ▸ e;cases e
 |some o =>
  replace e:=q ▸ e;have L:=Zv e;subst L;exact#[J,q]
def Inv.pinned{a:θ (az×aq)}{σ:St}{H:Hp}{s:Zo}{c:θ az}(I:Inv X a σ H s)(V:∀b∈c,rA X a H b)(U:∀b∈c,∃o,s.heap.get? b=aa o/\∀v,o.data≠.cell v):Inv X (a++nO c s.heap) σ H s :=
 I.mW λp O=>(List.mem_append.mp O).elim (λz=>I.pin p^Z1 _ z) λz=>by refine uxA (Cq z) λL e=>?_;refine oq (V _ L) λZ Y W _=>(cX (U _ L) λo J d=>?_);replace J:=e ▸ J;cases J;exact(pR e Z Y W d)
def Inv.oE{a b:θ (az×aq)}{σ:St}{H:Hp}{s:Zo}(I:Inv X (a++b) σ H s):Inv X a σ H s:=I.mW λp J=>I.pin p^Z1 _^abm _ J
def Ej{iter:ab8}{a:θ ade}{F:TI}{g:TG}{tb:TS}{pos:Pos}(hp:aeb (π X.w) X.A X.env X.xe)(hc:X.calm=ah)(hi:PI X tg iter F)(hg:PG X tg g)(V:PSs X a tb)
(hs:∀x,aeo iter X.env x=pure x:=by intro _;rfl):PS X (.For tg iter a [] pos)^Nk F g tb:=by
 intro l s E H D I h;refine wpAny_For (thn (hi l s E H _ I h) λv s1 h1=>thn h1 λitv s2 h2=>?_) hs;let(it,q,G,J,H2,rfl,I2,T,t,M,W,(m0,S),turn):=h2;have U:∀{Y:Hp},(∀b∈q,Y b=af)->∀b∈q,rA X l Y b:=λhn b V=>#[hn b V,(M b V).2];refine codeAny_forLoop_any (λn K=>∃i O Y,Inv X l O Y K/\G i K.heap/\(∀b∈q,Y b=af)/\W i n O Y) ?_ m0^ig 0 E H2 I2 t (λb V=>(M b V).1) S
 rintro n s3 ⟨i,σ3,H3,I3,st3,fr3,w3⟩
 rcases turn i n σ3 H3 w3 with⟨stop,qn⟩|⟨go,N,hN,step⟩
 ·refine abo hp (thn (T.done X rfl rfl rfl hc i l s3 σ3 H3 X.xe I3 (U fr3) st3 stop) λr s4 p=>?_);let(z,I4):=p;subst z;exact acu^eW σ3 H3 I4 qn
 ·refine abo hp (thn (T.item X rfl rfl rfl hc i _ _ _ _ _ I3 (U fr3) st3 go) λr s4 p=>?_);let(u,z,h4):=p;subst z;refine abo hp (thn h4 λ_ s5 p=>?_);let(x,H5,I5,r5,P,c,B):=p;have C:=I5.pinned (U B)^T.obj _ _ c;refine abo hp (thn (hg _ _ _ _ x u _ C r5^step x _ P) λ_ s6 ⟨σ6,H6,I6,q6⟩=>(abo hp (thn (V _ _ _ _ _ I6 q6) λf s7 j=>?_)));have again:∀{L:St}{k:Hp},Inv X (l++nO _ _) _ _ s7->N _ _->∃m,m<n/\∃i O Y,Inv X _ O Y _/\G i _/\(∀b∈q,Y b=af)/\W i m O Y:=λ{L k} Z y=>by refine cX (hN _ _ y) λm' hm R=>(#[m',hm,_,L,k,Z.oE,T.keep _ _ _ c λb V o e=>(Z.pin _^Z1 _^Z1 _^iN V e).1,λb V=>?_,R]);exact cX (T.obj _ _ c b V) λo e d=>((Z.pin _^Z1 _^Z1 _^iN V e).2.1)
  cases f with
  |brk=>exact fz j fun L k Z j=>((eW L k Z.oE j))
  |ret v=>exact fV j λQ L k Z r7 j=>((ji Q L k Z.oE r7 j))
  |_=>exact fz j fun L k Z y=>(again Z y)
end
end L2
namespace L2
open PySem PySem.Spec PyProof.Rows
@[reducible]noncomputable def R2:=V->V->Hp->VK->Prop
def OpR(X:Cx)(f:aA->aA->Sem aA)(r:R2):Prop :=
 ∀(L:θ (az×aq)) (s:Zo) (J:St) (H:Hp) (x y:V) (v u:aA) (Q:VK),Inv X L J H s->RelV x v->RelV y u->r x y H Q →
  av (π X.w) X.A (f v u) (EP X L J Q) X.xe s
def UnR(X:Cx)(f:aA->Sem aA)(r:V->Hp->VK->Prop):Prop :=
 ∀(L:θ (az×aq)) (s:Zo) (J:St) (H:Hp) (x:V) (v:aA) (Q:VK),Inv X L J H s->RelV x v->r x H Q →
  av (π X.w) X.A (f v) (EP X L J Q) X.xe s
def f7(X:Cx)(f:aA)(r:θ V->Hp->VK->Prop):Prop :=
 ∀(L:θ (az×aq)) (s:Zo) (J:St) (H:Hp) (O:θ V) (U:θ aA) (Q:VK),Inv X L J H s->dw O U->r O H Q →
  av (π X.w) X.A (call f U) (EP X L J Q) X.xe s
def tOp(r:R2)(b a:TE):TE:=fun J H Q=>b J H λx O=>a J O λy L=>r x y L Q
def tUn(r:V->Hp->VK->Prop)(a:TE):TE:=fun J H Q=>a J H λx L=>r x L Q
def rI(C:Int->Int->Prop)(g:Int->Int->V):R2:=λx y H Q=>∃i j,x=ω i/\y=ω j/\C i j/\Q (g i j) H
def rI0(g:Int->Int->V):R2:=λx y H Q=>∃i j,x=ω i/\y=ω j/\Q (g i j) H
def rU(g:Int->V):V->Hp->VK->Prop:=λx H Q=>∃i,x=ω i/\Q (g i) H
section
variable{X:Cx}{a b c:ab8}{ta tb tc:TE}{pos:Pos}
def Nl(W:PE X a ta)(U:PE X b tb){e:θ (az×aq)}{s:Zo}{σ:St}{H:Hp}{R:V->V->Hp->Prop}(I:Inv X e σ H s)
(h:ta σ H λx g=>tb σ g λy H2=>R x y H2){Q:aA->Zo->Prop}{f:aA->aA->Sem aA}
(O:∀v u d x y H2,Inv X e σ H2 d->RelV x v->RelV y u->R x y H2->av (π X.w) X.A (f v u) Q X.xe d):
 av (π X.w) X.A (eval a X.env) (λv L=>av (π X.w) X.A (eval b X.env) (λu J=>av (π X.w) X.A (f v u) Q X.xe J) X.xe L) X.xe s:=by
 exact thn (W _ s σ H _ I h) λv m ⟨x,g,I1,j,l⟩=>(thn (U _ _ σ _ _ I1 l) λu d ⟨y,H2,I2,i,k⟩=>(O v u _ x y _ I2 j i k))
def RN{J:acr}{r:R2}(V:OpR X (aa1 J) r)(Y:PE X a ta)(W:PE X b tb):PE X (.BinOp a J b pos)^tOp r ta tb:=λc s L H Q I h=>aeN (Nl Y W I h λv u d x y e Z U O q=>V _ _ L _ x y v u Q Z U O q)
def Mp{L:UnaryOp}{r:V->Hp->VK->Prop}(O:UnR X (unaryOp L) r)(U:PE X a ta):PE X (.UnaryOp L a pos)^tUn r ta:=λW s J H Q I h=>UnaryOp_ (thn (U _ s J H _ I h) λv f ⟨x,g,I1,d,e⟩=>O _ _ J _ x v Q I1 d e)
def opI{f:aA->aA->Sem aA}{C:Int->Int->Prop}{g:Int->Int->Int}
(rule:∀(i j:Int)(t u:Tok)(s:Zo)(Q:aA->Zo->Prop) (E:aA->Zo->Prop),C i j->Q (ω (g i j) s.toks) {s with toks:=s.toks+1}->av (π X.w) X.A (f (ω i t)^ω j u) Q E s):
 OpR X f (rI C λi j=>ω^g i j):=by
 rintro l s σ H x y v u Q I h e ⟨i,j,rfl,rfl,k,q⟩
 let(t,rfl):=h;let(J,rfl):=e;exact rule i j t _ s _ _ k #[ω _,H,I.tok _,#[_,rfl],q]
def RO{f:aA->aA->Sem aA}{g:Int->Int->Int}
(rule:∀(i j:Int)(t u:Tok)(s:Zo)(Q:aA->Zo->Prop) (E:aA->Zo->Prop),Q (ω (g i j) s.toks) {s with toks:=s.toks+1}->av (π X.w) X.A (f (ω i t)^ω j u) Q E s):
 OpR X f (rI0 λi j=>ω^g i j):=by
 rintro k s σ H x y v u Q I h e ⟨i,j,rfl,rfl,q⟩
 let(t,rfl):=h;let(J,rfl):=e;exact rule i j t _ s _ _ #[ω _,H,I.tok _,#[_,rfl],q]
def IG{f:aA->aA->Sem aA}{g:Int->Int->Bool}
(rule:∀(i j:Int)(t u:Tok)(s:Zo)(Q:aA->Zo->Prop) (E:aA->Zo->Prop),Q (.bool^g i j) s->av (π X.w) X.A (f (ω i t)^ω j u) Q E s):
 OpR X f (rI0 λi j=>.bl^g i j):=by
 rintro h s σ H x y v u Q I e d ⟨i,j,rfl,rfl,q⟩
 let(t,rfl):=e;let(J,rfl):=d;exact rule i j t _ s _ _ #[.bl _,H,I,rfl,q]
def Wx(i j:Int):Prop:=0<j/\j<1073741824
def II(i j:Int):Prop:=(-(2^64)<i/\i<2^64)\/(-(2^64)<j/\j<2^64)
def II.ok{i j:Int}(h:II i j):IntMulOk i j:=by
 rcases h with⟨L,J⟩|⟨L,J⟩
 exact .of_left^intBits_le_64 L J;exact .of_right^intBits_le_64 L J
def Nn:OpR X (aa1 .Add) (rI0 λi j=>ω (i+j)):=RO λ_ _ _ _ _ _ _ q=>add_int q
def Np:OpR X (aa1 .Sub) (rI0 λi j=>ω (i-j)):=RO λ_ _ _ _ _ _ _ q=>sub_int q
def Nq:OpR X (aa1 .Mult) (rI II λi j=>ω (i*j)):=opI λ_ _ _ _ _ _ _ d q=>mul_int q d.ok
def IJ:OpR X (aa1 .FloorDiv) (rI Wx λi j=>ω (i/j)):=opI λi j _ _ _ _ _ d q=>by have L:(0:Int)<j:=d.1;have J:j<1073741824:=d.2;exact floordiv_int () (by rw[Int.fdiv_eq_ediv_of_nonneg i ()];exact q)^.inl (PyProof.noPylong_small ())
def Nr:OpR X (aa1 .Mod) (rI (λ_ j=>0<j) λi j=>ω (i%j)):=opI λi j _ _ _ _ _ d q=>by have J:(0:Int)<j:=d;exact mod_int' () (by rw[Int.fmod_eq_emod_of_nonneg i ()];exact q)
def unI{f:aA->Sem aA}{g:Int->Int}
(rule:∀(i:Int)(t:Tok)(s:Zo)(Q:aA->Zo->Prop) (E:aA->Zo->Prop),Q (ω (g i) s.toks) {s with toks:=s.toks+1}->av (π X.w) X.A (f^ω i t) Q E s):
 UnR X f (rU λi=>ω^g i):=by
 rintro h s σ H x v Q I e ⟨i,rfl,q⟩
 let(t,rfl):=e;exact rule i t s _ _ #[ω _,H,I.tok _,#[_,rfl],q]
def Ek:UnR X (unaryOp .USub) (rU λi=>ω (-i)):=unI λ_ _ _ _ _ q=>neg_int q
end
section
variable{X:Cx}{a b c:ab8}{ta tb tc:TE}{pos:Pos}
def El{d:θ (az×aq)}{σ:St}{H:Hp}{s:Zo}{Q:VK}{k J:Bool}(I:Inv X d σ H s)(q:Q (.bl k) H)(e:k=J):EP X d σ Q (.bool J) s:=by subst e;exact#[.bl k,H,I,rfl,q]
def RP:OpR X (aaw .Lt) (rI0 λi j=>.bl (decide (i<j))):=IG λ_ _ _ _ _ _ _ q=>lt_int q
def RQ:OpR X (aaw .LtE) (rI0 λi j=>.bl (decide (i<=j))):=IG λ_ _ _ _ _ _ _ q=>le_int q
def RT:OpR X (aaw .Gt) (rI0 λi j=>.bl (decide (j<i))):=IG λ_ _ _ _ _ _ _ q=>gt_int q
def RU:OpR X (aaw .GtE) (rI0 λi j=>.bl (decide (j<=i))):=IG λ_ _ _ _ _ _ _ q=>ge_int q
def Nt:OpR X (aaw .Is) (λx y H Q=>y=.aC/\Q (.bl (decide (x=.aC))) H):=by
 intro U s O H x y v u Q I J L h;let(rfl,q):=h;cases L;refine is_none_gen^El I q ?_;cases x<;>first
  |(cases J;rfl)
  |(let(t,rfl):=J;rfl)
def IK:OpR X (aaw .IsNot) (λx y H Q=>y=.aC/\Q (.bl (!decide (x=.aC))) H):=by
 rintro f s σ H x y v u Q I e d ⟨rfl,q⟩
 cases d;refine isnot_none_gen^El I q ?_;cases x<;>first
  |(rfl)
  |(let(t,rfl):=e;rfl)
def IL{J:CmpOp}{r:R2}(Y:OpR X (aaw J) r)(d:PE X a ta)(c:PE X b tb)(Z:ad6 J b=ai):PE X (.Compare a [J] [b] pos)^tOp r ta tb:=by intro O s L H Q I h;exact wpAny_Compare1 (Nl d c I h λv u U x y f e W V q=>Y O U L f x y v u Q e W V q) Z
def Em(t:TE):TT:=fun J H Q=>t J H λx L=>∃k,x=.bl k/\Q k L
def IM{L:CmpOp}{r:R2}(O:OpR X (aaw L) r)(W:PE X a ta)(V:PE X b tb)(U:ad6 L b=ai):PT X (.Compare a [L] [b] pos)^Em^tOp r ta tb:=by
 intro Y s J H Q I h;refine wpAny_isTrue_Compare1 (thn (W _ s J H _ I h) λv p ⟨x,q,I1,g,l⟩=>thn (V _ _ J _ _ I1 l) λu o ⟨y,H2,I2,f,j⟩ =>
  thn (O _ _ J _ x y v u _ I2 g f j) λc n ⟨z,m,I3,d,k,e,i⟩=>?_) U
 subst e;cases d;exact aaP #[m,I3,i]
def yH(r U:R2)(ta tb tc:TE):TE:=fun J H Q=>ta J H λx Y=>tb J Y λy W=>r x y W λz L=>∃k,z=.bl k ∧
 (if k=ah then tc J L λO V=>U y O V Q else Q (.bl ai) L)
def En{O J:CmpOp}{r V:R2}(W:OpR X (aaw O) r)(U:OpR X (aaw J) V)(f:PE X a ta)(Z:PE X b tb)(t:PE X c tc)
(Y:lastMarks [O,J] [b,c]=ai:=by with_unfolding_all rfl):PE X (.Compare a [O,J] [b,c] pos)^yH r V ta tb tc:=by
 intro g s L H Q I h;refine Compare_chain (thn (f _ s L H _ I h) λv G ⟨x,M,I1,n,q⟩=>chain_link (thn (Z _ _ L _ _ I1 q) λu F ⟨y,H2,I2,i,p⟩ =>
  thn (W _ _ L _ x y v u _ I2 n i p) λd E ⟨z,A,I3,m,k,e,j⟩=>?_)) Y
 subst e;cases m;refine aaP ?_;cases k with
 |false=>exact ite_ff #[.bl _,A,I3,rfl,j]|true=>exact ite_tt^chain_last (thn (t _ _ L _ _ I3 j) λC D ⟨B,K,w,l,o⟩=>U _ _ L _ y _ u _ Q w i l o)
def Eo{O J:CmpOp}{r V:R2}(f:OpR X (aaw O) r)(U:OpR X (aaw J) V)(j:PE X a ta)(i:PE X b tb)(K:PE X c tc)
(g:lastMarks [O,J] [b,c]=ai:=by with_unfolding_all rfl):PT X (.Compare a [O,J] [b,c] pos)^Em^yH r V ta tb tc:=by
 intro n s L H Q I h;refine isTrue_chain (thn (j _ s L H _ I h) λv s1 ⟨x,H1,I1,C,F⟩=>test_link (thn (i _ _ L _ _ I1 F) λu s2 ⟨y,H2,I2,t,E⟩ =>
  thn (f _ _ L _ x y v u _ I2 C t E) λd T ⟨z,N,I3,B,k,e,w⟩=>?_)) g
 subst e;cases B;refine aaP ?_;cases k with
 |false =>
  refine cX w ?_;rintro k' ⟨⟩ G;exact ite_ff #[N,I3,G]
 |true =>
  refine ite_tt^test_last (thn (K _ _ L _ _ I3 w) λR S ⟨P,H4,M,A,D⟩=>thn (U _ _ L _ y _ u _ _ M t A D) λq p W=>?_);let(o,m,l,Y,k2,e2,Z):=W;subst e2;cases Y;exact aaP #[m,l,Z]
def pU:(ak:Nat)<2^63:=∅
def yI:OpR X (aa1 .Add) (λx y H Q=>∃i j,x=.str i/\y=.str j/\i.length+j.length<=ak/\Q (.str (i++j)) H):=by
 rintro g s σ H x y v u Q I e d ⟨i,j,rfl,rfl,f,q⟩
 let(t,rfl):=e;let(J,rfl):=d;exact add_str (λJ L=>#[.str _,H,I.tok _,#[_,rfl],q]) f
def vals1{x:V}{d:θ aA}(r:dw [x] d):∃u,d=[u]/\RelV x u:=by
 cases r with
 |cons L J=>cases J;exact(cY _ rfl L)
def vals2{x y:V}{d:θ aA}(r:dw [x,y] d):∃u J,d=[u,J]/\RelV x u/\RelV y J:=by
 cases r with
 |cons W U =>
  cases U with
  |cons O L=>cases L;exact(dO _ _ rfl W O)
def Cr(e:X.calm=ah):f7 X (.builtin "max") (λd H Q=>∃i j,d=[ω i,ω j]/\Q (ω (if j>i then j else i)) H):=by
 rintro f s σ H d h Q I r ⟨i,j,rfl,q⟩
 refine gK (vals2 r) ?_;rintro u g rfl ⟨t,rfl⟩ ⟨l,rfl⟩;refine max_two_ints (I.ok.hd e) λO L k=>#[_,H,I.aG k,?_,q]
 by_cases J:j>i
 refine rwe (bK J) ?_;exact rwe (bK J) #[_,rfl];refine rwe (bL J) ?_;exact rwe (bL J) #[_,rfl]
def Cs(e:X.calm=ah):f7 X (.builtin "min") (λd H Q=>∃i j,d=[ω i,ω j]/\Q (ω (if j<i then j else i)) H):=by
 rintro f s σ H d h Q I r ⟨i,j,rfl,q⟩
 refine gK (vals2 r) ?_;rintro u g rfl ⟨t,rfl⟩ ⟨l,rfl⟩;refine min_two_ints (I.ok.hd e) λO L k=>#[_,H,I.aG k,?_,q]
 by_cases J:j<i
 refine rwe (bK J) ?_;exact rwe (bK J) #[_,rfl];refine rwe (bL J) ?_;exact rwe (bL J) #[_,rfl]
def ua:f7 X (.type "int") (λd H Q=>(∃i,d=[ω i]/\Q (ω i) H)\/∃k,d=[.bl k]/\Q (ω (if k then 1 else 0)) H):=by
 intro L s J H d O Q I r h;rcases h with⟨i,rfl,q⟩|⟨k,rfl,q⟩
 ·let(u,rfl,t,rfl):=vals1 r;exact call_int_int #[ω i,H,I,#[_,rfl],q]
 ·obtain⟨u,rfl,⟨⟩⟩:=vals1 r;exact call_int_bool #[ω _,H,I.tok _,#[_,rfl],q]
end
end L2
namespace L2
open PySem PySem.Spec PyProof.Rows
structure yJ(h:au)(x dx C:az)(mA:ay->ψ aA):Prop where
 obj:h.get? x=aa^aaY C dx
 ns:h.Ns1 dx mA
 ne:dx≠x
def Ct{h:au}{f:az}{d:ay->ψ aA}(n:h.Ns1 f d):∃L,h.get? f=aa L/\∀c,acY c L=aa^d c:=by
 refine jz n λo Z b U Y W _ V=>((cY o U (λc=>?_)));have e:=V c;unfold nsFind findBy at e;rw[←Array.find?_toList]at e;unfold acY;refine rwe Y ?_;dsimp only;split
 ·rename_i y q;replace e:=q ▸ e;exact bS _ e
 ·rename_i q;replace e:=q ▸ e;have a:Z.toList.any (·.refKey)=ai:=by rw[List.any_eq_false];intro y O;refine qE (W y^Array.mem_toList_iff.mp O) λz t J=>?_;simp[DictEntry.refKey,J]
  refine rwe (bL^by exact rwe a aah) ?_;exact bS _ e
def yJ.look{h:au}{x c C:az}{b:ay->ψ aA}(I:yJ h x c C b):∃J,PySem.W.InstAt h x (aaY C c) C^aa J/\∀a,acY a J=aa^b a :=
 let ⟨J,d,e⟩:=Ct I.ns
 (cY J #[I.obj,rfl,rfl,d] e)
section
variable{prog:ZE}{w:ZW}{A:Z7}{E:aA->Zo->Prop}{s:Zo}{K:Zm}{x dx C f:az}{mA:ay->ψ aA}{name:ay}{v:aA}
def get_map{L:Bool}{Q:aA->Zo->Prop}(X:K.In s.heap)(I:yJ s.heap x dx C mA)(Z:abS K C name=ah)(Y:abe K C=ah)
(a:Z3 K (.ref C) name=aa af)(U:mA name=aa v)(O:afj v=ah)(h:Q v {s with toks:=s.toks+1}):
 av (ZI prog w) A (getAttr (.ref x) name L) Q E s:=by
 exact cX I.look λb J V=>(PySem.W.get_value X J (ac8 Z).1 (PySem.W.findObj_own Y a rfl^by rw[V,U]) O h)
def Ep{a:Sem Bool}{Q:aA×θ aA->Zo->Prop}(X:K.In s.heap)(I:yJ s.heap x dx C mA)(L:abS K C name=ah)
(Y:Z3 K (.ref C) name=aa^aa^.ref f)(U:acH K^.ref f=ah)(O:mA name=af)(h:Q (.ref f,[.ref x]) s):
 av (ZI prog w) A (aeR (.ref x) name a) Q E s:=by
 exact cX I.look λZ J V=>(PySem.W.method_fn X J (ac8 L).1 (ac8 L).2 Y (beq_iff_eq.mp U) (by show(acY _ _).map _=aa _;rw[V];refine rwe O ?_;rfl) h)
def IP{p:θ ay}{Q:Unit->Zo->Prop}(X:K.In s.heap)(I:yJ s.heap x dx C mA)
(f:Z3 K (.ref C) "__setattr__"=aa^aa^.builtin "object.__setattr__")(r:adu K C=ah)(d:adR K C name=aa af)(g:abe K C=ah)
(hw:aeV mA p)(e:p.length<=ak)
(h:∀o,yJ o x dx C (λy=>if y=name then aa v else mA y)->aaq dx s.heap o->Q Unit.unit {s with heap:=o,toks:=s.toks+2}):
 av (ZI prog w) A (setAttr (.ref x) name v) Q E s:=by
 refine cX I.look λk J m=>?_;refine PySem.W.set_plain X J f (PySem.W.osa_open X J r d λb=>(cX (PySem.W.any_some g) λn t Y=>?_));have c:s.heap.get? x=aa ⟨_,aa _,_,_⟩:=I.obj;refine Zn^Zq^Zn^Zn^wpAny_loadPart c^Zn^PySem.W.Looks.here (PySem.W.looks_clsIn X t)^rwe Y ?_;refine Zq (a:=aa _)^Zn^Zq^Zn (wpAny_nsSet1 I.ns λo O L=>(fV (O.count^PySem.Within.cons _ v hw) λl i j U V Z=>?_));exact Zn^wpAny_lookBehind U (by exact rwe V^pastItsLine_dict (ZT Z^by refine rwe ZQ ?_;lia))^Zq^h _ #[(L.2 _^aan I.ne).trans I.obj,O,I.ne] L
def Er{R:adt->Zo->Prop}{a:θ aA}{b:θ (ay×aA)}(X:K.In s.heap)(L:adT K C=ah)
(e:Z3 K (.ref C) "__init__"=aa^aa^.ref f)(O:PySem.W.typeIn K^.ref f=aa^.type "function")
(h:ao (ZI prog w) (A.under^.builtin "type.__call__" #[.ref C::a,b]) (.call (.ref f) #[.ref (s.heap.objs.size+1)::a,b]) (PySem.W.InitBack (s.heap.objs.size+1) R)
  { s with heap:=(s.heap.push aaC).push^aaY C s.heap.objs.size }):
 ao (ZI prog w) A (.call (.ref C) #[a,b]) R s:=by
 let(U,g,d,t,os):=s;exact PySem.W.make_core (PySem.W.makes_of X L) (PySem.W.looks_findIn X e) (λJ=>PySem.W.bind_fn X J O) (.inl rfl) h
end
def fW(f:ay)(v:V):θ (ay×V)->θ (ay×V)
 |[]=>[(f,v)]
 |(g,x)::r=>if g=f then(g,v)::r else(g,x)::fW f v r
theorem qu(f g:ay)(v:V):∀a:θ (ay×V),(fW f v a).lookup g=if g=f then aa v else a.lookup g
 |[]=>by
  show abC g [(f,v)]=_
  by_cases h:g=f
  ·have J:=beq_iff_eq.mpr h;simp![abC,J,bK h]
  ·have J:=beq_eq_false_iff_ne.mpr h;simp![abC,J,bL h]
 |(k,x)::r=>by
  refine rwe (show fW f v _=(if k=f then(k,v)::r else(k,x)::fW f v r) from rfl) ?_
  by_cases L:k=f
  ·refine rwe (bK L) ?_
   by_cases h:g=k
   ·have J:=beq_iff_eq.mpr h;simp![abC,J,bK^h.trans L]
   ·have J:=beq_eq_false_iff_ne.mpr h;simp![abC,J,bL (λe:g=f=>h^e.trans L.symm)]
  ·refine rwe (bL L) ?_
   by_cases h:g=k
   ·have J:=beq_iff_eq.mpr h;simp![abC,J,bL (λe=>L^h.symm.trans e)]
   ·have J:=beq_eq_false_iff_ne.mpr h;simp![abC,J];exact(qu f g v r)
theorem pV(f:ay)(v:V):∀a:θ (ay×V),f∈(fW f v a).map (·.1)/\∀g,g∈a.map (·.1)->g∈(fW f v a).map (·.1)
 |[]=>#[by simp[fW],λg h=>by simp at h]
 |(k,x)::r=>by
  refine uxA (pV f v r) λO L=>(rwe (show fW f v _=(if k=f then(k,v)::r else(k,x)::fW f v r) from rfl) ?_)
  by_cases J:k=f
  ·refine rwe (bK J) ?_;subst J;exact#[by simp,λg h=>by simpa using h]
  ·refine rwe (bL J) #[(Zz _ O),λg h=>?_]
   ·rcases List.mem_cons.mp h with e|e
    exact List.mem_cons.mpr^.inl e;exact Zz _^L g e
theorem qv(f:ay)(v:V):∀a:θ (ay×V),(fW f v a).length<=a.length+1
 |[]=>by simp[fW]
 |(k,x)::r=>by
  have L:=qv f v r;refine rwe (show fW f v _=(if k=f then(k,v)::r else(k,x)::fW f v r) from rfl) ?_
  by_cases J:k=f
  refine rwe (bK J) ?_;rw[ZQ];refine rwe ZQ ?_;lia;refine rwe (bL J) ?_;refine rwe ZQ^rwe ZQ ?_;lia
def tE.some_of{v:V}{o:ψ aA}(r:tE (aa v) o):∃u,o=aa u/\RelV v u:=by
 cases o with
 |none=>exact(r).elim|some u=>exact(cY u rfl r)
def tE.none_of{o:ψ aA}(r:tE af o):o=af:=by
 cases o with
 |none=>rfl|some u=>exact(r).elim
def Cu{v:V}{u:aA}(r:RelV v u):afj u=ah:=by
 cases v with
 |aC=>cases (r);rfl|bl b=>cases (r);rfl|ref a=>cases (r);rfl|ty n=>cases (r);rfl|_=>obtain⟨t,⟨⟩⟩:=(r);rfl
section
variable{P:ZE}{w:ZW}{H H':Hp}{h h':au}{a C dx:az}{fs fs':θ (ay×V)}
def oF(L:HOk P w H h)(e:H a=aa^.ins C dx fs):∃b,yJ h a dx C b/\(∀f,tE (fs.lookup f)^b f)/\aeV b (fs.map (·.1))/\fs.length<=1000/\H dx=aa^.own a:=by exact Cb ((L a _ e)) λd z J c b n r q=>(#[b,#[c,n,J],r,q,z,d])
end
structure Cls(K:Zm)(C:az):Prop where
 pg:abS K C aby=ah
 hd:abe K C=ah
 po:adu K C=ah
 sa:Z3 K (.ref C) "__setattr__"=aa^aa^.builtin "object.__setattr__"
def Cls.get{K:Zm}{C:az}(c:Cls K C)(f:ay):abS K C f=ah:=c.pg
def lY(K:Zm)(C:az)(f:ay):Prop:=Z3 K (.ref C) f=aa af
def lY.RV{K:Zm}{C:az}{f:ay}(n:lY K C f):adR K C f=aa af:=by unfold adR;refine rwe (n) ?_;rfl
structure uV(K:Zm)(C:az)(m:ay)(f:az):Prop where
 at_:Z3 K (.ref C) m=aa^aa^.ref f
 fn:acH K^.ref f=ah
 kp:Z2 K^.ref f=ah
section
variable{X:Cx}{zt:θ (az×aq)}{σ:St}{H:Hp}{s:Zo}{a C dx:az}{fs:θ (ay×V)}{f:ay}{v:V}{A:Z7}{E:aA->Zo->Prop}
def rC{b:Bool}{Q:aA->Zo->Prop}(I:ξ H s)(e:H a=aa^.ins C dx fs)(c:Cls X.K C)(n:lY X.K C f)(l:fs.lookup f=aa v)
(h:∀u d,ξ H d->RelV v u->Q u d):av (π X.w) A (getAttr (.ref a) f b) Q E s:=by
 refine mU (oF I.aI e) λU O r _ _ _=>?_;refine cX (tE.some_of^by exact rwf l^r f) λu L J=>?_;exact get_map I.kIn O (c.get f) c.hd n L (Cu J)^h u _ (I.tok _) J
def rD{m:ay}{g:az}{b:Sem Bool}{Q:aA×θ aA->Zo->Prop}(I:ξ H s)(e:H a=aa^.ins C dx fs)(c:Cls X.K C)(k:uV X.K C m g)(l:fs.lookup m=af)
(h:Q (.ref g,[.ref a]) s):av (π X.w) A (aeR (.ref a) m b) Q E s:=by
 refine mU (oF I.aI e) λJ O r _ _ _=>?_;exact Ep I.kIn O (c.get m) k.at_ k.fn (tE.none_of^by exact rwf l^r m) h
def rE{y:V}{u:aA}{Q:Unit->Zo->Prop}(I:ξ H s)(e:H a=aa^.ins C dx fs)(c:Cls X.K C)(n:lY X.K C f)(l:fs.length<1000)(Y:RelV y u)
(h:∀m,ξ (upd H a^.ins C dx^fW f y fs) m->Q Unit.unit m):av (π X.w) A (setAttr (.ref a) f u) Q E s:=by
 refine mU (oF I.aI e) λk O r L _ U=>?_;have Z:(fs.map (·.1)).length<=ak:=by rw[ZA];refine rwe adP ?_;lia
 refine IP I.kIn O c.sa c.po n.RV c.hd L Z λj J W=>h _ ?_;have p:∃o,j.get? _=aa o:=let ⟨o,_,_,t,_⟩:=J.ns;#[o,t];refine I.write (by exact rwe e abE) (.inr U) (λb q i z=>(W.2 b i).trans z) p #[by exact rwe (dD O.ne) U,?_,O.ne,J.obj,_,J.ns,λg=>?_,λg d=>?_];have:=qv f y fs;lia
 ·rw[qu]
  by_cases q:g=f
  refine rwe (bK q) ?_;exact rwe (bK q) Y;refine rwe (bL q) ?_;exact rwe (bL q)^r g
 ·by_cases q:g=f
  exact rwe q^(pV f y _).1
  ·refine(pV f y _).2 g (L g λz=>d ?_);exact(bL q).trans z
def Inv.made(I:ξ H s):ξ (upd (upd H s.heap.objs.size^.own (s.heap.objs.size+1)) (s.heap.objs.size+1)^.ins C s.heap.objs.size [])
 {s with heap:=(s.heap.push aaC).push^aaY C s.heap.objs.size}:=by
 have e1:(s.heap.push aaC).get? s.heap.objs.size=aa aaC:=ZH s.heap rfl;have e2:((s.heap.push aaC).push^aaY C s.heap.objs.size).get? (s.heap.objs.size+1)=aa^aaY C s.heap.objs.size:=by
  have:=ZH (s.heap.push aaC) (o:=aaY C s.heap.objs.size) rfl
  rwa [aaA]at this
 have U:(s.heap.push aaC).Ns s.heap.objs.size (λ_=>af):=#[aaC,#v[],_,e1,rfl,(λe O=>bM O^by simp),λ_=>rfl];have V:=I.laid (a:=s.heap.objs.size) (o:=.own (s.heap.objs.size+1)) (h':=s.heap.push aaC) (t':=s.toks) (λb u q=>Zr _ q) (Zw _) #[_,e1];refine V.laid (a:=s.heap.objs.size+1) (o:=.ins C s.heap.objs.size []) (t':=s.toks) (λb u q=>Zr _ q) (Nat.le_of_eq^aaA _ _) ?_;have J:s.heap.objs.size≠s.heap.objs.size+1:=ZS^aav _;refine#[by rw[dD J,fD],aax _,J,e2,λ_=>af,(Heap.Ns1.of_empty U).at λo q=>Zr _ q,λ_=>abE,λy L=>bM rfl L]
def IQ{b:ZE}{w:ZW}{c:Env}{e:ab8}{f:ay}{d:Pos}{s:Zo}{Q:aA->Zo->Prop}(L:ac6 e f c^eval e c=eval e c)
(h:av (ZI b w) A (eval e c) (λo J=>av (ZI b w) A (getAttr o f ah) Q E J) E s):av (ZI b w) A (eval (.Attribute e f d) c) Q E s :=
 Attribute_any_ h (by rw[arm_eval_Attribute,L])
end
def Wy(K:Zm)(c:TE)(f:ay):TE:=fun L H Q=>c L H λx J=>∃a C O b v,x=.ref a/\J a=aa^.ins C O b/\Cls K C/\lY K C f/\b.lookup f=aa v/\Q v J
def RX(K:Zm)(d c:TE)(f:ay):TS:=λD J H=>c J H λy U=>d J U λx O=>∃a C L b,x=.ref a/\O a=aa^.ins C L b/\Cls K C/\lY K C f/\b.length<1000 ∧
 D.nx J^upd O a^.ins C L^fW f y b
def Wz(X:Cx)(O:acr)(rd:V->V->Hp->VK->Prop):Prop :=
 ∀(L:θ (az×aq)) (s:Zo) (J:St) (H:Hp) (x y:V) (u v:aA) (Q:VK),Inv X L J H s->RelV x u->RelV y v->rd x y H Q->av (π X.w) X.A (inplaceOp O u v) (EP X L J Q) X.xe s
def Ar(K:Zm)(d c:TE)(rd:V->V->Hp->VK->Prop)(f:ay):TS:=λD O H=>d O H λx W=>∃a C Y b v,x=.ref a/\W a=aa^.ins C Y b/\Cls K C/\lY K C f/\b.lookup f=aa v ∧
 c O W λy Z=>rd v y Z λz U=>∃L J,U a=aa^.ins C L J/\J.length<1000/\D.nx O^upd U a^.ins C L^fW f z J
section
variable{X:Cx}{o e value:ab8}{f:ay}{pos pos' tpos:Pos}{ta tv:TE}
def Nu(V:PE X e ta)(W:ac6 e f X.env^eval e X.env=eval e X.env):PE X (.Attribute e f pos)^Wy X.K ta f:=by intro g s J H Q I h;refine IQ W (thn (V _ s J H _ I h) λu k L=>?_);let(x,d,b,O,a,C,m,r,v,p,Y,c,n,l,q):=L;subst p;obtain rfl:u=aaJ a:=O;exact rC b Y c n l λi j Z U=>#[v,d,Z,U,q]
def Nv(U:PE X o ta)(L:PE X value tv)(O:acv value (aa^.Attribute o f pos') pos.line X.env=pure ai):PS X (.Assign [.Attribute o f pos'] value pos)^RX X.K ta tv f:=by intro W s J H D I h;refine plainObj_wpAny_Assign_Attribute (thn (L _ s J H _ I h) λu p ⟨y,v,I1,b,q⟩=>thn (U _ _ J _ _ I1 q) λi m ⟨x,H2,I2,d,a,C,t,r,j,k,c,n,l,g⟩=>?_) O;subst j;obtain rfl:i=aaJ a:=d;exact rE I2 k c n l b λY V=>(eW J _ V g)
def Cv{O:acr}{rd:V->V->Hp->VK->Prop}(d:PE X o ta)(b:PE X value tv)(L:Wz X O rd):PS X (.AugAssign (.Attribute o f tpos) O value pos)^Ar X.K ta tv rd f:=by intro k s J H D I h;refine wpAny_AugAssign_AttributeAny (thn (d _ s J H _ I h) λZ r U=>?_);let(x,w,j,W,a,C,t,fs,v,P,e,c,n,l,q):=U;subst P;obtain rfl:Z=aaJ a:=W;exact rC j e c n l λu p i Y=>thn (b _ _ J _ _ i q) λT s3 ⟨y,H2,I3,E,G⟩=>thn (L _ _ J _ v y u _ _ I3 Y E G) λS s4 ⟨z,H3,R,B,Q,N,A,M,F⟩=>(rE R A c n M B λm g=>(eW J _ g F))
end
section
variable{X:Cx}{zt:θ (az×aq)}{σ:St}{H:Hp}{s:Zo}{A:Z7}{E:aA->Zo->Prop}{Q:aA->Zo->Prop}{c:aA}{b:Bool}
end
end L2
namespace L2
open PySem PySem.Spec PyProof.Rows
structure fQ(k:Nat)(A:Z7):Prop where
 hd:A.handled=af
 dp:A.depth+3*k+5<recursionLimit
 un:A.units+16*k+200<ae9
def fQ.mono{j k:Nat}{A:Z7}(r:fQ k A)(h:j<=k):fQ j A:=#[r.hd,by have:=r.dp;lia,by have:=r.un;lia]
def fQ.deeper{k:Nat}{A:Z7}(r:fQ (k+1) A)(a:Env):fQ k^A.deeper a :=
 #[r.hd,by have:=r.dp;show A.depth+1+3*k+5<_;lia,by have:=r.un;show A.units+3+16*k+200<_;lia]
def yK{A:Z7}{C:az}{a:θ aA}{b:θ (ay×aA)}:(A.under^.builtin "type.__call__" #[.ref C::a,b]).depth=A.depth+1:=by first|rfl|simp[Code.isFrame]
def yL{A:Z7}{C:az}{a:θ aA}{b:θ (ay×aA)}:(A.under^.builtin "type.__call__" #[.ref C::a,b]).units=A.units+1:=by first|rfl|simp[Code.frames]
def fQ.make{k:Nat}{A:Z7}(r:fQ (k+1) A)(C:az)(a:θ aA)(b:θ (ay×aA)):fQ k^A.under^.builtin "type.__call__" ⟨.ref C::a,b⟩ :=
 #[r.hd,by have:=r.dp;refine rwe yK ?_;lia,by have:=r.un;refine rwe yL ?_;lia]
def fQ.depth{k:Nat}{A:Z7}(r:fQ k A):A.depth<recursionLimit:=by have:=r.dp;lia
def Et:TA:=λ_ H Q=>Q [] H
def Mq(b:TE)(a:TA):TA:=fun J H Q=>b J H λx U=>a J U λL O=>Q (x::L) O
section
variable{X:Cx}{e:ab8}{es:θ ab8}{te:TE}{t:TA}{pos:Pos}
def nP:PA X [] Et:=λ_ _ _ _ H Q I h=>abM #[[],H,I,.nil,h]
def iw(V:PE X e te)(U:PA X es t)(O:Z4 (e::es) X.env=(ai,eval e X.env)::Z4 es X.env:=by rfl):PA X (e::es)^Mq te t:=by intro L W s J H Q I h;refine rwe O ?_;show av _ _ (adO ((ai,eval e _)::abH _^Z4 _ _)) _ _ s;exact aaI (thn (V _ s J H _ I h) λu j ⟨x,k,I1,b,d⟩=>(thn (U _ _ _ J _ _ I1 d) λg i ⟨f,H2,I2,a,c⟩=>#[_,H2,I2,.cons b a,c]))
def RY(t:TA):TE:=fun O H Q=>t O H λJ L=>J.length<=ak/\∀p,L p=af->Q (.ref p)^upd L p^.aB J
def Nx(t:TA):TE:=fun O H Q=>t O H λJ L=>J.length<=ak/\∀p,L p=af->Q (.ref p)^upd L p^.aj J
def Nz{m}(h:PA X es t):PE X (.Tuple es m pos)^RY t:=by intro O s J H Q I L;refine wpAny_Tuple_spliced (thn (h _ _ s J H _ I L) λa d ⟨c,f,I1,r,z,q⟩=>#[by exact rwf r.length z,?_]);refine#[.ref _,upd _ _^.aB _,I1.laid (λb u e=>Zr _ e) (Zw _) ?_,rfl,q _^I1.aI.fresh^Zw _];exact(lU z a r^(pS _ (ZH _ rfl) rfl _ rfl))
def Eu(h:PA X es t):PE X (.List es pos)^Nx t:=by intro O s J H Q I L;refine wpAny_List_spliced (thn (h _ _ s J H _ I L) λa d ⟨c,f,I1,r,z,q⟩=>#[by exact rwf r.length z,?_]);refine#[.ref _,upd _ _^.aj _,I1.laid (λb u e=>Zr _ e) (Zw _) ?_,rfl,q _^I1.aI.fresh^Zw _];exact(lV z a 0 r^ZH _ rfl)
end
@[reducible]noncomputable def Sp:=θ V->Hp->VK->XK->Prop
@[reducible]noncomputable def CXT:=θ Env->Hp->Zo->XK->aA->Zo->Prop
structure qF(P:ZE)(w:ZW)(K:Zm)(mg:ay->ψ aA)(base:au)(A:Z7)(outer:θ Env)(s:Zo)(H:Hp):Prop where
 frames:A.frames=aa outer
 mod:Mod K mg base
 bs:∀b o,base.get? b=aa o->s.heap.get? b=aa o/\H b=af
 bsz:base.objs.size<=s.heap.objs.size
 jW:s.heap.FunFrames base outer
 frf:∀b∈frs outer,H b=af
 aI:HOk P w H s.heap
 bare:adW s.gens
inductive CE(outer:θ Env)(P:ZE)(w:ZW)(H:Hp)(s:Zo)(Q:VK)(u:aA)(s':Zo):Prop
 |mk(v:V)(H':Hp)(os:s'.os=s.os)(b:adW s'.gens)(un:Un (frs outer) [] H H' s.heap s'.heap)(J:HOk P w H' s'.heap)(r:RelV v u)(q:Q v H'):CE outer P w H s Q u s'
def CR(c:CXT)(a:θ Env)(P:ZE)(w:ZW)(H:Hp)(s:Zo)(Q:VK)(E:XK)(r:adt)(b:Zo):Prop :=
 match r with
 |.ok^.ret u=>CE a P w H s Q u b|.ok _=>False|.error e=>c a H s E e b
structure gi(P:ZE)(w:ZW)(K:Zm)(mg:ay->ψ aA)(base:au)(CX:CXT)(k:Nat)(f:az)(fd:aap)(ps:θ ay)(sp:Sp):Prop where
 len:∀vs H Q E,sp vs H Q E->vs.length=ps.length
 run:∀(A:Z7)(outer:θ Env)(s:Zo)(H:Hp) (args:Args) (us:θ aA) (vs:θ V) (Q:VK) (E:XK),fQ k A->qF P w K mg base A outer s H->BindsTo s fd args^ps.zip us->dw vs us->sp vs H Q E →
  ao (ZI P w) A (.call (.ref f) args) (CR CX outer P w H s Q E) s
def qF.make{P:ZE}{w:ZW}{K:Zm}{c:ay->ψ aA}{b:au}{A:Z7}{a:θ Env}{s:Zo}{H:Hp}(e:qF P w K c b A a s H)(C:az)(d:θ aA)(f:θ (ay×aA)):
 qF P w K c b (A.under^.builtin "type.__call__" #[.ref C::d,f]) a s H:=#[by first|exact e.frames|(simpa [Code.isFrame]using e.frames),e.mod,e.bs,e.bsz,e.jW,e.frf,e.aI,e.bare]
section
variable{X:Cx}{zt:θ (az×aq)}{σ:St}{H:Hp}{s s':Zo}
def Inv.NB(I:ξ H s):qF X.prog X.w X.K X.mg X.base X.A X.stack s H :=
 #[I.ok.frames,I.ok.mod,I.bs,ZT I.ok.bsz I.sz,I.stack,I.uU,I.aI,I.bare]
def Inv.after{Q:VK}{u:aA}(I:ξ H s)(h:CE X.stack X.prog X.w H s Q u s'):EP X zt σ Q u s':=by let(v,V,os,J,a,U,r,q):=h;let(O,g,d,t,L):=s';obtain rfl:L=s.os:=os;exact#[v,V,I.call (h':=O) (g':=g) (d':=d) (t':=t) (ch:=[]) a U J (λb z=>bM z^by simp),r,q]
end
def wF(b:Sp)(a:θ V)(E:XK)(t:TA):TE:=fun J H Q=>t J H λL O=>b (L++a) O Q E
def As(C:az)(m:ay)(e:Sp)(b:θ V)(E:XK)(d:TE)(t:TA):TE:=fun J H Q=>d J H λx L=>∃a U c,x=.ref a/\L a=aa^.ins C U c/\c.lookup m=af ∧
 t J L λO W=>e (x::(O++b)) W Q E
def Ew(C:az)(b:Sp)(a:θ V)(E:XK)(t:TA):TE:=fun O H Q=>t O H λU L=>∀x J,L x=af->L J=af->J≠x →
 b (.ref x::(U++a)) (upd (upd L J^.own x) x^.ins C J []) (λv W=>v=.aC/\Q (.ref x) W) E
def Binds(K:Zm)(c:aap)(a:θ ay)(b:θ aA):Prop :=
 ∀(s:Zo)(J:θ aA),K.In s.heap->(J++b).length=a.length->BindsTo s c #[J,[]]^a.zip (J++b)
def Binds.all{K:Zm}{c:aap}{b:θ ay}(h:∀a:θ aA,a.length=b.length->afu c #[a,[]]=pure^b.zip a):Binds K c b []:=λs a _ J=>by rw[aau]at J⊢;exact .of_eq^h a J
def jc(a:CXT)(X:Cx)(E:XK):Prop:=∀(O:θ (az×aq)) (L:St) (H:Hp) (s:Zo) (e:aA) (J:Zo),Inv X O L H s->a X.stack H s E e J->X.xe e J
section
variable{X:Cx}{CX:CXT}{k:Nat}{f C:az}{fd:aap}{ps:θ ay}{sp:Sp}{dvs:θ V}{ds:θ aA}{E:XK}{x m:ay}{p pos apos:Pos}{e o:ab8}{es:θ ab8}{ta:TE}{t:TA}
def rF{c:θ (az×aq)}{σ:St}{H:Hp}{s:Zo}{Q:VK}{us:θ aA}{vs:θ V}(F:gi X.prog X.w X.K X.mg X.base CX k f fd ps sp)(W:fQ k X.A)(a:Binds X.K fd ps ds)(Z:dw dvs ds)(U:jc CX X E)
(I:Inv X c σ H s)(r:dw vs us)(h:sp (vs++dvs) H Q E):av (π X.w) X.A (call (.ref f) us) (EP X c σ Q) X.xe s:=by
 have L:dw (vs++dvs) (us++ds):=r.append Z;have Y:(us++ds).length=ps.length:=by rw[←L.length];exact F.len _ _ _ _ h
 refine acS (codeAny_mono (F.run X.A X.stack s H #[us,[]] (us++ds) (vs++dvs) Q E W I.NB (a s us I.kIn Y) L h) λr O J=>?_);cases r with
 |error e=>exact U c σ H s e O I J
 |ok b =>
  cases b with
  |ret u=>exact I.after J|_=>exact aat J
def Au(F:gi X.prog X.w X.K X.mg X.base CX k f fd ps sp)(V:fQ k X.A)(Z:Gl X x)(W:X.mg x=aa^.ref f)(Y:Z2 X.K^.ref f=ah)(c:Binds X.K fd ps ds)(b:dw dvs ds)(U:jc CX X E)
(d:PA X (e::es) t)(L:(x==("__debug__":ay))=ai:=by decide)(a:Z4 (e::es) X.env=(ai,eval e X.env)::Z4 es X.env:=by rfl)(J:(abH pos^Z4 es X.env).any (·.1)=ai:=by rfl):
 PE X (.Call (.Name x p) (e::es) [] pos)^wF sp dvs E t:=by
 intro g s O H Q I h;exact aaB^jm I Z W (aa9 I.ok.mod.kin Y (thn (d _ _ s O H _ I h) λj l ⟨i,n,I1,r,q⟩=>#[I1.kIn,(rF F V c b U I1 r q)]) a J) L
def wG(F:gi X.prog X.w X.K X.mg X.base CX k f fd ps sp)(O:fQ k X.A)(W:Gl X x)(U:X.mg x=aa^.ref f)(V:Z2 X.K^.ref f=ah)(Z:Binds X.K fd ps ds)(Y:dw dvs ds)(L:jc CX X E)
(J:(x==("__debug__":ay))=ai:=by decide):PE X (.Call (.Name x p) [] [] pos)^wF sp dvs E Et:=λb s a H Q I h=>aaB^jm I W U (ac9 I.kIn V^rF (us:=[]) F O Z Y L I .nil h) J
def Av{j:Sem Bool}(b:PE X o ta)(c:Cls X.K C)(V:uV X.K C m f)(F:gi X.prog X.w X.K X.mg X.base CX k f fd ps sp)(Z:fQ k X.A)(g:Binds X.K fd ps ds)(d:dw dvs ds)(W:jc CX X E)(i:PA X (e::es) t)
(J:Z4 (e::es) X.env=(ai,eval e X.env)::Z4 es X.env:=by rfl)(L:(abH pos^Z4 es X.env).any (·.1)=ai:=by rfl)
(Y:eval (.Call (.Attribute o m apos) (e::es) [] pos) X.env=(do
  let M ←eval o X.env
  aeP apos.atName
  let (f,first) ←ac4 [M] (aeR M m j)
  callWith pos f first (abH pos^Z4 (e::es) X.env)^afv pos^adQ [] X.env):=by rfl):
 PE X (.Call (.Attribute o m apos) (e::es) [] pos)^As C m sp dvs E ta t:=by
 intro U s O H Q I h;refine acG (pl:=j) (thn (b U s O H _ I h) λu y ⟨x,N,I1,z,a,T,S,D,G,l,q⟩=>?_) Y;subst D;obtain rfl:u=aaJ a:=z;refine rD I1 G c V l ?_;refine aa9 (first:=[.ref a]) (h₀:=X.base) I.ok.mod.kin V.kp (thn (i pos U y O N _ I1 q) λv P ⟨n,H2,I2,r,B⟩=>#[I2.kIn,?_]) J L;exact rF (us:=.ref a::v) (vs:=.ref a::n) F Z g d W I2 (.cons rfl r) B
def wH{d:Sem Bool}(Y:PE X o ta)(c:Cls X.K C)(J:uV X.K C m f)(F:gi X.prog X.w X.K X.mg X.base CX k f fd ps sp)(W:fQ k X.A)(b:Binds X.K fd ps ds)(Z:dw dvs ds)(U:jc CX X E)
(V:eval (.Call (.Attribute o m apos) [] [] pos) X.env=(do
  let M ←eval o X.env
  aeP apos.atName
  let (f,first) ←ac4 [M] (aeR M m d)
  callWith pos f first (abH pos^Z4 [] X.env)^afv pos^adQ [] X.env):=by rfl):
 PE X (.Call (.Attribute o m apos) [] [] pos)^As C m sp dvs E ta Et:=by
 intro O s L H Q I h;refine acG (pl:=d) (thn (Y O s L H _ I h) λu v ⟨x,B,I1,g,a,z,y,i,j,l,q⟩=>?_) V;subst i;obtain rfl:u=aaJ a:=g;refine rD I1 j c J l ?_;exact ac9 (first:=[.ref a]) I1.kIn J.kp^rF (us:=[.ref a]) (vs:=[.ref a]) F W b Z U I1 (.cons rfl .nil) q
structure Mk(K:Zm)(C f:az):Prop where
 makes:adT K C=ah
 init:Z3 K (.ref C) "__init__"=aa^aa^.ref f
 fn:acH K^.ref f=ah
 kp:Z2 K^.ref C=ah
def wI{y:θ (az×aq)}{σ:St}{H:Hp}{s:Zo}{Q:VK}{us:θ aA}{q:θ V}(M:Mk X.K C f)(F:gi X.prog X.w X.K X.mg X.base CX k f fd ps sp)(a:fQ (k+1) X.A)(d:Binds X.K fd ps ds)(c:dw dvs ds)
(Z:jc CX X E)(I:Inv X y σ H s)(r:dw q us)
(h:∀x n,H x=af->H n=af->n≠x->sp (.ref x::(q++dvs)) (upd (upd H n^.own x) x^.ins C n []) (λv H2=>v=.aC/\Q (.ref x) H2) E):
 av (π X.w) X.A (call (.ref C) us) (EP X y σ Q) X.xe s:=by
 have U:=h (s.heap.objs.size+1) _ (I.aI.fresh^aal _) (I.aI.fresh^Zw _)^ZS^aav _;have L:=Inv.made (C:=C) I;have O:dw (V.ref (s.heap.objs.size+1)::(q++dvs)) (aaJ _::(us++ds)):=.cons rfl^r.append c;have b:=by have e:=O.length;rw[F.len _ _ _ _ U]at e;exact e.symm
 refine acS^Er I.kIn M.makes M.init (beq_iff_eq.mp M.fn) (codeAny_mono (F.run _ _ _ _ #[aaJ _::us,[]] (aaJ _::(us++ds)) _ _ E (a.make C _ _)
  (L.NB.make C _ _) (d _ (aaJ _::us) L.kIn b) O U) λr l J=>?_)
 cases r with
 |error e=>exact Z _ σ _ _ e _ L J
 |ok g =>
  cases g with
  |ret u =>
   let(v,j,i,W,rfl,Y):=L.after J;exact#[W,#[V.ref _,j,i,rfl,Y]]
  |_=>exact aat J
def IR(M:Mk X.K C f)(F:gi X.prog X.w X.K X.mg X.base CX k f fd ps sp)(V:fQ (k+1) X.A)(Y:Gl X x)(W:X.mg x=aa^.ref C)(b:Binds X.K fd ps ds)(a:dw dvs ds)(U:jc CX X E)
(c:PA X (e::es) t)(L:(x==("__debug__":ay))=ai:=by decide)(Z:Z4 (e::es) X.env=(ai,eval e X.env)::Z4 es X.env:=by rfl)(J:(abH pos^Z4 es X.env).any (·.1)=ai:=by rfl):
 PE X (.Call (.Name x p) (e::es) [] pos)^Ew C sp dvs E t:=by
 intro d s O H Q I h;exact aaB^jm I Y W (aa9 I.ok.mod.kin M.kp (thn (c _ _ s O H _ I h) λi j ⟨g,l,I1,r,q⟩=>#[I1.kIn,(wI M F V b a U I1 r q)]) Z J) L
def Ex(M:Mk X.K C f)(F:gi X.prog X.w X.K X.mg X.base CX k f fd ps sp)(O:fQ (k+1) X.A)(V:Gl X x)(U:X.mg x=aa^.ref C)(Y:Binds X.K fd ps ds)(W:dw dvs ds)(L:jc CX X E)
(J:(x==("__debug__":ay))=ai:=by decide):PE X (.Call (.Name x p) [] [] pos)^Ew C sp dvs E Et:=λa s Z H Q I h=>aaB^jm I V U (ac9 I.kIn M.kp^wI (us:=[]) M F O Y W L I .nil h) J
end
section
variable{X:Cx}{CX:CXT}{k:Nat}{f C:az}{fd:aap}{ps ks:θ ay}{sp:Sp}{E:XK}{x m:ay}{p pos apos kpos:Pos}{e o:ab8}{es:θ ab8}{kws:θ aex}{te ta:TE}{t tk:TA}{nm:ψ ay}
variable{g:θ aA->θ aA->θ aA}{gV:θ V->θ V->θ V}
end
structure dY(N P:θ ay)(sc:aak):Prop where
 kind:sc.kind=.function
 co:sc.isCoroutine=ai
 gen:sc.isGenerator=ai
 nd:N.Nodup
 pre:N.take P.length=P
 par:∀x∈P,sc.names.lookup x=aa .local\/sc.names.lookup x=aa .cell
 nofree:∀y∈sc.names,y.2≠.free
theorem uc{kindOf:ay->ψ abT}{x:ay}:∀{a:θ (ay×aA)}{m:ay->ψ aA},(∀v,(x,v)∉a)->bindL kindOf a m x=m x
 |[],_,_=>rfl
 |(n,v)::r,m,h=>by
  refine rwe (uc λw hw=>h w^Zz _ hw) ?_;split
  ·have:x≠n:=by rintro rfl;exact h v ZF
   simp[this]
  rfl
theorem ud{kindOf:ay->ψ abT}{x:ay}:∀{a:θ (ay×aA)}{m:ay->ψ aA},(∀v,(x,v)∉a)->bindC kindOf a m x=m x
 |[],_,_=>rfl
 |(n,v)::r,m,h=>by
  refine rwe (ud λw hw=>h w^Zz _ hw) ?_;split;rfl
  ·have:x≠n:=by rintro rfl;exact h v ZF
   simp[this]
theorem ue{kindOf:ay->ψ abT}{x:ay}{v:aA}:∀{P:θ ay}{a:θ aA}{i:Nat}{m:ay->ψ aA},P.Nodup->P[i]?=aa x->a[i]?=aa v->kindOf x=aa .local →
 bindL kindOf (P.zip a) m x=aa v
 |[],_,_,_,_,h,_,_=>by simp at h
 |_::_,[],_,_,_,_,h,_=>by simp at h
 |p::P,w::a,0,m,d,c,b,e=>by simp at c b;subst c;subst b;refine rwe (uc λv J=>(List.nodup_cons.mp d).1 (ac0 J).1)^rwe (bK e) ?_;simp
 |p::P,w::a,i+1,m,d,c,b,e=>by show bindL _ ((p,w)::P.zip _) m x=_;exact ue (List.nodup_cons.mp d).2 (by simpa using c) (by simpa using b) e
theorem uf{kindOf:ay->ψ abT}{x:ay}{v:aA}:∀{P:θ ay}{a:θ aA}{i:Nat}{m:ay->ψ aA},P.Nodup->P[i]?=aa x->a[i]?=aa v->kindOf x≠aa .local →
 bindC kindOf (P.zip a) m x=aa v
 |[],_,_,_,_,h,_,_=>by simp at h
 |_::_,[],_,_,_,_,h,_=>by simp at h
 |p::P,w::a,0,m,d,c,b,e=>by simp at c b;subst c;subst b;refine rwe (ud λv J=>(List.nodup_cons.mp d).1 (ac0 J).1)^rwe (bL e) ?_;simp
 |p::P,w::a,i+1,m,d,c,b,e=>by show bindC _ ((p,w)::P.zip _) m x=_;exact uf (List.nodup_cons.mp d).2 (by simpa using c) (by simpa using b) e
def start(N:θ ay)(a:θ V):St:=a.map aa++ZN (N.length-a.length) af
def dF(CX:CXT)(P:ZE)(w:ZW)(K:Zm)(mg:ay->ψ aA)(base:au)(N:θ ay)(qual:ay)(scope:aak)(f:az)(cd:aA)(A:Z7)(outer:θ Env)(s:Zo)(H:Hp)(E:XK):Cx where
 prog:=P
 w:=w
 K:=K
 mg:=mg
 base:=base
 A:=A.deeper^abp qual scope s.heap.objs.size f cd
 N:=N
 s₀:=s
 H₀:=H
 env:=abp qual scope s.heap.objs.size f cd
 outer:=outer
 stack:=abp qual scope s.heap.objs.size f cd::outer
 ex:=[]
 calm:=ah
 fn:=λ_=>ah
 pn:=[]
 xe:=λe L=>av (ZI P w) (A.deeper^abp qual scope s.heap.objs.size f cd) (leaving (abp qual scope s.heap.objs.size f cd) e) (λ_ J=>CX outer H s E e J) (λO J=>CX outer H s E O J) L
def wJ{a:aak}{n:Nat}{x:ay}(h:a.names.lookup x=aa .cell):∃c,(aeT n a.names []).lookup x=aa c:=by exact Option.isSome_iff_exists.mp^acA _ n []^.inl h
def ug{CX:CXT}{P:ZE}{w:ZW}{K:Zm}{R:ay->ψ aA}{F:au}{N G:θ ay}{D:ay}{B:aak}{f:az}{M:aA}{A:Z7}{C:θ Env}{s g:Zo}{H:Hp}{E:XK}{Q:θ aA}{I:θ V}
(S:dY N G B)(n:A.handled=af)(L:qF P w K R F A C s H)(o:I.length=G.length)(r:dw I Q)
(x:InCallC s s.heap.objs.size (bindL (abp D B s.heap.objs.size f M).kindOf (G.zip Q) λ_=>af) (aeT (s.heap.objs.size+1) B.names []) (bindC (abp D B s.heap.objs.size f M).kindOf (G.zip Q) λ_=>af) g):
 Inv (dF CX P w K R F N D B f M A C s H E) [] (start N I) H g:=by
 have m:G.length<=N.length:=by have:=bS aej S.pre;rw[acJ]at this;lia
 refine fz x.done ?_;rintro d X rfl T;have O:∀ b,b∉(dF CX P w K R F N D B f M A C s H E).ex:=λb z=>bM (show b∈([]:θ _) from z) (by simp);refine #[#[L.mod,S.kind,rfl,rfl,Zw _,λy z c d J=>(name_of_addr x.apart (abz d)^abz J),λy U=>?_,λy c _ h=>(aaL^x.above y c^abz h),λ_=>n,aeZ L.frames,.inr #[rfl,rfl],λb z=>bM z^O b,L.bs,L.bsz,λb _ _=>O b,λb z=>bM z^O b,L.jW,L.frf],
  rfl,L.bare,Un.aG T,(cY _ x.toInCall.ns (λi y v d J t=>?_)),λy c h=>#[_,x.cell y c h],L.aI.fresh^Zw _,λy c h=>?_,λp Y=>bM (show p∈([]:θ _) from Y)^by simp,L.aI.aG T,?_]
 ·have U:B.names.lookup y=aa _\/B.names.lookup y=aa _:=U;rcases U with U|U
  exact wJ U;exact bM rfl^S.nofree _^abz U
 ·have Z:i<I.length:=by
   unfold start at J
   by_cases Z:i<I.length
   exact Z
   ·rw[aab^by simpa using Z]at J;replace J:=aaK ▸ J;split at J<;>cases J
  refine cX (r.get (by
   unfold start at J;rw[Zs^by simpa using Z,ZP]at J;cases e:I[i]? with
   |none=>replace J:=e ▸ J;cases J|some a=>replace J:=e ▸ J;cases J;rfl
   )) λu j l=>?_
  have Y:G[i]?=aa y:=by refine rwf S.pre^rwe (abF ()) ?_;exact d
  have W:G.Nodup:=by exact rwf S.pre^S.nd.sublist^List.take_sublist _ _
  refine(cY u l ?_);rcases S.par y^ZJ Y with k|k
  exact .inl #[k,ue W Y j k]
  ·let(c,e):=wJ k;refine .inr^lU (.inl k) c e ?_;have q:=x.cell y c e;rw[uf W Y j^by show B.names.lookup y≠_;refine rwe k ?_;decide]at q;exact q
 exact L.aI.fresh^aaL^x.above y c^abz h
 ·show _=N.length;refine rwe ZX ?_;rw[ZA];refine rwe abi ?_;lia
def Aw{CX:CXT}{P:ZE}{w:ZW}{K:Zm}{mg:ay->ψ aA}{base:au}{k:Nat}{f:az}{name qual:ay}{O:aeg}{U:θ ade}{scope:aak}{z kV g p L ct M:aA}{C G:ψ az}
{osl:Array^ψ aA}{N ps:θ ay}{sp:Sp}(R:K.lookup f=aa #[M,G,.func^aaF name qual O U scope z kV g p C L ct,osl])(l:acj K L qual=ah)(S:dY N ps scope)
(len:∀vs H Q E,sp vs H Q E->vs.length=ps.length)
(Z:∀ (A:Z7) (outer:θ Env) (s:Zo) (H:Hp) (vs:θ V) (Q:VK) (E:XK),fQ k^A.deeper^abp qual scope s.heap.objs.size f L->sp vs H Q E →
  ∃ t,PSs (dF CX P w K mg base N qual scope f L A outer s H E) U t/\t { nx:=λ_ H'=>Q .aC H',rt:=Q } (start N vs) H):
 gi P w K mg base CX (k+1) f (aaF name qual O U scope z kV g p C L ct) ps sp:=by
 refine#[len,λA outer s H B F vs Q E j d hb r c=>?_];have hl:=len _ _ _ _ c;have D:K.In s.heap:=d.mod.kin.keeps λb o e=>(d.bs b o e).1;have lim:s.heap.NoLimit:=d.mod.nolimit.keeps λb o e=>(d.bs b o e).1;have Y:∀y∈ps.zip F,scope.names.lookup y.1=aa .local\/(scope.names.lookup y.1=aa .cell/\((aeT (s.heap.objs.size+1) scope.names []).lookup y.1).isSome=ah):=λ⟨n,v⟩ hy=>by
  rcases S.par n (ac0 hy).1 with q|q
  exact .inl q;exact .inr #[q,acA _ _ _^.inl q]
 refine codeAny_call_function j.depth (D _ _ R) rfl S.co S.gen rfl (ae2 D l)^hb _ _ _ _ ?_;refine ae0 S.kind Y λenv he m x=>?_;subst he;refine#[lim.keeps x.toInCall.keep,codeAny_func ?_];let(t,T,X):=Z A outer s H vs Q E (j.deeper _) c;have I:Inv (dF CX P w K mg base N qual scope f L A outer s H E) [] (start N vs) H m:=ug S j.hd d hl r x;refine aaa (T [] m (start N vs) H _ I X) (λfl h a=>?_) λe h a=>a;have fin:∀{W:St}{H':Hp}{v:V}{u:aA},Inv (dF CX P w K mg base N qual scope f L A outer s H E) [] W H' h->RelV v u->Q v H'->CE outer P w H s Q u h :=
  λ{W H' v u} J i q=>#[v,H',J.os,J.bare,J.base,J.aI,i,q]
 cases fl with
 |ret u =>
  let(v,W,H',J,i,q):=a;exact fin J i q
 |next =>
  let(W,H',J,q):=a;exact fin (v:=V.aC) (u:=ab6) J rfl q
 |brk =>
  let(_,_,_,q):=a;exact aat q
 |cont =>
  let(_,_,_,q):=a;exact aat q
end L2
namespace L2
open PySem PySem.Spec PyProof.Rows
section
variable{X:Cx}{x:ay}{p pos:Pos}{e:ab8}{es:θ ab8}{t:TA}{id T:String}{r:θ V->Hp->VK->Prop}
def tCB(r:θ V->Hp->VK->Prop)(t:TA):TE:=fun J H Q=>t J H λL O=>r L O Q
def gj(i:f7 X (.builtin id) r)(Y:Gl X x)(W:X.mg x=af)(V:acf x=aa^.builtin id)(a:PA X (e::es) t)(hn:x≠"__name__":=by decide)(L:(x==("__debug__":ay))=ai:=by decide)
(Z:Z4 (e::es) X.env=(ai,eval e X.env)::Z4 es X.env:=by rfl)(J:(abH pos^Z4 es X.env).any (·.1)=ai:=by rfl):PE X (.Call (.Name x p) (e::es) [] pos)^tCB r t:=by
 intro U s O H Q I h;refine aaB^jC I Y W V ?_ hn L;exact ada (thn (a pos U s O H _ I h) λc d ⟨b,j,I1,f,g⟩=>i U d O j b c Q I1 f g) Z J
def mY(i:f7 X (.type T) r)(Y:Gl X x)(W:X.mg x=af)(V:acf x=aa^.type T)(a:PA X (e::es) t)(hn:x≠"__name__":=by decide)(L:(x==("__debug__":ay))=ai:=by decide)
(Z:Z4 (e::es) X.env=(ai,eval e X.env)::Z4 es X.env:=by rfl)(J:(abH pos^Z4 es X.env).any (·.1)=ai:=by rfl):PE X (.Call (.Name x p) (e::es) [] pos)^tCB r t:=by
 intro U s O H Q I h;refine aaB^jC I Y W V ?_ hn L;exact aaf (thn (a pos U s O H _ I h) λc d ⟨b,j,I1,f,g⟩=>i U d O j b c Q I1 f g) Z J
end
end L2
namespace HT
open PySem PyProof.Rows
section
open PySem.SeqAt
open PySem.AutoSeq1 (wpAny_loadPart')
open PySem.MeetsSeq PySem.MeetsSeq2 PySem.MeetsSeq3
end
section
variable{prog:ZE}{w:ZW}{A:Z7}{E:aA->Zo->Prop}{s:Zo}
def IS{t b:az}{j i:θ aA}{Q:aA->Zo->Prop}(g:IsTup s.heap t j.toArray)(h:IsTup s.heap b i.toArray)(c:j≠[])
(o:i=[]->Q (.ref t) s)(m:i≠[]->Q (.ref s.heap.objs.size) {s with heap:=s.heap.push {cls:=.type "tuple",data:=.seq (j++i).toArray} })
(Y:j.length+i.length<=ak):av (ZI prog w) A (aa1 .Add (.ref t)^.ref b) Q E s:=by
 let((cls,dd,data,Z),W,l,n,d):=id g;let((f,V,data2,L),J,U,a,O):=id h;simp only at l d U O;subst l d U O;have e:j.toArray++i.toArray=(j++i).toArray:=by simp
 by_cases hw:i=[]
 ·exact concat_meets #[_,W,rfl] #[_,J,rfl] aeC afr acB acw (acq _ _)
   (tuple_addW1 t b j.toArray i.toArray n a dd V Z L (by simpa using c)^by simp[hw]) #[W,J,o hw]
 ·refine concat_meets #[_,W,rfl] #[_,J,rfl] aeC afr acB acw (acq _ _)
   (tuple_addW2 t b j.toArray i.toArray n a dd V Z L (by simpa using c) (by simpa using hw)^by rw[Zx,Zx];exact Y) #[W,J,?_]
  rw[e];exact m hw
def sIx(n d:Nat):ψ Int->Nat
 |none=>d
 |some v=>if v<0 then(v+(n:Int)).toNat else min v.toNat n
def NC(n d:Nat)(L:d<=n)(o:ψ Int):sIx n d o<=n:=by
 cases o with
 |none=>exact L
 |some v =>
  show(if v<0 then(v+n).toNat else min _ n)<=n
  by_cases J:v<0
  refine rwe (bK J) ?_;lia;exact rwe (bL J)^Nat.min_le_right _ _
def Ax(v:Int)(n d:Nat):(if v<0 then max (v+(n:Int)) 0 else min v (n:Int))=((sIx n d^aa v:Nat):Int):=by
 show(if v<0 then max (v+n) 0 else min v _)=(((if v<0 then(v+n).toNat else min _ n):Nat):Int)
 by_cases J:v<0
 simp![bK J];lia;simp![bL J];lia
def yM(lo a:ψ Int)(n:Nat):Builtin.Slice.sliceAdjust lo a 1 (n:Int)=(((sIx n 0 lo:Nat):Int),((sIx n n a:Nat):Int)):=by
 refine aeG ?_ ?_
 ·cases lo with
  |none=>rfl|some v=>exact Ax v n 0
 ·cases a with
  |none=>rfl|some v=>exact Ax v n n
def yN(i j:Nat):abZ (i:Int) (j:Int) 1=j-i:=by unfold abZ;simp![(by lia:(1:Int)>0),if_true,Int.ediv_one];split<;>lia
def rG{v:aA}{o:ψ Int}{Q:ψ Int->Zo->Prop}(p:aeA v o)(h:Q o s):av (ZI prog w) A (Builtin.Slice.slicePartIndex v) Q E s:=by
 cases p with
 |none=>exact slicePart_none h|int i t=>exact slicePart_int h
def kL{a:az}{U O:aA}{lo b:ψ Int}{n:Nat}{Q:Int×Int×Nat->Zo->Prop}(W:s.heap.IsSliceOf a U O .none)(c:aeA U lo)(V:aeA O b)
(h:Q (((sIx n 0 lo:Nat):Int),1,sIx n n b-sIx n 0 lo) s):av (ZI prog w) A (Builtin.Slice.sliceApplied (.ref a)^pure (n:Int)) Q E s:=by
 refine dU (id W) λos J Y L=>(Zn^Zn^adN J L (x:=U) rfl^Zn^adN J L (x:=O) rfl^Zn^adN J L (x:=.none) rfl^Zq^Zn^slicePart_none ?_);refine Zn^rG c^Zn^rG V^Zn^Zq ?_;refine rwe (yM _ _ n) ?_;show av _ _ (pure (((sIx n 0 _:Nat):Int),1,abZ ((sIx n 0 _:Nat):Int) ((sIx n n _:Nat):Int) 1)) _ _ s;rw[yN];exact Zq h
def Ey(a:Array aA)(i k:Nat):((ZG k).filterMap λ(m:Nat)=>a[((i:Int)+(m:Int)*1).toNat]?).toArray=((a.toList.drop i).take k).toArray:=by
 have e:(λ(m:Nat)=>a[((i:Int)+m*1).toNat]?)=λm=>a[i+m]?:=by funext m;exact rwe ((by lia:((i:Int)+m*1).toNat=i+m)) rfl
 refine rwe e ?_;have:=pick_run a i k;rw[List.filterMap_map]at this;rw[(rfl:((λx=>a[x]?) ∘ λx=>i+x)=λm=>a[i+m]?)]at this;exact rwe this rfl
def oG{t j:az}{g:Array aA}{Y W:aA}{lo i:ψ Int}{Q:aA->Zo->Prop}(L:IsTup s.heap t g)(Z:s.heap.IsSliceOf j Y W .none)(m:aeA Y lo)(a:aeA W i)
(hw:¬(sIx g.size 0 lo=0/\sIx g.size g.size i=g.size))
(h:Q (.ref s.heap.objs.size) {s with heap:=s.heap.push {cls:=.type "tuple",data:=.seq ((g.toList.drop^sIx g.size 0 lo).take (sIx g.size g.size i-sIx g.size 0 lo)).toArray} })
(b:g.size<=ak):av (ZI prog w) A (aeS (.ref t)^.ref j) Q E s:=by
 have J:sizeOk^.seq ((g.toList.drop^sIx g.size 0 lo).take (sIx g.size g.size i-sIx g.size 0 lo)).toArray:=by show((g.toList.drop^sIx g.size 0 lo).take (sIx g.size g.size i-sIx g.size 0 lo)).toArray.size<=ak;refine rwe Zx^rwe acJ ?_;refine rwe List.length_drop^rwe Z5 ?_;lia
 have f:sIx _ _ i<=g.size:=NC _ _ (Zw _) _;refine dU (id Z) λos O U c=>?_;have V:s.TypeIs (.ref _) _:=(cY os O U);unfold aeS
 try with_reducible refine Z9 ?_
 first|refine Zn^Zq _|skip
 refine Zn^wpAny_sequenceKey L.typeIs ∅^Zn (abb (name:=ZC _) L.typeIs aaR
  (abJ aaR L.typeIs entry_tuple_getitem ?_^args_tuple_getitem _ _))
 show av _ _ (adl _ >>= _) _ _ s;refine Zn^tupleItemsOf_ L^Zn^acd V^Zn^kL Z m a ?_;show av _ _ (if (((sIx _ 0 _:Nat):Int)==0&&1==1&&(sIx _ _ _ - sIx _ 0 _)==g.size)=ah then _ else _) _ _ s;refine rwe (bL (by
  intro q;rw[Zp,Zp] at q;have e:((sIx _ 0 _:Nat):Int)=0:=bR q.1.1;have d:sIx _ _ _ - sIx _ 0 _=g.size:=bR q.2;exact hw #[(),()])) ?_;rw[Ey]
 first
  |exact Zn^Z8 (Zq^cY _ rfl^Zq h) J
  |exact Zn^Z8 (Zn^Zq^Zq #[_,rfl,_]) _
  |exact Zn^Zn^Z8 (Zq^Zq #[_,rfl,_]) _
  |exact Zn^Zn^Z8 (Zq #[_,rfl,_]) _
end
end HT
namespace L2
open PySem PySem.Spec PyProof.Rows
@[reducible]noncomputable def TO:=St->Hp->(ψ Int->Hp->Prop)->Prop
def PO(X:Cx)(e:ψ ab8)(t:TO):Prop :=
 ∀(L:θ (az×aq)) (s:Zo) (J:St) (H:Hp) (Q:ψ Int->Hp->Prop),Inv X L J H s->t J H Q →
  av (π X.w) X.A (evalPart e X.env) (λu U=>∃o O,Inv X L J O U/\aeA u o/\Q o O) X.xe s
def IT:TO:=λ_ H Q=>Q af H
def RZ(t:TE):TO:=fun J H Q=>t J H λx L=>∃i,x=ω i/\Q (aa i) L
def intsAre_of{b:θ Int}:∀{a:θ aA},dw (b.map V.int) a->acy a b:=by
 induction b with
 |nil=>rintro a ⟨⟩;exact .nil
 |cons n b O =>
  intro a r;cases r with
  |cons L J =>
   let(t,rfl):=L;exact .cons n t^O J
section
variable{X:Cx}{e:ab8}{te:TE}{lo hi:ψ ab8}{tl th:TO}{pos p2:Pos}
def IU:PO X af IT:=λL s J H Q I h=>Zq^dO af H I .none h
def IV(h:PE X e te):PO X (aa e)^RZ te:=by intro L s J H Q I hw;refine thn (h _ s J H _ I hw) λu d ⟨x,c,I1,a,b⟩=>(cX b ?_);rintro i rfl q;let(t,rfl):=a;exact(dO _ c I1 (ω i t) q)
def SlR(X:Cx)(r:V->ψ Int->ψ Int->Hp->VK->Prop):Prop :=
 ∀(L:θ (az×aq)) (s:Zo) (J:St) (H:Hp) (x:V) (v U O:aA) (lo Y:ψ Int) (W:az) (Q:VK),Inv X L J H s->RelV x v->s.heap.IsSliceOf W U O .none->aeA U lo->aeA O Y->r x lo Y H Q →
  ∃T id,typeLookup (.type T) "__getitem__"=pure^aa^.builtin id/\s.TypeIs v T/\av (π X.w) X.A (aeS v^.ref W) (EP X L J Q) X.xe s
def tSl(r:V->ψ Int->ψ Int->Hp->VK->Prop)(te:TE)(tl th:TO):TE:=fun J H Q=>te J H λx U=>tl J U λl O=>th J O λu L=>r x l u L Q
def Ez{r:V->ψ Int->ψ Int->Hp->VK->Prop}(j:SlR X r)(n:PE X e te)(k:PO X lo tl)(g:PO X hi th):PE X (.Subscript e (.Slice lo hi af p2) pos)^tSl r te tl th:=by intro O s L H Q I h;refine afh (thn (n O s L H _ I h) λv Z W=>?_);let(x,z,y,a,d):=W;refine wpAny_Slice (thn (k O Z L z _ y d) λC D ⟨l,H2,I2,F,E⟩=>thn (g O D L H2 _ I2 E) λU J W=>?_);let(u,Y,t,f,c):=W;rw[evalPart_none];refine Zq ?_;have p:Inv X O L Y {J with heap:=J.heap.push {cls:=.type "slice",data:=.fields #v[C,U,.none]} }:=t.aG (t':=J.toks) λb M q=>Zr _ q;let(T,id,o,i,m):=j O {J with heap:=J.heap.push {cls:=.type "slice",data:=.fields #v[C,U,.none]} } L Y x v C U l u J.heap.objs.size Q p a (aed ..) F f c;show av (π X.w) X.A (subscriptTail e (.Slice lo hi af p2) v^.ref J.heap.objs.size) (EP X O L Q) X.xe {J with heap:=J.heap.push {cls:=.type "slice",data:=.fields #v[C,U,.none]} };exact afq (ops:=[.ref J.heap.objs.size,v]) i o m (by with_unfolding_all rfl)
def yO(a:θ V)(lo hi:ψ Int):θ V:=(a.drop^HT.sIx a.length 0 lo).take (HT.sIx a.length a.length hi-HT.sIx a.length 0 lo)
def qw(a:θ V)(lo hi:ψ Int):(yO a lo hi).length<=a.length:=by refine rwe acJ^rwe List.length_drop ?_;lia
def WA(K:Zm):V->ψ Int->ψ Int->Hp->VK->Prop:=λx lo L H Q=>∃a J,x=.ref a/\SqT K H a J ∧
 ¬(HT.sIx J.length 0 lo=0/\HT.sIx J.length J.length L=J.length)/\∀p,H p=af->Q (.ref p)^upd H p^.aB^yO J lo L
def ND:SlR X^WA X.K:=by
 rintro j s σ H x v l k lo hi m Q I d i g f ⟨a,c,rfl,h,hw,q⟩
 cases d;refine dU (I.tuple h) λL r U O=>?_;have J:L.toArray.size=c.length:=by exact r.length.symm
 refine(dO _ _ PyProof.Rows.slot_tuple_getitem.lookup U.typeIs^(HT.oG U i g f (by exact rwe J hw) ?_^by exact rwe J O));refine rwe J #[.ref _,_,I.laid (o:=.aB^yO _ _ _) (λb n q=>Zr _ q) (Zw _) ?_,rfl,q _^I.aI.fresh^Zw _];exact(lU (ZT (qw _ _ _) O) _ ((r.drop^HT.sIx _ 0 _).take (HT.sIx _ _ _-HT.sIx _ 0 _))^IsTup.new _ _)
def R6(K:Zm):R2:=λx y H Q=>∃a b L J,x=.ref a/\y=.ref b/\SqT K H a L/\SqT K H b J/\L≠[]/\L.length+J.length<=ak ∧
 (J=[]->Q (.ref a) H)/\(J≠[]->∀p,H p=af->Q (.ref p)^upd H p^.aB (L++J))
def dw.oH{a:θ V}{b:θ aA}(r:dw a b):b=[]↔a=[]:=by
 cases r with
 |_=>simp
def IW:OpR X (aa1 .Add)^R6 X.K:=by
 rintro l s σ H x y v u Q I f d ⟨a,b,n,m,rfl,rfl,k,j,i,c,h,g⟩
 cases f;cases d;refine dU (I.tuple k) λW L V _=>(dU (I.tuple j) λO J U _=>?_);refine HT.IS V U (λz=>i^L.oH.mp z) (λz=>#[.ref a,H,I,rfl,h^J.oH.mp z]) (λz=>#[.ref _,_,I.laid (o:=.aB _) (λb p q=>Zr _ q) (Zw _) ?_,rfl,g (λw=>z^J.oH.mpr w) _^I.aI.fresh^Zw _]) (by refine rwf L.length ?_;exact rwf J.length c);exact(lU (by exact rwe ZX c) _ (L.append J)^IsTup.new _ _)
end
end L2
namespace L2
open PySem PySem.Spec PyProof.Rows
def ixN(n:Nat)(i:Int):ψ Nat:=if 0<=i then(if i<n then aa i.toNat else af)else if -(n:Int)<=i then aa (i+n).toNat else af
def atI{J:Type}(a:θ J)(i:Int):ψ J:=(ixN a.length i).bind λj=>a[j]?
def Ay{n:Nat}{i:Int}{j:Nat}(h:ixN n i=aa j):seqIndex? i n=aa j/\j<n/\-(n:Int)<=i/\i<n:=by
 unfold ixN at h
 by_cases L:0<=i
 ·rw[bK L]at h
  by_cases J:i<n
  ·rw[bK J]at h;exact#[by rw[seqIndex_of L J,(Zv h)],(),(),J]
  rw[bL J]at h;cases h
 ·rw[bL L]at h
  by_cases J:-n<=i
  ·rw[bK J]at h;exact#[by rw[seqIndex_neg () J,(Zv h)],(),J,()]
  rw[bL J]at h;cases h
def uW{J:Type}{a:θ J}{i:Int}{v:J}(h:atI a i=aa v):∃j,seqIndex? i a.length=aa j/\a[j]?=aa v/\j<a.length/\-(a.length:Int)<=i/\i<a.length:=by
 unfold atI at h;cases e:ixN _ i with
 |none=>rw[e]at h;cases h
 |some j =>
  replace h:=e ▸ h;exact oq (Ay e) λV U O L=>(#[j,V,h,U,O,L])
def Az(b:ab8):Prop:=∀o i,subscripted b ai o i=operate [o,i]^aeS o i
def IxR(X:Cx)(r:R2):Prop :=
 ∀(L J:ab8)(U:θ (az×aq)) (s:Zo) (O:St) (H:Hp) (x y:V) (v u:aA) (Q:VK),Inv X U O H s->RelV x v->RelV y u->r x y H Q →
  subscripted J ai v u=operate [v,u]^aeS v u->av (π X.w) X.A (subscriptTail L J v u) (EP X U O Q) X.xe s
def MtR(X:Cx)(id:String)(r:V->θ V->Hp->VK->Prop):Prop :=
 ∀(L:θ (az×aq)) (s:Zo) (J:St) (H:Hp) (x:V) (O:θ V) (v:aA) (U:θ aA) (Q:VK),Inv X L J H s->RelV x v->dw O U->r x O H Q →
  av (π X.w) X.A (call (.builtin id) (v::U)) (EP X L J Q) X.xe s
section
variable{X:Cx}{a b:ab8}{ta tb:TE}{pos:Pos}
def Mr{r:R2}(Y:IxR X r)(c:PE X a ta)(Z:PE X b tb)(W:Az b):PE X (.Subscript a b pos)^tOp r ta tb:=by intro L s J H Q I h;exact afh (Nl c Z I h λv u O x y e d V U q=>Y a b L O J e x y v u Q d V U q^W _ _)
def WB(K:Zm):R2:=λx y H Q=>∃p J i v,x=.ref p/\y=ω i/\SqL K H p J/\atI J i=aa v/\Q v H
def WC(K:Zm):R2:=λx y H Q=>∃p J i v,x=.ref p/\y=ω i/\SqT K H p J/\atI J i=aa v/\Q v H
def WD:R2:=λx y H Q=>∃z i c,x=.str z/\y=ω i/\z.length<=ak/\atI z.cps.toList i=aa c/\Q (.str #[#v[c]]) H
def AA:IxR X^WB X.K:=by
 intro L O o s Z H x y v u Q I e d h a;let(p,A,i,z,rfl,rfl,f,k,q):=h;cases e;let(t,rfl):=d;refine dU (I.list f) λW r V C=>?_;refine mU (uW k) λj J n D m l=>(cX (r.get n) λw c U=>?_);have g:=r.length;have hn:=pU;have fin:EP X _ Z Q w s:=#[z,H,I,U,q]
 by_cases b:0<=i
 ·have Y:=by rw[seqIndex_of b l]at J;exact Zv J
  exact item_listR V.isList b () (by refine rwe Y ?_;simpa using c) fin a
 ·have Y:(i+W.toArray.size).toNat=j:=by rw[seqIndex_neg () m]at J;refine rwe Zx ?_;exact rwf g^Zv J
  exact subscriptTail_builtinR V.isList.typeIs slot_list_getitem.lookup
   (wpAny_getItem_list_neg (Q:=λr B=>r=w/\EP X _ Z Q r _) V.isList () (by refine rwe Zx ?_<;>lia) () (by refine rwe Y ?_;simpa using c) #[rfl,fin]) a
def NF:IxR X^WC X.K:=by
 intro J L k s V H x y v u Q I Y W h a;let(p,l,i,z,rfl,rfl,b,d,q):=h;cases Y;let(t,rfl):=W;refine dU (I.tuple b) λZ r U n=>?_;refine mU (uW d) λj f e B A o=>(cX (r.get e) λw g O=>?_);have c:=r.length;have hn:=pU;exact subscriptTail_builtinR U.typeIs slot_tuple_getitem.lookup
  (getItem_tuple (Q:=λr m=>r=w/\EP X _ V Q r _) U () () (by refine rwe Zx ?_;exact rwf c f) (by simpa using g) #[rfl,#[z,H,I,O,q]]) a
def NG:IxR X WD:=by
 intro J L e s d H x y v u Q I V U h W;refine jz h ?_;rintro z i c rfl rfl l k q;let(t,rfl):=V;let(f,rfl):=U;refine mU (uW k) λj O b g a Z=>?_;have Y:z.cps.toList.length=z.length:=by simp[Str.length]
 rw[Y] at O a Z;have hn:=pU;exact afq (typeIs_str s z t) slot_str_getitem.lookup (getItem_str (by
  refine rwe (bO ()) ?_;refine rwe ((bO ())) ?_;rw[ab9]) (by refine rwe O ?_;simpa using b) #[.str #[_],H,I.tok _,#[_,rfl],q]) W
def yP(J:θ aA)(n j:Nat)(u:aA):abG (·.setIfInBounds j u) {cls:=.type "list",data:=.seq J.toArray n}={cls:=.type "list",data:=.seq (J.set j u).toArray n}:=by simp[abG]
def Inv.aj{d:θ (az×aq)}{σ:St}{H:Hp}{s:Zo}{p:az}{c:θ V}(I:Inv X d σ H s)(h:H p=aa^.aj c):
 ∃(J:θ aA) (n:Nat),dw c J/\s.heap.get? p=aa {cls:=.type "list",data:=.seq J.toArray n}/\c.length<=ak:=by
 exact nN (I.aI p _ h) λz J n r e=>((dO J n r e z))
def Inv.NH{g:θ (az×aq)}{σ:St}{H:Hp}{s:Zo}{p:az}{j d:θ V}{J c:θ aA}{n L:Nat}{f:aq->aq}(I:Inv X g σ H s)(h:H p=aa^.aj j)
(U:s.heap.get? p=aa {cls:=.type "list",data:=.seq J.toArray n})(O:f {cls:=.type "list",data:=.seq J.toArray n}={cls:=.type "list",data:=.seq c.toArray L})(r:dw d c)(k:d.length<=ak)(t:Nat):
 Inv X g σ (upd H p^.aj d) {s with heap:=s.heap.update p f,toks:=t}:=by
 have e:(s.heap.update p f).get? p=aa {cls:=.type "list",data:=.seq c.toArray L}:=by rw[aad f U (by rw[O]<;>rfl),O]
 refine I.write (x:=p) (e:=p) (by rw[h];trivial) (.inl rfl) (λb u W q=>(aaN _ _^aan W).trans q) #[_,e] ?_;exact#[k,c,L,r,e]
def Ms:V->V->V->Hp->(Hp->Prop)->Prop:=λo i v H Q=>∃p J k j,o=.ref p/\i=ω k/\H p=aa^.aj J/\ixN J.length k=aa j/\Q^upd H p^.aj^J.set j v
def set_list:RC X Ms:=by
 rintro m s σ H o i v x y u Q I g h f ⟨p,w,k,j,rfl,rfl,d,l,q⟩
 cases g;let(t,rfl):=h;refine gK (I.aj d) λL n r O b=>(oq (Ay l) λJ c Y V=>?_);have hn:=pU;have a:Inv X _ σ (upd H p^.aj _) {s with heap:=s.heap.update p^abG _} :=
  I.NH d O (yP _ n j u) (r.set f j) (by exact rwe ZV b) _
 by_cases Z:0<=k
 ·have U:=by rw[seqIndex_of Z V]at J;exact Zv J
  exact PySem.W.ki_setAt O Z () (by refine rwe Zx ?_;exact rwf r.length V) (by exact rwe U #[_,a,q])
 ·have U:(k+L.toArray.size).toNat=j:=by rw[seqIndex_neg () Y]at J;refine rwe Zx ?_;exact rwf r.length^Zv J
  exact PySem.W.ki_setBack O () (by refine rwe Zx ?_;exact rwf r.length Y) () (by exact rwe U #[_,a,q])
def uX(lo c:ψ Int)(n:Nat):(aao lo c af n).1=((HT.sIx n 0 lo:Nat):Int)/\(aao lo c af n).2.1=((HT.sIx n n c:Nat):Int)/\(aao lo c af n).2.2=1:=by
 refine(f6 ?_ ?_ rfl)
 ·cases lo with
  |none=>simp[aao,HT.sIx]
  |some i =>
   simp![aao,HT.sIx,afC,show(1:Int)>0 by decide,if_true]
   by_cases h:i<0
   simp![h,if_true]<;>lia;simp![h,if_false]<;>lia
 ·cases c with
  |none=>simp[aao,HT.sIx]
  |some i =>
   simp![aao,HT.sIx,afC,show(1:Int)>0 by decide,if_true]
   by_cases h:i<0
   simp![h,if_true]<;>lia;simp![h,if_false]<;>lia
def tH(J:θ aA)(lo c:ψ Int):slicePick J.toArray lo c af=((J.drop^HT.sIx J.length 0 lo).take (HT.sIx J.length J.length c-HT.sIx J.length 0 lo)).toArray:=by let(U,O,L):=uX _ _ _;unfold slicePick;refine rwe U ?_;refine rwe O^rwe L ?_;simp![sliceRange_one,pick_run]<;>rfl
def WE(K:Zm):V->ψ Int->ψ Int->Hp->VK->Prop:=λx lo L H Q=>∃a J,x=.ref a/\SqL K H a J/\∀p,H p=af->Q (.ref p)^upd H p^.aj^yO J lo L
def IX:SlR X^WE X.K:=by
 rintro h s σ H x v k j lo n l Q I c g e d ⟨a,i,rfl,f,q⟩
 cases c;refine dU (I.list f) λO r L U=>?_;have J:=r.length;refine(dO _ _ slot_list_getitem.lookup L.isList.typeIs^(afg L.isList g e d .none (by simp) ?_ (by refine rwe Zx ?_<;>lia)));rw[tH];refine rwf J #[.ref _,_,I.laid (o:=.aj^yO _ _ _) (λb m q=>Zr _ q) (Zw _) ?_,rfl,q _^I.aI.fresh^Zw _];exact(lV (ZT (qw _ _ _) U) _ 0 ((r.drop^HT.sIx _ 0 _).take (HT.sIx _ _ _-HT.sIx _ 0 _))^ZH _ rfl)
def k8:f7 X (.builtin "len") (λd H Q=>∃p c,d=[.ref p]/\(SqL X.K H p c\/SqT X.K H p c)/\Q (ω c.length) H):=by
 rintro e s σ H d f Q I r ⟨p,c,rfl,hq,q⟩
 refine cX (vals1 r) ?_;rintro u rfl ⟨⟩;have hn:=pU;rcases hq with hq|hq
 ·let(U,L,O,V):=I.list hq;have J:=L.length;exact Calls.call_len_list O.isList (by simp![Zx]<;>lia) #[ω _,H,I.tok _,#[_,by rw[Zx,J]],q]
 ·let(U,L,O,V):=I.tuple hq;have J:=L.length;exact len_tuple O (by simp![Zx]<;>lia) #[ω _,H,I.tok _,#[_,by rw[Zx,J]],q]
def uY:f7 X (.builtin "len") (λc H Q=>∃z,c=[.str z]/\z.length<=ak/\Q (ω z.length) H):=by
 rintro d s σ H c e Q I r ⟨z,rfl,f,q⟩
 let(u,rfl,t,rfl):=vals1 r;have hn:=pU;exact len_str () #[ω _,H,I.tok _,#[_,rfl],q]
def oJ:f7 X (.type "list") (λh H Q=>∃p f,h=[.ref p]/\(SqL X.K H p f\/SqT X.K H p f)/\∀l,H l=af->Q (.ref l)^upd H l^.aj f):=by
 rintro j s σ H h k Q I r ⟨p,f,rfl,hq,q⟩
 refine cX (vals1 r) ?_;rintro u rfl ⟨⟩;have fin:∀(J:θ _),dw _ _->f.length<=ak->∀(O:au)(Y:Nat),(∀b d,s.heap.get? b=aa _->O.get? b=aa _) →
  O.get? _=aa {cls:=.type _,dict:=af,data:=.seq _ _,slots:=#v[]}->EP X _ σ Q (.ref _) {s with heap:=O}:=λJ L V O Y U e =>
  #[.ref _,_,I.laid U (Zw _) (show jh _ _ _ _ _^.aj _ from(lV V J Y L e)),rfl,q _^I.aI.fresh^Zw _]
 rcases hq with hq|hq
 ·let(J,L,Z,V):=I.list hq;have W:=L.length;let(o,a,g,n,c):=Z.isList;exact call_list_seq p (.inl rfl) a g c (λO Y U e=>fin _ L V _ _ U e) (by simp![Zx]<;>lia)
 ·let(J,L,Z,V):=I.tuple hq;have W:=L.length;let(o,a,g,n,c):=Z;exact call_list_seq p (.inr rfl) a g c (λO Y U e=>fin _ L V _ _ U e) (by simp![Zx]<;>lia)
def nF:f7 X (.type "tuple") (λd H Q=>∃p c,d=[.ref p]/\((SqL X.K H p c/\∀l,H l=af->Q (.ref l)^upd H l^.aB c)\/(SqT X.K H p c/\Q (.ref p) H))):=by
 rintro g s σ H d i Q I r ⟨p,c,rfl,h⟩
 refine cX (vals1 r) ?_;rintro u rfl ⟨⟩;rcases h with⟨U,q⟩|⟨U,q⟩
 ·refine dU (I.list U) λJ L O V=>?_;have W:=L.length;refine call_tuple_list O.isList (λa Z=>?_) (by simp![Zx]<;>lia);have Y:Inv X _ σ H {s with heap:=a}:=I.aG Z;exact#[.ref _,_,(Y.laid (λb o e=>Zr _ e) (Zw _) (show jh _ _ _ _ _^.aB _ from(lU V J L^IsTup.new _ _))),rfl,q _^Y.aI.fresh^Zw _]
 exact dU (I.tuple U) λJ L O V=>(call_tuple_same O #[.ref p,H,I,rfl,q])
def tyV(K:Zm)(T:String)(x:V)(H:Hp):Prop:=match x with
 |.str _=>T="str"|.int _=>T="int"|.ref p=>(T="list"/\∃L,SqL K H p L)\/(T="tuple"/\∃o,K.lookup p=aa o/\o.cls=.type "tuple"/\o.dict=af) ∨
  (T="dict"/\((∃J,H p=aa^.dK J)\/∃J,H p=aa^.dT J))\/(T="set"/\∃S n,H p=aa^.set S n)
 |_=>False
def yQ{h:θ (az×aq)}{σ:St}{H:Hp}{s:Zo}{T:String}{x:V}{v:aA}(I:Inv X h σ H s)(r:RelV x v)(f:tyV X.K T x H):
 s.TypeIs v T/\∀a,v=.ref a->∃g,s.heap.get? a=aa g/\g.dict=af:=by
 cases x with
 |str z =>
  let(t,rfl):=r;cases (show T="str" from f);exact#[typeIs_str s z t,λ_ e=>nomatch e]
 |int i =>
  let(t,rfl):=r;cases (show T="int" from f);exact#[typeIs_int s i t,λ_ e=>nomatch e]
 |ref p =>
  cases r;rcases f with⟨rfl,Z,Y⟩|⟨rfl,o,J,j,O⟩|⟨rfl,J⟩|⟨rfl,S,n,J⟩
  ·refine dU (I.list Y) λW _ U _=>#[U.isList.typeIs,λa e=>?_];cases e;exact mV U λo n e c O _=>((cY o e O))
  ·refine#[(cY o (I.kIn p o J) j),λa e=>?_];cases e;exact(cY o (I.kIn _ o J) O)
  ·let(o,e,d):=(by
    rcases J with⟨L,J⟩|⟨L,J⟩
    ·let(_,_,_,_,o,_,_,e,d,_):=I.aI p _ J;exact#[o,e,d]
    ·let(_,_,_,_,o,_,_,e,d,_):=I.aI p _ J;exact #[o,e,d]:∃ o,s.heap.get? p=aa o/\o.ExactDict)
   refine#[(cY o e d.1),λa e2=>?_];cases e2;exact(cY o e d.2.1)
  ·refine wj (I.aI p _ J) λo _ _ _ e d _=>#[(cY o e d.1),λa e2=>?_];cases e2;exact(cY o e d.2.1)
 |_=>exact aat f
def WG(K:Zm)(T:String)(r:V->θ V->Hp->VK->Prop)(c:TE):TE:=fun L H Q=>c L H λx J=>tyV K T x J/\r x [] J Q
def tBM(K:Zm)(T:String)(r:V->θ V->Hp->VK->Prop)(c:TE)(t:TA):TE:=fun J H Q=>c J H λx L=>tyV K T x L/\t J L λO U=>r x O U Q
variable{o e:ab8}{es:θ ab8}{to:TE}{t:TA}{name:ay}{apos cpos:Pos}{T id:String}{r:V->θ V->Hp->VK->Prop}
def NI(b:PlainAttrs T)(O:Slot T name id)(U:typeOf^.builtin id=pure^.type "method_descriptor")(d:MtR X id r)(c:PE X o to)
(L:ac6 o name X.env^eval o X.env=eval o X.env:=by rfl)(J:(apos.endLine==cpos.line)=ah:=by rfl):PE X (.Call (.Attribute o name apos) [] [] cpos)^WG X.K T r to:=by
 intro g s V H Q I h;refine wpAny_Call_method0_late L J (thn (c _ s V H _ I h) λv i Z=>?_);let(x,j,Y,W,k,a):=Z;exact uxA (yQ Y W k) λf e=>(#[T,id,b,O,U,f,e,acM rfl^PySem.evalArgs_none^d _ _ V _ x _ v [] Q Y W .nil a])
def EA(g:PlainAttrs T)(U:Slot T name id)(Y:typeOf^.builtin id=pure^.type "method_descriptor")(k:MtR X id r)(j:PE X o to)(l:PA X (e::es) t)
(O:ac6 o name X.env^eval o X.env=eval o X.env:=by rfl)
(V:((abH cpos^Z4 (e::es) X.env).all (λx=>!x.1)&&(afv cpos^adQ [] X.env).all (λx=>x.1.isSome)
 &&decide ((e::es).length+([]:θ aex).length+(if ([]:θ aex).isEmpty then 0 else 1) < 30))=ah:=by rfl)
(L:(apos.endLine==cpos.line)=ah:=by rfl)(i:Z4 (e::es) X.env=(ai,eval e X.env)::Z4 es X.env:=by rfl)(J:(abH cpos^Z4 es X.env).any (·.1)=ai:=by rfl):
 PE X (.Call (.Attribute o name apos) (e::es) [] cpos)^tBM X.K T r to t:=by
 intro p s W H Q I h;refine wpAny_Call_method_late O V L rfl (thn (j _ s W H _ I h) λv q d=>?_);let(x,u,c,Z,y,f):=d;refine uxA (yQ c Z y) λn m=>(#[T,id,g,U,Y,n,m,?_]);have b:=l cpos _ _ W _ _ c f;rw[i]at b⊢;exact acM (by refine rwe J ?_<;>rfl)^ab1 (thn b λw C ⟨B,H2,I2,z,A⟩=>k _ _ W _ x _ v w Q I2 Z z A)
/- xs.append(e),list.index on a module's tuple .. are MtR facts of 06m -/
end
end L2
namespace L2
open PySem PySem.Spec PyProof.Rows
def MtM(X:Cx)(id:String)(r:V->θ V->Hp->VK->Prop):Prop :=
 ∀(L:θ (az×aq)) (s:Zo) (J:St) (H:Hp) (x:V) (O:θ V) (v:aA) (U:θ aA) (Q:VK),Inv X L J H s->RelV x v->dw O U->r x O H Q →
  av (π X.w) X.A (call (.builtin id) (v::U)) (EP X L J Q) X.xe s
def dw.one{x:V}{a:θ aA}(h:dw [x] a):∃u,a=[u]/\RelV x u:=by cases h with|cons r t=>cases t;exact#[_,rfl,r]
def dw.two{x y:V}{a:θ aA}(h:dw [x,y] a):∃u v,a=[u,v]/\RelV x u/\RelV y v:=by cases h with|cons r t=>let(v,rfl,q):=dw.one t;exact#[_,v,rfl,r,q]
theorem dw.zero:∀{a:θ aA},dw [] a->a=[]
 |_,.nil=>rfl
def dw.dropLast{a:θ V}{b:θ aA}(h:dw a b):dw a.dropLast b.dropLast:=by
 induction h with
 |nil=>exact .nil
 |cons r t J =>
  cases t with
  |nil=>exact .nil|cons q L=>exact .cons r J
theorem dw.rep{a:θ V}{b:θ aA}(h:dw a b):∀k:Nat,dw (ZN k a).flatten (ZN k b).flatten
 |0=>.nil
 |k+1=>by exact dw.append h^dw.rep h k
def yR{J:Type}(l:θ J):l.eraseIdx (l.length-1)=l.dropLast:=by
 induction l with
 |nil=>rfl
 |cons a r L =>
  cases r with
  |nil=>rfl
  |cons b r =>
   refine rwe ((by
    have U:(a::b::r).length=r.length+2:=rfl;have O:(b::r).length=r.length+1:=rfl;lia:(a::b::r).length - 1=((b::r).length - 1)+1)) ?_;refine rwe List.eraseIdx_cons_succ^rwe L ?_
   all_goals rfl
theorem foldl_rep(L:θ aA):∀(k:Nat)(J:θ aA),
 adb (λb a=>b++a) J.toArray^ZN k L.toArray=(J++(ZN k L).flatten).toArray
 |0,J=>by simp
 |k+1,J=>by
  rw[← (by
   refine rwe abB ?_;refine rwe adK ?_;rw[aay]:(J++L)++(ZN k L).flatten=J++(ZN (k+1) L).flatten),← foldl_rep _ k _,← (by simp:J.toArray++L.toArray=(J++L).toArray),abB,aa2]
section
variable{X:Cx}{zt:θ (az×aq)}{σ:St}{H:Hp}{s:Zo}{l b:az}{xs ys zs:θ V}
def Inv.IY{J its':θ aA}{n:Nat}{f:Array aA->Array aA}{c:Nat}(I:ξ H s)(W:H l=aa^.aj xs)
(e:s.heap.get? l=aa {cls:=.type "list",data:=.seq J.toArray n})(U:f J.toArray=its'.toArray)(L:dw ys its')(d:ys.length<=ak):
 Inv X zt σ (upd H l^.aj ys) {s with heap:=s.heap.update l^abG f,toks:=c}:=by
 have q:=PySem.IsL.update e f;rw[U]at q;refine I.write (by exact rwe W trivial) (.inl rfl) (λY u V O=>(aaN _ _^aan V).trans O) #[_,q] ?_;exact(lV d its' _ L q)
def Inv.R8{J:θ aA}{t':Nat}(I:ξ H s)(L:dw ys J)(c:ys.length<=ak):
 Inv X zt σ (upd H s.heap.objs.size^.aj ys) {s with heap:=s.heap.push {cls:=.type "list",data:=.seq J.toArray},toks:=t'} :=
 I.laid (λ_ _ q=>Zr _ q) (Zw _)^lV c J 0 L^ZH _ rfl
def Inv.fresh(I:ξ H s):H s.heap.objs.size=af:=I.aI.fresh^Zw _
def Inv.IZ(I:ξ H s)(L:H l=aa^.aj xs):xs.length<=ak/\∃(J:θ aA) (n:Nat),dw xs J/\xs.length=J.length/\s.heap.get? l=aa {cls:=.type "list",data:=.seq J.toArray n}:=by exact nN (I.aI l _ L) λz J n r e=>(#[z,J,n,r,r.length,e])
def rH{n:Nat}(h:n<=ak):abk n=ai:=by exact bO ()
end
section
variable{X:Cx}
def Ja:V->θ V->Hp->VK->Prop:=λx L H Q=>∃l J y,x=.ref l/\L=[y]/\H l=aa^.aj J/\J.length<ak/\Q .aC^upd H l^.aj (J++[y])
def uh:MtM X "list.append" Ja:=by
 rintro f s σ H x h v i Q I b c ⟨l,g,y,rfl,rfl,a,j,q⟩
 cases b;refine cX c.one ?_;rintro u rfl d;refine uT (I.IZ a) λz J n r L e=>(abx F.slot_list_append (cY _ e rfl) F.entry_list_append (F.args_list_append_2 _ _) (PySem.list_append l _ n u^by refine rwe Zx ?_;lia) #[e,#[.aC,_,I.IY a e (by simp) (r.append^.cons d .nil) ?_,rfl,q]]);refine rwe ZX^rwe abV ?_;lia
def WH:V->θ V->Hp->VK->Prop:=λx L H Q=>∃l J y,x=.ref l/\L=[]/\H l=aa^.aj J/\J[J.length-1]?=aa y/\Q y^upd H l^.aj J.dropLast
def NJ:MtM X "list.pop" WH:=by
 rintro f s σ H x h v i Q I b c ⟨l,g,y,rfl,rfl,a,d,q⟩
 cases b;have O:=c.zero;subst O;refine uT (I.IZ a) λz J n r W e=>(cX (r.get d) λu V U=>?_);have L:J.toArray[J.toArray.size-1]?=aa u:=by show J.toArray[J.length-1]?=aa u;refine rwf aeY ?_;exact rwf W V
 refine abx F.slot_list_pop (cY _ e rfl) F.entry_list_pop (F.args_list_pop_1 _) (MeetsSeq.list_pop_last l _ n u L^by refine rwe Zx ?_;lia) #[e,#[y,_,I.IY a e ?_ r.dropLast ?_,U,q]];refine rwe Zx ?_;rw[List.eraseIdxIfInBounds_toArray,yR]
 ·refine rwe List.length_dropLast ?_;lia
def len_rep{J:Type}(a:θ J)(k:Nat):(ZN k a).flatten.length=k*a.length:=by
 induction k with
 |zero=>simp|succ k L=>refine rwe abB ?_;refine rwe adK ?_;rw[ZX,L,Nat.succ_mul,Nat.add_comm]
end
section
variable{prog:ZE}{w:ZW}{A:Z7}{E:aA->Zo->Prop}{s:Zo}
set_option maxRecDepth 100000 in
end
section
variable{X:Cx}
end
end L2
namespace Att
open PySem PySem.W PySem.Calls PyProof.Rows
def qG{P:Params}{h:au}:∀(c:θ Int)(d:θ aA),WellAll P h d^c.map WData.int->acy d c:=by
 intro c
 induction c with
 |nil =>
  rintro d ⟨⟩
  exact .nil
 |cons n c J =>
  intro d w;cases w with
  |cons a b =>
   cases a;exact .cons _ _^J _ b
def Cw{l:OpenLaw}{n:Nat}(hn:l.most=aa n){P:Params}{h:au}{e:θ WData}{f:θ aA}
(J:l.row.toRowW.claim.pre e=ah)(V:WellAll P h f e):
 ∃a i g,f=[aaJ a]/\e=[WData.list^g.map WData.int]/\h.get? a=aa {cls:=.type "list",data:=.seq i.toArray}/\acy i g/\g.length<=n:=by
 have W:WShape.hasAll [] _ [.list _]=ah:=(pre_splitW J).1;have j:l.pre.holds [] _=ah:=(pre_splitW J).2;refine gK (hasAllW_cons W) ?_;rintro d r rfl o m;obtain rfl:=hasAllW_nil m;refine cX (hasW_list o) ?_;rintro p rfl k;let(g,rfl):=items_int k;have L:g.length<=n:=by
  have U:=condW_of (by
   have Y:=(holds_andW j).1;replace Y:=hn ▸ Y;exact Y)^w_not^w_lt w_lit^w_len_list^w_arg rfl
  rw[ZA]at U;refine Nat.le_of_not_lt λq=>?_
  first
   |(rw[bP ()]at U;exact bM U ∅)
   |(simp at U)
 cases V with
 |cons b Z =>
  cases Z;cases b with
  |list c O=>exact(fL _ _ g rfl rfl c (qG _ _ O) L)
def Cy(l:OpenLaw)(a:θ WData):l.row.toRowW.claim.post a (.bool ah) a=ah :=
 postW_of
  (by first|rfl|decide|simp[WShape.arms])
  (w_eq_bool (w_res rfl) w_lit) rfl
def wK{l:OpenLaw}{n:Nat}{q:ZE}{E:θ ay}{R:(ay->ψ aA)->au->Prop}{Q:ZW->au->Prop}{d:DefRec}
(hn:l.most=aa n)(h:d.params.defaults=[])
(call:∀ (w:ZW) (N J:Zo) (K c:ay->ψ aA) (Z:az) (o:aq) (b M O:aA) (a:az) (F:θ aA) (I:θ Int),
  Ground q E [] R w N K c J.heap->Q w J.heap →
  J.heap.get? Z=aa o->o.data=.func^docDef d.name d.params d.body d.scope b M O->J.heap.CodeRec M d.name->K d.name=aa (.ref Z) →
  J.heap.get? a=aa {cls:=.type "list",data:=.seq F.toArray}->acy F I->I.length<=n->J.gens=#v[] →
  ao (ZI l.prog w) aft (.call (.ref Z) #[[.ref a],[]]) (λr H=>r=.ok^.ret^.bool ah/\OldK J.heap H.heap/\H.os=J.os/\adW H.gens) J):
 WalkO q E R Q l.row.toRowW d [] (λf F=>afz f F):=by
 intro w N J K c G Y Z o b M O C kV t y i k g x m P D U j p e v;obtain rfl:C=.none:=Dflts.none k h;obtain rfl:kV=.none:=Dflts.noKw k;let(a,F,I,rfl,rfl,V,L,W):=Cw hn U e;refine enter_call (codeAny_mono (call w N J K c Z o b M O a F I G Y t (fd_plain y) i g V L W x) λr H s=>?_);let(rfl,B,A,z):=s;exact#[.inl #[.bool ah,.bool ah,[],rfl,λ_=>rfl,.bool ah,Cy l _,λ_=>#[List.Pairwise.nil,λ_ u=>(nomatch u)]],B,A,z]
section
variable{prog:ZE}{w:ZW}{A:Z7}{E:aA->Zo->Prop}{s:Zo}{K:Frag}
def ledger(h:au)(L d:az):θ (az×aq):=(ZG h.objs.size).filterMap λa=>if a=L\/a=d then af else(h.get? a).map λo=>(a,o)
end
end Att
namespace L2
open PySem PySem.Spec PyProof.Rows
theorem mZ:∀{a:θ aA}{b:θ Int},acy a b->dw (b.map V.int) a
 |_,_,.nil=>.nil|_,_,.cons n t h=>.cons #[t,rfl]^mZ h
end L2
namespace L2
open PySem PySem.Spec PyProof.Rows
@[reducible]noncomputable def KOf{K:Zm}{h:au}(_:K.In h):Zm:=K
end L2
/- THE LAST THEOREM (shape;LID,My.* are yours):
 My.Adr: a structure of the addresses that your layer names (classes,functions);My.Txt K t: a structure (Prop) of the equations over K;
 My.txt_mk:{K}{implicit addresses ..} (e1:nsIn K ZL "law"=aa^aa^.ref f) (e2:K.lookup f=aa #[oc,od,.func^fnOf "law" "law" params body scope dV kV doc pm an cdv ct,sl]) (e3:codeIn K cdv "law"=ah) ..:∃t,My.Txt K t
set_option maxRecDepth 100000 in
set_option maxHeartbeats 0 in
def PySem.Challenge.Jb:PySem.Challenge.rw_LID.Holds:=by
 w_on;o_law;k_head;(case hw=>w_witness2)
 k_fill
 refine L2.walk_of (l:=PySem.Challenge.rw_LID) (n:=63) (k:=40) (x:="script") (CX:=λw=>..) (sp:=λ_=>My.HY) rfl ∅ rfl #[rfl,∅,∅] (λw h Y=>PySem.W.kIn_of Y) ?F ?S ?C
 case F =>
  intro w g d h c G Z;have T:∃t,My.Txt (L2.KOf c) t:=by
   dsimp only[L2.KOf] -- K must stand as «<heap const> w.params» for k_is;refine' My.txt_mk ?e1 ?e2 ?e3 ..
   (case e1=>PySem.W.k_is) -- in J order: a name->its address->its object->its parts
   (case e2=>PySem.W.k_is)
   ..
  let(t,T):=T;have e:=Z.symm.trans^aai c G T.law;cases e -- d is J law's own address;exact#[_,λs u=>.of_eq rfl,λL V U=>My.law_fn T V U] -- if «.of_eq rfl» comes too early: refine' #[_,?b,λL V U=>My.law_fn T V U];exact λs u=>.of_eq rfl
 case S=>exact λw H a f i m j=>..
 case C=>exact ..
(J O k_is has no namespace: write k_is) -/
namespace L2
open PySem PySem.Spec PyProof.Rows
@[reducible]noncomputable def CX0:CXT:=λ_ _ _ _ _ _=>False
@[reducible]noncomputable def E0:XK:=λ_ _ _=>False
def rJ{X:Cx}:jc CX0 X E0:=λ_ _ _ _ _ _ _ h=>h.elim
inductive Sa(K:Zm)(x qual:ay)(st:ade)(f:az)(fd:aap):Prop
 |mk(V:aA)(O:ψ az)(kV L W:aA)(U:ψ az)(J ct:aA)(osl:Array^ψ aA)(h1:fd=aaF x qual (g9 st) (dg st) (cV st) .none kV L W U J ct)(h2:K.lookup f=aa #[V,O,.func fd,osl])(Y:acj K J qual=ah):Sa K x qual st f fd
structure Fun(K:Zm)(x qual:ay)(st:ade)(f:az)(fd:aap):Prop where
 ex:Sa K x qual st f fd
 kp:Z2 K^.ref f=ah
section
variable{P:ZE}{w:ZW}{K:Zm}{mg:ay->ψ aA}{base:au}
def Fun.binds{x a:ay}{st:ade}{f:az}{e:aap}{c:θ ay}(F:Fun K x a st f e)
(h:∀(kV J O:aA)(U:ψ az)(L d:aA)(b:θ aA),b.length=c.length->afu (aaF x a (g9 st) (dg st) (cV st) .none kV J O U L d) #[b,[]]=pure^c.zip b):Binds K e c []:=by
 let(Y,W,kV,J,O,U,L,d,osl,rfl,Z,V):=F.ex;exact .all^h kV J O U L d
def NK{x a:ay}{st:ade}{f:az}{W:aA}{V U:ψ az}{osl:Array^ψ aA}{kV L O J b:aA}(l:K.lookup f=aa #[W,V,.func^aaF x a (g9 st) (dg st) (cV st) .none kV L O U J b,osl])
(c:acj K J a=ah)(k:Z2 K^.ref f=ah):Fun K x a st f^aaF x a (g9 st) (dg st) (cV st) .none kV L O U J b:=#[#[W,V,kV,L,O,U,J,b,osl,rfl,l,c],k]
end
def Cz{n:Nat}(h:n<=1000):n<ak:=Nat.lt_of_le_of_lt h ∅
section
variable{X:Cx}
end
end L2
end
section
namespace L2
open PySem PySem.Spec PyProof.Rows
section
variable{κ:Type}[DecidableEq κ]
def wL(a:θ (κ×V))(k:κ):ψ V:=(a.find? λJ=>decide (J.1=k)).map (·.2)
def putK(a:θ (κ×V))(k:κ)(v:V):θ (κ×V) :=
 if(a.any λJ=>decide (J.1=k))=ah then a.map (λJ=>if J.1=k then(J.1,v)else J)else a++[(k,v)]
def wM{p:κ×V}{r:θ (κ×V)}{k:κ}(e:p.1=k):wL (p::r) k=aa p.2:=by simp[wL,e]
def wN{p:κ×V}{r:θ (κ×V)}{k:κ}(e:¬p.1=k):wL (p::r) k=wL r k:=by simp[wL,e]
def KV.val{a:θ (κ×V)}{c:θ (κ×aA)}(r:KV a c)(k:κ):tE (wL a k)^aa8 c k:=by
 induction r with
 |nil=>exact abE
 |@cons p q Y J h t U =>
  refine uxA h λO W=>?_
  by_cases e:p.1=k
  ·have L:=O.symm.trans e;have b:aa8 (q::J) k=aa q.2:=by simp[aa8,L]
   refine rwe (wM e) ?_;exact rwe b W
  ·have L:¬q.1=k:=λz=>e^O.trans z;have b:aa8 (q::J) k=aa8 J k:=by simp[aa8,L]
   refine rwe (wN e) ?_;exact rwe b U
end
def EB{P:ZE}{w:ZW}{k:Key}{u:aA}(r:RelV (kV k) u):(eN P w).is k u=ah:=by
 cases k with
 |inl i=>let(t,rfl):=(r);exact wm P w i t|inr x=>let(t,rfl):=(r);exact j4 P w x t
section
variable{P:ZE}{w:ZW}{H:Hp}{h:au}{a:az}
def Sb{u:HO}(b:HOk P w H h)(e:Rd H a u):jh P w H h a u:=e.ok b
def Sd{b:θ (Key×V)}(d:HOk P w H h)(e:Rd H a^.dK b):b.length<=ak/\(a==ab3)=ai/\∃c,KV b c/\h.DictOf (eN P w) a c :=
 Sb d e
end
section
variable{X:Cx}{zt:θ (az×aq)}{σ:St}{H:Hp}{s:Zo}{a:az}{y v:V}{u r:aA}{o:ψ V}{A:Z7}{E:aA->Zo->Prop}
end
end L2
end
section
namespace BT
open PySem PySem.W PyProof.Rows
def Ends{J:Type}(n:Nat)(P:J->Prop):KasT J->Prop
 |.ret a=>P a|.ask i j k=>i<n/\j<n/\∀b,Ends n P^k b
end BT
end
section
namespace BS
open PySem PySem.W PySem.Spec PyProof.Rows
section
variable{E:aA->Zo->Prop}
end
end BS
end
section
namespace BX
open PySem PyProof.Rows
def Ri(c:Array Nat):Prop:=∀i j a b:Nat,i<j->c[i]?=aa a->c[j]?=aa b->a<b
def EC(h:Ri m)(j:Nat):∀(J lo l:Nat),lo<=l->l<=m.size->l-lo<=J->(∀i a,i<lo->m[i]?=aa a->a<j)->(∀i a,l<=i->m[i]?=aa a->j<=a) →
 (∀i a,i<SetTable.below.go m j J lo l->m[i]?=aa a->a<j)/\(∀i a,SetTable.below.go m j J lo l<=i->m[i]?=aa a->j<=a)/\SetTable.below.go m j J lo l<=m.size:=by
 intro J
 induction J with
 |zero =>
  intro lo l g V f U O;have:lo=l:=()
  subst this;exact(f6 U O V)
 |succ J Z =>
  intro lo l g V f U O
  by_cases c:lo<l
  ·have b:(lo+l)/2<m.size:=()
   have Y:m[(lo+l)/2]?=aa m[(lo+l)/2]:=aae b;have k:m.getD ((lo+l)/2) j=m[(lo+l)/2]:=by simp[Array.getD,b]
   refine rwe ((by
    show (if lo < l then _ else lo)=_;exact rwe (bK c) rfl:SetTable.below.go m j (J+1) lo l=if m.getD ((lo+l) / 2) j < j then SetTable.below.go m j J ((lo+l) / 2+1) l else SetTable.below.go m j J lo ((lo+l) / 2))) ?_;refine rwe k ?_
   by_cases d:m[(lo+l)/2]<j
   ·refine rwe (bK d)^Z _ _ () V () (λi a W L=>?_) O;rcases ZR i _ with z|z
    have:=h i _ a _ z L Y;lia
    ·have:i=(lo+l)/2:=()
     subst this;replace L:=Y ▸ L;cases L;exact d
   ·refine rwe (bL d)^Z _ _ () () () U (λi a W L=>?_);rcases ZR _ i with z|z
    have:=h _ i _ a z Y L;lia
    ·have:i=(lo+l)/2:=()
     subst this;lia
  ·have e:SetTable.below.go m j (J+1) lo l=lo:=by show(if lo<l then _ else lo)=_;exact rwe (bL c) rfl
   have:lo=l:=()
   subst this;exact rwe e^(f6 U O V)
def nQ(h:Ri m)(j:Nat):(∀i a,i<SetTable.below m j->m[i]?=aa a->a<j)/\(∀i a,SetTable.below m j<=i->m[i]?=aa a->j<=a)/\SetTable.below m j<=m.size :=
 EC h j _ 0 _ (aax _) (Zw _) () (λi a z=>bM z^aet _) (λi a z e=>by replace e:=((aaD z)) ▸ e;cases e)
def oF(a:Array α)(b:p<=a.size)(x:α)(i:Nat):(SetTable.insertAt a p x)[i]?=if i<p then a[i]? else if i=p then aa x else a[i-1]?:=by
 have J:((a.extract 0 p).push x).size=p+1:=by simp;lia
 by_cases c:i<p
 ·refine rwe (bK c)^rwe (aek ()) ?_;refine rwe afe ?_;refine rwe (bL^by simp;lia)^rwe aeK ?_;lia
 ·refine rwe (bL c) ?_
  by_cases d:i=p
  ·subst d;refine rwe (bK rfl)^rwe (aek ()) ?_;refine rwe afe ?_;exact rwe (bK^by simp;lia) rfl
  ·refine rwe (bL d)^rwe (Array.getElem?_append_right ()) ?_;refine rwe J^rwe aeK ?_;simp;split;congr 1;lia
   ·symm
    exact aaD ()
def NL(h:Ri u)(hn:u[SetTable.below u j]?≠aa j):Ri^SetTable.insertAt u (SetTable.below u j) j:=by
 refine jk (nQ h j) λd c l=>?_;intro i k a b U J L;rw[oF u l]at J L;generalize SetTable.below _ j=p at *
 by_cases Z:k<p
 rw[bK Z]at L;rw[bK ()]at J;exact h i k a b U J L
 ·replace L:=(bL Z) ▸ L
  by_cases Y:k=p
  ·replace L:=(bK Y) ▸ L;cases L;rw[bK ()]at J;exact d i a () J
  ·replace L:=(bL Y) ▸ L;have g:=(λi a f e=>by
    have:=c i a f e;rcases ZR j a with z|z
    exact z
    ·have:a=j:=()
     subst this;rcases ZR p i with q|q
     ·cases O:u[p]? with
      |none =>
       have:u.size<=p:=by
        rcases ZR p _ with w|w
        replace O:=(aae w) ▸ O;cases O;exact w
       rw[aaD ()]at e;cases e
      |some y =>
       have n:=h p i y a q O e;have m:=c p y (Zw _) O;lia
     ·have:i=p:=()
      subst this;exact bM e hn:∀ i a,p<=i->u[i]?=aa a->j < a) _ b () L
   by_cases V:i<p
   ·rw[bK V]at J;have:=d i a V J;lia
   ·rw[bL V]at J
    by_cases W:i=p
    replace J:=(bK W) ▸ J;cases J;exact g;replace J:=(bL W) ▸ J;exact h _ _ a b () J L
def ED(n:Nat):Ri^Array.range n:=by
 intro i j a b O L J;rw[Array.getElem?_range]at L J;split at L
 ·split at J;cases L;cases J;exact O;cases J
 cases L
def Jc{l:θ Nat}(h:l.Pairwise (· < ·)):Ri l.toArray:=by intro i j a b J O L;simp![ae5]at O L;let(V,rfl):=List.getElem?_eq_some_iff.mp O;let(U,rfl):=List.getElem?_eq_some_iff.mp L;exact List.pairwise_iff_getElem.mp h i j _ _ J
structure Tb(bt:Bool)(t:SetTable):Prop where
 led:t.led=!bt
 ri:Ri t.place
def EE(c:Bool):Tb c^SetTable.fresh 0 0 (!c):=#[rfl,λi j a b _ e=>by simp[SetTable.fresh]at e]
def oK(h:Tb m t)(n:Nat):Tb m^SetTable.standIn t n:=#[h.led,ED n]
def Fre(t:SetTable)(j:Nat):Prop:=t.place[SetTable.below t.place j]?≠aa j
def wO(h:t.slot j=.empty\/t.slot j=.dummy):Fre t j:=by
 intro z;rw[(by
  unfold SetTable.slot;simp[z]:t.slot j=.live^SetTable.below t.place j)] at h
 rcases h with h|h<;>cases h
def EF(t:SetTable)(g:Nat->Int)(h:Int):∀(J:Nat)(p:SetTable.Probe)(j:Nat)(d:ψ Nat),(∀x,p.dummy=aa x->Fre t x)->SetTable.probe.go t g h J p=aa^.empty j d->Fre t j/\∀x,d=aa x->Fre t x:=by
 intro J
 induction J with
 |zero=>rintro p j d _ ⟨⟩
 |succ J U =>
  intro p j d V e;have W:SetTable.probe.go t g h (J+1) p=(match t.slot _ with
   |.empty=>aa^.empty _ _|.dummy=>SetTable.probe.go t g h _ (SetTable.advance t {p with dummy:=aa _})
   |.live i=>if(g i==h)=ah then aa^.candidate _ i _ else SetTable.probe.go t g h _ _
   ):=rfl
  rw[W]at e;have O:∀q,(SetTable.advance t q).dummy=q.dummy:=λq=>by unfold SetTable.advance;split<;>rfl
  cases s:t.slot _ with
  |empty =>
   replace e:=s ▸ e;cases e;exact#[wO^.inl s,V]
  |dummy =>
   replace e:=s ▸ e;exact U _ j d (λx L=>by rw[O]at L;cases L;exact wO^.inr s) e
  |live i =>
   replace e:=s ▸ e;simp only at e;split at e;cases e;exact U _ j d (λx L=>by rw[O]at L;exact V x L) e
def EG(e:SetTable.freeSlot t h=aa (j,b)):Fre t j:=by
 unfold SetTable.freeSlot at e;split at e
 ·rename_i V d L;cases e;refine uxA (EF t _ h _ _ _ d (λx J=>by simp[SetTable.probeStart]at J) L) λU O=>?_;cases d with
  |none=>exact U|some x=>exact O x rfl
 cases e
def NN(h:Tb m t)(a:Array (Int×aA))(k:Int)(x:aA):Tb m (layNew t a k x).2.1:=by
 unfold layNew;split
 ·rename_i J O e;have L:Tb _ (SetTable.put t _).1:=#[h.led,NL h.ri^EG e];simp only;unfold SetTable.orStandIn;split;exact L;exact oK L _
 exact oK h _
def EI{c:Bool}(h:Tb c t)(d:Array (Int×aA))(n:Nat):Tb c (relayAll t d n).2.1:=by
 unfold relayAll;split
 ·rename_i U L e;have Y:Tb c U:=by
   unfold SetTable.relaid SetTable.laid at e;cases g:SetTable.layClean _^d.map _ with
   |none=>replace e:=g ▸ e;cases e
   |some J =>
    replace e:=g ▸ e;cases e;refine#[h.led,Jc ?_];rw[List.pairwise_map];refine List.Pairwise.filterMap _ (λa b O x W y V=>(cX (Option.map_eq_some_iff.mp W) ?_)) List.pairwise_lt_range;rintro _ _ rfl;refine cX (Option.map_eq_some_iff.mp V) ?_;rintro _ _ rfl;exact O
  simp only;split;exact Y;exact oK h _
 exact oK h _
section
variable{prog:ZE}{w:ZW}{A:Z7}{E:aA->Zo->Prop}{s:Zo}
def tK(prog:ZE)(w:ZW)(b:Bool)(h:au)(a:az)(S:Int->Bool)(n:Nat):Prop :=
 ∃o J L t,h.get? a=aa o/\o.ExactSet/\o.data=.set J L t/\ElemsOf (intKind prog w) J.toList/\(∀k,S k=ah↔∃e∈J.toList,(intKind prog w).is k e.2=ah)/\J.size<ace/\t.fits J.size=ah/\J.size=n/\Tb b t
def Zd{g:Bool->Sem Unit}(O:∀(b:Bool)(J:Zo)(Q:Unit->Zo->Prop),Q Unit.unit J->av (ZI prog w) A (g b) Q E J){b:Bool}{L:Type}{f:Unit->Sem L}{Q:L->Zo->Prop}(h:av (ZI prog w) A (f Unit.unit) Q E s):av (ZI prog w) A (g b >>= f) Q E s :=
 Zn^O b s _ h
def add_int{S:Int->Bool}(hs:tK prog w bt s.heap a S n)(hn:n+1<ace)
(y:∀b h',aaq a s.heap h'->tK prog w bt h' a (λW=>S W||decide (W=k)) (if S k=ah then n else n+1)->Q b {s with heap:=h'}):
 av (ZI prog w) A (setAddHashed a (ω k tk)^(intKind prog w).hash k) Q E s:=by
 let(o,d,ep,t,v,Y,x,H,F,hb,T,rfl,ht):=hs;have R:=intKind_is prog w k tk;refine Z9 ?_;rw[setAddHashedIn.eq_def];refine Zn^aa7 v x T ?_;simp only;refine rwe (bK^byScan_of (knd:=intKind prog w) rfl hb H)^Zn ?_;refine Zn^ael^Zn ?_;refine wpAny_setScanFrom_of (knd:=intKind prog w) R v x T d.toList 0 H ?_;cases g:d.toList.findIdx? λe=>(intKind prog w).is k e.2 with
 |some j =>
  have G:S k=ah:=by refine cX (List.findIdx?_eq_some_iff_getElem.mp g) λhj l _=>?_;exact(F k).mpr^cY _ (acK hj) l
  refine Zq^Zq^y _ _ (ac2 _ _) ?_;refine rwe (bK G)^#[o,d,ep,t,v,Y,x,H,λW=>?_,hb,T,rfl,ht];rw[←F W]
  by_cases c:W=k
  subst c;simp[G];simp[c]
 |none =>
  have G:¬S k=ah:=λz=>by refine cX ((F k).mp z) λe l B=>?_;have:=List.findIdx?_eq_none_iff.mp g e l;replace this:=B ▸ this;cases this
  replace y:=(bL G) ▸ y;have K:=layNew_fits t d ((intKind prog w).hash k)^ω k tk;have q2:=layNew_perm t d ((intKind prog w).hash k)^ω k tk;have I:=NN ht d ((intKind prog w).hash k)^ω k tk;generalize layNew t d ((intKind prog w).hash k)^ω k tk=r at K q2 I⊢;let(J,L,C,gv):=r;have i:J.toList.Perm (d.toList++[((intKind prog w).hash k,ω k tk)]):=by simpa using q2
  have sz:J.size=d.size+1:=by simpa using i.length_eq
  have e1:=(H.push R rfl).perm i;have P:=mem_push_iff R F i;have X:J.size<ace:=()
  have fin:av (ZI prog w) A (ad4 a J L >>= λ_=>if(!C&&L.tooFull)=ah then(match relayAll L J^SetTable.grown J.size with|(U,f,V)=>(match V with|true=>rule "set.scan.the-table-gave-way" |false=>pure Unit.unit) >>= λ_=>ad4 a U f >>= λ_=>pure^aa ah)else pure^aa ah)
   (λZ u=>av (ZI prog w) A (match Z with|some O=>pure O|none=>ae8 a (.int k tk) ((intKind prog w).hash k) 99999) Q E u) E s:=by
   refine uxA (SetOf_store v Y x e1 P X K) λob _=>?_;refine Zn (wpAny_storeSet_of v x ?_^by exact rwe sz^ab4 hn)
   by_cases c:(!C&&L.tooFull)=ah
   ·refine rwe (bK c) ?_;have D:=relayAll_fits L J^SetTable.grown J.size;have p:=relayAll_perm L J^SetTable.grown J.size;have M:=EI I J^SetTable.grown J.size;generalize relayAll L J^SetTable.grown J.size=r at D p M⊢;let(U,f,V):=r;simp only at D p M⊢;have q:U.size=d.size+1:=by have:=p.length_eq;simp at this;lia
    have e2:=e1.perm p;have m2:∀W,(S W||decide (W=k))=ah↔∃e∈U.toList,(intKind prog w).is W e.2=ah:=λW=>(P W).trans #[λ⟨e,l,B⟩=>(cY e (p.mem_iff.mpr l) B),λ⟨e,l,B⟩=>(cY e (p.mem_iff.mp l) B)];have nx:av (ZI prog w) A (ad4 a U f >>= λ_=>pure^aa ah) (λZ u=>av (ZI prog w) A (match Z with|some O=>pure O|none=>ae8 a (.int k tk) ((intKind prog w).hash k) 99999) Q E u) E {s with heap:=s.heap.update a^Obj.putSet J L}:=by refine uxA (SetOf_store (h:=s.heap.update a^Obj.putSet J L) ob (f6 Y.1 Y.2.1 Y.2.2) rfl e2 m2 () D) λN _=>?_;refine Zn (wpAny_storeSet_of (s:={s with heap:=s.heap.update a^Obj.putSet J L}) ob rfl ?_^by exact rwe q^ab4 hn);exact Zq^Zq^y ah _ ((aac ..).trans (aac ..))^#[_,U,_,f,N,(f6 Y.1 Y.2.1 Y.2.2),rfl,e2,m2,(),D,q,M]
    refine Zn ?_;cases V with
    |true=>exact ael nx|false=>exact Zq nx
   exact rwe (bL c)^Zq^Zq^y ah _ (aac ..)^#[_,J,_,L,ob,(f6 Y.1 Y.2.1 Y.2.2),rfl,e1,P,X,K,sz,I]
  refine Zn ?_;have nx:av (ZI prog w) A (if L.plain=ah then hashByValue 8^ω k tk >>= λm=>ad4 a J (if m=ah then L else { L with plain:=ai }) >>= λ_=>if (!C&&(if m=ah then L else { L with plain:=ai }).tooFull)=ah then (match relayAll (if m=ah then L else { L with plain:=ai }) J^SetTable.grown J.size with | (U,f,V)=>(match V with | true=>rule "set.scan.the-table-gave-way" | false=>pure Unit.unit) >>= λ_=>ad4 a U f >>= λ_=>pure^aa ah) else pure^aa ah else
   (pure ah >>= λm=>ad4 a J (if m=ah then L else { L with plain:=ai }) >>= λ_=>if (!C&&(if m=ah then L else { L with plain:=ai }).tooFull)=ah then (match relayAll (if m=ah then L else { L with plain:=ai }) J^SetTable.grown J.size with | (U,f,V)=>(match V with | true=>rule "set.scan.the-table-gave-way" | false=>pure Unit.unit) >>= λ_=>ad4 a U f >>= λ_=>pure^aa ah) else pure^aa ah))
   (λZ u=>av (ZI prog w) A (match Z with|some O=>pure O|none=>ae8 a (.int k tk) ((intKind prog w).hash k) 99999) Q E u) E s:=by
   by_cases c:L.plain=ah
   exact rwe (bK c)^Zn^Zq fin;exact rwe (bL c)^Zn^Zq fin
  cases gv with
  |true=>exact ael nx|false=>exact Zq nx
end
section
variable{prog:ZE}{w:ZW}{A:Z7}{E:aA->Zo->Prop}{R:adt->Zo->Prop}
def EJ(E:A.handled=af){S:az}(Q:acy items.toList ns)(L:S≠P)(n:S≠l)(j:P≠l)(I:items.size+1<ace):
 ∀(k i:Nat)(s:Zo),items.size-i=k->i<=items.size->s.heap.IsListIter P l i->s.heap.IsList l items->tK prog w bt s.heap S (λJ=>(aa0 (λi=>ns.getD i 0) i).any (·==J)) (aa0 (λi=>ns.getD i 0) i).length →
  (∀M N,(∀b o,b≠S->b≠P->s.heap.get? b=aa o->M.get? b=aa o)->tK prog w bt M S (λJ=>(aa0 (λi=>ns.getD i 0) items.size).any (·==J)) (aa0 (λi=>ns.getD i 0) items.size).length->R (.ok^.ret .none) {s with heap:=M,toks:=N}) →
  ao (ZI prog w) A (.builtin "set.update.loop" #[[.ref S,.ref P],[]]) R s:=by
 intro k
 induction k with
 |zero =>
  intro i s D m u a r q;have:i=items.size:=()
  subst this;refine codeAny_builtin F.entry_set_update_loop^rwe (aaZ F.plain_set_update_loop _) ?_;refine Zn (wpAny_pyNext_list_end (A:=A.in1) E u a (aaD^Zw _) λM W=>?_);refine Zq^q M s.toks (λb o _ U e=>W b o U e) ?_;exact qM r λo x y t v d=>(#[o,x,y,t,W S o L v,d])
 |succ k C =>
  intro i s D m u a r q;have Y:i<items.size:=()
  have W:items[i]?=aa items[i]:=aae Y;let(N,T):=Q.int_at i items[i] (by simpa using W);refine codeAny_builtin F.entry_set_update_loop^rwe (aaZ F.plain_set_update_loop _) ?_;refine Zn (wpAny_pyNext_list_item u a W λM v d=>(rwe T ?_));have p:tK prog w bt M S (λJ=>(aa0 (λi=>ns.getD i 0) i).any (·==J)) (aa0 (λi=>ns.getD i 0) i).length:=by exact qM r λo x y t g f=>(#[o,x,y,t,(d.2 S L).trans g,f])
  have H:(aa0 (λi=>ns.getD i 0) i).length<=i:=firstMet_length_le _ _;refine Zn^Z9 ?_;refine Z9^Zn^wpAny_pyHash_int (add_int (bt:=bt) (s:={s with heap:=M,toks:=s.toks+1}) p () λb O z k2=>?_);have h:tK prog w bt O S (λJ=>(aa0 (λi=>ns.getD i 0) (i+1)).any (·==J)) (aa0 (λi=>ns.getD i 0) (i+1)).length:=by
   refine rwe ((by
    funext J;rw[firstMet_succ,step_any]:(λJ=>(aa0 (λi=>ns.getD i 0) (i+1)).any (·==J))=λJ=>(aa0 (λi=>ns.getD i 0) i).any (·==J)||decide (J=ns.getD i 0))) ?_;rw[firstMet_succ,step_length]
   exact k2
  have V:∀c o,c≠S->c≠P->s.heap.get? c=aa o->O.get? c=aa o:=λc o Z U e=>(z.2 c Z).trans^(d.2 c U).trans e;refine Zq #[plainId_quiet F.plain_set_update_loop _,C (i+1) {s with heap:=O,toks:=s.toks+1} () Y ?_ ?_ h λG B g f=>(q _ _ (λc o Z U e=>g c o Z U^V c o Z U e) f)];exact cX v λo e1 e2=>((cY o ((z.2 _^aan L).trans e1) e2));exact cX a λo e1 e2=>((cY o (V l o (aan n) (aan j) e1) e2))
end
section
variable{prog:ZE}{w:ZW}{A:Z7}{E:aA->Zo->Prop}{s:Zo}
def oM(h:Q (w.params.followText "set-order") s):av (ZI prog w) A setsByText Q E s:=by exact Zn^wpAny_askSetting^Zq h
def EK{S:az}(d:A.handled=af)(J:s.heap.IsList l items)(q:acy items.toList ns)(g:items.size+1<ace)(V:S≠l)
(L:s.heap.get? S=aa {cls:=.type "set",data:=.set #v[] 0^SetTable.fresh 0 0 (!w.params.followText "set-order")})
(j:∀n p,(∀b o,b≠S->s.heap.get? b=aa o->n.get? b=aa o)->tK prog w (w.params.followText "set-order") n S (λc=>(aa0 (λi=>ns.getD i 0) items.size).any (·==c)) (aa0 (λi=>ns.getD i 0) items.size).length->R (.ok^.ret .none) {s with heap:=n,toks:=p}):
 av (ZI prog w) A.in1 (Builtin.«set.__init__» #[[.ref S,.ref l],[]])
  (λfin m=>match fin with|.done f=>R (.ok f) m|.again u=>u.quiet=ah/\ao (ZI prog w) A u R m) (λe m=>R (.error e) m) s:=by
 have h:s.TypeIs (.ref S) "set":=(cY _ L rfl);refine Zn^Zq ?_;dsimp only;refine Zn ?_;refine Zn^Zn^acd h ?_;refine rwe (bL ∅)^Zq ?_;refine Zq ?_;refine Zn^Zq^Zn^Zq^Zn^Zn^aa7 L rfl rfl^Zq ?_;refine rwe (bL^aah)^Zn^Zn ?_;have W:s.TypeIs _ _:=J.typeIs;refine Zn^aci (b:=ai) W (isSubtype_of_subB^by decide +kernel) ?_;refine aci (b:=ai) W (isSubtype_of_subB^by decide +kernel)^Zn^acd W^Zn^wpAny_pyIter_list J^Zn^wpAny_runValue ?_;have Z:=Zy L;have O:∀b o,s.heap.get? b=aa o->(s.heap.push {cls:=.type "list_iterator",data:=.fields #v[.ref l,ω 0 0]}).get? b=aa o:=λb o e=>Zr _ e;refine EJ (bt:=w.params.followText "set-order") (A:=A.in1) d q (ZS Z) V (abj^by exact cX J λo e _=>(Zy e)) g _ 0 _ rfl (aax _) (eH _ (ZH _ rfl) rfl rfl) ?_ ?_ λn p a k2=>?_;exact cX J λo e r=>((cY o (O _ _ e) r));refine#[_,_,0,_,O _ _ L,(f6 rfl rfl rfl),rfl,λe U=>(by simp at U),λk=>#[λz=>by simp[firstMet_zero]at z,λ⟨e,U,_⟩=>by simp at U],∅,rfl,by simp[firstMet_zero],EE _];refine Zq^Zq^j _ _ (λb o Y e=>a b o Y (ZS^Zy e)^O b o e) k2
def Jd(v:aA)(h:Q₁ (.ref s.heap.objs.size) {s with heap:=s.heap.push {cls:=.type "set",data:=.set #v[] 0^SetTable.fresh 0 0 (!w.params.followText "set-order")} }):
 ao (ZI prog w) A (.call (.builtin "set.__new__") {pos:=[.type "set",v]}) (wants Q₁ E) s:=by
 refine ack (by decide +kernel) PySem.F.entry_set_new ?_;rw[PySem.F.newCall_set_1];refine Zq^Zn^Zq ?_;exact Zn^Zn^oM (Z8 (Zq h)^by size_fits)
def EL(f:A.handled=af)(W:s.heap.IsList l items)(x:acy items.toList ns)(g:items.size+1<ace)
(k:∀q t,tK prog w (w.params.followText "set-order") q s.heap.objs.size (λO=>(aa0 (λi=>ns.getD i 0) items.size).any (·==O)) (aa0 (λi=>ns.getD i 0) items.size).length->(∀b o,s.heap.get? b=aa o->q.get? b=aa o)->Q (.ref s.heap.objs.size) {s with heap:=q,toks:=t}):
 av (ZI prog w) A (call (.type "set") [.ref l]) Q E s:=by
 have Z:l<s.heap.objs.size:=by let(o,e,_):=W;exact Zy e
 have V:∀b o,s.heap.get? b=aa o->(s.heap.push {cls:=.type "set",data:=.set #v[] 0^SetTable.fresh 0 0 (!w.params.followText "set-order")}).get? b=aa o:=λb o e=>Zr _ e;have Y:(s.heap.push {cls:=.type "set",data:=.set #v[] 0^SetTable.fresh 0 0 (!w.params.followText "set-order")}).get? s.heap.objs.size=aa {cls:=.type "set",data:=.set #v[] 0^SetTable.fresh 0 0 (!w.params.followText "set-order")}:=ZH _ rfl;refine acS^codeAny_of_tree ?_;show av _ _ (pure^Fin.again^.builtin "type.__call__" #[[.type "set",.ref l],[]]) _ _ s;refine Zq #[afD _^by decide +kernel,codeAny_builtin PySem.F.entry_type_call ?_];rw[Around.under_plain (weight_type_call_type "set" [.ref l] []) rfl];unfold Builtin.«type.__call__»;dsimp only;rw[bL^by rw[PySem.F.called_set.notType];exact aah];rw[bL^by rw[PySem.F.called_set.canCreate];exact aah];rw[PySem.F.typeCall_set_1];refine Zn^Zq ?_;let(c,tl,d):=PySem.F.called_set.mro;rw[d];refine Zn^Zq ?_;rw[bL^by simp];rw[PySem.F.called_set.made];refine Zn^Zq ?_;refine Zn^Zq ?_;refine Zn^Z9^acS ?_;refine codeAny_mono (Jd (E:=E) (Q₁:=λu J=>u=.ref s.heap.objs.size/\J={s with heap:=s.heap.push {cls:=.type "set",data:=.set #v[] 0^SetTable.fresh 0 0 (!w.params.followText "set-order")} }) _ #[rfl,rfl]) λr n h=>?_;cases r with
 |error e=>exact h
 |ok m =>
  cases m with
  |ret v =>
   let(rfl,rfl):=(show _/\_ from h);have U:({s with heap:=s.heap.push {cls:=.type "set",data:=.set #v[] 0^SetTable.fresh 0 0 (!w.params.followText "set-order")} }:Zo).TypeIs (.ref s.heap.objs.size) "set":=#[_,Y,rfl];refine Zn^aci (b:=ah) U PySem.F.called_set.sub ?_;rw[bL ∅];refine Zn^Z9^abb U PySem.F.slot_set_init^acS ?_;have L:∀R:adt->Zo->Prop,(∀q t,(∀b o,b≠s.heap.objs.size->(s.heap.push {cls:=.type "set",data:=.set #v[] 0^SetTable.fresh 0 0 (!w.params.followText "set-order")}).get? b=aa o->q.get? b=aa o)->tK prog w (w.params.followText "set-order") q s.heap.objs.size (λO=>(aa0 (λi=>ns.getD i 0) items.size).any (·==O)) (aa0 (λi=>ns.getD i 0) items.size).length->R (.ok^.ret .none) {s with heap:=q,toks:=t}) →
    ao (ZI prog w) A.in1 (.call (.builtin "set.__init__") #[[.ref s.heap.objs.size,.ref l],[]]) R {s with heap:=s.heap.push {cls:=.type "set",data:=.set #v[] 0^SetTable.fresh 0 0 (!w.params.followText "set-order")} }:=λR j =>
    ack (by decide +kernel) PySem.F.entry_set_init^check_set_init_1 U^EK (prog:=prog) (w:=w) (s:={s with heap:=s.heap.push {cls:=.type "set",data:=.set #v[] 0^SetTable.fresh 0 0 (!w.params.followText "set-order")} }) (A:=A.in1) f (let ⟨o,e,r⟩:=W;#[o,V _ _ e,r]) x g (abj Z) Y j
   refine L _ λq t a k2=>?_;show av _ _ (if(ab6 != ab6)=ah then _ else PySem.ret^.ref s.heap.objs.size) _ _ _;rw[bL ∅];exact Zq (k q t k2 λb o e=>a b o (ZS^Zy e)^V b o e)
  |_=>exact h
end
def oO:Slot "set_iterator" (ZC "__next__") "set_iterator.__next__":=Slot.of (owner:="set_iterator") (n:="__next__") (by kernel_rfl) (by kernel_rfl) (by kernel_rfl) (by kernel_rfl) (.inl^by kernel_rfl) (by kernel_rfl) (by decide +kernel)
def wQ:entryFor table "set_iterator.__next__"=aa Builtin.«set_iterator.__next__»:=by kernel_rfl
def yS:entryFor table "set.__iter__"=aa Builtin.«frozenset.__iter__»:=by kernel_rfl
def AB(a:aA):argsOk "set_iterator.__next__" {pos:=[a]}:=by kernel_rfl
def itO(first:aA)(i n b:Nat)(a:az):aq:={cls:=.type "set_iterator",data:=.fields #v[first,ω i 0,.ref a,ω n 0,ω b 0]}
def slotAt(a:Array Nat):Nat->Nat
 |0=>0
 |i+1=>match a[i]? with
  |some j=>j+1|none=>0
inductive Md(w:ZW)(h:au)(a:az)(es:Array (Int×aA))(ep:Nat)(t:SetTable):aA->θ aA->Nat->Prop
 |A{z:Int}{i:Nat}(J:w.params.followText "set-order"=ah):Md w h a es ep t (ω z 0) ((acU (w.params.setOrder a ep) es).toList.map (·.2)) i
 |B{T:az}{pl:θ Nat}{i:Nat}(J:h.IsTuple T (pl.map λ(p:Nat)=>ad8 p 0).toArray)(hp:∀p∈pl,p<es.size):Md w h a es ep t (.ref T) (pl.filterMap λp=>es[p]?.map (·.2)) i
 |C{i:Nat}(L:w.params.followText "set-order"=ai)(J:(!t.plain&&decide (es.size>1))=ai)(O:Tb ai t):Md w h a es ep t (ω (slotAt t.place i) 0) (es.toList.map (·.2)) i
structure NX(w:ZW)(h:au)(it a:az)(ord:θ aA)(i:Nat):Prop where
 ex:∃o es ep t first,h.get? a=aa o/\o.data=.set es ep t/\t.fits es.size=ah/\h.get? it=aa (itO first i es.size ep a)/\Md w h a es ep t first ord i
def Md.at(m:Md w h a H I t first ord i)(k:∀b o,(∃xs n,o.data=.seq xs n)->h.get? b=aa o->u.get? b=aa o):Md w u a H I t first ord i:=by
 cases m with
 |A J=>exact .A J
 |B V O =>
  exact qX V λo e c n d=>(.B (pS o (k _ o (uS _ n d) e) c n d) O)
 |C J U L=>exact .C J U L
theorem gk(f:α->ψ β):∀(l:θ α),(∀x∈l,(f x).isSome=ah)->∀i:Nat,(l.filterMap f)[i]?=(l[i]?).bind f
 |[],_,i=>by simp
 |x::l,h,i=>by
  refine uxE (Option.isSome_iff_exists.mp^h x ZF) λy J=>?_;refine rwe Z6^rwe J ?_;cases i with
  |zero=>simp[J]|succ i=>simpa using gk f l (λz L=>h z^Zz _ L) i
section
variable{prog:ZE}{w:ZW}{A:Z7}{E:aA->Zo->Prop}{s:Zo}
def wR{t:SetTable}{n i:Nat}(h:Ri t.place)(hn:t.place.size=n)(b:i<n):SetTable.below t.place^slotAt t.place i=i/\∃j,t.place[i]?=aa j/\slotAt t.place (i+1)=j+1:=by
 refine jk (nQ h^slotAt t.place i) λV U a=>?_;have L:t.place[i]?=aa t.place[i]:=aae ();refine(lU ?_ (t.place[i]) L (by show(match t.place[i]? with|some j=>j+1|none=>0)=_;exact rwe L rfl));have lo:∀k v,k<i->t.place[k]?=aa v->v<slotAt t.place i:=λk v W ev=>by
  cases i with
  |zero=>lia
  |succ i =>
   have J:t.place[i]?=aa t.place[i]:=aae ();refine rwe ((by show(match t.place[i]? with|some j=>j+1|none=>0)=_;exact rwe J rfl:slotAt t.place (i+1)=t.place[i]+1)) ?_;rcases ZR k i with z|z
   have:=h k i v _ z ev J;lia
   ·have:k=i:=()
    lia
 have O:slotAt t.place i<=t.place[i]:=by
  cases i with
  |zero=>exact aax _
  |succ i =>
   have J:t.place[i]?=aa t.place[i]:=aae _;refine rwe ((by show(match t.place[i]? with|some j=>j+1|none=>0)=_;exact rwe J rfl:slotAt t.place (i+1)=t.place[i]+1)) ?_;have:=h i (i+1) _ _ (aav _) J L;lia
 rcases Nat.lt_trichotomy (SetTable.below t.place^slotAt t.place i) i with z|z|z
 ·have J:t.place[SetTable.below _^slotAt _ i]?=aa t.place[SetTable.below t.place^slotAt t.place i]:=aae _;have Z:=lo _ _ z J;have Y:=U _ _ (Zw _) J;lia
 exact z
 ·have:=V i _ z L;lia
def EM{t:SetTable}{n:Nat}(h:Ri t.place)(hn:t.place.size=n):n<=SetTable.below t.place^slotAt t.place n:=by
 refine jk (nQ h^slotAt t.place n) λU L O=>?_;cases n with
 |zero=>exact aax _
 |succ n =>
  have J:t.place[n]?=aa t.place[n]:=aae _;have e:slotAt t.place (n+1)=t.place[n]+1:=by show(match t.place[n]? with|some j=>j+1|none=>0)=_;exact rwe J rfl
  rcases ZR n^SetTable.below _ _ with z|z
  exact z
  ·have:=L n _ z J;lia
def EN{h:au}{J:az}{first L:aA}{i n b:Nat}{a:az}(e:h.get? J=aa (itO first i n b a)):((h.update J (aaG λx=>x.setIfInBounds 0 L)).update J (aaG λx=>x.setIfInBounds 1^ω ((i:Int)+1) 0)).get? J=aa^itO L (i+1) n b a:=by refine rwe ((aad (aaG λx=>x.setIfInBounds 1^ω (i+1) 0) (aad (aaG λx=>x.setIfInBounds 0 L) e rfl) rfl)) ?_;rfl
def Je{h:au}{J:az}{first:aA}{i n b:Nat}{a:az}(e:h.get? J=aa (itO first i n b a)):(h.update J (aaG λx=>x.setIfInBounds 1^ω ((i:Int)+1) 0)).get? J=aa (itO first (i+1) n b a):=by refine rwe ((aad (aaG λx=>x.setIfInBounds 1^ω (i+1) 0) e rfl)) ?_;rfl
def EO(J:s.heap.get? a=aa o)(O:o.data=.set m u t)(L:t.fits m.size=ah)(U:w.params.followText "set-order"=ah)
(h:Q ((acU (w.params.setOrder a u) m)[g]?.map λe=>(e.2,sl)) s):av (ZI prog w) A (setNext a sl g u) Q E s:=by
 refine Zn^aa7 J O L^Zn^oM ?_;refine rwe (bK U)^rwe (bL^by simp) ?_;refine Zn^Zn^aa7 J O L^Zn^oM ?_;exact rwe (bK U)^Zn^wpAny_askSetting^Zq^Zq h
def ER(O:s.heap.get? a=aa o)(V:o.data=.set m ep t)(U:t.fits m.size=ah)(W:w.params.followText "set-order"=ai)
(J:(!t.plain&&decide (m.size>1))=ai)(L:Tb ai t)(h:Q (match m[SetTable.below t.place sl]?,t.place[SetTable.below t.place sl]? with|some (_,x),aa j=>aa (x,j+1)|_,_=>af) s):av (ZI prog w) A (setNext a sl g ep) Q E s:=by
 refine Zn^aa7 O V U^Zn^oM ?_;refine rwe W^rwe (bL aah) ?_;show av _ _ (if(!t.plain&&decide _)=ah then _ else _) _ _ s;refine rwe J ?_;refine rwe (bL aah)^Zn ?_;show av _ _ (if(!t.led&&!m.isEmpty)=ah then unsupported _ else pure _) _ _ s;refine rwe L.led ?_;exact Zq^Zq h
def NO(J:s.heap.get? a=aa o)(U:o.data=.set m u t)(L:t.fits m.size=ah)(O:m[p]?=aa e)(h:Q e.2 s):av (ZI prog w) A (setNextDrawn a p u) Q E s:=by refine Zn^aa7 J U L ?_;dsimp only;refine rwe (bL^by simp) ?_;exact rwe O^Zq h
def Jf{J a:az}{ord:θ aA}{i:Nat}{x:aA}{Q:PySem.Fin->Zo->Prop}(N:NX w s.heap J a ord i)(Z:J≠a)(W:ord[i]?=aa x)(v:∀h',NX w h' J a ord (i+1)->aaq J s.heap h'->Q (.done (.ret x)) {s with heap:=h'}):
 av (ZI prog w) A (Builtin.«set_iterator.__next__» {pos:=[.ref J]}) Q E s:=by
 refine iX N.ex λo d h t first Y c O L m=>?_
 have keep:∀{h':au},aaq J s.heap h'->∀b o,(∃D n,o.data=Data.seq D n)->s.heap.get? b=aa o->h'.get? b=aa o:=λ{h'} V b ob r e=>(V.2 b (λz=>by subst z;replace e:=L ▸ e;cases e;refine qE r ?_;rintro D n ⟨⟩)).trans e
 refine Zn^Zq^Zn^wpAny_fieldsOf L rfl ?_;refine Zn^adM Y c O^rwe (bL^by simp) ?_;cases m with
 |@A z _ g =>
  have P:(acU (w.params.setOrder a h) d)[i]?.map (λe=>(e.2,z.toNat))=aa (x,z.toNat):=by rw[ZP]at W;refine cX (Option.map_eq_some_iff.mp W) λe e1 e2=>?_;refine rwe ((by simpa using e1:(acU (w.params.setOrder a h) d)[i]?=aa e))^rwf e2 ?_;rfl
  refine Zn^EO Y c O g ?_;refine rwe P^Zn^abf L rfl (by simp)^Zn^abf (aad _ L rfl) rfl (by simp) ?_;have V:aaq J s.heap^(s.heap.update J (aaG λy=>y.setIfInBounds 0^ω (z.toNat:Int) 0)).update J (aaG λy=>y.setIfInBounds 1^ω ((i:Int)+1) 0):=(aac ..).trans (aac ..);exact Zq^v _ #[#[o,d,h,t,_,(V.2 a^aan Z).trans Y,c,O,EN L,.A g]] V
 |@B T k _ G F =>
  have r:∀p∈k,((λp:Nat=>d[p]?.map (·.2)) p).isSome=ah:=λp M=>by simp[(F p M)]
  rw[gk _ k r]at W;refine cX (Option.bind_eq_some_iff.mp W) λp e1 e2=>(cX (Option.map_eq_some_iff.mp e2) ?_);rintro e e3 rfl;refine qX (id G) λoT S g2 nT R=>?_;refine Zn^wpAny_seqItems S R ?_;have X:((k.map λ(p:Nat)=>ad8 p 0).toArray)[i]?=aa^ω p 0:=by simp[e1]
  dsimp only;rw[aa5];refine rwe X ?_;refine Zn^NO Y c O (by rw[aa5];exact e3)^Zn^abf L rfl (by simp) ?_;exact Zq^v _ #[#[o,d,h,t,_,((aac ..).2 a^aan Z).trans Y,c,O,Je L,((Md.B (i:=i+1) G F).at (keep (aac ..)))]] (aac ..)
 |C g f l =>
  have hn:=by unfold SetTable.fits at O;simp![Zp,bU]at O;exact O.1
  replace W:=ZP ▸ W;refine cX (Option.map_eq_some_iff.mp W) λe e1 e2=>?_;have U:=by simpa using e1
  have u:i<d.size:=by
   rcases ZR i _ with q|q
   exact q;replace U:=(aaD q) ▸ U;cases U
  refine jB (wR l.ri hn u) λK j I H=>?_;subst e2;refine Zn^ER Y c O g f l ?_;rw[aa5,K];refine rwe U ?_;refine rwe I^Zn^abf L rfl (by simp)^Zn^abf (aad _ L rfl) rfl (by simp) ?_;have V:aaq J _^(s.heap.update _ (aaG λy=>y.setIfInBounds 0^ω ((j+1:Nat)) 0)).update _ (aaG λy=>y.setIfInBounds 1^ω (i+1) 0):=(aac ..).trans (aac ..);refine Zq^v _ #[#[o,d,h,t,_,(V.2 a^aan Z).trans Y,c,O,EN L,?_]] V;exact rwf H^.C g f l
def uZ{first:aA}{i n ep:Nat}{a:az}(O:A.handled=af)(J:aaq m u s.heap)(d:∃o b,s.heap.get? m=aa o/\o.data=.fields b/\b.size=5)(Y:f<5)
(V:∀c e,afo m u c->(∃o,c.get? e=aa o/\o.cls=.type "StopIteration")->E (.ref e) {s with heap:=c}):
 av (ZI prog w) A (setField (.ref m) f .none >>= λ_=>newExc (.type "StopIteration") [] >>= λe=>(raiseNew e:Sem PySem.Fin)) Q E s:=by
 refine gK d λo b L U W=>(Zn^abf L U ()^Zn ?_);refine Zn (Z8 (Zn^wpAny_of_eq (a:=ab6) (by first|rfl|(simp![firstArgMember])) (Z8 (Zn^wpAny_handled ?_)^by size_fits))^by size_fits);exact rwe O^wpAny_throw^V _ _ (((J.trans (aac ..)).extBut.push _).push _)^cY _ (ZH _ rfl) rfl
def NP{W a:az}{ord:θ aA}{i:Nat}{Q:PySem.Fin->Zo->Prop}(d:A.handled=af)(N:NX w s.heap W a ord i)(Y:i=ord.length)(hn:∀o X ep t,s.heap.get? a=aa o->o.data=.set X ep t->ord.length=X.size)
(j:∀h' e,afo W s.heap h'->(∃o,h'.get? e=aa o/\o.cls=.type "StopIteration")->E (.ref e) {s with heap:=h'}):
 av (ZI prog w) A (Builtin.«set_iterator.__next__» {pos:=[.ref W]}) Q E s:=by
 refine iX N.ex λo X ep t first U V L O m=>?_
 have u:=hn o X ep t U V;refine Zn^Zq^Zn^wpAny_fieldsOf O rfl ?_;refine Zn^adM U V L^rwe (bL^by simp) ?_;cases m with
 |@A z _ h =>
  refine Zn^EO U V L h ?_;show av _ _ (match (acU (w.params.setOrder a ep) X)[i]?.map (λe=>(e.2,z.toNat)) with|some (x,next)=>_|none=>_) _ _ s;rw[(by
   rw[Y,ZA];refine rwe Z5 ?_;refine rwe (aaD^Zw _) ?_;rfl:(acU (w.params.setOrder a ep) X)[i]?.map (λe=>(e.2,z.toNat))=af)]
  exact uZ (first:=.none) (i:=0) (n:=0) (ep:=0) (a:=a) d (ac2 _ _) (dO _ _ O rfl rfl) ∅ j
 |@B T J _ F r =>
  have Z:∀p∈J,((λp:Nat=>X[p]?.map (·.2)) p).isSome=ah:=λp v=>by simp[(r p v)]
  have D:i=J.length:=by
   have R:=gk _ _ Z J.length;have P:=List.length_filterMap_le (λp=>X[p]?.map (·.2)) J;rcases ZR i J.length with q|q
   ·have k:=gk _ _ Z i;rw[Y,ZM^Zw _,Zu ()]at k;have:=Z J[(List.filterMap (λp=>X[p]?.map (·.2)) J).length]^acK _;rw[Z0]at k;dsimp only at this;replace this:=k ▸ this;cases this
   lia
  refine qX (id F) λK H S M G=>?_;refine Zn^wpAny_seqItems H G ?_;have I:((J.map λ(p:Nat)=>ad8 p 0).toArray)[i]?=af:=by simp[D]
  dsimp only;rw[aa5];exact rwe I^Zn^abf O rfl (by simp)^uZ (s:={s with heap:=s.heap.update _ (aaG λy=>y.setIfInBounds 0 _)}) (first:=.none) (i:=0) (n:=0) (ep:=0) (a:=a) d (aac ..) (dO _ _ (aad _ O rfl) rfl rfl) ∅ j
 |C h f l =>
  have b:=by unfold SetTable.fits at L;simp![Zp,bU]at L;exact L.1
  have c:i=X.size:=by refine rwe Y ?_;rw[ZA,Z5]
  have g:=EM l.ri b;refine Zn^ER U V L h f l ?_;rw[aa5];refine rwe ((aaD^by exact rwe c g)) ?_;exact uZ (first:=.none) (i:=0) (n:=0) (ep:=0) (a:=a) d (ac2 _ _) (dO _ _ O rfl rfl) ∅ j
def Jg(N:NX w s.heap u a ord i)(J:u≠a)(U:ord[i]?=aa x)(W:∀e,NX w e u a ord (i+1)->aaq u s.heap e->Q (aa x) {s with heap:=e}):
 av (ZI prog w) A (aeQ^.ref u) Q E s:=by
 have L:s.TypeIs (.ref u) "set_iterator":=by exact iX N.ex λo c d t first Y b Z V m=>((cY _ V rfl))
 exact Zn^ac3^abb (name:=ZC _) L oO^abJ oO L wQ (Jf N J U λe O k2=>(cY x rfl^Zq^W _ O k2))^AB _
def NQ(W:A.handled=af)(N:NX w s.heap u a ord i)(U:i=ord.length)(hn:∀o d g t,s.heap.get? a=aa o->o.data=.set d g t->ord.length=d.size)(Y:∀c,afo u s.heap c->Q af {s with heap:=c}):
 av (ZI prog w) A (aeQ^.ref u) Q E s:=by
 have L:s.TypeIs (.ref u) "set_iterator":=by exact iX N.ex λo d g t first J b Z V m=>((cY _ V rfl))
 refine Zn^ac3^abb (name:=ZC _) L oO^abJ oO L wQ (NP W N U hn λc e O k2=>?_)^AB _;exact cX k2 λo J h=>(Zn^aci (cY o J h) isSubtype_stop^Zq^Y _ O)
theorem nR:∀{l:θ α}{i:Nat}(h:i<l.length),(l[i]::l.eraseIdx i).Perm l
 |x::l,0,_=>.refl _
 |x::l,i+1,h=>by
  have J:=by simpa using h
  exact(List.Perm.swap _ _ _).trans^(nR J).cons x
def wp_choose(hn:n≠0)(h:∀i d,i<n->Q i {s with drawn:=d}):av (ZI prog w) A (choose src n) Q E s:=fun J p _=>#[hn,h _ _ (adV _ ())]
def CA:∀(n:Nat)(a:θ α)(s:Zo){Q:θ α->Zo->Prop},a.length=n->(∀b d,b.Perm a->Q b {s with drawn:=d})->av (ZI prog w) A (drawOrder n a) Q E s:=by
 intro n
 induction n with
 |zero =>
  intro a s Q J h;have:=List.length_eq_zero_iff.mp J;subst this;exact Zq^h _ _ .nil
 |succ n O =>
  intro a s Q J h;cases a with
  |nil=>cases J
  |cons x r =>
   refine Zn (wp_choose (by simp) λi d L=>(rwe (Zu L) ?_));refine Zn (O _ _ (by refine rwe (aev L) ?_;lia) λb V U=>?_);exact Zq^h _ _^(U.cons _).trans^nR _
def Jh(next:Nat->Nat):∀(a k:Nat)(left:θ α)(b:Array α),left.length<=a->(acz next a k left b).toList.Perm (b.toList++left):=by
 intro a
 induction a with
 |zero =>
  intro k left b h;have:=List.length_eq_zero_iff.mp^Nat.le_zero.mp h;subst this;show b.toList.Perm _;rw[aau]
 |succ a J =>
  intro k left b h;cases left with
  |nil =>
   refine rwe ((by
    rfl:acz next (a+1) k ([]) b=b)) ?_;rw[aau]
  |cons x r =>
   have L:next k%(x::r).length<(x::r).length:=adV _ (by simp)
   refine rwe ((by
    show (match (x::r)[next k % (x::r).length]? with|some y=>acz _ _ _ ((x::r).eraseIdx _) _|none=>b)=_;exact rwe (Zu _) rfl:acz next (a+1) k (x::r) b=acz next a (k+1) ((x::r).eraseIdx (next k % (x::r).length))^b.push (x::r)[next k % (x::r).length])) ?_
   refine(J _ _ _^by refine rwe (aev L) ?_;simp at h⊢;lia).trans ?_;refine rwe Array.toList_push ?_;rw[aay];exact(nR _).append_left _
def CB(next:Nat->Nat)(a:Array α):(acU next a).toList.Perm a.toList:=by simpa [acU]using (Jh next a.size 0 a.toList #v[]^by simp)
def ES(J:s.heap.get? a=aa o)(m:o.ExactSet)(U:o.data=.set H I t)(O:t.fits H.size=ah)(r:H.size<ace)(k:Tb (w.params.followText "set-order") t)
(h:∀y d Y ord,NX w y Y a ord 0->(∀b o,s.heap.get? b=aa o->y.get? b=aa o)->s.heap.objs.size<=Y->s.heap.objs.size<=y.objs.size->ord.Perm (H.toList.map (·.2))->Q (.ref Y) {s with heap:=y,drawn:=d}):
 av (ZI prog w) A (pyIter^.ref a) Q E s:=by
 have l:s.TypeIs (.ref a) "set":=#[o,J,m.1];refine wpAny_pyIter_slot l aeD^abJ aeD l yS ?_^PySem.F.args_set_iter_1 _;unfold Builtin.«frozenset.__iter__» Builtin.Frozenset.slot0;refine Zn^Zn^Zq^Zq ?_;refine Zn ?_;unfold Builtin.Frozenset.sizeOf;refine Zn^adM J U O^Zq ?_;refine Zn ?_;unfold setDrawn;refine Zn^aa7 J U O ?_;dsimp only;refine Zn^oM^Zq ?_;have j:typeLookup (.type "set_iterator")^ZC "__next__"=pure^aa^.builtin "set_iterator.__next__":=oO.lookup;show av _ _ (if(!w.params.followText "set-order"&&(!t.plain&&decide (H.size>1)))=ah then _ else _) _ _ s;have x:a<s.heap.objs.size:=Zy J
 by_cases c:(!w.params.followText "set-order"&&(!t.plain&&decide (H.size>1)))=ah
 ·rw[bK c];refine Zn (CA H.size (ZG H.size) s (by simp) λW d Z=>?_);refine Zn ?_;simp![newTuple];have n:W.length=H.size:=by rw[Z.length_eq,aar]
  refine Z8 ?_ (by
   have:=ab4 r;show (List.map (λ(i:Nat)=>adG i) W).toArray.size<=ak;rw[Zx,ZA];lia)
  refine Zn^wpAny_setEpoch_of (Zr _ J) U O ?_;refine Zn ?_;unfold newFields;refine Z8 ?_ (by size_fits);refine Zq #[_,rfl,"set_iterator",_,#[_,ZH _ rfl,rfl],j,?_];have L:∀b o,s.heap.get? b=aa o->((s.heap.push {cls:=.type "tuple",data:=.seq (W.map λ(i:Nat)=>adG i).toArray}).push {cls:=.type "set_iterator",data:=.fields #v[.ref s.heap.objs.size,adG 0,.ref a,adG H.size,adG I]}).get? b=aa o:=λb o e=>Zr _^Zr _ e;have lt:∀p∈W,p<H.size:=λp f=>List.mem_range.mp^Z.mem_iff.mp f;refine h _ d _ _ #[#[o,H,I,t,_,L _ _ J,U,O,ZH _ rfl,.B (pl:=W) #[_,Zr _^ZH _ rfl,rfl,_,rfl] lt]] L (by rw[aaA];exact aal _) (by rw[aaA,aaA];exact Nat.le_succ_of_le^aal _) ?_;have v:=Z.filterMap λp=>H[p]?.map (·.2);refine v.trans ?_;have u:(ZG H.size).filterMap (λp=>H[p]?.map (·.2))=H.toList.map (·.2):=by
   refine List.ext_getElem? λi=>?_;rw[gk _ _ (λp f=>by have:=List.mem_range.mp f;simp[this])];rcases ZR i H.size with q|q
   rw[abD q];simp;rw[ZM^by simpa using q,ZM^by simpa using q];rfl
  rw[u]
 ·rw[bL c];refine Zn^Zq ?_;refine Zn^wpAny_setEpoch_of J U O ?_;refine Zn ?_;unfold newFields;refine Z8 ?_ (by size_fits);refine Zq #[_,rfl,"set_iterator",_,#[_,ZH _ rfl,rfl],j,?_];have L:∀b o,s.heap.get? b=aa o->(s.heap.push {cls:=.type "set_iterator",data:=.fields #v[adG 0,adG 0,.ref a,adG H.size,adG I]}).get? b=aa o:=λb o e=>Zr _ e;cases V:w.params.followText "set-order" with
  |true =>
   refine h _ s.drawn _ _ #[#[o,H,I,t,_,L _ _ J,U,O,ZH _ rfl,.A (z:=0) V]] L (Zw _) (by rw[aaA];exact aal _) ?_;exact(CB _ H).map _
  |false =>
   rw[V]at c k;have g:(!t.plain&&decide (H.size>1))=ai:=by
    cases z:(!t.plain&&decide (H.size>1))with
    |false=>rfl|true=>rw[z]at c;exact bM rfl c
   exact h _ s.drawn _ _ #[#[o,H,I,t,_,L _ _ J,U,O,ZH _ rfl,.C (i:=0) V g k]] L (Zw _) (by rw[aaA];exact aal _)^.refl _
end
end BX
end
section
namespace BX
open PySem PySem.Spec PyProof.Rows
section
variable{prog:ZE}{w:ZW}{A:Z7}{E:aA->Zo->Prop}{h:au}{g:Array GenState}{d:Drawn}{t:Nat}{os:OsState}{a:az}{o:aq}
end
section
variable{prog:ZE}{w:ZW}{K:Type}[DecidableEq K]{knd:KeyKind prog w K}{A:Z7}{E:aA->Zo->Prop}{s:Zo}
end
end BX
end
section
namespace BT
open PySem
def eS{P:Prop}(h:ai=ah):P:=nomatch h
def Se{P:Prop}(h:ah=ai):P:=nomatch h
def iy{J:Type}{a:J}{P:Prop}(h:(af:ψ J)=aa a):P:=nomatch h
inductive D
 |aC|bl(b:Bool)|int(i:Int)|str(x:ay)|aB(xs:θ D)|aj(xs:θ D)
inductive FK
 |f(x:ay)|m(c x:ay)|l(i:Nat)
 deriving DecidableEq
instance:Coe String FK:=#[λs=>.f^ZC s]
inductive Cp
 |p(d:D)|o(n:Nat)
@[reducible]noncomputable def Ky:=Int ⊕ ay
inductive Kd
 |t(kvs:θ (ay×D))|l(kvs:θ (Ky×D))
inductive W
 |p(d:D)|r(n:Nat)|k(kvs:Kd)|o(n:Nat)|c(f:FK)(J:θ Cp)|x(c:ay)
def Cp.w:Cp->W
 |.p d=>.p d|.o n=>.o n
abbrev Cp.w_p(d:D):Cp.w^.p d=.p d:=rfl
abbrev Cp.w_o(n:Nat):Cp.w^.o n=.o n:=rfl
def AC:W->ψ Cp
 |.p d=>aa^.p d|.o n=>aa^.o n|.r _=>af|.k _=>af|.c _ _=>af|.x _=>af
abbrev Vd(d:D):AC^.p d=aa^.p d:=rfl
abbrev Ve(n:Nat):AC^.o n=aa^.o n:=rfl
inductive Cl
 |l(xs:θ D)|o(c:ay)(fs:θ (ay×W))|d(kvs:θ (Ky×D))|z|b(ns:θ Nat)
@[reducible]noncomputable def HH:=θ Cl
@[reducible]noncomputable def Sl:=θ^ψ W
set_option genInjectivity false in
inductive Bin
 |add|sub|mul|mod|fdiv
set_option genInjectivity false in
inductive Cm
 |eq|ne|lt|le|gt|ge|isN|notN|mem|nmem
set_option genInjectivity false in
inductive Sr
 |seq|rng1|rng2|rev|enu|zip2|rng3|itm|chs|zipG
inductive Bi
 |len|int|str|list|tuple|all|isInt|isBool|isStr|isTuple|min2|max2
 |sorted|max1|sset|min1
set_option genInjectivity false in
inductive Me
 |append|pop|extend|tindex|sindex|dget|count|lindex
inductive Tx
 |join|split|str|intS|all|inS|ninS|dget|pre
inductive Dk
 |of|ks|so|it
set_option genInjectivity false in
mutual
inductive E
 |v(i:Nat)
 |j(d:D)
 |aD(x:ay)
 |bin(o:Bin)(a b:E)
 |neg(a:E)
 |not(a:E)
 |and(a b:E)
 |or(a b:E)
 |z(o:Cm)(a b:E)
 |chain(o o':Cm)(a b c:E)
 |ite(c a b:E)
 |aB(as:Es)
 |aj(mu:Bool)(as:Es)
 |y(a i:E)
 |n(a:E)(lo hi:Es)
 |rvs(a:E)
 |stp(mu:Bool)(k:Int)(a:E)
 |call(f:ay)(as:Es)
 |i(a:E)(f:ay)
 |aE(o:E)(m:ay)(as:Es)
 |make(c:ay)(as:Es)
 |bi(b:Bi)(mu:Bool)(as:Es)
 |lsr(mu:Bool)(J:Sr)(as:Es)
 |me(m:Me)(o:E)(as:Es)
 |comp(mu:Bool)(L:Sr)(U:Es)(tg:θ ay)(O:θ (Nat×ay))(cond:Es)(J:E)
 |callv(i:Nat)(as:Es)
 |methL(o:E)(m:ay)(as:Es)(L:Nat)(J:θ (Nat×ay))
 |isx(c:ay)(a:E)
 |obl(a:E)
 |oba(o a:E)
 |obi(o i:E)
 |obn(o:E)
 |sup(c:ay)(as:Es)
inductive Es
 |nil
 |cons(a:E)(as:Es)
end
set_option genInjectivity false in
inductive S
 |nil
 |seq(a b:S)
 |set(i:Nat)(e:E)
 |aug(i:Nat)(o:Bin)(e:E)
 |put(i:Nat)(k e:E)
 |setf(o:E)(f:ay)(e:E)
 |augf(o:E)(f:ay)(J:Bin)(e:E)
 |ex(e:E)
 |ret(e:E)
 |v(c:E)(a b:S)
 |j(c:E)(b:S)
 |for(tg:θ (Nat×ay))(J:Sr)(L:Es)(b:S)
 |brk|cnt
 |bad
 |rai(c:ay)(e:E)
 |rai2(c:ay)(a e:E)
set_option genInjectivity false in
structure Fn where
 ps:θ ay
 ns:θ ay
 body:S
@[reducible]noncomputable def cS(a:E):Es:=.cons a .nil
@[reducible]noncomputable def cR(a b:E):Es:=.cons a^.cons b .nil
@[reducible]noncomputable def cQ(a b c:E):Es:=.cons a^.cons b^.cons c .nil
@[reducible]noncomputable def cP(a b c d:E):Es:=.cons a^.cons b^.cons c^.cons d .nil
@[reducible]noncomputable def cO(a b c d e:E):Es:=.cons a^.cons b^.cons c^.cons d^.cons e .nil
@[reducible]noncomputable def cN(a b c d e f:E):Es:=.cons a^.cons b^.cons c^.cons d^.cons e^.cons f .nil
@[reducible]noncomputable def cL(a b c d e f g h:E):Es:=.cons a^.cons b^.cons c^.cons d^.cons e^.cons f^.cons g^.cons h .nil
def bnd{L J:Type}(x:ψ (L×HH))(k:L->HH->ψ J):ψ J :=
 match x with|some (a,h)=>k a h|none=>af
abbrev gM(a:α)(h:HH)(k:α->HH->ψ β):bnd (aa (a,h)) k=k a h:=rfl
abbrev Sf(k:α->HH->ψ β):bnd af k=af:=rfl
@[simp]noncomputable def lim:Nat:=100000
mutual
@[simp]noncomputable def eqv:D->D->Bool
 |.aC,.aC=>ah|.bl a,.bl b=>a==b|.bl a,.int j=>(if a then(1:Int)else 0)==j|.int i,.bl b=>i==(if b then(1:Int)else 0)|.int i,.int j=>i==j|.str x,.str y=>x==y|.aB d,.aB c=>pW d c|.aj d,.aj c=>pW d c|_,_=>ai
@[simp]noncomputable def pW:θ D->θ D->Bool
 |[],[]=>ah|x::b,y::a=>eqv x y&&pW b a|_,_=>ai
end
def rK:Cl->ψ^θ D
 |.l J=>aa J|.o _ _=>af|.d _=>af|.z=>af|.b _=>af
def tL:Cl->ψ (ay×θ (ay×W))
 |.l _=>af|.o c a=>aa (c,a)|.d _=>af|.z=>af|.b _=>af
def CD:Cl->ψ^θ (Ky×D)
 |.l _=>af|.o _ _=>af|.d J=>aa J|.z=>af|.b _=>af
def qx:Cl->ψ^θ Nat
 |.b J=>aa J|_=>af
abbrev WI(a:θ Nat):rK^.b a=af:=rfl
abbrev WJ(a:θ Nat):tL^.b a=af:=rfl
abbrev WK(a:θ Nat):CD^.b a=af:=rfl
abbrev Vf(a:θ Nat):qx^.b a=aa a:=rfl
abbrev Vg(a:θ D):qx^.l a=af:=rfl
abbrev Vh(c:ay)(a:θ (ay×W)):qx^.o c a=af:=rfl
abbrev WL(a:θ (Ky×D)):rK^.d a=af:=rfl
abbrev WM(a:θ (Ky×D)):tL^.d a=af:=rfl
abbrev WN(a:θ (Ky×D)):CD^.d a=aa a:=rfl
abbrev WO:rK .z=af:=rfl
abbrev WQ:tL .z=af:=rfl
abbrev WR:CD .z=af:=rfl
abbrev WS(a:θ D):CD^.l a=af:=rfl
abbrev WT(c:ay)(a:θ (ay×W)):CD^.o c a=af:=rfl
abbrev NR(a:θ D):rK^.l a=aa a:=rfl
abbrev WU(c:ay)(a:θ (ay×W)):rK^.o c a=af:=rfl
abbrev WV(a:θ D):tL^.l a=af:=rfl
abbrev WW(c:ay)(a:θ (ay×W)):tL^.o c a=aa (c,a):=rfl
def lat(h:HH)(n:Nat):ψ^θ D:=(h[n]?).bind rK
def oat(h:HH)(n:Nat):ψ (ay×θ (ay×W)):=(h[n]?).bind tL
def dat(h:HH)(n:Nat):ψ^θ (Ky×D):=(h[n]?).bind CD
def bat(h:HH)(n:Nat):ψ^θ Nat:=(h[n]?).bind qx
def wU:D->ψ Ky
 |.aC=>af|.bl _=>af|.int i=>aa^.inl i|.str x=>aa^.inr x|.aB _=>af|.aj _=>af
abbrev Sg(i:Int):wU^ω i=aa^.inl i:=rfl
abbrev Sh(x:ay):wU^.str x=aa^.inr x:=rfl
def NS:Ky->D
 |.inl i=>ω i|.inr x=>.str x
abbrev WX(i:Int):NS^.inl i=ω i:=rfl
abbrev WY(x:ay):NS^.inr x=.str x:=rfl
def iY(a:θ (Ky×D))(k:Ky):ψ D:=(a.find? λJ=>decide (J.1=k)).map (·.2)
def Mt(a:θ (Ky×D))(k:Ky)(v:D):θ (Ky×D) :=
 if(a.any λJ=>decide (J.1=k))=ah then a.map (λJ=>if J.1=k then(J.1,v)else J)else a++[(k,v)]
def rd(w:W)(h:HH):ψ D:=match w with
 |.p d=>aa d|.r n=>(lat h n).map D.aj|.k _=>af|.o _=>af|.c _ _=>af|.x _=>af
abbrev Ze(d:D)(h:HH):rd (.p d) h=aa d:=rfl
def big(i:Int):Bool:=decide (i.natAbs<2^64)
def rep(k:Nat)(a:θ D):θ D:=(ZN k a).flatten
def jX:Bin->D->D->ψ D
 |.add,.int i,.int j=>aa^ω (i+j)
 |.add,.str x,.str y=>if x.length+y.length<=lim then aa^.str (x++y) else af
 |.add,.aB a,.aB b=>if a.length+b.length<=lim then aa^.aB (a++b) else af
 |.add,.aj a,.aj b=>if a.length+b.length<=lim then aa^.aj (a++b) else af
 |.sub,.int i,.int j=>aa^ω (i-j)
 |.mul,.int i,.int j=>if big i||big j then aa^ω (i*j) else af
 |.mul,.aB a,.int k=>if 2<=k&&k<=1000&&!a.isEmpty&&a.length*k.toNat<=lim then aa^.aB^rep k.toNat a else af
 |.mul,.aj a,.int k=>if -1000<=k&&k<=1000&&a.length*k.toNat<=lim then aa^.aj^rep k.toNat a else af
 |.mod,.int i,.int j=>if 0<j then aa^ω (i%j) else af
 |.fdiv,.int i,.int j=>if 0<j&&j<1073741824 then aa^ω (i/j) else af
 |_,_,_=>af
def rL:Bin->D->D->ψ D
 |.add,.int i,.int j=>aa^ω (i+j)|.sub,.int i,.int j=>aa^ω (i-j)
 |.mul,.int i,.int j=>if big i||big j then aa^ω (i*j) else af
 |_,_,_=>af
abbrev Si(i j:Int):rL .add (ω i)^ω j=aa^ω (i+j):=rfl
abbrev Sj(i j:Int):rL .sub (ω i)^ω j=aa^ω (i-j):=rfl
abbrev ET(i j:Int):rL .mul (ω i)^ω j=if big i||big j then aa^ω (i*j) else af:=rfl
@[simp]noncomputable def place(n:Nat)(i:Int):ψ Nat :=
 if 0<=i then(if i<n then aa i.toNat else af)else if -(n:Int)<=i then aa (i+n).toNat else af
@[simp]def atP{J:Type}(a:θ J)(i:Int):ψ J:=(place a.length i).bind λj=>a[j]?
@[simp]noncomputable def gJ(k:ay):θ (ay×D)->ψ D
 |[]=>af
 |(x,d)::r=>if k=x then aa d else gJ k r
def d7:D->D->ψ D
 |.aB a,.int i=>atP a i|.aj a,.int i=>atP a i
 |.str x,.int i=>if x.length<=lim then(atP x.cps.toList i).map λc=>.str #[#v[c]]else af
 |_,_=>af
@[simp]noncomputable def clip(n d:Nat):ψ Int->Nat
 |none=>d
 |some v=>if v<0 then(v+(n:Int)).toNat else if v<=(n:Int)then v.toNat else n
@[simp]def cut(a:θ D)(lo b:ψ Int):θ D:=(a.drop^clip a.length 0 lo).take (clip a.length a.length b-clip a.length 0 lo)
@[simp]noncomputable def EU:θ D->ψ^ψ Int
 |[]=>aa af|[.int i]=>aa^aa i|_=>af
def wV(x:D)(lo a:ψ Int):ψ D:=match x with
 |.aB J=>aa^.aB^cut J lo a|.aj J=>aa^.aj^cut J lo a|_=>af
def dok:Nat->D->Bool
 |_,.aC=>ah|_,.bl _=>ah|_,.int _=>ah|_,.str _=>ah|0,.aB _=>ai|0,.aj _=>ai|n+1,.aB a=>a.all^dok n|n+1,.aj a=>a.all^dok n
abbrev Vi(n:Nat):dok n .aC=ah:=by cases n<;>rfl
abbrev WZ(n:Nat)(b:Bool):dok n^.bl b=ah:=by cases n<;>rfl
abbrev qP(n:Nat)(i:Int):dok n^ω i=ah:=by cases n<;>rfl
abbrev Vj(n:Nat)(x:ay):dok n^.str x=ah:=by cases n<;>rfl
abbrev AD(n:Nat)(a:θ D):dok (n+1)^.aB a=a.all^dok n:=rfl
abbrev AE(n:Nat)(a:θ D):dok (n+1)^.aj a=a.all^dok n:=rfl
def fO(x y:D):Bool:=dok 100 x||dok 100 y
abbrev Sk(x:D)(y:ay):fO x^.str y=ah:=by simp[fO]
abbrev Sn(x:D)(y:Int):fO x^ω y=ah:=by simp[fO]
abbrev QO(x:D)(y:ay):fO (.str y) x=ah:=by simp[fO]
abbrev QS(x:D)(y:Int):fO (ω y) x=ah:=by simp[fO]
abbrev QT(x:D):fO x^.aB []=ah:=by simp[fO,dok]
abbrev QU(x:D):fO x^.aj []=ah:=by simp[fO,dok]
abbrev Vk(x:D)(b:Bool):fO x^.bl b=ah:=by simp[fO]
def jD(h:dok 100 y=ah):fO x y=ah:=by simp[fO,h]
def lZ:D->Bool
 |.aC=>ah|.bl _=>ai|.int _=>ai|.str _=>ai|.aB _=>ai|.aj _=>ai
abbrev QV:lZ .aC=ah:=rfl
abbrev So(z:Bool):lZ^.bl z=ai:=rfl
abbrev QW(z:Int):lZ^ω z=ai:=rfl
abbrev QX(z:ay):lZ^.str z=ai:=rfl
abbrev QY(z:θ D):lZ^.aB z=ai:=rfl
abbrev QZ(z:θ D):lZ^.aj z=ai:=rfl
def u5(b:Bool):D->Bool
 |.aC=>ai|.bl c=>c==b|.int _=>ai|.str _=>ai|.aB _=>ai|.aj _=>ai
abbrev Sq(b:Bool):u5 b .aC=ai:=rfl
abbrev Vl(b z:Bool):u5 b^.bl z=(z==b):=rfl
abbrev Ss(b:Bool)(z:Int):u5 b^ω z=ai:=rfl
abbrev Su(b:Bool)(z:ay):u5 b^.str z=ai:=rfl
abbrev Sv(b:Bool)(z:θ D):u5 b^.aB z=ai:=rfl
abbrev Sw(b:Bool)(z:θ D):u5 b^.aj z=ai:=rfl
def iO:Cm->D->D->ψ Bool
 |.eq,x,y=>if fO x y then aa^eqv x y else af
 |.ne,x,y=>if fO x y then aa (!eqv x y)else af
 |.lt,.int i,.int j=>aa (decide (i<j))|.le,.int i,.int j=>aa (decide (i<=j))|.gt,.int i,.int j=>aa (decide (j<i))|.ge,.int i,.int j=>aa (decide (j<=i))|.isN,x,.aC=>aa^lZ x|.notN,x,.aC=>aa (!lZ x)|.notN,x,.bl b=>aa (!u5 b x)
 |.mem,x,.aB a=>if a.all λy=>fO y x then aa (a.any λy=>eqv y x)else af
 |.mem,x,.aj a=>if a.all λy=>fO y x then aa (a.any λy=>eqv y x)else af
 |.nmem,x,.aB a=>if a.all λy=>fO y x then aa (!a.any λy=>eqv y x)else af
 |.nmem,x,.aj a=>if a.all λy=>fO y x then aa (!a.any λy=>eqv y x)else af
 |_,_,_=>af
@[simp]noncomputable def intsOf:θ D->ψ^θ Int
 |[]=>aa []|.int i::r=>(intsOf r).map (i :: ·)|_=>af
@[simp]noncomputable def allB:θ D->ψ Bool
 |[]=>aa ah
 |.bl b::r=>if b then allB r else aa ai
 |_=>af
@[simp]noncomputable def anyB:θ D->ψ Bool
 |[]=>aa ai
 |.bl b::r=>if b then aa ah else anyB r
 |_=>af
def isI:D->Bool
 |.aC=>ai|.bl _=>ah|.int _=>ah|.str _=>ai|.aB _=>ai|.aj _=>ai
abbrev Vm:isI .aC=ai:=rfl
abbrev W0(z:Bool):isI^.bl z=ah:=rfl
abbrev Vn(z:Int):isI^ω z=ah:=rfl
abbrev Vo(z:ay):isI^.str z=ai:=rfl
abbrev Vp(z:θ D):isI^.aB z=ai:=rfl
abbrev Vq(z:θ D):isI^.aj z=ai:=rfl
def isB:D->Bool
 |.aC=>ai|.bl _=>ah|.int _=>ai|.str _=>ai|.aB _=>ai|.aj _=>ai
abbrev Vr:isB .aC=ai:=rfl
abbrev W3(z:Bool):isB^.bl z=ah:=rfl
abbrev Vs(z:Int):isB^ω z=ai:=rfl
abbrev Vt(z:ay):isB^.str z=ai:=rfl
abbrev Vu(z:θ D):isB^.aB z=ai:=rfl
abbrev Vv(z:θ D):isB^.aj z=ai:=rfl
def isS:D->Bool
 |.aC=>ai|.bl _=>ai|.int _=>ai|.str _=>ah|.aB _=>ai|.aj _=>ai
abbrev Vw:isS .aC=ai:=rfl
abbrev W4(z:Bool):isS^.bl z=ai:=rfl
abbrev Vx(z:Int):isS^ω z=ai:=rfl
abbrev Vy(z:ay):isS^.str z=ah:=rfl
abbrev Vz(z:θ D):isS^.aB z=ai:=rfl
abbrev VA(z:θ D):isS^.aj z=ai:=rfl
def isT:D->Bool
 |.aC=>ai|.bl _=>ai|.int _=>ai|.str _=>ai|.aB _=>ah|.aj _=>ai
abbrev VB:isT .aC=ai:=rfl
abbrev W5(z:Bool):isT^.bl z=ai:=rfl
abbrev VC(z:Int):isT^ω z=ai:=rfl
abbrev VD(z:ay):isT^.str z=ai:=rfl
abbrev VE(z:θ D):isT^.aB z=ah:=rfl
abbrev VF(z:θ D):isT^.aj z=ai:=rfl
def isL:D->Bool
 |.aC=>ai|.bl _=>ai|.int _=>ai|.str _=>ai|.aB _=>ai|.aj _=>ah
def sortI(c:θ Int):θ Int:=c.mergeSort λa b=>decide (a<=b)
def Sx:θ Int->ψ Int
 |[]=>af|n::a=>aa^a.foldl max n
def NT:θ Int->ψ Int
 |[]=>af|n::a=>aa^a.foldl min n
@[simp]noncomputable def Ji:θ D->θ D->θ D
 |x::b,y::a=>.aB [x,y]::Ji b a|_,_=>[]
def ded(a:θ Int):θ Int:=a.foldl (fun J v=>if J.any (·==v)then J else J++[v]) []
def YN(a b c:Int):Nat:=if a<b then((b-a-1)/c+1).toNat else 0
def stepI(a c:Int)(n:Nat):θ Int:=(ZG n).map λ(k:Nat)=>a+(k:Int)*c
def biD:Bi->θ D->ψ D
 |.len,[.aB a]=>aa^ω a.length|.len,[.aj a]=>aa^ω a.length
 |.len,[.str x]=>if x.length<=lim then aa^ω x.length else af
 |.int,[.int i]=>aa^ω i|.int,[.bl b]=>aa^ω (if b then 1 else 0)
 |.str,[.int i]=>if big i then aa^.str^toString i else af
 |.tuple,[.aj a]=>aa^.aB a|.tuple,[.aB a]=>aa^.aB a|.list,[.aj a]=>aa^.aj a|.list,[.aB a]=>aa^.aj a|.all,[.aj a]=>(allB a).map .bl|.isInt,[x]=>aa^.bl^isI x|.isBool,[x]=>aa^.bl^isB x|.isStr,[x]=>aa^.bl^isS x|.isTuple,[x]=>aa^.bl^isT x|.min2,[.int i,.int j]=>aa^ω (if j<i then j else i)|.max2,[.int i,.int j]=>aa^ω (if j>i then j else i)
 |.sorted,[.aj a]=>(intsOf a).bind λJ=>if J.length<64 then aa^.aj^(sortI J).map .int else af
 |.max1,[.aj a]=>(intsOf a).bind λJ=>(Sx J).map .int
 |.sset,[.aj a]=>(intsOf a).bind λJ=>if J.length<64 then aa^.aj^(sortI^ded J).map .int else af
 |.min1,[.aj a]=>(intsOf a).bind λJ=>(NT J).map .int
 |_,_=>af
@[simp]noncomputable def pX:Nat->θ D->θ D
 |_,[]=>[]|k,x::r=>.aB [ω k,x]::pX (k+1) r
def wW:D->ψ^θ D
 |.aB J=>aa J|.aj J=>aa J|_=>af
def upto(lo:Int)(n:Nat):θ D:=(ZG n).map λ(k:Nat)=>D.int (lo+(k:Int))
def down(a:Int)(n:Nat):θ D:=(ZG n).map λi=>ω (a-(i:Nat))
def NU(x:ay):θ D:=x.cps.toList.map λc=>.str #[#v[c]]
def Jj:D->ψ^θ D
 |.aB J=>aa J|.aj J=>aa J|.str x=>aa^NU x|_=>af
def gh:Sr->θ D->ψ^θ D
 |.seq,[x]=>wW x
 |.rng1,[.int n]=>if -100000<=n&&n<=100000 then aa^upto 0 n.toNat else af
 |.rng2,[.int a,.int b]=>if -100000<=a&&a<=100000&&-100000<=b&&b<=100000 then aa^upto a (b-a).toNat else af
 |.rev,[.aj J]=>aa J.reverse|.enu,[.aj J]=>aa^pX 0 J|.zip2,[.aj J,.aj d]=>aa^Ji J d|.itm,[.aj J]=>aa J|.chs,[.str x]=>aa^NU x
 |.zipG,[x,y]=>(Jj x).bind λJ=>(Jj y).map^Ji J
 |.rng3,[.int a,.int b,.int c]=>if c=-1/\-100000<=a/\a<=100000/\-100000<=b/\b<=100000 then aa^down a (a-b).toNat else af
 |_,_=>af
@[simp]def l6(x:D):θ D->Nat->ψ Nat
 |[],_=>af
 |y::r,k=>if eqv y x then aa k else l6 x r (k+1)
@[simp]noncomputable def Sy(c:Nat):θ Nat->Nat->ψ Nat
 |[],_=>af
 |y::r,k=>if y=c then aa k else Sy c r (k+1)
@[simp]noncomputable def eU:θ W->ψ^θ D
 |[]=>aa []|.p d::r=>(eU r).map (d :: ·)|.r _::_=>af|.k _::_=>af|.o _::_=>af|.c _ _::_=>af|.x _::_=>af
def meD:Me->D->θ D->ψ D
 |.tindex,.aB a,[x]=>if a.all λy=>fO y x then(l6 x a 0).map λ(q:Nat)=>D.int (q:Int)else af
 |.sindex,.str x,[.str y]=>match abt x y 0 x.length 1 with
  |i::_=>aa^ω (i:Int)|[]=>af
 |.count,.aj a,[x]=>if a.all λy=>fO y x then aa^ω ((a.countP λy=>eqv y x:Nat):Int) else af
 |.lindex,.aj a,[x]=>if a.all λy=>fO y x then(l6 x a 0).map λ(q:Nat)=>D.int (q:Int)else af
 |_,_,_=>af
theorem yT:meD .count (.aj m) [x]=if m.all λy=>fO y x then aa^ω ((m.countP λy=>eqv y x:Nat):Int) else af:=rfl
theorem yU:meD .lindex (.aj m) [x]=if m.all λy=>fO y x then(l6 x m 0).map λ(q:Nat)=>D.int (q:Int)else af:=rfl
theorem NV:meD .tindex (.aB m) [x]=if m.all λy=>fO y x then(l6 x m 0).map λ(q:Nat)=>D.int (q:Int)else af:=rfl
theorem EV:meD .sindex (.str x) [.str y]=match abt x y 0 x.length 1 with
 |i::_=>aa^ω (i:Int)|[]=>af:=rfl
def meW(m:Me)(o:W)(b:θ W)(h:HH):ψ (W×HH):=match m,o,b with
 |.append,.r n,[.p d]=>match lat h n with
  |some J=>if J.length<lim then aa (.p .aC,h.set n^.l (J++[d]))else af
  |none=>af
 |.pop,.r n,[]=>match lat h n with
  |some J=>match J.getLast? with
   |some d=>aa (.p d,h.set n^.l J.dropLast)|none=>af
  |none=>af
 |.extend,.r n,[w]=>match lat h n,(rd w h).bind wW with
  |some J,aa c=>if J.length+c.length<=lim then aa (.p .aC,h.set n^.l (J++c))else af
  |_,_=>af
 |.dget,.k^.t a,[.p^.str x]=>aa (.p^(gJ x a).getD .aC,h)|.dget,.k^.t _,[.p .aC]=>aa (.p .aC,h)|.dget,.k^.t a,[.p^.str x,.p d]=>aa (.p^(gJ x a).getD d,h)
 |m,.p d,b=>match eU b with
  |some L=>(meD m d L).map λx=>(.p x,h)
  |none=>af
 |_,_,_=>af
section
variable(n:Nat)(d:D)(h:HH)(kvs:θ (ay×D))(x:ay)(as:θ W)
abbrev nS:meW .append (.r n) [.p d] h=match lat h n with
 |some J=>if J.length<lim then aa (.p .aC,h.set n^.l (J++[d]))else af
 |none=>af:=rfl
abbrev Jk:meW .pop (.r n) [] h=match lat h n with
 |some J=>match J.getLast? with
  |some d=>aa (.p d,h.set n^.l J.dropLast)|none=>af
 |none=>af:=rfl
abbrev yV(w:W):meW .extend (.r n) [w] h=match lat h n,(rd w h).bind wW with
 |some b,aa a=>if b.length+a.length<=lim then aa (.p .aC,h.set n^.l (b++a))else af
 |_,_=>af:=rfl
abbrev rM:meW .tindex (.p d) as h=match eU as with
 |some J=>(meD .tindex d J).map λx=>(.p x,h)
 |none=>af:=rfl
abbrev CF:meW .count (.p d) as h=match eU as with
 |some J=>(meD .count d J).map λx=>(.p x,h)
 |none=>af:=rfl
abbrev yW:meW .lindex (.p d) as h=match eU as with
 |some J=>(meD .lindex d J).map λx=>(.p x,h)
 |none=>af:=rfl
abbrev rO:meW .sindex (.p d) as h=match eU as with
 |some J=>(meD .sindex d J).map λx=>(.p x,h)
 |none=>af:=rfl
end
def new(b:Bool)(a:θ D)(h:HH):W×HH:=if b then(.r h.length,h++[.l a])else(.p^.aj a,h)
abbrev YO(a:θ D)(h:HH):new ai a h=(.p^.aj a,h):=rfl
abbrev YQ(a:θ D)(h:HH):new ah a h=(.r h.length,h++[.l a]):=rfl
@[simp]def rds(a:θ W)(h:HH):ψ^θ D:=match a with
 |[]=>aa []
 |w::r=>(rd w h).bind λd=>(rds r h).map (d :: ·)
def unpack(n:Nat):D->ψ^θ D
 |.aB J=>if J.length=n then aa J else af
 |.aj J=>if J.length=n then aa J else af
 |_=>af
def target(n:Nat)(d:D):ψ^θ D:=if n=1 then aa [d]else unpack n d
section
variable(i j k a b:Int)(c:Bool)(x y:ay)(xs ys:θ D)(kvs:θ (ay×D))(d e:D)(lo hi:ψ Int)
abbrev EW:jX .add (ω i)^ω j=aa^ω (i+j):=rfl
abbrev yX:jX .add (.str x)^.str y=if x.length+y.length<=lim then aa^.str (x++y) else af:=rfl
abbrev yY:jX .add (.aB xs)^.aB ys=if xs.length+ys.length<=lim then aa^.aB (xs++ys) else af:=rfl
abbrev dP:jX .add (.aj xs)^.aj ys=if xs.length+ys.length<=lim then aa^.aj (xs++ys) else af:=rfl
abbrev Sz:jX .sub (ω i)^ω j=aa^ω (i-j):=rfl
abbrev EX:jX .mul (ω i)^ω j=if big i||big j then aa^ω (i*j) else af:=rfl
abbrev yZ:jX .mul (.aB xs)^ω k=if 2<=k&&k<=1000&&!xs.isEmpty&&xs.length*k.toNat<=lim then aa^.aB^rep k.toNat xs else af:=rfl
abbrev nU:jX .mul (.aj xs)^ω k=if -1000<=k&&k<=1000&&xs.length*k.toNat<=lim then aa^.aj^rep k.toNat xs else af:=rfl
abbrev SA:jX .mod (ω i)^ω j=if 0<j then aa^ω (i%j) else af:=rfl
abbrev CG:jX .fdiv (ω i)^ω j=if 0<j&&j<1073741824 then aa^ω (i/j) else af:=rfl
abbrev iP:d7 (.aB xs)^ω i=atP xs i:=rfl
abbrev dS:d7 (.aj xs)^ω i=atP xs i:=rfl
abbrev l7:d7 (.str x)^ω i=if x.length<=lim then(atP x.cps.toList i).map λc=>.str #[#v[c]]else af:=rfl
abbrev EY:wV (.aB xs) lo hi=aa^.aB^cut xs lo hi:=rfl
abbrev W6:wV (.aj xs) lo hi=aa^.aj^cut xs lo hi:=rfl
abbrev AF:iO .eq d e=if fO d e then aa^eqv d e else af:=rfl
abbrev qQ:iO .ne d e=if fO d e then aa (!eqv d e)else af:=rfl
abbrev VG:iO .lt (ω i)^ω j=aa (decide (i<j)):=rfl
abbrev VH:iO .le (ω i)^ω j=aa (decide (i<=j)):=rfl
abbrev VI:iO .gt (ω i)^ω j=aa (decide (j<i)):=rfl
abbrev VJ:iO .ge (ω i)^ω j=aa (decide (j<=i)):=rfl
abbrev EZ:iO .isN d .aC=aa^lZ d:=rfl
abbrev CH:iO .notN d .aC=aa (!lZ d):=rfl
abbrev CJ{b:Bool}:iO .notN d^.bl b=aa (!u5 b d):=rfl
abbrev rP:iO .mem d^.aB ys=if ys.all λy=>fO y d then aa (ys.any λy=>eqv y d)else af:=rfl
abbrev za:iO .mem d^.aj ys=if ys.all λy=>fO y d then aa (ys.any λy=>eqv y d)else af:=rfl
abbrev wX:iO .nmem d^.aB ys=if ys.all λy=>fO y d then aa (!ys.any λy=>eqv y d)else af:=rfl
abbrev qy:iO .nmem d^.aj ys=if ys.all λy=>fO y d then aa (!ys.any λy=>eqv y d)else af:=rfl
abbrev um:biD .len [.aB xs]=aa^ω xs.length:=rfl
abbrev CK:biD .len [.aj xs]=aa^ω xs.length:=rfl
abbrev CM:biD .len [.str x]=if x.length<=lim then aa^ω x.length else af:=rfl
abbrev VL:biD .int [ω i]=aa^ω i:=rfl
abbrev Q0:biD .int [.bl c]=aa^ω (if c then 1 else 0):=rfl
abbrev VM:biD .str [ω i]=if big i then aa^.str^toString i else af:=rfl
abbrev Mu:biD .tuple [.aj xs]=aa^.aB xs:=rfl
abbrev Mv:biD .tuple [.aB xs]=aa^.aB xs:=rfl
theorem zb:biD .sorted [.aj xs]=(intsOf xs).bind λf=>if f.length<64 then aa^.aj^(sortI f).map .int else af:=rfl
theorem wY:biD .sset [.aj xs]=(intsOf xs).bind λf=>if f.length<64 then aa^.aj^(sortI^ded f).map .int else af:=rfl
theorem wZ:biD .min1 [.aj xs]=(intsOf xs).bind λf=>(NT f).map .int:=rfl
def sortI_perm(f:θ Int):(sortI f).Perm f:=List.mergeSort_perm _ _
def oQ(f:θ Int):(sortI f).Pairwise (·<=·):=by have:=List.pairwise_mergeSort (le:=λ(a b:Int)=>decide (a<=b)) (λa b c L J=>by simp![bN]at *;lia) (λa b=>by simp![aa3,bN];lia) f;exact this.imp λh=>bQ h
def foldl_max(l:θ Int):∀n:Int,(l.foldl max n=n\/l.foldl max n∈l)/\n<=l.foldl max n/\∀a∈l,a<=l.foldl max n:=by
 induction l with
 |nil=>intro n;exact#[.inl rfl,Int.le_refl _,λa h=>nomatch h]
 |cons x l L =>
  intro n;let(U,V,O):=L^max n x;rw[aa2];refine#[?_,(),λa J=>?_]
  ·rcases U with h|h
   ·rw[h];rcases Int.le_total n x with q|q
    exact .inr (by rw[show max n x=x by lia];exact ZF);exact .inl ()
   exact .inr^Zz _ h
  ·rcases List.mem_cons.mp J with rfl|J
   lia;exact O a J
theorem foldl_min:∀(l:θ Int)(n:Int),(l.foldl min n=n\/l.foldl min n∈l)/\l.foldl min n<=n/\∀a∈l,l.foldl min n<=a
 |[],n=>#[.inl rfl,Int.le_refl _,λa h=>bM h^by simp]
 |b::l,n=>by
  let(O,U,L):=foldl_min l^min n b;rw[aa2];refine#[?_,(),λa J=>?_]
  ·rcases O with h|h
   ·rw[h];rcases Int.le_total n b with q|q
    exact .inl ();exact .inr (by rw[show min n b=b by lia];exact ZF)
   exact .inr^Zz _ h
  ·rcases List.mem_cons.mp J with rfl|J
   lia;exact L a J
def CO{f:θ Int}{M:Int}(h:NT f=aa M):M∈f/\∀a∈f,M<=a:=by
 cases f with
 |nil=>cases h
 |cons n l =>
  cases h;let(U,O,L):=foldl_min l n;refine#[?_,λa J=>?_]
  ·rcases U with q|q
   rw[q];exact ZF;exact Zz _ q
  ·rcases List.mem_cons.mp J with rfl|J
   exact O;exact L a J
def CP(h:Sx m=aa M):M∈m/\∀a∈m,a<=M:=by
 cases m with
 |nil=>cases h
 |cons n l =>
  cases h;let(U,O,L):=foldl_max l n;refine#[?_,λa J=>?_]
  ·rcases U with q|q
   rw[q];exact ZF;exact Zz _ q
  ·rcases List.mem_cons.mp J with rfl|J
   exact O;exact L a J
abbrev NW:biD .list [.aj xs]=aa^.aj xs:=rfl
abbrev NY:biD .list [.aB xs]=aa^.aj xs:=rfl
abbrev VN:biD .all [.aj xs]=(allB xs).map .bl:=rfl
abbrev Q2:biD .isInt [d]=aa^.bl^isI d:=rfl
abbrev NZ:biD .isBool [d]=aa^.bl^isB d:=rfl
abbrev Q3:biD .isStr [d]=aa^.bl^isS d:=rfl
abbrev Mw:biD .isTuple [d]=aa^.bl^isT d:=rfl
abbrev VO:biD .min2 [ω i,ω j]=aa^ω (if j<i then j else i):=rfl
abbrev AG:biD .max2 [ω i,ω j]=aa^ω (if j>i then j else i):=rfl
abbrev W7:wW^.aB xs=aa xs:=rfl
abbrev W8:wW^.aj xs=aa xs:=rfl
abbrev E2:gh .seq [d]=wW d:=rfl
abbrev fY:gh .rng1 [ω a]=if -100000<=a&&a<=100000 then aa^upto 0 a.toNat else af:=rfl
abbrev uq:gh .rng2 [ω a,ω b]=if -100000<=a&&a<=100000&&-100000<=b&&b<=100000 then aa^upto a (b-a).toNat else af:=rfl
abbrev SB:gh .rev [.aj xs]=aa xs.reverse:=rfl
abbrev SC{x:ay}:gh .chs [.str x]=aa^NU x:=rfl
abbrev Q4{x y:D}:gh .zipG [x,y]=(Jj x).bind λxs=>(Jj y).map^Ji xs:=rfl
abbrev SD:gh .itm [.aj xs]=aa xs:=rfl
abbrev N3:meD .tindex (.aB xs) [d]=if xs.all λy=>fO y d then(l6 d xs 0).map λ(q:Nat)=>D.int (q:Int)else af:=rfl
abbrev SE(n:Nat):unpack n^.aj xs=if xs.length=n then aa xs else af:=rfl
abbrev SG(n:Nat):unpack n^.aB xs=if xs.length=n then aa xs else af:=rfl
end
abbrev E3(d:D):target 1 d=aa [d]:=rfl
abbrev SH(d:D):target 2 d=unpack 2 d:=rfl
def AH(o:ψ D)(a:θ D)(h:HH):ψ (θ D×HH):=aa (match o with|some x=>x::a|none=>a,h)
def Jl(r:HH->ψ (θ D×HH))(o:ψ D)(h:HH):ψ (θ D×HH):=bnd (r h)^AH o
abbrev w5(o:ψ D)(a:θ D)(h:HH):AH o a h=aa (match o with|some x=>x::a|none=>a,h):=rfl
abbrev AI(r:HH->ψ (θ D×HH))(o:ψ D)(h:HH):Jl r o h=bnd (r h)^AH o:=rfl
def fE(f:θ D->HH->ψ (ψ D×HH))(n:Nat):θ D->HH->ψ (θ D×HH)
 |[],h=>aa ([],h)
 |d::r,h=>match target n d with
  |some J=>bnd (f J h)^Jl^fE f n r|none=>af
def eZ(d:D):ψ W:=aa^.p d
@[reducible]noncomputable def EH:=HH->ψ (W×HH)
@[reducible]noncomputable def OpW:=W->W->HH->ψ (W×HH)
@[simp]def k2(L:EH)(J:OpW)(x:W)(h:HH):ψ (W×HH):=bnd (L h)^J x
@[simp]def tM(o:Bin)(x y:W)(h:HH):ψ (W×HH):=match rd x h,rd y h with
 |some d,aa e=>(jX o d e).map λz=>(.p z,h)
 |_,_=>af
def inT(o:Cm)(x:W)(a:θ (ay×D)):ψ Bool:=match o,x with
 |.mem,.p^.str s=>aa (gJ s a).isSome|.mem,.p .aC=>aa ai|.nmem,.p^.str s=>aa (!(gJ s a).isSome)|_,_=>af
def inL(o:Cm)(x:W)(a:θ (Ky×D)):ψ Bool:=match o,x with
 |.mem,.p d=>(wU d).map λk=>(iY a k).isSome
 |_,_=>af
def inK(o:Cm)(x:W)(q:Kd):ψ Bool:=match q with
 |.t J=>inT o x J|.l J=>inL o x J
def memC:Cm->Bool
 |.mem=>ah|.nmem=>ah|_=>ai
def rQ{o:Cm}{x:W}{q:Kd}{b:Bool}(h:memC o=ai):¬inK o x q=aa b:=by intro e;cases o<;>first|exact Se h|exact iy e|(cases q<;>first|exact iy e|(cases x<;>exact iy e))
@[simp]def nC(o:Cm)(x y:W)(h:HH):ψ (W×HH):=match y with
 |.k J=>(inK o x J).map λz=>(.p^.bl z,h)
 |y=>match rd x h,rd y h with
  |some d,aa e=>(iO o d e).map λz=>(.p^.bl z,h)
  |_,_=>af
def atT(a:θ (ay×D))(y:W):ψ D:=match y with
 |.p^.str s=>gJ s a|_=>af
def atL(a:θ (Ky×D))(y:W):ψ D:=match y with
 |.p d=>(wU d).bind^iY a|_=>af
def atK(q:Kd)(y:W):ψ D:=match q with
 |.t J=>atT J y|.l J=>atL J y
abbrev YR(a:θ (ay×D))(x:ay):atK (.t a)^.p^.str x=gJ x a:=rfl
abbrev YS(a:θ (Ky×D))(i:Int):atK (.l a)^.p^ω i=iY a^.inl i:=rfl
abbrev YU(a:θ (ay×D))(x:ay):inK .mem (.p^.str x)^.t a=aa (gJ x a).isSome:=rfl
abbrev YV(a:θ (ay×D))(x:ay):inK .nmem (.p^.str x)^.t a=aa (!(gJ x a).isSome):=rfl
abbrev YW(a:θ (ay×D)):inK .mem (.p .aC)^.t a=aa ai:=rfl
abbrev YX(a:θ (Ky×D))(i:Int):inK .mem (.p^ω i)^.l a=aa (iY a^.inl i).isSome:=rfl
@[simp]def E4(x y:W)(h:HH):ψ (W×HH):=match x with
 |.k J=>(atK J y).map λz=>(.p z,h)
 |x=>match rd x h,rd y h with
  |some d,aa e=>(d7 d e).map λz=>(.p z,h)
  |_,_=>af
@[simp]noncomputable def E5(x:W)(h:HH):ψ (W×HH):=match x with|.p^.int i=>aa (.p^.int (-i),h)|_=>af
@[simp]noncomputable def E6(x:W)(h:HH):ψ (W×HH):=match x with|.p^.bl b=>aa (.p^.bl (!b),h)|_=>af
@[simp]noncomputable def E7(J:EH)(x:W)(h:HH):ψ (W×HH):=match x with|.p^.bl c=>if c then J h else aa (.p^.bl ai,h)|_=>af
@[simp]noncomputable def kOr(J:EH)(x:W)(h:HH):ψ (W×HH):=match x with|.p^.bl c=>if c then aa (.p^.bl ah,h)else J h|_=>af
@[simp]noncomputable def E8(L J:EH)(x:W)(h:HH):ψ (W×HH):=match x with|.p^.bl c=>if c then L h else J h|_=>af
@[simp]def SI(a:Cm)(e:D)(z:W)(h:HH):ψ (W×HH):=match rd z h with
 |some f=>(iO a e f).map λr=>(.p^.bl r,h)
 |none=>af
@[simp]def oCh(o a:Cm)(J:EH)(x y:W)(h:HH):ψ (W×HH):=match rd x h,y with
 |some d,.p e=>match iO o d e with
  |some ah=>bnd (J h)^SI a e|some ai=>aa (.p^.bl ai,h)|none=>af
 |_,_=>af
@[simp]def Jm(a:θ W)(h:HH):ψ (W×HH):=match eU a with|some J=>if J.length<=lim then aa (.p^.aB J,h)else af|none=>af
@[simp]def Jo(b:Bool)(a:θ W)(h:HH):ψ (W×HH):=match eU a with|some J=>if J.length<=lim then aa^new b J h else af|none=>af
@[simp]def SJ(x:W)(l u:θ W)(h:HH):ψ (W×HH):=match rd x h,(eU l).bind EU,(eU u).bind EU with
 |some d,aa b,aa a=>(wV d b a).map λz=>(.p z,h)
 |_,_,_=>af
@[simp]def W9(J:HH->ψ (θ W×HH))(x:W)(l:θ W)(h:HH):ψ (W×HH):=bnd (J h)^SJ x l
@[simp]def SK(L J:HH->ψ (θ W×HH))(x:W)(h:HH):ψ (W×HH):=bnd (L h)^W9 J x
@[simp]noncomputable def SL(x:W)(h:HH):ψ (W×HH):=match x with
 |.p^.aB a=>aa (.p^.aB a.reverse,h)|_=>af
def ur(k:Int)(a:θ D):θ D:=(adx (aao af af (aa k) a.length).1 (aao af af (aa k) a.length).2.1 (aao af af (aa k) a.length).2.2).filterMap λi=>a[i]?
@[simp]def Jp(b:Bool)(k:Int)(x:W)(h:HH):ψ (W×HH):=match rd x h with
 |some^.aj a=>aa^new b (ur k a) h|_=>af
@[simp]def kBi(b:Bi)(c:Bool)(a:θ W)(h:HH):ψ (W×HH):=match rds a h with
 |some L=>match biD b L with
  |some d=>if c then(match d with|.aj J=>aa^new ah J h|_=>af)else aa (.p d,h)
  |none=>af
 |none=>af
def nV(x:W)(h:HH):Bool:=match x with
 |.r n=>(lat h n).isSome|.k^.l _=>ai|_=>ah
abbrev Xa(n:Nat)(h:HH):nV (.r n) h=(lat h n).isSome:=rfl
abbrev Xb(d:D)(h:HH):nV (.p d) h=ah:=rfl
abbrev Xc(d:θ (ay×D))(h:HH):nV (.k^.t d) h=ah:=rfl
@[simp]def kMe(m:Me)(J:HH->ψ (θ W×HH))(x:W)(h:HH):ψ (W×HH):=if nV x h then bnd (J h)^meW m x else af
@[simp]def kLs(b:Bool)(L:Sr)(a:θ W)(h:HH):ψ (W×HH):=match (rds a h).bind^gh L with
 |some J=>if J.length<=lim then aa^new b J h else af
 |none=>af
@[simp]def zc(w:W)(h:HH):ψ (ψ D×HH):=match w with|.p d=>aa (aa d,h)|_=>af
def AJ(J:EH)(L:θ W)(h:HH):ψ (ψ D×HH):=match L with
 |[]=>bnd (J h) zc|[.p^.bl ah]=>bnd (J h) zc|[.p^.bl ai]=>aa (af,h)|_=>af
abbrev VP(J:EH)(h:HH):AJ J [] h=bnd (J h) zc:=rfl
abbrev VQ(J:EH)(h:HH):AJ J [.p^.bl ah] h=bnd (J h) zc:=rfl
abbrev VR(J:EH)(h:HH):AJ J [.p^.bl ai] h=aa (af,h):=rfl
@[simp]def fH(L:Sl->HH->ψ (θ W×HH))(J:Sl->EH)(b:Sl)(a:θ D)(h:HH):ψ (ψ D×HH) :=
 bnd (L (a.map eZ++b) h)^AJ^J (a.map eZ++b)
@[simp]def kM(b:Bool)(a:θ D)(h:HH):ψ (W×HH):=if a.length<=lim then aa^new b a h else af
def d9(f:ay):θ (ay×W)->ψ W
 |[]=>af
 |(x,w)::r=>if f=x then aa w else d9 f r
def fW(f:ay)(w:W):θ (ay×W)->θ (ay×W)
 |[]=>[(f,w)]
 |(x,u)::r=>if f=x then(f,w)::r else(x,u)::fW f w r
abbrev SM(f:ay):d9 f []=af:=rfl
abbrev uu(f x:ay)(w:W)(r:θ (ay×W)):d9 f ((x,w)::r)=if f=x then aa w else d9 f r:=rfl
abbrev SN(f:ay)(w:W):fW f w []=[(f,w)]:=rfl
abbrev CU(f x:ay)(w u:W)(r:θ (ay×W)):fW f w ((x,u)::r)=if f=x then(f,w)::r else(x,u)::fW f w r:=rfl
def attrOk:W->Bool
 |.p _=>ah|.r _=>ah|.k _=>ai|.o _=>ah|.c _ _=>ai|.x _=>ai
abbrev SO(d:D):attrOk^.p d=ah:=rfl
abbrev SQ(n:Nat):attrOk^.r n=ah:=rfl
abbrev SR(n:Nat):attrOk^.o n=ah:=rfl
def E9(f:ay)(x:W)(h:HH):ψ (W×HH):=match x with
 |.o n=>match oat h n with
  |some (_,a)=>(d9 f a).map λw=>(w,h)
  |none=>af
 |_=>af
abbrev N4(f:ay)(n:Nat)(h:HH):E9 f (.o n) h=match oat h n with
 |some (_,a)=>(d9 f a).map λw=>(w,h)
 |none=>af:=rfl
def zd(F:FK->θ W->HH->ψ (W×HH))(q:FK)(n:Nat)(a:θ W)(h:HH):ψ (W×HH):=F q (.o n::a) h
abbrev Q5(F:FK->θ W->HH->ψ (W×HH))(q:FK)(n:Nat)(a:θ W)(h:HH):zd F q n a h=F q (.o n::a) h:=rfl
def AK(F:FK->θ W->HH->ψ (W×HH))(m:ay)(J:HH->ψ (θ W×HH))(x:W)(h:HH):ψ (W×HH):=match x with
 |.o n=>match oat h n with
  |some (c,a)=>if(d9 m a).isNone then bnd (J h)^zd F (.m c m) n else af
  |none=>af
 |_=>af
abbrev Jq(F:FK->θ W->HH->ψ (W×HH))(m:ay)(J:HH->ψ (θ W×HH))(n:Nat)(h:HH):AK F m J (.o n) h=match oat h n with
 |some (c,a)=>if(d9 m a).isNone then bnd (J h)^zd F (.m c m) n else af
 |none=>af:=rfl
def AL(n:Nat)(x:W)(h:HH):ψ (W×HH):=match x with
 |.p .aC=>aa (.o n,h)|_=>af
abbrev VS(n:Nat)(h:HH):AL n (.p .aC) h=aa (.o n,h):=rfl
def Fb(F:FK->θ W->HH->ψ (W×HH))(c:ay)(a:θ W)(h:HH):ψ (W×HH):=bnd (F (.m c "__init__") (.o h.length::a) (h++[.o c []]))^AL h.length
abbrev SS(F:FK->θ W->HH->ψ (W×HH))(c:ay)(a:θ W)(h:HH):Fb F c a h=bnd (F (.m c "__init__") (.o h.length::a) (h++[.o c []]))^AL h.length:=rfl
def jd:θ W->Bool
 |[]=>ah|.p _::r=>jd r|_=>ai
open Classical in
def chk(q:Nat)(c:θ D)(f:θ D->HH->ψ (ψ D×HH))(b:θ D)(h:HH):ψ (ψ D×HH):=match f b h with
 |some (o,a)=>if lat a q=aa c then aa (o,a)else af
 |none=>af
open Classical in
def SV(q:Nat)(c:θ D)(f:θ D->HH->ψ (ψ D×HH))(b:θ D)(h:HH):ψ (ψ D×HH):=match f b h with
 |some (o,a)=>if(lat a q).map^pX 0=aa c then aa (o,a)else af
 |none=>af
def Fc(b:Bool)(J:Sr)(n:Nat)(f:θ D->HH->ψ (ψ D×HH))(c:θ W)(a:θ D)(h:HH):ψ (W×HH):=match c,J with
 |[.r q],.seq=>bnd (fE (chk q a f) n a h)^kM b|[.r q],.enu=>bnd (fE (SV q a f) n a h)^kM b|_,_=>af
@[simp]def oR(c:Bool)(J:Sr)(n:Nat)(a:ψ Sl)(O:Sl->HH->ψ (θ W×HH))(L:Sl->EH)(b:θ W)(h:HH):ψ (W×HH) :=
 match (rds b h).bind^gh J,a with
 |some d,aa a=>if jd b then bnd (fE (fH O L a) n d h)^kM c else Fc c J n (fH O L a) b d h
 |_,_=>af
@[simp]def u6(w:W)(a:θ W)(h:HH):ψ (θ W×HH):=aa (w::a,h)
@[simp]def AM(J:HH->ψ (θ W×HH))(w:W)(h:HH):ψ (θ W×HH):=bnd (J h)^u6 w
@[simp]def frees(s:Sl):θ (Nat×ay)->ψ Sl
 |[]=>aa []
 |q::r=>match s[q.1]? with
  |some w=>(frees s r).map (w :: ·)|none=>af
def caps(s:Sl):θ (Nat×ay)->ψ^θ Cp
 |[]=>aa []
 |q::r=>match s[q.1]? with
  |some^aa w=>(AC w).bind λx=>(caps s r).map (x :: ·)
  |_=>af
abbrev SW(s:Sl):caps s []=aa []:=rfl
abbrev Q6(s:Sl)(q:Nat×ay)(r:θ (Nat×ay)):caps s (q::r)=match s[q.1]? with
 |some^aa w=>(AC w).bind λx=>(caps s r).map (x :: ·)
 |_=>af:=rfl
def noC:θ W->Bool
 |[]=>ah|.p _::r=>noC r|.r _::r=>noC r|.k _::_=>ai|.o _::r=>noC r|.c _ _::_=>ai|.x _::_=>ai
abbrev VT:noC []=ah:=rfl
abbrev YY(d:D)(r:θ W):noC (.p d::r)=noC r:=rfl
abbrev YZ(d:Nat)(r:θ W):noC (.r d::r)=noC r:=rfl
abbrev Y0(d:Nat)(r:θ W):noC (.o d::r)=noC r:=rfl
def ze(F:FK->θ W->HH->ψ (W×HH))(o:ψ^ψ W)(a:θ W)(h:HH):ψ (W×HH):=match o with
 |some^aa^.c k b=>if noC a then F k (a++b.map Cp.w) h else af
 |_=>af
abbrev SX(F:FK->θ W->HH->ψ (W×HH))(k:FK)(J:θ Cp)(a:θ W)(h:HH):ze F (aa^aa^.c k J) a h=if noC a then F k (a++J.map Cp.w) h else af:=rfl
def Fd(w:W)(h:HH):ψ (W×HH):=match w with
 |.c _ _=>af|.x _=>af|.k _=>af|w=>aa (w,h)
abbrev Xd(d:D)(h:HH):Fd (.p d) h=aa (.p d,h):=rfl
abbrev Xe(n:Nat)(h:HH):Fd (.r n) h=aa (.r n,h):=rfl
abbrev Xf(n:Nat)(h:HH):Fd (.o n) h=aa (.o n,h):=rfl
def u7(F:FK->θ W->HH->ψ (W×HH))(q:FK)(n:Nat)(L:Nat)(J:ψ^θ Cp)(a:θ W)(h:HH):ψ (W×HH):=match J with
 |some J=>bnd (F q (.o n::(a++[.c (.l L) J])) h) Fd|none=>af
abbrev Q7(F:FK->θ W->HH->ψ (W×HH))(q:FK)(n:Nat)(L:Nat)(J:θ Cp)(a:θ W)(h:HH):u7 F q n L (aa J) a h=bnd (F q (.o n::(a++[.c (.l L) J])) h) Fd:=rfl
def zf(F:FK->θ W->HH->ψ (W×HH))(m:ay)(J:HH->ψ (θ W×HH))(L:Nat)(O:ψ^θ Cp)(x:W)(h:HH):ψ (W×HH):=match x with
 |.o n=>match oat h n with
  |some (c,a)=>if(d9 m a).isNone then bnd (J h)^u7 F (.m c m) n L O else af
  |none=>af
 |_=>af
abbrev SY(F:FK->θ W->HH->ψ (W×HH))(m:ay)(J:HH->ψ (θ W×HH))(L:Nat)(O:ψ^θ Cp)(n:Nat)(h:HH):zf F m J L O (.o n) h=match oat h n with
 |some (c,a)=>if(d9 m a).isNone then bnd (J h)^u7 F (.m c m) n L O else af
 |none=>af:=rfl
def pY(c cn:ay):Bool:=cn==c||cn=="TapeError"||cn=="ValueError"
def w6(c a:ay):Bool:=!(c=="NoText"&&a=="NoRun")
def N5(a:ay)(x:W)(h:HH):ψ (W×HH):=match x with
 |.x c=>if w6 c a then aa (.p^.bl^pY c a,h)else af
 |_=>af
abbrev Xg(a c:ay)(h:HH):N5 a (.x c) h=if w6 c a then aa (.p^.bl^pY c a,h)else af:=rfl
def strsOf:θ D->ψ^θ ay
 |[]=>aa []|.str x::r=>(strsOf r).map (x :: ·)|_=>af
def boolsOf:θ D->ψ^θ Bool
 |[]=>aa []|.bl b::r=>(boolsOf r).map (b :: ·)|_=>af
def txD:Tx->θ D->ψ D
 |.join,[.str x,.aj a]=>(strsOf a).bind λJ=>if J.length<=4000/\x.length<=10/\∀t∈J,t.length<=4000 then aa^.str^Str.join x J else af
 |.split,[.str x,.str y]=>if y.length=1/\x.length<=lim then aa^.aj^(Txt.split x y).map .str else af
 |.str,[.int i]=>if big i then aa^.str^toString i else af
 |.str,[.str x]=>aa^.str x
 |.intS,[.str x]=>if x.length<=640 then(PySem.intText? x).map .int else af
 |.all,[.aj b]=>(boolsOf b).map λc=>.bl^c.all id
 |.inS,[.str x,.str y]=>aa^.bl^Txt.contains y x|.ninS,[.str x,.str y]=>aa^.bl (!Txt.contains y x)
 |.pre,[.str x,.int i]=>if 0<=i/\x.length<=lim then aa^.str #[x.cps.extract 0 i.toNat] else if i=-1/\x.length<=lim then aa^.str #[x.cps.extract 0 (x.length-1)] else af
 |_,_=>af
def Fe(a:θ (ay×D))(b:θ W)(h:HH):ψ (W×HH):=match b with
 |[.p .aC]=>aa (.p .aC,h)|[.p^.str x]=>aa (.p^(gJ x a).getD .aC,h)|[.p^.str x,.p d]=>aa (.p^(gJ x a).getD d,h)|_=>af
def zg(a:θ (Ky×D))(b:θ W)(h:HH):ψ (W×HH):=match b with
 |[.p^.str x]=>aa (.p^(iY a^.inr x).getD .aC,h)|[.p^.str x,.p d]=>aa (.p^(iY a^.inr x).getD d,h)|_=>af
def kTx(k:Tx)(b:θ W)(h:HH):ψ (W×HH):=match k,b with
 |.dget,.k^.t a::c=>Fe a c h|.dget,.k^.l a::c=>zg a c h
 |k,b=>(rds b h).bind λJ=>(txD k J).map λd=>(.p d,h)
def N6(w:W)(h:HH):ψ (W×HH):=match w with
 |.o n=>aa (.r h.length,h++[.b [n]])|_=>af
def N7(r:Nat)(y:W)(h:HH):ψ (W×HH):=match y with
 |.o n=>(bat h r).bind λJ=>if J.length<lim then aa (.p .aC,h.set r^.b (J++[n]))else af
 |_=>af
def N8(J:EH)(x:W)(h:HH):ψ (W×HH):=match x with
 |.r r=>if(bat h r).isSome then bnd (J h)^N7 r else af
 |_=>af
def Jr(x y:W)(h:HH):ψ (W×HH):=match x,y with
 |.r r,.p^.int i=>(bat h r).bind λJ=>(atP J i).map λn=>(.o n,h)
 |_,_=>af
def N9(x:W)(h:HH):ψ (W×HH):=match x with
 |.r r=>(bat h r).bind λJ=>if J.length<=lim then aa (.p^ω J.length,h)else af
 |_=>af
abbrev Xh(n:Nat)(h:HH):N6 (.o n) h=aa (.r h.length,h++[.b [n]]):=rfl
abbrev Oa(r n:Nat)(h:HH):N7 r (.o n) h=(bat h r).bind λa=>if a.length<lim then aa (.p .aC,h.set r^.b (a++[n]))else af:=rfl
abbrev Ob(J:EH)(r:Nat)(h:HH):N8 J (.r r) h=if(bat h r).isSome then bnd (J h)^N7 r else af:=rfl
abbrev VU(r:Nat)(i:Int)(h:HH):Jr (.r r) (.p^ω i) h=(bat h r).bind λa=>(atP a i).map λn=>(.o n,h):=rfl
abbrev Xi(r:Nat)(h:HH):N9 (.r r) h=(bat h r).bind λa=>if a.length<=lim then aa (.p^ω a.length,h)else af:=rfl
section
variable(F:FK->θ W->HH->ψ (W×HH))(G:ay->ψ W)
mutual
noncomputable def ev:E->Sl->HH->ψ (W×HH)
 |.v i,s,h=>match s[i]? with|some^aa w=>aa (w,h)|_=>af
 |.j d,_,h=>aa (.p d,h)
 |.aD x,_,h=>(G x).map λw=>(w,h)
 |.bin o a b,s,h=>bnd (ev a s h)^k2 (ev b s)^tM o|.neg a,s,h=>bnd (ev a s h) E5|.not a,s,h=>bnd (ev a s h) E6|.and a b,s,h=>bnd (ev a s h)^E7^ev b s|.or a b,s,h=>bnd (ev a s h)^kOr^ev b s|.z o a b,s,h=>bnd (ev a s h)^k2 (ev b s)^nC o|.chain o A a b c,s,h=>bnd (ev a s h)^k2 (ev b s)^oCh o A^ev c s|.ite c a b,s,h=>bnd (ev c s h)^E8 (ev a s)^ev b s|.aB e,s,h=>bnd (evs e s h) Jm|.aj g e,s,h=>bnd (evs e s h)^Jo g|.y a i,s,h=>bnd (ev a s h)^k2 (ev i s) E4|.n a lo B,s,h=>bnd (ev a s h)^SK (evs lo s)^evs B s|.rvs a,s,h=>bnd (ev a s h) SL|.stp g k a,s,h=>bnd (ev a s h)^Jp g k|.call f e,s,h=>bnd (evs e s h)^F^.f f|.i a f,s,h=>bnd (ev a s h)^E9 f|.aE o m e,s,h=>bnd (ev o s h)^AK F m^evs e s|.make c e,s,h=>bnd (evs e s h)^Fb F c|.bi b g e,s,h=>bnd (evs e s h)^kBi b g|.lsr g l e,s,h=>bnd (evs e s h)^kLs g l|.me m o e,s,h=>bnd (ev o s h)^kMe m^evs e s|.comp g l u t q cond r,s,h=>bnd (evs u s h)^oR g l t.length (frees s q) (evs cond)^ev r|.callv i e,s,h=>bnd (evs e s h)^ze F s[i]?|.methL o m e L q,s,h=>bnd (ev o s h)^zf F m (evs e s) L^caps s q|.isx c a,s,h=>bnd (ev a s h)^N5 c|.obl a,s,h=>bnd (ev a s h) N6|.oba o a,s,h=>bnd (ev o s h)^N8^ev a s|.obi o i,s,h=>bnd (ev o s h)^k2 (ev i s) Jr|.obn o,s,h=>bnd (ev o s h) N9|.sup c e,s,h=>bnd (evs e s h)^F^.m c "__init__"
@[simp]noncomputable def evs:Es->Sl->HH->ψ (θ W×HH)
 |.nil,_,h=>aa ([],h)|.cons a b,s,h=>bnd (ev a s h)^AM^evs b s
end
abbrev AN:ev F G (.v i) s h=match s[i]? with|some^aa w=>aa (w,h)|_=>af:=(rfl)
abbrev VV:ev F G (.j d) s h=aa (.p d,h):=(rfl)
abbrev VW:ev F G (.aD x) s h=(G x).map λw=>(w,h):=(rfl)
abbrev VX:ev F G (.bin o a b) s h=bnd (ev F G a s h)^k2 (ev F G b s)^tM o:=(rfl)
abbrev Js:ev F G (.neg a) s h=bnd (ev F G a s h) E5:=(rfl)
abbrev Jt:ev F G (.not a) s h=bnd (ev F G a s h) E6:=(rfl)
abbrev Ju:ev F G (.and a b) s h=bnd (ev F G a s h)^E7^ev F G b s:=(rfl)
abbrev Oc:ev F G (.or a b) s h=bnd (ev F G a s h)^kOr^ev F G b s:=(rfl)
abbrev VY:ev F G (.z o a b) s h=bnd (ev F G a s h)^k2 (ev F G b s)^nC o:=(rfl)
abbrev Q8:ev F G (.chain o m a b c) s h=bnd (ev F G a s h)^k2 (ev F G b s)^oCh o m^ev F G c s:=(rfl)
abbrev Jv:ev F G (.ite c a b) s h=bnd (ev F G c s h)^E8 (ev F G a s)^ev F G b s:=(rfl)
abbrev Jw:ev F G (.aB m) s h=bnd (evs F G m s h) Jm:=(rfl)
abbrev Jx:ev F G (.aj mu m) s h=bnd (evs F G m s h)^Jo mu:=(rfl)
abbrev VZ:ev F G (.y a i) s h=bnd (ev F G a s h)^k2 (ev F G i s) E4:=(rfl)
abbrev V0:ev F G (.n a lo hi) s h=bnd (ev F G a s h)^SK (evs F G lo s)^evs F G hi s:=(rfl)
abbrev V1:ev F G (.rvs a) s h=bnd (ev F G a s h) SL:=(rfl)
abbrev Jy:ev F G (.stp mu k a) s h=bnd (ev F G a s h)^Jp mu k:=(rfl)
abbrev Ff:ev F G (.call f m) s h=bnd (evs F G m s h)^F^.f f:=(rfl)
abbrev Jz:ev F G (.i a f) s h=bnd (ev F G a s h)^E9 f:=(rfl)
abbrev SZ:ev F G (.aE o m u) s h=bnd (ev F G o s h)^AK F m^evs F G u s:=(rfl)
abbrev Tc:ev F G (.make c m) s h=bnd (evs F G m s h)^Fb F c:=(rfl)
abbrev Od:ev F G (.bi b mu m) s h=bnd (evs F G m s h)^kBi b mu:=(rfl)
abbrev JA:ev F G (.lsr mu m u) s h=bnd (evs F G u s h)^kLs mu m:=(rfl)
abbrev Xj:ev F G (.me m o u) s h=bnd (ev F G o s h)^kMe m^evs F G u s:=(rfl)
abbrev Fg:ev F G (.comp mu u sa m H cn elt) s h=bnd (evs F G sa s h)^oR mu u m.length (frees s H) (evs F G cn)^ev F G elt:=(rfl)
abbrev Q9:ev F G (.callv i m) s h=bnd (evs F G m s h)^ze F s[i]?:=(rfl)
abbrev Rb:ev F G (.methL o m H L u) s h=bnd (ev F G o s h)^zf F m (evs F G H s) L^caps s u:=(rfl)
abbrev JB:ev F G (.isx c a) s h=bnd (ev F G a s h)^N5 c:=(rfl)
abbrev V2:ev F G (.obl a) s h=bnd (ev F G a s h) N6:=(rfl)
abbrev JC:ev F G (.oba o a) s h=bnd (ev F G o s h)^N8^ev F G a s:=(rfl)
abbrev V3:ev F G (.obi o i) s h=bnd (ev F G o s h)^k2 (ev F G i s) Jr:=(rfl)
abbrev V4:ev F G (.obn o) s h=bnd (ev F G o s h) N9:=(rfl)
abbrev V5:ev F G (.sup c u) s h=bnd (evs F G u s h)^F^.m c "__init__":=(rfl)
inductive Fl
 |nx(s:Sl)(h:HH)|rt(w:W)(h:HH)|bk(s:Sl)(h:HH)|ct(s:Sl)(h:HH)
def Td(k:Bool->HH->ψ Fl)(w:W)(h:HH):ψ Fl:=match w with|.p^.bl b=>k b h|_=>af
def tst(x:ψ (W×HH))(k:Bool->HH->ψ Fl):ψ Fl:=bnd x^Td k
abbrev kG(b:Bool)(h:HH)(k:Bool->HH->ψ Fl):tst (aa (.p^.bl b,h)) k=k b h:=rfl
def kN(x:ψ Fl)(k:Sl->HH->ψ Fl):ψ Fl:=match x with
 |some^.nx s h=>k s h|y=>y
abbrev Te(s:Sl)(h:HH)(k:Sl->HH->ψ Fl):kN (aa^.nx s h) k=k s h:=rfl
abbrev Tf(w:W)(h:HH)(k:Sl->HH->ψ Fl):kN (aa^.rt w h) k=aa^.rt w h:=rfl
abbrev Tg(s:Sl)(h:HH)(k:Sl->HH->ψ Fl):kN (aa^.bk s h) k=aa^.bk s h:=rfl
abbrev Ti(s:Sl)(h:HH)(k:Sl->HH->ψ Fl):kN (aa^.ct s h) k=aa^.ct s h:=rfl
abbrev Oe(k:Sl->HH->ψ Fl):kN af k=af:=rfl
def j6(x:ψ Fl)(k:Sl->HH->ψ Fl):ψ Fl:=match x with
 |some^.nx s h=>k s h|some^.ct s h=>k s h|some^.bk s h=>aa^.nx s h|y=>y
abbrev gn(s:Sl)(h:HH)(k:Sl->HH->ψ Fl):j6 (aa^.nx s h) k=k s h:=rfl
abbrev Tj(s:Sl)(h:HH)(k:Sl->HH->ψ Fl):j6 (aa^.ct s h) k=k s h:=rfl
abbrev Tn(s:Sl)(h:HH)(k:Sl->HH->ψ Fl):j6 (aa^.bk s h) k=aa^.nx s h:=rfl
abbrev To(w:W)(h:HH)(k:Sl->HH->ψ Fl):j6 (aa^.rt w h) k=aa^.rt w h:=rfl
abbrev Of(k:Sl->HH->ψ Fl):j6 af k=af:=rfl
@[simp]noncomputable def sets:θ (Nat×ay)->θ D->Sl->Sl
 |(i,_)::r,d::a,s=>sets r a^s.set i^aa^.p d|_,_,s=>s
def Og(b:Sl->HH->ψ Fl)(again:Sl->HH->ψ Fl)(s:Sl)(t:Bool)(h:HH):ψ Fl:=if t then j6 (b s h) again else aa^.nx s h
abbrev pZ(b again:Sl->HH->ψ Fl)(s:Sl)(h:HH):Og b again s ah h=j6 (b s h) again:=rfl
abbrev rR(b again:Sl->HH->ψ Fl)(s:Sl)(h:HH):Og b again s ai h=aa^.nx s h:=rfl
def fT(c:Sl->HH->ψ (W×HH))(b:Sl->HH->ψ Fl):Nat->Sl->HH->ψ Fl
 |0,_,_=>af|n+1,s,h=>tst (c s h)^Og b (fT c b n) s
@[simp]def fC(b:Sl->HH->ψ Fl)(a:θ (Nat×ay)):θ D->Sl->HH->ψ Fl
 |[],s,h=>aa^.nx s h
 |d::r,s,h=>match target a.length d with
  |some J=>j6 (b (sets a J s) h)^fC b a r|none=>af
def turns:Nat:=100000
@[simp]def CV(s:Sl)(i:Nat)(w:W)(h:HH):ψ Fl:=aa^.nx (s.set i^aa w) h
@[simp]def Zf(s:Sl)(a:θ (Nat×ay))(w:W)(h:HH):ψ Fl:=match w with
 |.p d=>match unpack a.length d with|some J=>aa^.nx (sets a J s) h|none=>af
 |_=>af
@[simp]def Oh(s:Sl)(i:Nat)(o:Bin)(w:W)(h:HH):ψ Fl:=match s[i]?,w with
 |some^aa^.p d,.p a=>(rL o d a).map λz=>.nx (s.set i^aa^.p z) h
 |_,_=>af
@[simp]def Mx(s:Sl)(n:Nat)(d:D)(q:W)(h:HH):ψ Fl:=match q,lat h n with
 |.p^.int j,aa a=>match place a.length j with
  |some m=>aa^.nx s^h.set n^.l^a.set m d|none=>af
 |_,_=>af
@[simp]def JD(J:EH)(s:Sl)(i:Nat)(w:W)(h:HH):ψ Fl:=match w,s[i]? with
 |.p d,aa^aa^.r n=>bnd (J h)^Mx s n d|_,_=>af
def Fi(s:Sl)(n:Nat)(d:D)(q:W)(h:HH):ψ Fl:=match q with
 |.p k=>(dat h n).bind λJ=>(wU k).bind λy=>if J.length<lim then aa^.nx s^h.set n^.d^Mt J y d else af
 |_=>af
abbrev Tt(s:Sl)(n:Nat)(d k:D)(h:HH):Fi s n d (.p k) h=(dat h n).bind λa=>(wU k).bind λy=>if a.length<lim then aa^.nx s^h.set n^.d^Mt a y d else af:=rfl
def Y3(J:EH)(s:Sl)(i:Nat)(w:W)(h:HH):ψ Fl:=match w,s[i]? with
 |.p d,aa^aa^.r n=>bnd (J h)^Fi s n d|_,_=>af
def u9(s:Sl)(f:ay)(v:W)(x:W)(h:HH):ψ Fl:=match x with
 |.o n=>match oat h n with
  |some (c,a)=>if attrOk v&&a.length<1000 then aa^.nx s^h.set n^.o c^fW f v a else af
  |none=>af
 |_=>af
abbrev Fj(s:Sl)(f:ay)(v:W)(n:Nat)(h:HH):u9 s f v (.o n) h=match oat h n with
 |some (c,a)=>if attrOk v&&a.length<1000 then aa^.nx s^h.set n^.o c^fW f v a else af
 |none=>af:=rfl
def AO(J:EH)(s:Sl)(f:ay)(v:W)(h:HH):ψ Fl:=bnd (J h)^u9 s f v
abbrev Tu(J:EH)(s:Sl)(f:ay)(v:W)(h:HH):AO J s f v h=bnd (J h)^u9 s f v:=rfl
def vc(s:Sl)(f:ay)(J:Bin)(n:Nat)(c:ay)(d:D)(v:W)(h:HH):ψ Fl:=match v,oat h n with
 |.p e,aa (b,a)=>match rL J d e with
  |some z=>if b=c/\a.length<1000 then aa^.nx s^h.set n^.o b^fW f (.p z) a else af
  |none=>af
 |_,_=>af
abbrev Fk(s:Sl)(f:ay)(J:Bin)(n:Nat)(c:ay)(d e:D)(h:HH):vc s f J n c d (.p e) h=match oat h n with
 |some (b,a)=>match rL J d e with
  |some z=>if b=c/\a.length<1000 then aa^.nx s^h.set n^.o b^fW f (.p z) a else af
  |none=>af
 |none=>af:=by unfold vc;cases oat h n<;>rfl
def w9(L:EH)(s:Sl)(f:ay)(J:Bin)(x:W)(h:HH):ψ Fl:=match x with
 |.o n=>match oat h n with
  |some (c,a)=>match d9 f a with
   |some^.p d=>bnd (L h)^vc s f J n c d|_=>af
  |none=>af
 |_=>af
abbrev JE(L:EH)(s:Sl)(f:ay)(J:Bin)(n:Nat)(h:HH):w9 L s f J (.o n) h=match oat h n with
 |some (c,a)=>match d9 f a with
  |some^.p d=>bnd (L h)^vc s f J n c d|_=>af
 |none=>af:=rfl
@[simp]noncomputable def kEx(s:Sl)(_:W)(h:HH):ψ Fl:=aa^.nx s h
@[simp]def zh(w:W)(h:HH):ψ Fl:=aa^.rt w h
@[simp]noncomputable def kIf(L J:HH->ψ Fl)(t:Bool)(h:HH):ψ Fl:=if t then L h else J h
def nG(L:Sr)(q:Nat)(h:HH):ψ^θ D:=(lat h q).bind λJ=>gh L [.aj J]
open Classical in
def JF(J:Sr)(q:Nat)(a:θ D)(b:Sl->HH->ψ Fl)(s:Sl)(h:HH):ψ Fl:=match b s h with
 |some^.nx s h=>if nG J q h=aa a then aa^.nx s h else af
 |some^.ct s h=>if nG J q h=aa a then aa^.ct s h else af
 |x=>x
def Fo(b:Sl->HH->ψ Fl)(c:θ (Nat×ay))(J:Sr)(s:Sl)(d:θ W)(a:θ D)(h:HH):ψ Fl:=match d,J with
 |[.r q],.seq=>fC (JF .seq q a b) c a s h|[.r q],.enu=>fC (JF .enu q a b) c a s h|_,_=>af
@[simp]def kFor(b:Sl->HH->ψ Fl)(c:θ (Nat×ay))(J:Sr)(s:Sl)(a:θ W)(h:HH):ψ Fl:=match (rds a h).bind^gh J with
 |some L=>if jd a then fC b c L s h else Fo b c J s a L h
 |none=>af
def evS:S->Sl->HH->ψ Fl
 |.nil,s,h=>aa^.nx s h|.seq a b,s,h=>kN (evS a s h)^evS b|.set i e,s,h=>bnd (ev F G e s h)^CV s i|.aug i o e,s,h=>bnd (ev F G e s h)^Oh s i o|.put i k e,s,h=>bnd (ev F G e s h)^JD (ev F G k s) s i|.setf o f e,s,h=>bnd (ev F G e s h)^AO (ev F G o s) s f|.augf o f m e,s,h=>bnd (ev F G o s h)^w9 (ev F G e s) s f m|.ex e,s,h=>bnd (ev F G e s h)^kEx s|.ret e,s,h=>bnd (ev F G e s h) zh|.v c a b,s,h=>tst (ev F G c s h)^kIf (evS a s)^evS b s|.j c b,s,h=>fT (ev F G c) (evS b) turns s h|.for d g l b,s,h=>bnd (evs F G l s h)^kFor (evS b) d g s|.brk,s,h=>aa^.bk s h|.cnt,s,h=>aa^.ct s h|.bad,_,_=>af|.rai _ _,_,_=>af|.rai2 _ _ _,_,_=>af
open Classical in
def fin(h:HH)(w:W)(a:HH):ψ (W×HH) :=
 if a.length=h.length then aa (w,a)
 else if a.take h.length=h then (match w with
  |.p d=>aa (.p d,h)
  |.r n=>if n<h.length then aa (.r n,h)else(lat a n).map λJ=>(.p^.aj J,h)
  |.o n=>if n<h.length then aa (.o n,h)else aa (.o n,a)
  |.k _=>af|.c _ _=>af
  | .x _=>af)
 else aa (w,a)
abbrev Tv:evS F G (.nil) s h=aa^.nx s h:=(rfl)
abbrev Fp:evS F G (.seq a b) s h=kN (evS F G a s h)^evS F G b:=(rfl)
abbrev Tw:evS F G (.set i e) s h=bnd (ev F G e s h)^CV s i:=(rfl)
abbrev Tz:evS F G (.aug i o e) s h=bnd (ev F G e s h)^Oh s i o:=(rfl)
abbrev Fq:evS F G (.put i k e) s h=bnd (ev F G e s h)^JD (ev F G k s) s i:=(rfl)
abbrev CW:evS F G (.setf o f e) s h=bnd (ev F G e s h)^AO (ev F G o s) s f:=(rfl)
abbrev CY:evS F G (.augf o f m e) s h=bnd (ev F G o s h)^w9 (ev F G e s) s f m:=(rfl)
abbrev V6:evS F G (.ex e) s h=bnd (ev F G e s h)^kEx s:=(rfl)
abbrev xg:evS F G (.ret e) s h=bnd (ev F G e s h) zh:=(rfl)
abbrev Ft:evS F G (.v c a b) s h=tst (ev F G c s h)^kIf (evS F G a s)^evS F G b s:=(rfl)
abbrev TF:evS F G (.j c b) s h=fT (ev F G c) (evS F G b) turns s h:=(rfl)
abbrev TH:evS F G (.for m u sa b) s h=bnd (evs F G sa s h)^kFor (evS F G b) m u s:=(rfl)
abbrev TJ:evS F G (.brk) s h=aa^.bk s h:=(rfl)
abbrev TL:evS F G (.cnt) s h=aa^.ct s h:=(rfl)
abbrev TM:evS F G (.bad) s h=af:=(rfl)
abbrev TN:evS F G (.rai u m) s h=af:=(rfl)
abbrev Rc:evS F G (.rai2 H u m) s h=af:=(rfl)
@[simp]noncomputable def dM(n:Nat)(a:θ W):Sl:=a.map aa++ZN (n-a.length) af
def jE(x:ψ Fl)(k:W->HH->ψ (W×HH)):ψ (W×HH):=match x with
 |some^.rt w h=>k w h|some^.nx _ h=>k (.p .aC) h|_=>af
abbrev jn(w:W)(h:HH)(k:W->HH->ψ (W×HH)):jE (aa^.rt w h) k=k w h:=rfl
abbrev V7(s:Sl)(h:HH)(k:W->HH->ψ (W×HH)):jE (aa^.nx s h) k=k (.p .aC) h:=rfl
abbrev CZ(k:W->HH->ψ (W×HH)):jE af k=af:=rfl
end
section
variable(T:FK->ψ Fn)(G:ay->ψ W)
def runN:Nat->FK->θ W->HH->ψ (W×HH)
 |0,_,_,_=>af
 |k+1,f,b,h=>match T f with
  |some a=>if b.length=a.ps.length then jE (evS (runN k) G a.body (dM a.ns.length b) h)^fin h else af
  |none=>af
def run_eq{T:FK->ψ Fn}{G:ay->ψ W}{f:FK}{a:Fn}{b:θ W}{h:HH}{k:Nat}(L:T f=aa a)(J:b.length=a.ps.length):
 runN T G (k+1) f b h=jE (evS (φ k) G a.body (dM a.ns.length b) h)^fin h:=by
 rw[runN];refine rwe L ?_;exact bK J
end
def Xk:Fn:=#[["state","thing"],["state","thing"],.ret^.call "worth_in"^cR (.v 0)^.v 1]
def Xl:Fn:=#[["state","thing","worth"],["state","thing","worth"],.ret^.z .ne (.call "worth_in"^cR (.v 0)^.v 1)^.v 2]
def Xm:Fn:=#[["state","thing","worth"],["state","thing","worth"],.ret^.z .ne (.call "worth_in"^cR (.v 0)^.v 1)^.v 2]
def Xn:Fn:=#[["state","term"],["state","term"],.ret^.call "reckoned"^cR (.v 1)^.v 0]
def Xo:Fn:=#[["state","term"],["state","term"],.ret^.z .ne (.call "reckoned"^cR (.v 1)^.v 0)^.j^ω 0]
def Xp:Fn:=#[["state","term"],["state","term"],.ret^.z .ne (.call "reckoned"^cR (.v 1)^.v 0)^.j^ω 0]
def Xq:Fn:=#[["state"],["state"],.ret^.y (.v 0)^.aD "ROW"]
def Xr:Fn:=#[["state","row"],["state","row"],.ret^.z .eq (.y (.v 0)^.aD "ROW")^.v 1]
def Xs:Fn:=#[["state","number"],["state","number"],.ret^.z .gt (.bi .len ai^cS^.y (.v 0)^.aD "SAID")^.v 1]
def Xu:Fn:=#[["state","bound"],["state","bound"],.ret^.z .le (.call "open_in"^cS^.v 0)^.v 1]
def TQ:Fn:=#[["state","bound"],["state","bound"],.ret^.z .le (.call "open_in"^cS^.v 0)^.v 1]
def TR:Fn:=#[["state","wanted"],["state","wanted"],.ret^.and (.z .eq (.y (.v 0)^.aD "NAMES")^.y (.v 1)^.aD "NAMES")^.z .eq (.y (.v 0)^.aD "CELLS")^.y (.v 1)^.aD "CELLS"]
def TU:Fn:=#[["state","tape","thing"],["state","tape","thing"],.ret^.z .eq (.call "written_next"^cR (.v 1)^.v 0)^.v 2]
def TV:Fn:=#[[],[],.ret^.j .aC]
def TY:Fn:=#[[],[],.ret^.j .aC]
def Oi(i:Nat):ψ Fn:=([Xk,Xl,Xm,Xn,Xo,Xp,Xq,Xr,Xs,Xu,TQ,TR,TU,TV,TY]:θ Fn)[i]?
def j7:θ ay:=["worths_of","last_change","next_change","moments_so","last_so","next_so","visits","last_visit","when_said","next_within","last_within","first_other","writer_of","judged","remade"]
def Mz(i:Nat):ay:=j7.getD i ""
def jF(x:ay):ay:="<"++x++">"
end BT
end
open BT renaming ev->aK,HH->aL,W->aM,D->aN,runN->aO,eS->aP,Fn->aQ,meW->aS,Es->aT,E->aU,rds->aV,eqv->aW,evs->aX,Sl->aY,rd->aZ,target->bf,evS->bg,FK->bq,lat->bw,eU->bz,oat->bA,ded->bB,Sr->bC,frees->bD,dM->bE,Bin->bF,nC->bG,iy->bH,bnd->bI,gh->bJ
section
namespace BS
open PySem PySem.Spec PyProof.Rows L2
variable{K:Zm}
def dH{J:Type}{c:Prop}[Decidable c]{a b:J}(h:(if c then aa a else af)=aa b):c/\a=b:=by
 by_cases z:c
 rw[bK z]at h;exact#[z,Zv h];rw[bL z]at h;exact nomatch h
def cT{J:Type}{a:J}{P:Prop}(h:(af:ψ J)=aa a):P:=nomatch h
def attrName(f:ay):Bool:=(["program","asked","gap","most","kept","farthest","front","now","origins","branches","tape","named"]:θ ay).contains f
def xj:BT.Bi->ψ (String×(aN->Bool))
 |.isInt=>aa ("int",BT.isI)|.isBool=>aa ("bool",BT.isB)|.isStr=>aa ("str",BT.isS)|.isTuple=>aa ("tuple",BT.isT)|_=>af
def xm(a:aak)(x:ay):Bool:=match a.names.lookup x with
 |some .local=>ah|some .cell=>ah|some .free=>ah|_=>ai
def dJ(a:aak)(x:ay):Bool:=a.names.lookup x==aa .globalImplicit
def dI(x:ay):Bool:=!(x=="__debug__")&&!(x=="__classdict__")&&!(x=="__name__")
def noStar:Zt->Bool
 |.Starred _ _=>ai|_=>ah
def oU:Zt->Bool
 |.Slice _ _ _ _=>ai|_=>ah
def ef:Zt->Bool
 |.Name _ _=>ah|.Constant _ _ _=>ah|.Subscript _ _ _=>ah|.Attribute _ _ _=>ah|.Call (.Attribute _ _ _) _ _ _=>ah|.Dict _ _ _=>ah|_=>ai
def TZ:bF->acr
 |.add=>.Add|.sub=>.Sub|.mul=>.Mult|.mod=>.Mod|.fdiv=>.FloorDiv
def MA(o:bF)(J:acr):Bool:=decide (J=TZ o)
def Xv:BT.Cm->CmpOp
 |.eq=>.Eq|.ne=>.NotEq|.lt=>.Lt|.le=>.LtE|.gt=>.Gt|.ge=>.GtE|.isN=>.Is|.notN=>.IsNot|.mem=>.In|.nmem=>.NotIn
def JG(o:BT.Cm)(J:CmpOp):Bool:=decide (J=Xv o)
def MB:aN->Const->Bool
 |.aC,.none=>ah|.bl a,.bool b=>a==b|.int i,.int j=>i==j|.str x,.str y=>x==y&&PyData.strOk x|_,_=>ai
def Fv:BT.Bi->Bool->ψ ay
 |.len,ai=>aa "len"|.int,ai=>aa "int"|.list,_=>aa "list"|.tuple,ai=>aa "tuple"|.sorted,_=>aa "sorted"|.max1,ai=>aa "max"|.min1,ai=>aa "min"|_,_=>af
def MC(b:BT.Bi)(a:Bool)(x:ay):Bool:=Fv b a==aa x
def Fw:BT.Bi->ay->Bool
 |.min2,x=>x=="min"|.max2,x=>x=="max"|_,_=>ai
def Oj:Zt->ψ Const
 |.Constant c _ _=>aa c|_=>af
def cInt:Const->ψ Int
 |.int j=>aa j|_=>af
def unE:Zt->ψ Zt
 |.UnaryOp o e _=>if o=.USub then aa e else af
 |_=>af
def vd(k:Int)(e:Zt):Bool:=((Oj e).bind cInt==aa k&&decide (0<k))||(((unE e).bind Oj).bind cInt==aa (-k)&&decide (k<0))
def Fx:BT.Me->ay
 |.append=>"append"|.pop=>"pop"|.extend=>"extend"|.tindex=>"index"|.sindex=>"index"|.dget=>"get"|.count=>"count"|.lindex=>"index"
def zk:aU->Bool
 |.aD _=>ah|_=>ai
def Ol(m:BT.Me)(o:aU):Bool:=match m with
 |.append=>ah|.pop=>ah|.extend=>ah|.sindex=>ah|.tindex=>zk o|.dget=>ai|.count=>ah|.lindex=>ah
def nI(c:ay):Bool:=(["NoMoment","NoThing","NoRun","NoText"]:θ ay).contains c
def Fy(cn:ay):Bool:=nI cn||cn=="ValueError"
def fS(N:θ ay):Bool:=!N.contains "_law_flags"
def tOK:aU->Bool
 |.ite _ _ _=>ai|.not a=>tOK a|.and a b=>tOK a&&tOK b|.or a b=>tOK a&&tOK b|.aB _=>ai|.aj _ _=>ai|.obl _=>ai|.comp _ _ _ _ _ _ _=>ai|_=>ah
def jf:Zt->Bool
 |.Set _ _ _=>ai|_=>ah
def qz:bC->Zt->Bool
 |.zip2,.Tuple _ _ _=>ah|.enu,.Tuple _ _ _=>ah|.itm,.Tuple _ _ _=>ah|.zipG,.Tuple _ _ _=>ah|.zip2,_=>ai|.enu,_=>ai|.itm,_=>ai|.zipG,_=>ai|_,_=>ah
def d8(a c:aak):aak :=
 {a with names:=a.names.map λ(n,k)=>if(k==.free&&c.kind==.function&&c.names.lookup n==aa .cell)then(n,.cell)else(n,k)}
def nmE:Zt->ψ ay
 |.Name y _=>aa y|_=>af
def Om:Zt->θ Zt
 |.Tuple J _ _=>J|_=>[]
def oV(c:aak)(a:θ ay)(b:Zt):Bool:=((a.map aa==[nmE b])||(Nat.ble 2 a.length&&a.map aa==(Om b).map nmE))&&a.all λx=>c.names.lookup x==aa .local
def rS:θ ay->Bool
 |[]=>ah|x::r=>!r.contains x&&rS r
def jG(sc:aak)(N:θ ay)(a:θ ay)(J:θ (Nat×ay))(scope:aak):Bool :=
 scope.kind==.function&&sc.kind==.function&&scope.names.all (λy=>!(y.2==.cell))&&scope.names.all (λy=>!(y.2==.local)||scope.names.lookup y.1==aa .local) &&
 scope.names.all (λy=>!(y.2==.free)||sc.names.lookup y.1==aa .cell) &&
 J.all (λq=>N[q.1]?==aa q.2&&scope.names.contains (q.2,.free)&&sc.names.lookup q.2==aa .cell&&(d8 scope sc).names.lookup q.2==aa .cell)&&rS (a++J.map (·.2))
def dlQ:aN->PyData
 |.str x=>.str x|.int i=>ω i|_=>.none
def T3:aN->Bool
 |.str x=>PyData.strOk x|.int _=>ah|_=>ai
def dlD(a:θ (ay×aN)):θ (PyData×PyData):=a.map λp=>(.str p.1,dlQ p.2)
def dlV:θ (ay×aN)->Bool
 |[]=>ah|p::r=>PyData.strOk p.1&&T3 p.2&&dlV r
def dlB(a:θ (ay×aN))(J:θ^ψ Zt)(L:θ Zt):Bool:=dlV a&&(J.all λx=>x.isSome)&&decide (J.length=L.length)&&!J.isEmpty&&decide (J.length<=15)&&decide (a.length<=15)
inductive Tq
 |e(a:aU)(x:Zt)|es(as:aT)(xs:θ Zt)|o(as:aT)(x:ψ Zt)|c(as:aT)(xs:θ Zt)|i(J:bC)(L:aT)(x:Zt)
set_option autoImplicit true in
class inductive CQ:aak->θ ay->Tq->Prop where
 |v(h1:N[i]?=aa x)(h2:xm sc x=ah)(J:dI x=ah):CQ sc N^.e (.v i)^.Name x p
 |j(h:MB d c=ah):CQ sc N^.e (.j d)^.Constant c k p
 |aD(h2:dJ sc x=ah)(J:dI x=ah):CQ sc N^.e (.aD x)^.Name x p
 |bin(h:MA o op=ah)(L:CQ sc N^.e a l)(J:CQ sc N^.e b r):CQ sc N^.e (.bin o a b)^.BinOp l op r p
 |neg(J:CQ sc N^.e a x):CQ sc N^.e (.neg a)^.UnaryOp .USub x p
 |not(J:CQ sc N^.e a x):CQ sc N^.e (.not a)^.UnaryOp .Not x p
 |and2(L:CQ sc N^.e a x)(J:CQ sc N^.e b y):CQ sc N^.e (.and a b)^.BoolOp .And [x,y] p
 |and3(L:CQ sc N^.e a x)(J:CQ sc N^.e b^.BoolOp .And (y::z::r) p):CQ sc N^.e (.and a b)^.BoolOp .And (x::y::z::r) p
 |or2(L:CQ sc N^.e a x)(J:CQ sc N^.e b y):CQ sc N^.e (.or a b)^.BoolOp .Or [x,y] p
 |or3(L:CQ sc N^.e a x)(J:CQ sc N^.e b^.BoolOp .Or (y::z::r) p):CQ sc N^.e (.or a b)^.BoolOp .Or (x::y::z::r) p
 |z(h:JG o op=ah)(O:CQ sc N^.e a l)(J:CQ sc N^.e b r)(L:ad6 op r=ai):CQ sc N^.e (.z o a b)^.Compare l [op] [r] p
 |chain(h:JG o op=ah)(h':JG o' op'=ah)(O:CQ sc N^.e a l)(J:CQ sc N^.e b r)(hc:CQ sc N^.e c r')(L:lastMarks [op,op'] [r,r']=ai):CQ sc N^.e (.chain o o' a b c)^.Compare l [op,op'] [r,r'] p
 |ite(h:tOK c=ah)(hc:CQ sc N^.e c t)(L:CQ sc N^.e a x)(J:CQ sc N^.e b y):CQ sc N^.e (.ite c a b)^.IfExp t x y p
 |aB(h:CQ sc N^.es as es):CQ sc N^.e (.aB as)^.Tuple es k p
 |aj(h:CQ sc N^.es as es):CQ sc N^.e (.aj mu as)^.List es p
 |y(L:CQ sc N^.e a x)(hi:CQ sc N^.e i sl)(J:oU sl=ah):CQ sc N^.e (.y a i)^.Subscript x sl p
 |n{lo:aT}(L:CQ sc N^.e a x)(O:CQ sc N^.o lo l)(J:CQ sc N^.o hi u):CQ sc N^.e (.n a lo hi)^.Subscript x (.Slice l u af p2) p
 |call(J:dJ sc f=ah)(hn:dI f=ah)(L:CQ sc N^.es as es):CQ sc N^.e (.call f as)^.Call (.Name f np) es [] p
 |sset(L:fS N=ah)(U:dJ sc "sorted"=ah)(J:dJ sc "set"=ah)(O:noStar e=ah)(h:CQ sc N^.e a e):
  CQ sc N^.e (.bi .sset ai^.cons a .nil)^.Call (.Name "sorted" np) [.Call (.Name "set" zp) [e] [] pos] [] p
 |lrng(L:fS N=ah)(U:dJ sc "list"=ah)(J:dJ sc "range"=ah)(O:noStar e=ah)(h:CQ sc N^.e a e):
  CQ sc N^.e (.lsr mu .rng1^.cons a .nil)^.Call (.Name "list" np) [.Call (.Name "range" zp) [e] [] pos] [] p
 |bi(O:fS N=ah)(U:MC b mu x=ah)(L:dJ sc x=ah)(J:noStar e=ah)(V:CQ sc N^.e a e):CQ sc N^.e (.bi b mu^.cons a .nil)^.Call (.Name x np) [e] [] p
 |inst(U:xj b=aa (c,f))(O:dJ sc "isinstance"=ah)(J:dJ sc^ZC c=ah)(L:noStar e=ah)(V:CQ sc N^.e a e):
  CQ sc N^.e (.bi b ai^.cons a .nil)^.Call (.Name "isinstance" np) [e,.Name (ZC c) p2] [] p
 |isx(U:Fy cn=ah)(hn:dI cn=ah)(L:dJ sc "isinstance"=ah)(J:dJ sc cn=ah)(O:noStar e=ah)(V:CQ sc N^.e a e):
  CQ sc N^.e (.isx cn a)^.Call (.Name "isinstance" np) [e,.Name cn p2] [] p
 |me(h1:Ol m o=ah)(h2:name=Fx m)(J:ef oe=ah)(U:(apos.endLine==cpos.line)=ah)(O:es.length<20)(L:CQ sc N^.e o oe)(V:CQ sc N^.es as es):
  CQ sc N^.e (.me m o as)^.Call (.Attribute oe name apos) es [] cpos
 |comp{cond:aT}
  (L:fS N=ah) (V:jG sc N tg fv scope=ah) (U:oV (d8 scope sc) tg te=ah) (hz:qz sr te=ah) (J:jf iter=ah) (hi:CQ sc N^.i sr sa iter)
  (hc:CQ (d8 scope sc) (tg++fv.map (·.2))^.c cond ifs) (O:CQ (d8 scope sc) (tg++fv.map (·.2))^.e elt elt'):CQ sc N^.e (.comp mu sr sa tg fv cond elt)^.ListComp elt' [#[te,iter,ifs,0]] scope pos
 |i(J:ef x=ah)(O:attrName f=ah)(L:CQ sc N^.e a x):CQ sc N^.e (.i a f)^.Attribute x f p
 |aE(J:ef oe=ah)(U:(apos.endLine==cpos.line)=ah)(O:es.length<20)(L:CQ sc N^.e o oe)(V:CQ sc N^.es as es):
  CQ sc N^.e (.aE o m as)^.Call (.Attribute oe m apos) es [] cpos
 |stp(L:vd k se=ah)(J:CQ sc N^.e a x):CQ sc N^.e (.stp mu k a)^.Subscript x (.Slice af af (aa se) p2) p
 |bi2(U:fS N=ah)(V:Fw b x=ah)(O:dJ sc x=ah)(J:noStar e1=ah)(L:noStar e2=ah)(h1:CQ sc N^.e a1 e1)(h2:CQ sc N^.e a2 e2):
  CQ sc N^.e (.bi b ai^.cons a1^.cons a2 .nil)^.Call (.Name x np) [e1,e2] [] p
 |make(J:dJ sc c=ah)(hn:dI c=ah)(L:CQ sc N^.es as es):CQ sc N^.e (.make c as)^.Call (.Name c np) es [] p
 |obl(J:noStar e=ah)(h:CQ sc N^.e a e):CQ sc N^.e (.obl a)^.List [e] p
 |oba(L:ef oe=ah)(U:(apos.endLine==cpos.line)=ah)(J:noStar e=ah)(O:CQ sc N^.e o oe)(V:CQ sc N^.e a e):CQ sc N^.e (.oba o a)^.Call (.Attribute oe "append" apos) [e] [] cpos
 |obi(L:CQ sc N^.e a x)(hi:CQ sc N^.e i sl)(J:oU sl=ah):CQ sc N^.e (.obi a i)^.Subscript x sl p
 |obn(J:dJ sc "len"=ah)(L:noStar e=ah)(h:CQ sc N^.e a e):CQ sc N^.e (.obn a)^.Call (.Name "len" np) [e] [] p
 |sup(J:dJ sc c=ah)(hn:dI c=ah)(O:(apos.endLine==cpos.line)=ah)(U:(e::es).length<20)(L:CQ sc N^.es as (e::es)):CQ sc N^.e (.sup c as)^.Call (.Attribute (.Name c np) "__init__" apos) (e::es) [] cpos
 |es_nil:CQ sc N^.es .nil []
 |es_cons(J:noStar e=ah)(L:CQ sc N^.e a e)(O:CQ sc N^.es as es):CQ sc N^.es (.cons a as) (e::es)
 |o_nil:CQ sc N^.o .nil af
 |o_one(J:CQ sc N^.e a e):CQ sc N^.o (.cons a .nil)^aa e
 |c_nil:CQ sc N^.c .nil []
 |c_one(L:tOK a=ah)(J:CQ sc N^.e a e):CQ sc N^.c (.cons a .nil) [e]
 |rng1(J:dJ sc "range"=ah)(L:noStar e=ah)(h:CQ sc N^.e a e):CQ sc N^.i .rng1 (.cons a .nil)^.Call (.Name "range" p) [e] [] pos
 |rng2(L:dJ sc "range"=ah)(O:noStar x=ah)(J:noStar y=ah)(V:CQ sc N^.e a x)(U:CQ sc N^.e b y):CQ sc N^.i .rng2 (.cons a^.cons b .nil)^.Call (.Name "range" p) [x,y] [] pos
 |rev(J:dJ sc "reversed"=ah)(L:noStar e=ah)(h:CQ sc N^.e a e):CQ sc N^.i .rev (.cons a .nil)^.Call (.Name "reversed" p) [e] [] pos
 |seq(h:CQ sc N^.e a x):CQ sc N^.i .seq (.cons a .nil) x
@[reducible]noncomputable def CE'(sc:aak)(N:θ ay)(a:aU)(x:Zt):Prop:=CQ sc N^.e a x
@[reducible]noncomputable def CEs(sc:aak)(N:θ ay)(as:aT)(xs:θ Zt):Prop:=CQ sc N^.es as xs
@[reducible]noncomputable def CC(sc:aak)(N:θ ay)(as:aT)(xs:θ Zt):Prop:=CQ sc N^.c as xs
@[reducible]noncomputable def CI(sc:aak)(N:θ ay)(J:bC)(L:aT)(x:Zt):Prop:=CQ sc N^.i J L x
inductive LPa:aeg->θ ay->Prop
 |one{p:Pos}:LPa #[[],[#["state",af,p]],af,[],[],af,[]] ["state"]
 |two{p q:Pos}:LPa #[[],[#["row",af,p],#["state",af,q]],af,[],[],af,[]] ["row","state"]
def Fz(b fs:θ ay)(a:aak):Bool :=
 a.kind==.function&&!a.isCoroutine&&!a.isGenerator&&a.names.all (λy=>!(y.2==.cell))&&b.all (λx=>a.names.lookup x==aa .local) &&
 fs.all (λx=>a.names.lookup x==aa .free&&a.names.contains (x,.free))&&a.names.all (λy=>!(y.2==.free)||fs.contains y.1)&&rS (b++fs)
def T4(a:aak)(N:θ ay)(J:θ (Nat×ay)):Bool:=J.all λq=>N[q.1]?==aa q.2&&a.names.lookup q.2==aa .cell
inductive CL(sc:aak)(N:θ ay):aU->ay->aT->Nat->θ (Nat×ay)->Zt->Prop
 |zero{o bt:aU}{m:ay}{L:Nat}{J:θ (Nat×ay)}{O V:Zt}{apos cpos W:Pos}{U:aeg}{scope:aak}{ns ps:θ ay}(Z:BT.Oi L=aa #[ns,ns,.ret bt])(hp:LPa U ps)(hn:ns=ps++J.map (·.2))(hk:Fz ps (J.map (·.2)) scope=ah)(Y:T4 sc N J=ah)
  (ht:N.contains^BT.jF^BT.Mz L=ah) (hc:CE' scope ns bt V) (h3:ef O=ah) (h6:(apos.endLine==cpos.line)=ah) (ho:CE' sc N o O):CL sc N o m .nil L J^.Call (.Attribute O m apos) [.Lambda U V scope W] [] cpos
 |one{o bt a:aU}{m:ay}{L:Nat}{J:θ (Nat×ay)}{O V e:Zt}{apos cpos W:Pos}{U:aeg}{scope:aak}{ns ps:θ ay}(hl:BT.Oi L=aa #[ns,ns,.ret bt])(hp:LPa U ps)(hn:ns=ps++J.map (·.2))(hk:Fz ps (J.map (·.2)) scope=ah)(Z:T4 sc N J=ah)
  (ht:N.contains^BT.jF^BT.Mz L=ah) (hc:CE' scope ns bt V) (h3:ef O=ah) (h6:(apos.endLine==cpos.line)=ah) (ho:CE' sc N o O) (Y:noStar e=ah) (ha:CE' sc N a e):CL sc N o m (.cons a .nil) L J^.Call (.Attribute O m apos) [e,.Lambda U V scope W] [] cpos
def KT(K:Zm)(a:az)(b:θ V):Prop :=
 ∃(o:aq) (J:Array aA) (n:Nat),(K.lookup a=aa o/\o.cls=.type "tuple"/\o.data=.seq J n/\J.size<=ak/\dw b J.toList)/\o.dict=af
def KL(K:Zm)(a:az)(b:θ V):Prop:=∃(J:θ aA) (n:Nat),K.lookup a=aa {cls:=.type "list",data:=.seq J.toArray n}/\J.length<=ak/\dw b J
def LL(K:Zm)(H:Hp)(a:az)(b:θ V):Prop:=Rd H a^.aj b\/KL K a b
def LL.sq(h:LL K H a m):SqL K H a m:=by
 rcases h with h|⟨b,n,e,d,c⟩
 exact .inl h;exact .inr #[_,_,n,e,rfl,rfl,rfl,by simpa using d,by simpa using c]
def KD(P:ZE)(w:ZW)(K:Zm)(a:az)(b:θ (ay×V)):Prop :=
 (a==ab3)=ai/\∃J:θ (Key×aA),KV (b.map λq=>(aaM q.1,q.2)) J/\∀h:au,K.In h->h.DictOf (eN P w) a J
mutual
inductive RD(K:Zm)(m:θ az)(H:Hp):V->aN->Prop
 |aC:RD K m H .aC .aC
 |bl(b:Bool):RD K m H (.bl b)^.bl b
 |int(i:Int):RD K m H (ω i)^ω i
 |str(x:ay)(h:PyData.strOk x=ah):RD K m H (.str x)^.str x
 |aB{a:az}{vs:θ V}{ds:θ aN}(h:(Rd H a^.aB vs/\a∉m)\/KT K a vs)(r:RDs K m H vs ds):RD K m H (.ref a)^.aB ds
 |aj{a:az}{vs:θ V}{ds:θ aN}(h:(Rd H a^.aj vs/\a∉m)\/KL K a vs)(r:RDs K m H vs ds):RD K m H (.ref a)^.aj ds
inductive RDs(K:Zm)(m:θ az)(H:Hp):θ V->θ aN->Prop
 |nil:RDs K m H [] []
 |cons{v:V}{d:aN}{vs:θ V}{ds:θ aN}(r:RD K m H v d)(t:RDs K m H vs ds):RDs K m H (v::vs) (d::ds)
end
inductive RDk(K:Zm):θ (ay×V)->θ (ay×aN)->Prop
 |nil:RDk K [] []
 |cons{x:ay}{v:V}{d:aN}{es:θ (ay×V)}{kvs:θ (ay×aN)}(r:∀m H,RD K m H v d)(t:RDk K es kvs):RDk K ((x,v)::es) ((x,d)::kvs)
inductive RA(K:Zm)(m:θ az)(H:Hp):V->aM->Prop
 |p{v:V}{d:aN}(r:RD K m H v d):RA K m H v^.p d
 |r{a:az}{n:Nat}(h:m[n]?=aa a):RA K m H (.ref a)^.r n
 |o{a:az}{n:Nat}(h:m[n]?=aa a):RA K m H (.ref a)^.o n
def Tr(m:θ az)(H:Hp)(a:az)(o:aq):Prop:=H a=aa^.frz o^.own 0/\a∉m
def Xw(x:ay):ay:=x++".<locals>."++"<lambda>"
inductive zl(m:θ az)(H:Hp)(cl:θ (ay×az)):θ ay->θ V->Prop
 |nil:zl m H cl [] []
 |cons{x:ay}{c:az}{o:aq}{u:aA}{v:V}{xs:θ ay}{vs:θ V}(h1:cl.lookup x=aa c)(h2:Tr m H c o)(J:o.data=.cell^aa u)(r:RelV v u)(t:zl m H cl xs vs):zl m H cl (x::xs) (v::vs)
inductive rT(m:θ az)(H:Hp)(f:az)(L:Nat)(vs:θ V):Prop
 |mk(bt:_)(ps:_)(fs:_)(O:_)(Y:_)(sc:_)(cl:_)(pm:_)(J:_)(c':_)(U:_)(os:_)(t:_)(q:_)(h1:BT.Oi L=aa #[ps++fs,ps++fs,.ret bt])(h2:LPa O ps)(h3:Fz ps fs sc=ah)(h4:CE' sc (ps++fs) bt Y)(h5:(∀x y c,cl.lookup x=aa c->cl.lookup y=aa c->x=y))(h6:(∀x c,cl.lookup x=aa c->x∈fs))(h7:Tr m H f^PySem.W.kla_obj "<lambda>" q O Y sc cl pm c' J)(h8:Tr m H c' U)(h9:U.data=.fields os)(Z:os[1]?=aa^.str q t)(h11:zl m H cl fs vs):rT m H f L vs
inductive RCs(K:Zm)(m:θ az)(H:Hp):θ V->θ BT.Cp->Prop
 |nil:RCs K m H [] []
 |cons{v:V}{x:BT.Cp}{vs:θ V}{xs:θ BT.Cp}(r:RA K m H v x.w)(t:RCs K m H vs xs):RCs K m H (v::vs) (x::xs)
def TB(K:Zm)(H:Hp):Prop:=∀x∈BT.j7,∀c P,aaQ K x=aa (c,P)->∃J,H P=aa^.tbl J/\TriplesOk J.toList ∧
 ∀L v,codeAmong L J.toList=aa v->∃U O os t,v=.ref U/\H U=aa^.frz O^.own 0/\O.data=.fields os/\os[1]?=aa^.str (Xw x) t
def TB.mono(h:TB K H)(g:∀P b,H P=aa^.tbl b->m P=aa^.tbl b)(f:∀a o d,o.data=.fields d->H a=aa^.frz o^.own 0->m a=aa^.frz o^.own 0):TB K m:=λx W c P e=>by exact dU (h x W c P e) λb e1 e2 Y=>((eH _ (g _ _ e1) e2 (λU v q=>(wj (Y _ v q) λZ V os t O L J=>#[Z,V,os,t,O,f _ _ _ J.1 L,J]))))
def CN(K:Zm)(c:ay)(C:az):Prop:=aag K ZL c=aa^aa^.ref C
structure XT(K:Zm)(c:ay)(C:az):Prop where
 ga:Z3 K (.ref C) "__getattribute__"=aa^aa^.builtin "BaseException.__getattribute__"
 nga:Z3 K (.ref C) "__getattr__"=aa af
 mrb:adh K C^.type "BaseException"=aa ah
 dct:abe K C=ah
 fnd:Z3 K (.ref C) "__class__"=aa^aa^.builtin "object.__class__"
 spc:abd K (.builtin "object.__class__") "__get__"=aa^aa^.builtin "getset_descriptor.__get__"
 tak:acF K^.builtin "object.__class__"=aa ah
 mro:adh K C^.type "object"=aa ah
 own:∀cn,nI cn=ah->BT.w6 c cn=ah->∃D,CN K cn D/\aaT K (.ref C)^.ref D=aa^BT.pY c cn
 val:aaT K (.ref C)^.type "ValueError"=aa ah
def excAt(K:Zm)(c:ay)(a:az):au->Prop:=λh=>∃o C,CN K c C/\XT K c C/\h.get? a=aa o/\o.cls=.ref C
inductive RKs(K:Zm)(m:θ az)(H:Hp):θ (Key×V)->θ (BT.Ky×aN)->Prop
 |nil:RKs K m H [] []
 |cons{k:Key}{v:V}{d:aN}{vs:θ (Key×V)}{kvs:θ (BT.Ky×aN)}(J:RD K m H (kV k)^BT.NS k)(r:RD K m H v d)(t:RKs K m H vs kvs):RKs K m H ((k,v)::vs) ((k,d)::kvs)
inductive RW(P:ZE)(w:ZW)(K:Zm)(m:θ az)(H:Hp):V->aM->Prop
 |p{v:V}{d:aN}(r:RD K m H v d):RW P w K m H v^.p d
 |r{a:az}{n:Nat}(h:m[n]?=aa a):RW P w K m H (.ref a)^.r n
 |k{a:az}{es:θ (ay×V)}{kvs:θ (ay×aN)}(h:KD P w K a es)(r:RDk K es kvs):RW P w K m H (.ref a)^.k^.t kvs
 |kl{a:az}{o:aq}{vs:θ (Key×V)}{kvs:θ (BT.Ky×aN)}(h:H a=aa^.frz o^.dK vs/\a∉m)(r:RKs K m H vs kvs):RW P w K m H (.ref a)^.k^.l kvs
 |o{a:az}{n:Nat}(h:m[n]?=aa a):RW P w K m H (.ref a)^.o n
 |c{f:az}{L:Nat}{vs:θ V}{J:θ BT.Cp}(h:rT m H f L vs)(r:RCs K m H vs J):RW P w K m H (.ref f)^.c (.l L) J
 |x{a:az}{c:ay}(h:H a=aa^.ext (excAt K c a))(n:a∉m)(J:∃C,XT K c C):RW P w K m H (.ref a)^.x c
 |g{f:az}{x:ay}(h:aag K ZL x=aa^aa^.ref f)(r:Z2 K^.ref f=ah):RW P w K m H (.ref f)^.c (.f x) []
inductive RFs(K:Zm)(m:θ az)(H:Hp):θ (ay×V)->θ (ay×aM)->Prop
 |nil:RFs K m H [] []
 |cons{f:ay}{v:V}{x:aM}{vs:θ (ay×V)}{fs:θ (ay×aM)}(r:RA K m H v x)(t:RFs K m H vs fs):RFs K m H ((f,v)::vs) ((f,x)::fs)
def CN.inj(h:CN K c C)(a:CN K c m):C=m:=by simpa using (h.symm.trans a)
structure l9(K:Zm)(c:ay)(C:az):Prop where
 cn:CN K c C
 cls:Cls K C
 no:∀f,attrName f=ah->lY K C f
 rd:adS K C^.type "type"=ah
inductive RBs(m:θ az):θ V->θ Nat->Prop
 |nil:RBs m [] []
 |cons{n:Nat}{a:az}{vs:θ V}{ns:θ Nat}(h:m[n]?=aa a)(t:RBs m vs ns):RBs m (.ref a::vs) (n::ns)
def mh(K:Zm)(m:θ az)(H:Hp)(a:az):BT.Cl->Prop
 |.l O=>∃J,H a=aa^.aj J/\RDs K m H J O|.o c f=>∃C V J,H a=aa^.ins C V J/\l9 K c C/\RFs K m H J f|.d L=>∃J,H a=aa^.dK J/\RKs K m H J L|.z=>∃e J,H a=aa^.frz e^.dK J|.b U=>∃J,H a=aa^.aj J/\RBs m J U
inductive RWs(P:ZE)(w:ZW)(K:Zm)(m:θ az)(H:Hp):θ V->θ aM->Prop
 |nil:RWs P w K m H [] []
 |cons{v:V}{x:aM}{vs:θ V}{xs:θ aM}(r:RW P w K m H v x)(t:RWs P w K m H vs xs):RWs P w K m H (v::vs) (x::xs)
structure RH(K:Zm)(m:θ az)(H:Hp)(h:aL):Prop where
 nd:m.Nodup
 len:m.length=h.length
 cl:∀(i:Nat)(a:az)(c:BT.Cl),m[i]?=aa a->h[i]?=aa c->mh K m H a c
 tb:TB K H
def FA(e:bw h n=aa m):h[n]?=aa^.l m:=by
 unfold bw at e;cases g:h[n]? with
 |none=>replace e:=g ▸ e;exact cT e|some c=>replace e:=g ▸ e;cases c<;>simp[BT.rK]at e;exact rwe e rfl
def FD(e:bA h n=aa (c,fs)):h[n]?=aa^.o c fs:=by
 unfold bA at e;cases g:h[n]? with
 |none=>replace e:=g ▸ e;exact cT e|some c=>replace e:=g ▸ e;cases c<;>simp[BT.tL]at e;exact rwe e.1^rwe e.2 rfl
def FE{h:aL}{n:Nat}{a:θ Nat}(e:BT.bat h n=aa a):h[n]?=aa^.b a:=by
 unfold BT.bat at e;cases g:h[n]? with
 |none=>replace e:=g ▸ e;exact cT e|some c=>replace e:=g ▸ e;cases c<;>simp[BT.qx]at e;exact rwe e rfl
def RH.AQ{m:θ az}{H:Hp}{h:aL}(R:RH K m H h)(i:Nat)(a:az)(c:θ Nat)(e:m[i]?=aa a)(g:BT.bat h i=aa c):∃b,H a=aa^.aj b/\RBs m b c:=R.cl i a _ e^FE g
def RH.cell(R:RH K m H h)(i:Nat)(a:az)(b:θ aN)(e:m[i]?=aa a)(g:bw h i=aa b):∃c,H a=aa^.aj c/\RDs K m H c b:=R.cl i a _ e^FA g
inductive OC(K:Zm)(m:θ az)(H:Hp)(a:az)(c:ay)(fs:θ (ay×aM)):Prop
 |mk(C:az)(dx:_)(vs:_)(h1:H a=aa^.ins C dx vs)(h2:l9 K c C)(J:RFs K m H vs fs):OC K m H a c fs
def RH.uv(R:RH K m H h)(i:Nat)(a:az)(c:ay)(b:θ (ay×aM))(e:m[i]?=aa a)(g:bA h i=aa (c,b)):OC K m H a c b:=by exact fV (R.cl i a _ e^FD g) λC V J U O L=>#[C,V,J,U,O,L]
structure RS(P:ZE)(w:ZW)(K:Zm)(m:θ az)(H:Hp)(σ:L2.St)(s:aY):Prop where
 len:σ.length=s.length
 get:∀(i:Nat)(x:aM),s[i]?=aa^aa x->∃v,σ[i]?=aa^aa v/\RW P w K m H v x
def MD:HO->Bool
 |.tbl _=>ah|_=>ai
structure Ext(m:θ az)(H:Hp)(m':θ az)(H':Hp):Prop where
 pre:∃e,m'=m++e/\∀a∈e,H a=af
 keep:∀a o,H a=aa o->a∉m->MD o=ai->H' a=aa o
 live:∀a,H' a=af->H a=af
 frz:∀a ob vs,H a=aa^.frz ob^.dK vs->H' a=aa^.frz ob^.dK vs
def Ext.refl(m:θ az)(H:Hp):Ext m H m H:=#[(cY ([]) (by simp)^by simp),λ_ _ h _ _=>h,λ_ h=>h,λ_ _ _ h=>h]
def Ext.mq(x:Ext m H u I)(h:H a=aa o)(n:a∉m):a∉u:=by
 refine cX x.pre ?_
 rintro e rfl b
 intro q;rcases List.mem_append.mp q with q|q
 exact n q;rw[b a q]at h;exact cT h
def Ext.trans(x:Ext m H m1 I)(y:Ext m1 I u H2):Ext m H u H2:=by
 refine cX x.pre ?_
 rintro e rfl c
 refine cX y.pre ?_
 rintro f rfl b
 refine#[(cY _ (by rw[aay]) (λa J=>?_)),λa o h n t=>y.keep a o (x.keep a o h n t) (x.mq h n) t,λa h=>x.live a^y.live a h,λa d L h=>y.frz a _ _^x.frz a _ _ h];rcases List.mem_append.mp J with q|q
 exact c a q;exact x.live a^b a q
def Rd.ext(x:Ext m H I J)(h:Rd H a u)(n:a∉m)(t:MD u=ai:=by rfl):Rd J a u/\a∉I:=by
 rcases h with h|⟨o,h⟩
 exact#[.inl^x.keep _ _ h n t,x.mq h n];exact#[.inr #[o,x.keep _ _ h n rfl],x.mq h n]
def Tr.ext(x:Ext m H u I)(h:Tr m H a o):Tr u I a o:=#[x.keep _ _ h.1 h.2 rfl,x.mq h.1 h.2]
def zl.ext(x:Ext m H M P)(r:zl m H cl u I):zl M P cl u I:=by
 induction r with
 |nil=>exact .nil|cons U O L r t J=>exact .cons U (O.ext x) L r J
def rT.ext(x:Ext m H I M)(h:rT m H f L u):rT I M f L u:=by let(o,V,r,Y,p,U,s,W,O,n,Z,os,t,q,l,k,j,i,g,e,d,c,b,a,J):=h;exact#[o,V,r,Y,p,U,s,W,O,n,Z,os,t,q,l,k,j,i,g,e,d.ext x,c.ext x,b,a,J.ext x]
section
variable{K:Zm}
mutual
theorem RD.ext(x:Ext m H u I):∀{v:V}{d:aN},RD K m H v d->RD K u I v d
 |_,_,.aC=>.aC|_,_,.bl b=>.bl b|_,_,.int i=>ω i|_,_,.str y h=>.str y h|_,_,.aB h r=>.aB (h.elim (λq=>.inl^Rd.ext x q.1 q.2) .inr)^RDs.ext x r|_,_,.aj h r=>.aj (h.elim (λq=>.inl^Rd.ext x q.1 q.2) .inr)^RDs.ext x r
theorem RDs.ext(x:Ext m H u I):∀{a:θ V}{b:θ aN},RDs K m H a b->RDs K u I a b
 |_,_,.nil=>.nil|_,_,.cons r t=>.cons (RD.ext x r)^RDs.ext x t
end
def RA.rw(r:RA K m H v d):RW P w K m H v d:=by
 cases r with
 |p r=>exact .p r|r h=>exact .r h|o h=>exact .o h
def RW.ra(r:RW P w K m H v d)(J:BT.attrOk d=ah):RA K m H v d:=by
 cases r with
 |p r=>exact .p r|r h=>exact .r h|o h=>exact .o h|_=>exact aP J
def Ext.ix(x:Ext m H u I){n:Nat}(h:m[n]?=aa a):u[n]?=aa a:=by
 refine cX x.pre ?_
 rintro e rfl _
 refine rwe (Zs (by rcases ZR _ _ with q|q;exact q;rw[ZM q]at h;exact cT h)) ?_;exact h
def RA.ext(x:Ext m H u I)(r:RA K m H v d):RA K u I v d:=by
 cases r with
 |p r=>exact .p^r.ext x|r h=>exact .r^x.ix h|o h=>exact .o^x.ix h
def RCs.ext(x:Ext m H I M)(r:RCs K m H u L):RCs K I M u L:=by
 induction r with
 |nil=>exact .nil|cons r t J=>exact .cons (r.ext x) J
def RKs.ext(x:Ext m H M O)(r:RKs K m H I u):RKs K M O I u:=by
 induction r with
 |nil=>exact .nil|cons L r t J=>exact .cons (L.ext x) (r.ext x) J
def RW.ext(x:Ext m H u I)(r:RW P w K m H v d):RW P w K u I v d:=by
 cases r with
 |p r=>exact .p^r.ext x
 |r h =>
  let(e,rfl,_):=x.pre;refine .r ?_;rw[Zs (by rcases ZR _ _ with q|q;exact q;rw[ZM q]at h;exact cT h)];exact h
 |k h r=>exact .k h r|kl h r=>exact .kl #[x.keep _ _ h.1 h.2 rfl,x.mq h.1 h.2]^r.ext x|c h r=>exact .c (h.ext x)^r.ext x|g h r=>exact .g h r|x h n J=>exact .x (x.keep _ _ h n rfl) (x.mq h n) J
 |o h =>
  let(e,rfl,_):=x.pre;refine .o ?_;rw[Zs (by rcases ZR _ _ with q|q;exact q;rw[ZM q]at h;exact cT h)];exact h
def RFs.ext(x:Ext m H I L)(r:RFs K m H u fs):RFs K I L u fs:=by
 induction r with
 |nil=>exact .nil|cons r t J=>exact .cons (r.ext x) J
def RBs.ext(x:Ext m H u I){a:θ V}{b:θ Nat}(r:RBs m a b):RBs u a b:=by
 induction r with
 |nil=>exact .nil|cons h t J=>exact .cons (x.ix h) J
def mh.ext(x:Ext m H I u)(e:u a=H a)(r:mh K m H a c):mh K I u a c:=by
 cases c with
 |o c d=>exact fV r λC V J L O U=>((ji C V J (e.trans L) O^U.ext x))
 |z=>exact qE r λb J L=>((uS b J^e.trans L))
 |_=>exact cX r λJ L O=>((cY J (e.trans L)^O.ext x))
def mh.some(r:mh K m H a c):∃o,H a=aa o:=by
 cases c with
 |o c d=>exact fV r λC V L J O U=>#[_,J]
 |z=>exact qE r λb L J=>#[_,J]
 |_=>exact cX r λL J O=>#[_,J]
def RWs.ext(x:Ext m H I L)(r:RWs P w K m H u ds):RWs P w K I L u ds:=by
 induction r with
 |nil=>exact .nil|cons r t J=>exact .cons (r.ext x) J
def RS.ext(x:Ext m H u I)(r:RS P w K m H σ s):RS P w K u I σ s :=
 #[r.len,λi y e=>by exact cX (r.get i y e) λv h q=>((cY v h^q.ext x))]
theorem RDs.length:∀{a:θ V}{b:θ aN},RDs K m H a b->a.length=b.length
 |_,_,.nil=>rfl
 |_,_,.cons _ t=>by exact rwe ZQ^rwe (RDs.length t) rfl
theorem RWs.length:∀{a:θ V}{b:θ aM},RWs P w K m H a b->a.length=b.length
 |_,_,.nil=>rfl
 |_,_,.cons _ t=>by exact rwe ZQ^rwe (RWs.length t) rfl
theorem RDs.get:∀{a:θ V}{b:θ aN}{i:Nat}{d:aN},RDs K m H a b->b[i]?=aa d->∃v,a[i]?=aa v/\RD K m H v d
 |_,_,_,_,.nil,e=>by simp at e
 |_,_,0,_,.cons r _,e=>by simp at e;subst e;exact(cY _ rfl r)
 |_,_,i+1,d,.cons _ t,e=>by exact cX (RDs.get t^by simpa using e) λu L J=>((cY u (by simpa using L) J))
theorem RDs.append:∀{b a:θ V}{d c:θ aN},RDs K m H b d->RDs K m H a c->RDs K m H (b++a) (d++c)
 |_,_,_,_,.nil,s=>s|_,_,_,_,.cons r t,s=>.cons r^RDs.append t s
theorem RDs.take:∀{a:θ V}{b:θ aN}(n:Nat),RDs K m H a b->RDs K m H (a.take n)^b.take n
 |_,_,0,_=>.nil|_,_,_+1,.nil=>.nil|_,_,n+1,.cons r t=>.cons r^RDs.take n t
theorem RDs.drop:∀{a:θ V}{b:θ aN}(n:Nat),RDs K m H a b->RDs K m H (a.drop n)^b.drop n
 |_,_,0,r=>r|_,_,_+1,.nil=>.nil|_,_,n+1,.cons _ t=>RDs.drop n t
theorem RDs.set(r:RD K m H v d):∀{a:θ V}{b:θ aN}(i:Nat),RDs K m H a b->RDs K m H (a.set i v)^b.set i d
 |_,_,_,.nil=>.nil|_,_,0,.cons _ t=>.cons r t|_,_,i+1,.cons q t=>.cons q^RDs.set r i t
theorem RDs.pick(r:RDs K m H u ds):∀l:θ Nat,RDs K m H (l.filterMap λi=>u[i]?) (l.filterMap λi=>ds[i]?)
 |[]=>.nil
 |i::l=>by
  refine rwe Z6^rwe Z6 ?_;cases g:ds[i]? with
  |none =>
   refine rwe ((by
    have h:=r.length;rw[aey] at g ⊢;lia:u[i]?=af)) ?_
   exact RDs.pick r l
  |some d =>
   exact cX (r.get g) λv e q=>(rwe e^.cons q^RDs.pick r l)
theorem RDs.dropLast:∀{a:θ V}{b:θ aN},RDs K m H a b->RDs K m H a.dropLast b.dropLast
 |_,_,.nil=>.nil|_,_,.cons _ .nil=>.nil|_,_,.cons r^.cons q t=>.cons r^RDs.dropLast^.cons q t
theorem RDs.rep(r:RDs K m H u ds):∀k:Nat,RDs K m H (ZN k u).flatten (ZN k ds).flatten
 |0=>.nil|k+1=>RDs.append r^RDs.rep r k
def uw{N:θ az}(J:N.Nodup){i j:Nat}{x:az}(a:N[i]?=aa x)(b:N[j]?=aa x):i=j:=by
 rw[Zu (by
  rcases ZR i _ with z|z
  exact z;rw[ZM z]at a;exact cT a
  )] at a
 rw[Zu (by
  rcases ZR j _ with z|z
  exact z;rw[ZM z]at b;exact cT b
  )] at b
 exact(ad1 J).mp^(Zv a).trans (Zv b).symm
inductive RR(K:Zm)(m:θ az)(H:Hp):V->aN->Prop
 |d{v:V}{d:aN}(r:RD K m H v d):RR K m H v d
 |l{a:az}{vs:θ V}{ds:θ aN}(h:H a=aa^.aj vs)(r:RDs K m H vs ds):RR K m H (.ref a)^.aj ds
def dQ(J:RH K m H h)(r:RW P w K m H v x)(e:aZ x h=aa d):RR K m H v d:=by
 cases r with
 |p r=>cases e;exact .d r
 |@r a n q =>
  simp![aZ]at e;cases g:bw h n with
  |none=>replace e:=g ▸ e;exact cT e
  |some U =>
   replace e:=g ▸ e;cases e;exact cX (J.cell n a _ q g) λV O L=>(.l O L)
 |_=>exact cT e
inductive RLs(K:Zm)(m:θ az)(H:Hp)(v:V)(ds:θ aN):Prop
 |mk(a:az)(vs:θ V)(e:v=.ref a)(l:LL K H a vs)(r:RDs K m H vs ds):RLs K m H v ds
inductive RTs(K:Zm)(m:θ az)(H:Hp)(v:V)(ds:θ aN):Prop
 |mk(a:az)(vs:θ V)(e:v=.ref a)(l:SqT K H a vs)(r:RDs K m H vs ds):RTs K m H v ds
theorem RR.aj{v:V}{a:θ aN}(r:RR K m H v^.aj a):RLs K m H v a:=by
 cases r with
 |d r=>cases r with|aj h r=>exact⟨_,_,rfl,h.elim (λq=>.inl q.1) .inr,r⟩
 |l h r=>exact#[_,_,rfl,.inl^.inl h,r]
theorem RR.aB{v:V}{a:θ aN}(r:RR K m H v^.aB a):RTs K m H v a:=by
 cases r with
 |d r=>cases r with|aB h r=>exact⟨_,_,rfl,h.elim (λq=>.inl q.1) λ⟨o,b,n,q,_⟩=>.inr^qW o _ n q,r⟩
def RR.int{v:V}{i:Int}(r:RR K m H v^ω i):v=ω i:=by cases r with|d r=>cases r;rfl
theorem RR.str{v:V}{x:ay}(r:RR K m H v^.str x):v=.str x/\PyData.strOk x=ah:=by cases r with|d r=>cases r with|str _ h=>exact⟨rfl,h⟩
def RR.bl{v:V}{b:Bool}(r:RR K m H v^.bl b):v=.bl b:=by cases r with|d r=>cases r;rfl
def RR.aC(r:RR K m H v .aC):v=.aC:=by cases r with|d r=>cases r;rfl
def TB.new(b:H p=af)(h:TB K H):TB K^upd H p o :=
 h.mono (λP J e=>by rw[dD^fq e b];exact e) λa o _ _ e=>by rw[dD^fq e b];exact e
def j8(b:H p=af):Ext m H m^upd H p o :=
 #[(cY ([]) (by simp)^by simp),λa q h _ _=>by rwa [dD^fq h b],λa h=>by
   by_cases e:a=p
   ·rwa [e]
   ·rwa [dD e]at h,λa c J h=>by rwa [dD^fq h b]
   ]
def RH.mq(R:RH K m H h)(a:H p=af):p∉m:=by
 intro q;refine uxE (abn q) λi J=>?_;have L:i<h.length:=by
  refine rwf R.len ?_;rcases ZR i _ with z|z
  exact z;rw[ZM z]at J;exact cT J
 refine uxE ((R.cl i p h[i] J^Zu _).some) λo e=>?_;replace a:=e ▸ a;cases a
def Le(H b:Hp):Prop:=∀a u,H a=aa u->b a=aa u
def Le.tb(q:Le H m)(t:TB K H):TB K m:=t.mono (λ_ _ e=>q _ _ e) λ_ _ _ _ e=>q _ _ e
def On(b:H p=af):Le H^upd H p o:=λa u e=>(dD^fq e b) ▸ ‹_›
def RH.ext(R:RH K m H h)(x:Ext m H m u)(k:Le H u):RH K m u h :=
 #[R.nd,R.len,λi a c e1 e2=>by exact uxE ((R.cl i a c e1 e2).some) λo e=>((R.cl i a c e1 e2).ext x^by exact rwe e^k _ _ e),k.tb R.tb]
def T5:HO->Bool
 |.aj _=>ah|.ins _ _ _=>ah|.dK _=>ah|_=>ai
def T6:HO->Bool
 |.frz _^.dK _=>ah|.aj _=>ah|.ins _ _ _=>ah|.dK _=>ah|_=>ai
def RH.mu(R:RH K m H h)(W:a∈m):∃o,H a=aa o/\T6 o=ah:=by
 refine uxE (abn W) λi O=>?_;have Y:i<h.length:=by
  refine rwf R.len ?_;rcases ZR i _ with z|z
  exact z;rw[ZM z]at O;exact cT O
 have z:=R.cl i a h[i] O^Zu _;cases g:h[i]with
 |o c f=>rw[g]at z;exact fV z λC b L J U Z=>((cY _ J rfl))
 |d V=>rw[g]at z;exact cX z λL J U=>((cY _ J rfl))
 |z=>replace z:=g ▸ z;exact qE z λe L J=>((cY _ J rfl))
 |_=>rw[g]at z;let(L,J,U):=z;exact#[_,J,rfl]
def RH.new(R:RH K m H h)(a:H p=af):RH K m (upd H p o) h :=
 R.ext (j8 a)^On a
def jH(b:H p=af):Ext m H (m++[p])^upd H p o :=
 #[(cY _ rfl^by simpa using b),λa q h _ _=>by rwa [dD^fq h b],λa h=>by
   by_cases e:a=p
   ·rwa [e]
   ·rwa [dD e]at h,λa c J h=>by rwa [dD^fq h b]
   ]
def RH.Oo(R:RH K m H h)(d:H p=af)(r:mh K (m++[p]) (upd H p o) p c):RH K (m++[p]) (upd H p o) (h++[c]):=by
 have J:=R.mq d;have x:Ext m H _^upd H p o:=jH d;refine#[List.nodup_append.mpr^f6 R.nd (by simp) (λa O b L=>by simp at L;subst L;exact λe=>J (e ▸ O)),by simp[R.len],λi a U e1 e2=>?_,R.tb.new d]
 by_cases c:i<m.length
 ·replace e1:=(Zs c) ▸ e1;rw[Zs^by exact rwf R.len c] at e2;exact (R.cl i a _ e1 e2).ext x^dD (by
   rintro rfl
   exact J^ZJ e1)
 ·have e:i=m.length:=by
   rcases ZR i (m++[p]).length with z|z
   simp at z;lia;rw[ZM z]at e1;exact cT e1
  subst e;simp at e1;rw[R.len]at e2;simp at e2;subst e1 e2;exact r
def RH.Xx(R:RH K m H h)(a:H p=af)(r:RDs K m H I u):RH K (m++[p]) (upd H p^.aj I) (h++[.l u]) :=
 R.Oo a^cY _ fD^r.ext^jH a
def TB.set(L:∃u,H a=aa u/\T6 u=ah)(h:TB K H):TB K^upd H a o:=by let(w,hw,J):=L;refine h.mono (λP O e=>?_) λb c _ _ e=>?_;rw[dD (λz=>by subst z;rw[hw]at e;cases e;exact aP J)];exact e;rw[dD (λz=>by subst z;rw[hw]at e;cases e;exact aP J)];exact e
def rV{a:az}{o:HO}(U:a∈m)(J:∃u,H a=aa u/\T5 u=ah):Ext m H m^upd H a o :=
 #[(cY ([]) (by simp)^by simp),λb u q n _=>by
   rwa [dD (by
    rintro rfl
    exact n U)],λb q=>by
   by_cases e:b=a
   subst e;replace q:=fD ▸ q;cases q
   ·rwa [dD e]at q,λb c V q=>by
   refine cX J λu L O=>?_
   rwa [dD (λz=>by subst z;replace q:=L ▸ q;cases q;exact aP O)]]
def jI(J:a∈m)(h:H a=aa^.aj I):Ext m H m^upd H a^.aj u:=rV J^cY _ h rfl
def RH.setC{h:aL}(R:RH K m H h){n:Nat}{a:az}{o:HO}{c:BT.Cl}(hn:m[n]?=aa a)(J:∃u,H a=aa u/\T5 u=ah)(r:mh K m (upd H a o) a c):RH K m (upd H a o)^h.set n c:=by
 have x:Ext m H m^upd H a o:=rV (ZJ hn) J;refine#[R.nd,by simp[R.len],λi b L e1 e2=>?_,R.tb.set^R.mu^ZJ hn]
 by_cases c:i=n
 ·subst c;replace e1:=hn ▸ e1;cases e1;replace e2:=(ZZ (by
   refine rwf R.len ?_;rcases ZR i _ with z|z
   exact z;rw[ZM z]at hn;exact cT hn
   )) ▸ e2
  cases e2;exact r
 ·rw[ZD^aan c] at e2;exact (R.cl i b _ e1 e2).ext x^dD (by
   rintro rfl
   exact c^uw R.nd e1 hn)
def RH.set(R:RH K m H h)(hn:m[n]?=aa a)(J:H a=aa^.aj L)(r:RDs K m H I u):RH K m (upd H a^.aj I)^h.set n^.l u :=
 R.setC hn (cY _ J rfl)^cY _ fD^r.ext^jI (ZJ hn) J
end
end BS
end
section
namespace BS
open PySem PySem.Spec PyProof.Rows L2 PySem.SeqAt
def qH{E:aA->Zo->Prop}(f:Nat->β->Sem^ForInStep β)(n:Nat)(I:Nat->β->Zo->Prop)(Q:β->Zo->Prop)
(turn:∀i b s,i<n->I i b s->av M A (f i b) (λr c=>match r with|.yield L=>I (i+1) L c|.done L=>Q L c) E s)
(fin:∀b s,I n b s->Q b s)(b:β)(h:I 0 b s):av M A (forIn [:n] b f) Q E s:=by
 rw[Std.Legacy.Range.forIn_eq_forIn_range'];refine rwe (by simp[Std.Legacy.Range.size]:afn [:n].start [:n].size [:n].step=afn 0 (n-0))^wpAny_forIn_list f (λrest b s=>∃i,i<=n/\rest=afn i (n-i)/\I i b s) Q (λx rest b s ⟨i,d,a,q⟩=>?_) (λb s ⟨i,d,a,q⟩=>?_) _ b^eH 0 (aax _) rfl h
 ·have J:i<n:=by
   rcases ZR i n with z|z
   exact z;rw[show n-i=0 by lia]at a;simp at a
  rw[show n-i=(n-(i+1))+1 by lia,List.range'_succ]at a
  injection a with e1 e2
  subst e1;refine aaa (turn x b s J q) (λr c z=>?_) λ_ _ z=>z;cases r with
  |yield L=>exact(eH (x+1) J e2 z)|done L=>exact z
 ·have:i=n:=by
   rcases ZR i n with z|z
   rw[show n-i=(n-(i+1))+1 by lia,List.range'_succ]at a;simp at a;lia
  subst this;exact fin b s q
def tN(l:az)(o:Array aA)(n:Nat)(dd:ψ az)(r:Array^ψ aA)(x:aA)(e:aA->Bool)(j:Nat)(k:j<o.size)
(V:e o[j]=ah)(U:∀m (f:m<o.size),m<j->e o[m]=ai):
 Meets (Builtin.«tuple.index» #[[.ref l,x],[]])
  (λA R s=>s.heap.get? l=aa {cls:=.type "tuple",dict:=dd,data:=.seq o n,slots:=r}/\(∀y,y∈o->EqAt A.in1 s y x^e y)/\R (.ok^.ret^ω j s.toks) {s with toks:=s.toks+1}) :=
 .of_wp λL w A R s h=>by
 let(Y,g,d,W,os):=s;refine jk h λZ a h=>?_
 wp_walk using abO Z,qH _ _ (λi b O=>i<=j/\b.1=af/\O=#[Y,g,d,W,os]) _
 case turn =>
  rintro i b O t ⟨p,u,rfl⟩
  have J:i<o.size:=()
  refine rwe (aae J) ?_;refine Zn^a _ (Array.getElem_mem J) L w _ _ ?_
  by_cases c:i=j
  ·subst c;refine rwe V ?_
   wp_walk
   exact(cY _ rfl h)
  ·refine rwe (U i J ()) ?_
   wp_walk
   exact(f6 () rfl rfl)
 case fin =>
  rintro b O ⟨p,_,_⟩
  lia
 case h=>exact(f6 (aax _) rfl rfl)
def zm(l:az)(i:Array aA)(n:Nat)(dd:ψ az)(q:Array^ψ aA)(k:Int)(t:Tok)(u:-1000<=k)(r:k<=1000)(e:¬i.isEmpty=ah)(b:k≠1)(a:0<k)(j:i.size*k.toNat<=ak):
 Meets (Builtin.«tuple.__mul__» #[[.ref l,ω k t],[]])
  (λA R s=>s.heap.get? l=aa {cls:=.type "tuple",dict:=dd,data:=.seq i n,slots:=q}/\R (.ok^.ret^.ref s.heap.objs.size) {s with heap:=s.heap.push {cls:=.type "tuple",data:=.seq ((ZN k.toNat i).foldl (λp o=>p++o) #v[])} }) :=
 .of_wp λL w A R s h=>by
 let(Y,g,d,W,os):=s;let(J,h):=h;have Z:=AutoSeq1.idx_int;have O:(k.toNat:Int)=k:=()
 have U:¬((i.size:Int)*k>(2^63-1)/8):=by
  have z:((i.size*k.toNat:Nat):Int)<=(ak:Nat):=Int.ofNat_le.mpr j;rw[Int.natCast_mul,O]at z;have V:((ak:Nat):Int)<=(2^63-1)/8:=∅
  lia
 have f:¬adk ((i.size:Int)*k)=ah:=by have z:((i.size*k.toNat:Nat):Int)<=(ak:Nat):=Int.ofNat_le.mpr j;rw[Int.natCast_mul,O]at z;simp![adk,bN];lia
 wp_walk using abO J
 refine rwe (bL^by simp;lia) ?_
 wp_walk using abO J
 refine adp (λc=>bM c ?_) (λ_=>?_);intro c;simp at U c;lia
 wp_walk using abO J
 apply wpAny_ite_false^bO^Nat.not_lt.mpr (by
  rw[AutoListH.size_joined,Array.size_empty,abX];lia)
 wp_walk
 exact(cY _ rfl h)
def qa:fillsNumberSlot (.type "tuple") "mul"=pure ai :=
 PySem.fillsNumberSlot_seq F.slot_tuple_mul.lookup (by decide +kernel) F.slot_tuple_rmul.lookup (by decide +kernel)
def ve:seqRepeat?^.type "tuple"=pure^aa^.builtin "tuple.__mul__":=by unfold seqRepeat?;rw[PySem.seqSlot_of (name:="__mul__") F.slot_tuple_mul.lookup^by decide +kernel];refine rwe (PySem.seqSlot_of F.slot_tuple_rmul.lookup^by decide +kernel) ?_;rfl
def rW(a:Int)(t:Tok)(l:az)(b:Array aA)(n:Nat)(dd:ψ az)(c:Array^ψ aA):
 Meets (Builtin.«int.__rmul__» #[[ω a t,.ref l],[]]) (λ_ R s=>s.heap.get? l=aa {cls:=.type "tuple",dict:=dd,data:=.seq b n,slots:=c}/\R (.ok^.ret Value.notImplemented) s) :=
 .of_wp λJ w A R s h=>by refine uxA h λL h=>?_;wp_walk;exact(cY _ rfl h)
def qI(l:az)(a:Array aA)(n:Nat)(b:az)(J:Array aA)(V:Nat)(dd:ψ az)(d:Array^ψ aA)(Y:¬(!a.isEmpty&&abk (a.size+J.size))=ah)(L:a.size<=ak)(W:a.size+J.size<=ak+1):
 Meets (Builtin.«list.extend» #[[.ref l,.ref b],[]]) (λ_ R s=>s.heap.get? l=aa {cls:=.type "list",dict:=af,data:=.seq a n,slots:=#v[]}/\s.heap.get? b=aa {cls:=.type "tuple",dict:=dd,data:=.seq J V,slots:=d}/\R (.ok^.ret ab6) {s with heap:=s.heap.update l (abG λx=>x++J),toks:=s.toks}) :=
 .of_wp λO w A R s h=>by refine jk h λU Z h=>?_;wp_walk using (adn U rfl (hz:=L)),abO U,abO Z;exact(cY _ rfl h)
end BS
end
section
namespace BS
open PySem PySem.Spec PyProof.Rows L2
inductive Bnd{α β:Type}(x:ψ (α×aL))(k:α->aL->ψ β)(r:β):Prop
 |mk(a:α)(g:aL)(h1:x=aa (a,g))(h2:k a g=aa r):Bnd x k r
inductive T7{α β:Type}(x:ψ α)(f:α->β)(r:β):Prop
 |mk(a:α)(h1:x=aa a)(h2:f a=r):T7 x f r
inductive Bind(o:bF)(x y:aM)(h:aL)(z:aM)(h':aL):Prop
 |mk(d d' q:aN)(h1:aZ x h=aa d)(h2:aZ y h=aa d')(J:BT.jX o d d'=aa q)(O:z=.p q)(L:h'=h):Bind o x y h z h'
def c7{L J:Type}{x:ψ (L×aL)}{k:L->aL->ψ J}{r:J}(h:bI x k=aa r):Bnd x k r:=by
 cases x with
 |none=>exact cT h|some q=>exact#[_,_,rfl,h]
def dG{L J:Type}{x:ψ L}{f:L->J}{r:J}(h:x.map f=aa r):T7 x f r:=by
 cases x with
 |none=>exact cT h|some a=>exact#[a,rfl,Zv h]
def Post(P:ZE)(w:ZW)(K:Zm)(m:θ az)(H:Hp)(z:aM)(a:aL)(Q:VK):Prop :=
 ∀v J L,Ext m H L J->RH K L J a->RW P w K L J v z->Q v J
inductive rOp(P:ZE)(w:ZW)(K:Zm)(f:aM->aM->aL->ψ (aM×aL))(v u:V)(H:Hp)(Q:VK):Prop
 |mk(m:θ az)(h:aL)(x y z:aM)(h':aL)(R:RH K m H h)(L:RW P w K m H v x)(J:RW P w K m H u y)(e:f x y h=aa (z,h'))(p:Post P w K m H z h' Q):rOp P w K f v u H Q
def oW{o:bF}{x y:aM}{h:aL}{z:aM}{a:aL}(e:BT.tM o x y h=aa (z,a)):Bind o x y h z a:=by
 unfold BT.tM at e;cases e1:aZ x h with
 |none=>replace e:=e1 ▸ e;exact cT e
 |some d =>
  cases e2:aZ y h with
  |none=>rw[e1,e2]at e;exact cT e
  |some J =>
   replace e:=e2 ▸ e1 ▸ e;obtain⟨q,b,⟨⟩⟩:=dG e;exact#[d,J,q,e1,e2,b,rfl,rfl]
section
variable{X:Cx}
def gW:BT.lim<=ak:=∅
inductive T8(s:Zo)(a:az)(xs:θ V):Prop
 |mk(z:xs.length<=ak)(J:θ aA)(n:Nat)(r:dw xs J)(l:xs.length=J.length)(e:s.heap.get? a=aa {cls:=.type "list",data:=.seq J.toArray n}):T8 s a xs
def rdL(I:Inv X u σ H s)(r:LL X.K H a m):T8 s a m:=by
 rcases r with r|⟨J,n,c,d,b⟩
 exact nN (r.ok I.aI) λz J n r e=>#[z,J,n,r,r.length,e];exact#[b.length ▸ ‹_›,J,n,b,b.length,I.kIn a _ c]
def FF(I:Inv X M σ H s)(W:LL X.K H a u)(V:LL X.K H b m)(g:u.length+m.length<=ak)
(q:∀p,H p=af->Q (.ref p)^upd H p^.aj (u++m)):av (π X.w) X.A (aa1 .Add (.ref a)^.ref b) (EP X M σ Q) X.xe s:=by
 let(z,L,n,r,d,e):=rdL I W;let(Z,J,c,O,U,e2):=rdL I V;refine PySem.P.add_list e e2 ?_ (by rw[Zx,Zx];lia);have Y:L.toArray++J.toArray=(L++J).toArray:=by simp
 rw[Y];exact#[.ref _,_,I.R8 (t':=s.toks) (r.append O)^by rw[ZX];lia,rfl,q _ I.fresh]
def C2(I:Inv X R σ H s)(f:SqT X.K H a M)(e:SqT X.K H b P)(x:M.length+P.length<=ak)
(l:M=[]->Q (.ref b) H)(k:P=[]->Q (.ref a) H)(q:∀p,H p=af->Q (.ref p)^upd H p^.aB (M++P)):av (π X.w) X.A (aa1 .Add (.ref a)^.ref b) (EP X R σ Q) X.xe s:=by
 by_cases c:M=[]
 ·let(L,j,o,_):=I.tuple f;let(J,u,m,_):=I.tuple e;let((t,dd,g,i),Z,v,n,d):=id o;let((h,Y,data2,W),O,V,r,U):=id m;simp only at v d V U;subst v d V U;have z:L=[]:=j.oH.mpr c;exact concat_meets #[_,Z,rfl] #[_,O,rfl] aeC afr acB acw (acq _ _)
   (tuple_addW0 a b L.toArray J.toArray n r dd Y i W^by simp[z]) #[Z,O,#[.ref b,H,I,rfl,l c]]
 exact IW R s σ H (.ref a) (.ref b) _ _ Q I rfl rfl #[a,b,M,P,rfl,rfl,f,e,c,x,k,λ_=>q]
def oX(R:RH X.K m H h)(a:H p=af)(r:RDs X.K m H u ds)(J:Post X.prog X.w X.K m H (.p^.aB ds) h Q):Q (.ref p)^upd H p^.aB u :=
 J _ _ m (j8 a) (R.new a)^.p^.aB (.inl #[.inl fD,R.mq a])^r.ext^j8 a
def k9(R:RH X.K m H h)(a:H p=af)(r:RDs X.K m H u ds)(J:Post X.prog X.w X.K m H (.p^.aj ds) h Q):Q (.ref p)^upd H p^.aj u :=
 J _ _ m (j8 a) (R.new a)^.p^.aj (.inl #[.inl fD,R.mq a])^r.ext^j8 a
def vf(R:RH X.K m H h)(a:H p=af)(r:RDs X.K m H u ds)(J:Post X.prog X.w X.K m H (.r h.length) (h++[.l ds]) Q):Q (.ref p)^upd H p^.aj u :=
 J _ _ _ (jH a) (R.Xx a r) (.r^by refine rwf R.len ?_;simp)
def qR(R:RH X.K m H h)(a:H p=af)(r:RDs X.K m H u ds)(J:Post X.prog X.w X.K m H (BT.new mu ds h).1 (BT.new mu ds h).2 Q):Q (.ref p)^upd H p^.aj u:=by
 cases mu with
 |false=>exact k9 R a r J|true=>exact vf R a r J
def Post.here(R:RH X.K m H h)(J:Post X.prog X.w X.K m H (.p d) h Q)(r:RD X.K m H v d):Q v H:=J v H m (.refl _ _) R^.p r
def vg(L:PyData.strOk x=ah)(J:PyData.strOk y=ah):PyData.strOk (x++y)=ah:=by show(x.cps++y.cps).all _=ah;refine rwe Array.all_append ?_;simp![PyData.strOk]at L J;refine rwe L^rwe J ?_;rfl
def Oq:OpR X (aa1 .Add)^rOp X.prog X.w X.K^BT.tM .add:=by
 rintro E s σ H v u F G Q I A B ⟨m,h,x,y,z,M,R,D,C,e,o⟩
 let(d,n,q,e1,e2,L,rfl,rfl):=oW e;have U:=dQ R D e1;have O:=dQ R C e2;cases d<;>cases n<;>first|exact cT L|simp![BT.EW,BT.yX,BT.yY,BT.dP]at L
 ·cases L;cases U.int;cases O.int;exact Nn _ s σ H _ _ _ _ Q I A B^dO _ _ rfl rfl^o.here R^ω _
 ·refine uxA (dH L) ?_;rintro c ⟨⟩;let(ev,g):=U.str;refine uxA O.str λl i=>?_;subst ev;subst l;have:=gW;exact yI _ s σ H _ _ _ _ Q I A B^fh _ _ rfl rfl ()^o.here R^.str _^vg g i
 ·obtain⟨c,⟨⟩⟩:=dH L;let(a,Z,rfl,Y,t):=U.aB;let(b,f,rfl,W,J):=O.aB;cases A;cases B;have k:=t.length;have j:=J.length;have:=gW;refine C2 I Y W () (λz=>?_) (λz=>?_) λp V=>oX R V (t.append J) o
  ·subst z;cases t;cases O with|d r=>exact o.here R r
  ·subst z;cases J;rw[aau]at o;cases U with|d r=>exact o.here R r
 ·obtain⟨c,⟨⟩⟩:=dH L;let(a,Z,rfl,Y,t):=U.aj;let(b,f,rfl,W,J):=O.aj;cases A;cases B;have k:=t.length;have j:=J.length;have:=gW;exact FF I Y W () λp V=>k9 R V (t.append J) o
def Xy:bF->Bool
 |.add=>ai|.mul=>ai|_=>ah
def vh{o:bF}{d a z:aN}(J:Xy o=ah)(e:BT.jX o d a=aa z):∃i j,d=ω i/\a=ω j:=by cases o<;>first|exact aP J|(cases d<;>first|exact cT e|(cases a<;>first|exact cT e|exact(eW _ _ rfl rfl)))
def Os:OpR X (aa1 .Sub)^rOp X.prog X.w X.K^BT.tM .sub:=by
 rintro k s σ H v u l n Q I f g ⟨m,h,x,y,z,o,R,c,b,e,a⟩
 let(d,L,q,e1,e2,J,rfl,rfl):=oW e;refine fz (vh rfl J) ?_
 rintro i j rfl rfl
 cases J;cases (dQ R c e1).int;cases (dQ R b e2).int;exact Np _ s σ H _ _ _ _ Q I f g^dO _ _ rfl rfl^a.here R^ω _
def Ot:OpR X (aa1 .Mod)^rOp X.prog X.w X.K^BT.tM .mod:=by
 rintro l s σ H v u n o Q I g k ⟨m,h,x,y,z,p,R,f,b,e,a⟩
 let(d,L,q,e1,e2,J,rfl,rfl):=oW e;refine fz (vh rfl J) ?_
 rintro i j rfl rfl
 obtain⟨c,⟨⟩⟩:=dH J;cases (dQ R f e1).int;cases (dQ R b e2).int;exact Nr _ s σ H _ _ _ _ Q I g k^fh _ _ rfl rfl c^a.here R^ω _
def JH:OpR X (aa1 .FloorDiv)^rOp X.prog X.w X.K^BT.tM .fdiv:=by
 rintro l s σ H v u n o Q I g k ⟨m,h,x,y,z,p,R,f,b,e,a⟩
 let(d,L,q,e1,e2,J,rfl,rfl):=oW e;refine fz (vh rfl J) ?_
 rintro i j rfl rfl
 let(c,J):=dH J;simp![Zp,bN]at c;cases J;cases (dQ R f e1).int;cases (dQ R b e2).int;exact IJ _ s σ H _ _ _ _ Q I g k^fh _ _ rfl rfl #[c.1,c.2]^a.here R^ω _
def vj(h:BT.big i=ah):-(2^64)<i/\i<2^64:=by have:=bQ h;lia
def C3(I:Inv X M σ H s)(j:SqT X.K H a u)(D:2<=k)(y:k<=1000)(O:u≠[])(v:u.length*k.toNat<=ak)
(q:∀p,H p=af->Q (.ref p)^upd H p^.aB (ZN k.toNat u).flatten):av (π X.w) X.A (aa1 .Mult (.ref a)^ω k t) (EP X M σ Q) X.xe s:=by
 let(J,r,p,_):=I.tuple j;let((m,dd,Y,V),e,x,n,W):=id p;simp only at x W;subst x W;have g:=r.length;have L:J.toArray.size*k.toNat<=ak:=by rw[Zx,←g];exact v
 have l:adb (λd c=>d++c) #v[]^ZN k.toNat J.toArray=(ZN k.toNat J).flatten.toArray:=by have:=foldl_rep J k.toNat [];rw[ac1]at this;exact this
 have h:¬J.toArray.isEmpty=ah:=by
  intro z;have Z:J=[]:=by simpa using z
  exact O^r.oH.mp Z
 refine ae6 (T:="tuple") (U:="int") ∅ #[_,e,rfl] (λf=>typeIs_int f k t) qa F.fills_int_mul F.slot_int_rmul ve F.slot_int_index.lookup
  (abx F.slot_int_rmul (typeIs_int s k t) F.entry_int_rmul (F.args_int_rmul_2 _ _) (rW k t a J.toArray n dd V)
   #[e,rfl,#[_,e,rfl],abx F.slot_tuple_mul #[_,e,rfl] F.entry_tuple_mul (F.args_tuple_mul_2 _ _) (zm a J.toArray n dd V k t () y h () () L) #[e,?_]])
 rw[l];have i:H s.heap.objs.size=af:=I.aI.fresh^Zw _;refine#[.ref s.heap.objs.size,_,I.laid (t':=s.toks) (o:=.aB (ZN k.toNat u).flatten) (λb C q=>Zr _ q) (Zw _) ?_,rfl,q _ i];exact#[by rw[len_rep,abX];exact v,_,r.rep k.toNat,IsTup.new _ _]
def FG(I:Inv X M σ H s)(g:LL X.K H l u)(o:-(2^63)<=k)(x:k<=1000)(j:u.length*k.toNat<=ak)
(q:∀p,H p=af->Q (.ref p)^upd H p^.aj (ZN k.toNat u).flatten):av (π X.w) X.A (aa1 .Mult (.ref l)^ω k t) (EP X M σ Q) X.xe s:=by
 have c:k<2^63:=()
 let(z,J,n,r,f,e):=rdL I g;have V:J.toArray.size*k.toNat<=ak:=by rw[Zx,←f];exact j
 have Y:¬J.toArray.size*k.toNat>(2^63-1)/8:=by
  have:(ak:Nat)<=(2^63-1)/8:=∅
  lia
 have W:¬(!Builtin.List.listFitsIndex k)=ah:=by rw[fitsIndex_both o c];exact aah
 have L:¬abk (J.toArray.size*k.toNat)=ah:=by rw[rH V];exact aah
 have O:adb (λb Z=>b++Z) #v[]^ZN (if J.toArray.isEmpty=ah then 0 else k.toNat) J.toArray=(ZN k.toNat J).flatten.toArray:=by
  have h:∀m:Nat,adb (λb Z=>b++Z) #v[]^ZN m J.toArray=(ZN m J).flatten.toArray:=λm=>by have:=foldl_rep J m [];rw[ac1]at this;exact this
  rw[h];cases J with
  |nil=>simp|cons a i=>rw[bL^by simp]
 refine ae6 (T:="list") (U:="int") ∅ #[_,e,rfl] (λd=>typeIs_int d k t) noFill_list_mul F.fills_int_mul F.slot_int_rmul repeat_list F.slot_int_index.lookup
  (abx F.slot_int_rmul (typeIs_int s k t) F.entry_int_rmul (F.args_int_rmul_2 _ _) (int___rmul___int_list k t l J.toArray n)
   #[e,rfl,#[_,e,rfl],abx F.slot_list_mul #[_,e,rfl] F.entry_list_mul (F.args_list_mul_2 _ _) (AutoListH.list___mul___list_int_3 l J.toArray n k t W Y L) #[e,?_]])
 rw[O];exact#[.ref _,_,I.R8 (t':=s.toks) (r.rep k.toNat)^by rw[len_rep,abX];exact j,rfl,q _ I.fresh]
def Ou:OpR X (aa1 .Mult)^rOp X.prog X.w X.K^BT.tM .mul:=by
 rintro l s σ H v u n o Q I j k ⟨m,h,x,y,z,r,R,i,g,e,f⟩
 let(d,W,q,e1,e2,J,rfl,rfl):=oW e;cases d<;>cases W<;>first|exact cT J|simp![BT.EX,BT.yZ,BT.nU,BT.CG]at J
 ·refine uxA (dH J) λc J=>?_;cases J;cases (dQ R i e1).int;cases (dQ R g e2).int;refine Nq _ s σ H _ _ _ _ Q I j k^fh _ _ rfl rfl ?_^f.here R^ω _;rcases aa3 _ _ ▸ c with c|c
  exact .inl^vj c;exact .inr^vj c
 ·refine uxA (dH J) λc J=>?_;simp![Zp,bN]at c;cases J;let(a,V,rfl,U,b):=(dQ R i e1).aB;cases (dQ R g e2).int;let(t,rfl):=k;cases j;have L:=b.length;have:=gW;simp![adL,List.isEmpty_eq_false_iff]at c;refine C3 I U () () (λz=>?_) (by rw[L];lia) λp O=>oX R O (b.rep _) f;subst z;cases b;exact c.1.2 rfl
 ·refine uxA (dH J) λc J=>?_;simp![Zp,bN]at c;cases J;let(a,V,rfl,U,b):=(dQ R i e1).aj;cases (dQ R g e2).int;let(t,rfl):=k;cases j;have L:=b.length;have:=gW;refine FG I U () () (by rw[L];lia) λp O=>k9 R O (b.rep _) f
end
mutual
noncomputable def pd:aN->PyData
 |.aC=>.none|.bl b=>.bool b|.int i=>ω i|.str x=>.str x|.aB J=>.tuple^pds J|.aj J=>.list^pds J
noncomputable def pds:θ aN->θ PyData
 |[]=>[]|x::r=>pd x::pds r
end
mutual
theorem rX:∀x y:aN,PyData.eqv (pd x)^pd y=aW x y
 |.aC,.aC=>rfl|.aC,.bl _=>rfl|.aC,.int _=>rfl|.aC,.str _=>rfl
 |.aC,.aB _=>by simp[pd,PyData.eqv,aW]
 |.aC,.aj _=>by simp[pd,PyData.eqv,aW]
 |.bl _,.aC=>rfl|.bl _,.bl _=>rfl|.bl _,.int _=>rfl|.bl _,.str _=>rfl
 |.bl _,.aB _=>by simp[pd,PyData.eqv,aW]
 |.bl _,.aj _=>by simp[pd,PyData.eqv,aW]
 |.int _,.aC=>rfl|.int _,.bl _=>rfl|.int _,.int _=>rfl|.int _,.str _=>rfl
 |.int _,.aB _=>by simp[pd,PyData.eqv,aW]
 |.int _,.aj _=>by simp[pd,PyData.eqv,aW]
 |.str _,.aC=>rfl|.str _,.bl _=>rfl|.str _,.int _=>rfl|.str _,.str _=>rfl
 |.str _,.aB _=>by simp[pd,PyData.eqv,aW]
 |.str _,.aj _=>by simp[pd,PyData.eqv,aW]
 |.aB _,.aC=>by simp[pd,PyData.eqv,aW]
 |.aB _,.bl _=>by simp[pd,PyData.eqv,aW]
 |.aB _,.int _=>by simp[pd,PyData.eqv,aW]
 |.aB _,.str _=>by simp[pd,PyData.eqv,aW]
 |.aB b,.aB a=>by simp![pd,PyData.eqv,aW];exact vm b a
 |.aB _,.aj _=>by simp[pd,PyData.eqv,aW]
 |.aj _,.aC=>by simp[pd,PyData.eqv,aW]
 |.aj _,.bl _=>by simp[pd,PyData.eqv,aW]
 |.aj _,.int _=>by simp[pd,PyData.eqv,aW]
 |.aj _,.str _=>by simp[pd,PyData.eqv,aW]
 |.aj _,.aB _=>by simp[pd,PyData.eqv,aW]
 |.aj b,.aj a=>by simp![pd,PyData.eqv,aW];exact vm b a
theorem vm:∀b a:θ aN,PyData.eqvAll (pds b)^pds a=BT.pW b a
 |[],[]=>by simp[pds,PyData.eqvAll,BT.pW]
 |[],_::_=>by simp[pds,PyData.eqvAll,BT.pW]
 |_::_,[]=>by simp[pds,PyData.eqvAll,BT.pW]
 |x::b,y::a=>by simp![pds,PyData.eqvAll,BT.pW];rw[rX x y,vm b a]
end
theorem mw:∀{a:θ aN},(∀x∈a,(pd x).depth<=n)->PyData.depthAll^pds a<=n
 |[],_=>by simp[pds,PyData.depthAll]
 |x::a,h=>Nat.max_le.mpr #[h x ZF,mw λy J=>h y^Zz _ J]
theorem m6:∀(n:Nat)(d:aN),BT.dok n d=ah->(pd d).depth<=n
 |n,.aC,_=>by simp[pd,PyData.depth]
 |n,.bl _,_=>by simp[pd,PyData.depth]
 |n,.int _,_=>by simp[pd,PyData.depth]
 |n,.str _,_=>by simp[pd,PyData.depth]
 |0,.aB _,h=>by simp[BT.dok]at h
 |0,.aj _,h=>by simp[BT.dok]at h
 |n+1,.aB _,h=>by rw[BT.AD,ab0]at h;exact aec (mw λx J=>m6 n x^h x J)
 |n+1,.aj _,h=>by rw[BT.AE,ab0]at h;exact aec (mw λx J=>m6 n x^h x J)
section
variable{K:Zm}
mutual
theorem jA:∀{v:V}{d:aN},RD K m H v d->(pd d).canLay0=ah
 |_,_,.aC=>rfl|_,_,.bl _=>rfl|_,_,.int _=>rfl
 |_,_,.str _ h=>by simpa [pd,PyData.canLay0]using h
 |_,_,.aB _ r=>by simp![pd,PyData.canLay0];exact lg r
 |_,_,.aj _ r=>by simp![pd,PyData.canLay0];exact lg r
theorem lg:∀{b:θ V}{a:θ aN},RDs K m H b a->PyData.canLayAll0^pds a=ah
 |_,_,.nil=>by simp[pds,PyData.canLayAll0]
 |_,_,.cons r t=>by simp![pds,PyData.canLayAll0];rw[jA r,lg t];rfl
end
mutual
theorem mz(I:Inv X M σ H s):∀{v:V}{d:aN}{u:aA},RD X.K m H v d->RelV v u->∃c,Reads s.heap u (pd d) c
 |_,_,_,.aC,r=>by cases r;exact#[_,.none]
 |_,_,_,.bl b,r=>by cases r;exact#[_,.bool b]
 |_,_,_,.int i,r=>by let(t,rfl):=r;exact#[_,ω i t]
 |_,_,_,.str x _,r=>by let(t,rfl):=r;exact#[_,.str x t]
 |_,_,_,.aB h r,q=>by cases q;let(J,L,(o,e1,e2,n,O),_):=I.tuple (h.elim (λq=>.inl q.1) λ⟨o,J,n,q,_⟩=>.inr #[o,J,n,q]);let(c,a):=m7 I r L;exact#[_,.tuple e1 e2 O^by simpa using a]
 |_,_,_,.aj h r,q=>by cases q;let(z,J,n,L,_,e):=rdL I^h.elim (λq=>.inl q.1) .inr;let(c,a):=m7 I r L;exact#[_,.list e rfl rfl^by simpa using a]
theorem m7(I:Inv X u σ H s):∀{a:θ V}{c:θ aN}{b:θ aA},RDs X.K m H a c->dw a b->∃d,ReadsAll s.heap b (pds c) d
 |_,_,_,.nil,q=>by cases q;exact#[_,.nil]
 |_,_,_,.cons r t,q=>by
  cases q with
  |cons O L =>
   let(d,e):=mz I r O;let(f,J):=m7 I t L;exact#[_,.cons e J]
end
def mD(I:Inv X M σ H s)(r:RR X.K m H v d)(q:RelV v u):∃a,Reads s.heap u (pd d) a:=by
 cases r with
 |d r=>exact mz I r q
 |l h r =>
  cases q;let(z,L,n,J,_,e):=rdL I^.inl^.inl h;let(a,b):=m7 I r J;exact#[_,.list e rfl rfl^by simpa using b]
def kO(r:RR K m H v d):(pd d).canLay0=ah:=by
 cases r with
 |d r=>exact jA r|l h r=>exact lg r
def vn(h:BT.fO x y=ah):min (pd x).depth (pd y).depth<=100:=by
 rcases aa3 _ _ ▸ h with h|h
 have:=m6 _ x h;lia;have:=m6 _ y h;lia
def lq(e:bG o x y h=aa (z,m)):
 (∃a b,y=.k a/\BT.inK o x a=aa b/\z=.p^.bl b/\m=h)\/∃d c b,aZ x h=aa d/\aZ y h=aa c/\BT.iO o d c=aa b/\z=.p^.bl b/\m=h:=by
 unfold bG at e;split at e
 ·obtain⟨b,e1,⟨⟩⟩:=dG e;exact .inl^fh _ b rfl e1 rfl rfl
 ·refine .inr ?_;cases e1:aZ x h with
  |none=>replace e:=e1 ▸ e;exact cT e
  |some d =>
   cases e2:aZ y h with
   |none=>rw[e1,e2]at e;exact cT e
   |some c =>
    replace e:=e2 ▸ e1 ▸ e;obtain⟨q,f,⟨⟩⟩:=dG e;exact(fL d _ q rfl rfl f rfl rfl)
def T9(O:X.A.units+150<ae9):OpR X (aaw .Eq)^rOp X.prog X.w X.K^bG .eq:=by
 rintro n s σ H v u o p Q I i j ⟨m,h,x,y,z,q,R,f,a,e,g⟩
 rcases lq e with⟨L,b,rfl,e1,_,_⟩|⟨d,r,b,e1,e2,l,rfl,rfl⟩
 exact bM e1^BT.rQ rfl
 ·obtain⟨c,⟨⟩⟩:=dH l;let(U,k):=mD I (dQ R f e1) i;let(t,J):=mD I (dQ R a e2) j;have:=vn c;apply SeqAt.compareEq_reads k J (kO^dQ R f e1) (kO^dQ R a e2) ();rw[rX];exact#[.bl _,H,I,rfl,g.here R^.bl _]
def Ua(O:X.A.units+150<ae9):OpR X (aaw .NotEq)^rOp X.prog X.w X.K^bG .ne:=by
 rintro n s σ H v u o p Q I i j ⟨m,h,x,y,z,q,R,f,a,e,g⟩
 rcases lq e with⟨L,b,rfl,e1,_,_⟩|⟨d,r,b,e1,e2,l,rfl,rfl⟩
 exact bM e1^BT.rQ rfl
 ·obtain⟨c,⟨⟩⟩:=dH l;let(U,k):=mD I (dQ R f e1) i;let(t,J):=mD I (dQ R a e2) j;have:=vn c;apply SeqAt.compareNe_reads k J (kO^dQ R f e1) (kO^dQ R a e2) ();rw[rX];exact#[.bl _,H,I,rfl,g.here R^.bl _]
def Ub:BT.Cm->Bool
 |.lt=>ah|.le=>ah|.gt=>ah|.ge=>ah|_=>ai
def JI{o:BT.Cm}{d a:aN}{b:Bool}(J:Ub o=ah)(e:BT.iO o d a=aa b):∃i j,d=ω i/\a=ω j:=by cases o<;>first|exact aP J|(cases d<;>first|exact cT e|(cases a<;>first|exact cT e|exact(eW _ _ rfl rfl)))
def vo{o:BT.Cm}{c:CmpOp}{f:Int->Int->Bool}(J:OpR X (aaw c) (rI0 λi j=>.bl^f i j))(O:Ub o=ah)(U:BT.memC o=ai)(V:∀i j,BT.iO o (ω i)^ω j=aa^f i j):OpR X (aaw c)^rOp X.prog X.w X.K^bG o:=by
 rintro q s σ H v u r t Q I n p ⟨m,h,x,y,z,A,R,l,k,e,g⟩
 rcases lq e with⟨L,b,rfl,e1,_,_⟩|⟨d,B,b,e1,e2,a,rfl,rfl⟩
 exact bM e1^BT.rQ U
 ·refine fz (JI O a) ?_;rintro i j rfl rfl;rw[V]at a;cases a;cases (dQ R l e1).int;cases (dQ R k e2).int;exact J _ s σ H _ _ _ _ Q I n p^dO _ _ rfl rfl^g.here R^.bl _
def AR(r:RR K m H v d):decide (v=.aC)=BT.lZ d:=by
 cases r with
 |d r=>cases r<;>rfl|l h r=>rfl
def JJ{v:V}{d:aN}{u:aA}{b:Bool}(r:RR K m H v d)(J:RelV v u):isSame u^.bool b=pure^BT.u5 b d:=by
 cases r with
 |d r=>cases r<;>first|(cases J;cases b<;>first|rfl|(rename_i c;cases c<;>rfl))|(cases b<;>rfl)
 |l h r=>cases J;rfl
def Ow:OpR X (aaw .Is)^rOp X.prog X.w X.K^bG .isN:=by
 rintro l s σ H v u n o Q I i j ⟨m,h,x,y,z,p,R,g,f,e,c⟩
 rcases lq e with⟨J,b,rfl,e1,_,_⟩|⟨d,k,b,e1,e2,a,rfl,rfl⟩
 exact bM e1^BT.rQ rfl
 ·cases k<;>first|exact cT a|simp![BT.EZ]at a
  cases a;cases (dQ R f e2).aC;exact Nt _ s σ H _ _ _ _ Q I i j #[rfl,(rwe (AR^dQ R g e1)^c.here R^.bl _)]
def JK:OpR X (aaw .IsNot)^rOp X.prog X.w X.K^bG .notN:=by
 rintro l s σ H v u n o Q I i j ⟨m,h,x,y,z,p,R,g,f,e,c⟩
 rcases lq e with⟨J,b,rfl,e1,_,_⟩|⟨d,k,b,e1,e2,a,rfl,rfl⟩
 exact bM e1^BT.rQ rfl
 ·cases k<;>first|exact cT a|simp![BT.CH,BT.CJ]at a
  ·cases a;cases (dQ R f e2).aC;exact IK _ s σ H _ _ _ _ Q I i j #[rfl,(rwe (AR^dQ R g e1)^c.here R^.bl _)]
  ·cases a;cases (dQ R f e2).bl;cases j;exact Zn^wpAny_of_eq (JJ (dQ R g e1) i)^Zq #[.bl _,H,I,rfl,c.here R^.bl _]
open Classical in
def lN(h:au)(a:PyData)(y:aA):Bool:=if q:∃J L,Reads h y J L/\J.canLay0=ah then PyData.eqv (Classical.choose q) a else ai
def zo(r:Reads h y J m)(c:J.canLay0=ah):lN h u y=PyData.eqv J u:=by have q:∃J m,Reads h y J m/\J.canLay0=ah:=(eW _ _ r c);unfold lN;exact rwe (dif_pos q) (cX (Classical.choose_spec q) λO L U=>(rwe (SeqAt.Reads.unique _ _ _ _ _ c r L) rfl))
theorem oY(I:Inv X u σ H s):∀{a:θ V}{c:θ aN}{b:θ aA},RDs X.K m H a c->dw a b->b.any^lN s.heap^pd d=c.any λy=>aW y d
 |_,_,_,.nil,q=>by cases q;rfl
 |_,_,_,.cons r t,q=>by
  cases q with
  |cons L J =>
   refine uxE (mz I r L) λO e=>?_;refine rwe List.any_cons^rwe List.any_cons^rwe (oY I t J) ?_;refine rwe (zo e^jA r) ?_;rw[rX]
theorem j9(Z:X.A.units+150<ae9)(I:Inv X M σ H s)(L:RR X.K m H v d)(O:RelV v u):∀{b:θ V}{g:θ aN}{e:θ aA},RDs X.K m H b g->dw b e->(g.all λy=>BT.fO y d)=ah →
 ∀y∈e,SeqAt.EqAt X.A.in1 s y u^lN s.heap (pd d) y
 |_,_,_,.nil,q,_=>by cases q;intro y J;simp at J
 |_,_,_,.cons r t,q,c=>by
  cases q with
  |cons Y W =>
   rw[List.all_cons,Zp]at c;intro y J;rcases List.mem_cons.mp J with rfl|J
   ·let(a,f):=mz I r Y;let(h,U):=mD I L O;refine rwe (zo f^jA r) ?_;have:=vn c.1;refine SeqAt.eqAt_reads _ _ _ _ _ _ _ _ f U (jA r) (kO L) ?_;show X.A.units+1+_<_;lia
   exact j9 Z I L O t W c.2 y J
def Ox(f:X.A.units+150 < ae9)(i:∀ {j:BT.Kd}{x:aM}{b:Bool}{m:θ az}{H:Hp}{v u:V}{O U:aA}{M σ s Q},Inv X M σ H s->RelV v O->RelV u U->RW X.prog X.w X.K m H v x->RW X.prog X.w X.K m H u^.k j->BT.inK .mem x j=aa b->Q (V.bl b) H →
 av (π X.w) X.A (aaw .In O U) (EP X M σ Q) X.xe s):OpR X (aaw .In)^rOp X.prog X.w X.K^bG .mem:=by
 rintro M s σ H v u O U Q I t B ⟨m,h,x,y,z,D,R,r,q,e,p⟩
 rcases lq e with⟨j,b,rfl,e1,rfl,rfl⟩|⟨d,C,b,e1,e2,o,rfl,rfl⟩
 exact i I t B r q e1^p.here R^.bl _
 ·cases C<;>first|exact cT o|simp![BT.rP,BT.za]at o
  ·obtain⟨c,⟨⟩⟩:=dH o;let(a,g,rfl,Z,l):=(dQ R q e2).aB;cases B;let(J,L,W,_):=I.tuple Z;exact SeqAt.in_tupleAt _ W (λy Y=>j9 f I (dQ R r e1) t l L c y^by simpa using Y) #[.bl _,H,I,rfl,(rwe (show J.toArray.any _=J.any (lN s.heap^pd d) by simp)^rwe (oY I l L)^p.here R^.bl _)]
  ·obtain⟨c,⟨⟩⟩:=dH o;let(a,g,rfl,Z,l):=(dQ R q e2).aj;cases B;let(z,J,n,L,_,W):=rdL I Z;exact SeqAt.in_listAt _ (pS _ W rfl _ rfl) (λy Y=>j9 f I (dQ R r e1) t l L c y^by simpa using Y) #[.bl _,H,I,rfl,(rwe (show J.toArray.any _=J.any (lN s.heap^pd d) by simp)^rwe (oY I l L)^p.here R^.bl _)]
def JL(f:X.A.units+150 < ae9)(i:∀ {j:BT.Kd}{x:aM}{b:Bool}{m:θ az}{H:Hp}{v u:V}{O U:aA}{M σ s Q},Inv X M σ H s->RelV v O->RelV u U->RW X.prog X.w X.K m H v x->RW X.prog X.w X.K m H u^.k j->BT.inK .nmem x j=aa b->Q (V.bl b) H →
 av (π X.w) X.A (aaw .NotIn O U) (EP X M σ Q) X.xe s):OpR X (aaw .NotIn)^rOp X.prog X.w X.K^bG .nmem:=by
 rintro M s σ H v u O U Q I t B ⟨m,h,x,y,z,D,R,r,q,e,p⟩
 rcases lq e with⟨j,b,rfl,e1,rfl,rfl⟩|⟨d,C,b,e1,e2,o,rfl,rfl⟩
 exact i I t B r q e1^p.here R^.bl _
 ·cases C<;>first|exact cT o|simp![BT.wX,BT.qy]at o
  ·obtain⟨c,⟨⟩⟩:=dH o;let(a,g,rfl,Z,l):=(dQ R q e2).aB;cases B;let(J,L,W,_):=I.tuple Z;exact SeqAt.notIn_tupleAt _ W (λy Y=>j9 f I (dQ R r e1) t l L c y^by simpa using Y) #[.bl _,H,I,rfl,(rwe (show J.toArray.any _=J.any (lN s.heap^pd d) by simp)^rwe (oY I l L)^p.here R^.bl _)]
  ·obtain⟨c,⟨⟩⟩:=dH o;let(a,g,rfl,Z,l):=(dQ R q e2).aj;cases B;let(z,J,n,L,_,W):=rdL I Z;exact SeqAt.notIn_listAt _ (pS _ W rfl _ rfl) (λy Y=>j9 f I (dQ R r e1) t l L c y^by simpa using Y) #[.bl _,H,I,rfl,(rwe (show J.toArray.any _=J.any (lN s.heap^pd d) by simp)^rwe (oY I l L)^p.here R^.bl _)]
end
section
variable{P:ZE}{w:ZW}{K:Zm}{m m':θ az}{H H':Hp}
def C4(e:p.1=k):BT.iY (p::r) k=aa p.2:=by simp[BT.iY,e]
def C5(e:¬p.1=k):BT.iY (p::r) k=BT.iY r k:=by simp[BT.iY,e]
def RKs.get(r:RKs K m H I u)(k:Key):(BT.iY u k=af/\wL I k=af)\/∃v d,BT.iY u k=aa d/\wL I k=aa v/\RD K m H v d:=by
 induction r with
 |nil=>exact .inl #[rfl,rfl]
 |@cons j v d I u L r t J =>
  by_cases c:j=k
  exact .inr^dO v d (C4 c) (wM c) r
  ·rwa [C5 c,wN c]
def FH(r:RD K m H v d)(e:BT.wU d=aa k):v=kV k:=by cases r<;>cases e<;>rfl
inductive FI(X:Cx)(m:θ az)(H:Hp)(s:Zo)(a:az)(kvs:θ (BT.Ky×aN))(k:Key):Prop
 |no(vs:θ (Key×aA))(d:s.heap.DictOf (eN X.prog X.w) a vs)(n:(a==ab3)=ai)(e1:BT.iY kvs k=af)(e2:aa8 vs k=af):FI X m H s a kvs k
 |is(vs:θ (Key×aA))(d:s.heap.DictOf (eN X.prog X.w) a vs)(n:(a==ab3)=ai)(x:aN)(v:V)(u:aA)(e1:BT.iY kvs k=aa x)(e2:aa8 vs k=aa u)(r:RelV v u)(q:RD X.K m H v x):FI X m H s a kvs k
def zu(I:Inv X R σ H s)(h:Rd H a^.dK Q)(W:RKs X.K m H Q M)(k:Key):FI X m H s a M k:=by
 refine MW (Sd I.aI h) λz V Y L dd=>?_;have J:=L.val k;rcases W.get k with⟨U,O⟩|⟨v,d,U,O,b⟩
 ·replace J:=O ▸ J;cases e:aa8 _ k with
  |none=>exact .no _ dd V U e|some u=>rw[e]at J;exact J.elim
 ·replace J:=O ▸ J;cases e:aa8 _ k with
  |none=>rw[e]at J;exact J.elim|some u=>rw[e]at J;exact .is _ dd V d v u U e J b
end
section
variable{prog:ZE}{w:ZW}{A:Z7}{E:aA->Zo->Prop}{s:Zo}
def C6(h:Q 4238894112 {s with toks:=s.toks+1}):av (ZI prog w) A (pyHash .none) Q E s:=by apply PySem.W.pyHash_slot (typeIs_none s) PySem.F.slot_NoneType_hash PySem.F.entry_NoneType_hash (PySem.F.args_NoneType_hash_1 _) ∅^.inl rfl;exact Zn^Zq^Zn^wpAny_mkInt^Zq^eW _ _ rfl h
end
def Uc:ψ Key->aA->Bool
 |none,.none=>ah|none,_=>ai|some k,v=>lW k v
def lu(h:Uc af v=ah):v=.none:=by cases v<;>first|rfl|(exfalso;exact aah h)
def FJ(a b:Key):decide (aa a=aa b)=decide (a=b):=by simp
def optKind(prog:ZE)(w:ZW):PySem.KeyKind prog w (ψ Key) where
 is:=Uc
 hash:=λk=>match k with|none=>4238894112|some k=>Rp w k
 inj:=λv a b L J=>by
  cases a with
  |none =>
   cases lu L;cases b with
   |none=>rfl
   |some b=>rcases dX (show lW b .none=ah from J)with⟨i,t,rfl,e⟩|⟨x,t,rfl,e⟩<;>exact nomatch e
  |some a =>
   cases b with
   |none =>
    cases lu J;rcases dX (show lW a .none=ah from L)with⟨i,t,rfl,e⟩|⟨x,t,rfl,e⟩<;>exact nomatch e
   |some b=>rw[(eN prog w).inj v a b L J]
 byValue:=λk v h=>by
  cases k with
  |none=>cases lu h;rfl|some k=>exact(eN prog w).byValue k v h
 pyHash:=λ{A E s k v Q} hv h=>by
  cases k with
  |none=>cases lu hv;exact C6 h|some k=>exact(eN prog w).pyHash (k:=k) hv h
 eqBool:=λ{A E s a b u v Q} hu hv h=>by
  cases a with
  |none =>
   cases lu hu;cases b with
   |none=>cases lu hv;exact SeqAt.EqAt.same _ _ _ _ _ (by simpa using h)
   |some b =>
    have h:Q ai s:=by simpa using h
    rcases dX (show lW b v=ah from hv)with⟨i,t,rfl,rfl⟩|⟨x,t,rfl,rfl⟩
    exact SeqAt.EqAt.none_int i t _ _ _ _ h;exact SeqAt.EqAt.none_str x t _ _ _ _ h
  |some a =>
   cases b with
   |none =>
    cases lu hv;have h:Q ai s:=by simpa using h
    rcases dX (show lW a u=ah from hu)with⟨i,t,rfl,rfl⟩|⟨x,t,rfl,rfl⟩
    exact SeqAt.EqAt.int_none i t _ _ _ _ h;exact SeqAt.EqAt.str_none x t _ _ _ _ h
   |some b=>rw[FJ]at h;exact(eN prog w).eqBool (a:=a) (b:=b) hu hv h
 «strs»:=λk x t v h=>by
  cases k with
  |none=>exact nomatch lu h
  |some k=>exact(eN prog w).strs k x t v h
def map_none{c:ZE}{w:ZW}{h:au}{a:az}{d:θ (Key×aA)}(dd:h.DictOf (eN c w) a d):∃f,h.MapOf (optKind c w) a f/\f af=af:=by
 refine jz dd λo Z b V U W O _=>((cY _ ((fL o _ _ V U W (λe L=>(cX (O e L) λk J Y=>((cY (aa k) J Y)))) (λk=>rfl))) ?_))
 ·show (Array.find? _ _).map _=af;refine rwe ((by
   rw[Array.find?_eq_none];intro e L q;refine cX (O e L) λk J _=>?_;replace J:=(lu q) ▸ J;rcases dX^J with ⟨i,t,rfl,e⟩|⟨x,t,rfl,e⟩<;>exact nomatch e:Array.find? _ _=af)) ?_;rfl
section
def RDs.atI{K:Zm}(r:RDs K m H u ds)(e:BT.atP ds i=aa d):∃v,L2.atI u i=aa v/\RD K m H v d:=by unfold L2.atI;refine cX (Option.bind_eq_some_iff.mp e) λj O L=>(cX (r.get L) λv U J=>((cY v (rwe r.length ?_) J)));show((BT.place _ i).bind _)=aa v;exact O ▸ ‹_›
def JM{x y:aM}{h:aL}{z:aM}{c:aL}(e:BT.E4 x y h=aa (z,c)):
 (∃a k d,x=.k^.t a/\y=.p^.str k/\BT.gJ k a=aa d/\z=.p d/\c=h)\/(∃a e k d,x=.k^.l a/\y=.p e/\BT.wU e=aa k/\BT.iY a k=aa d/\z=.p d/\c=h)\/∃d f b,aZ x h=aa d/\aZ y h=aa f/\BT.d7 d f=aa b/\z=.p b/\c=h:=by
 unfold BT.E4 at e;split at e
 ·rename_i a;obtain⟨b,e1,⟨⟩⟩:=dG e;cases a with
  |t a =>
   cases y with
   |p d =>
    cases d with
    |str x=>exact .inl^fL a _ b rfl rfl e1 rfl rfl|_=>exact cT e1
   |_=>exact cT e1
  |l a =>
   cases y with
   |p d =>
    exact cX (Option.bind_eq_some_iff.mp^e1) λk L J=>(.inr^.inl #[a,d,k,b,rfl,rfl,L,J,rfl,rfl])
   |_=>exact cT e1
 ·refine .inr^.inr ?_;cases e1:aZ x h with
  |none=>replace e:=e1 ▸ e;exact cT e
  |some d =>
   cases e2:aZ y h with
   |none=>replace e:=e2 ▸ e1 ▸ e;exact cT e
   |some f =>
    replace e:=e2 ▸ e1 ▸ e;obtain⟨q,g,⟨⟩⟩:=dG e;exact(fL d f q rfl rfl g rfl rfl)
theorem FL{K:Zm}:∀{n:θ (ay×V)}{j:θ (ay×aN)}{l:θ (Key×aA)},RDk K n j->KV (n.map λq=>((aaM q.1:Key),q.2)) l->BT.gJ k j=aa d →
 ∃u v,aa8 l^aaM k=aa u/\RelV v u/\∀m H,RD K m H v d
 |_,_,_,.nil,_,e=>by simp[BT.gJ]at e
 |_,_,_,@RDk.cons _ x v _ _ _ r t,q,e=>by
  cases q with
  |@cons p z i h W U =>
   let(f,b):=z;let(L,J):=W;simp only at L J;subst L;rw[BT.gJ]at e
   by_cases c:k=x
   ·replace e:=(bK c) ▸ e;cases e;subst c;exact(dO _ v (by simp[aa8]) J r)
   ·rw[bL c]at e;refine gK (FL t U e) λu g O a Z=>((dO u _ ?_ a Z));have Y:¬((aaM x:Key)=aaM k):=λz=>c (ac7 z).symm;simp![aa8]at O⊢;refine rwe (acR^by simpa using Y) ?_;exact O
def C7(h:PyData.strOk x=ah)(a:c∈x.cps.toList):PyData.strOk #[#v[c]]=ah:=by simp![PyData.strOk,Array.all_eq_true_iff_forall_mem]at h⊢;intro y J;simp at J;subst J;exact h y (by simpa using a)
def Oz:IxR X^rOp X.prog X.w X.K BT.E4:=by
 rintro value slice zt s σ H v u v' u' Q I rv ru ⟨m,h,x,y,z,h',R,rx,J,e,zr⟩ hs
 rcases JM e with⟨Z,k,d,rfl,rfl,e1,rfl,rfl⟩|⟨Z,e',k,d,rfl,rfl,e0,e1,rfl,rfl⟩|⟨d,d',b,e1,e2,e3,rfl,rfl⟩
 ·cases rx with
  |@k a S _ r O =>
   cases rv;cases J with
   |p J =>
    cases J with
    |str _ ok =>
     let(t,rfl):=ru;exact jB r λP L q dd=>(gK (FL O q e1) λM z i f B=>(afq (dd _ I.kIn).typeIs slot_dict_getitem.lookup (wpAny_getItem_of (j4 _ _ k t) (dd _ I.kIn).mapOf i #[z,H,I.tok _,f,zr.here R^B _ _]) hs))
 ·cases rx with
  |@kl a ob G _ A O =>
   cases rv;cases J with
   |p J =>
    have F:=FH J e0;subst F;cases zu I (.inr #[_,A.1]) O k with
    |no _ _ _ g _=>rw[g]at e1;exact cT e1
    |is L dd n x o N g E D C =>
     replace e1:=g ▸ e1;cases e1;exact afq dd.typeIs slot_dict_getitem.lookup (wpAny_getItem_of (EB ru) dd.mapOf E #[o,H,I.tok _,D,zr.here R C]) hs
 ·have V:=dQ R rx e1;have U:=dQ R J e2;cases d<;>cases d'<;>first|exact cT e3|simp![BT.iP,BT.dS,BT.l7]at e3
  ·split at e3
   ·let(T,l,rfl):=dG e3;let(rfl,ok):=V.str;cases U.int;have:=gW;exact NG _ _ _ s σ H _ _ _ _ Q I rv ru (fL _ _ _ rfl rfl () l^zr.here R^.str _^C7 ok (cX (Option.bind_eq_some_iff.mp l) λj i f=>(ZJ f))) hs
   exact cT e3
  ·let(a,L,rfl,c,ra):=V.aB;cases U.int;let(z,Y,W):=ra.atI e3;exact NF _ _ _ s σ H _ _ _ _ Q I rv ru (kX a _ _ z rfl rfl c Y^zr.here R W) hs
  ·let(a,L,rfl,c,ra):=V.aj;cases U.int;let(z,Y,W):=ra.atI e3;exact AA _ _ _ s σ H _ _ _ _ Q I rv ru (kX a _ _ z rfl rfl c.sq Y^zr.here R W) hs
def oZ(n d:Nat)(o:ψ Int):BT.clip n d o=HT.sIx n d o:=by
 cases o with
 |none=>rfl
 |some v =>
  simp![BT.clip,HT.sIx];split;rfl
  ·split;lia;lia
def tO{E:aA->Zo->Prop}{lo:ψ Int}(J:IsTup s.heap t items)(U:s.heap.IsSliceOf sl u m .none)(a:aeA u lo)(V:aeA m hi)
(hw:HT.sIx items.size 0 lo=0/\HT.sIx items.size items.size hi=items.size)(h:Q (.ref t) s):av (ZI prog w) A (aeS (.ref t)^.ref sl) Q E s:=by
 refine dU (id U) λos L O W=>?_;unfold aeS
 try with_reducible apply Z9
 refine Zn^wpAny_sequenceKey J.typeIs ∅^Zn (abb J.typeIs aaR
  (abJ aaR J.typeIs entry_tuple_getitem ?_^args_tuple_getitem _ _))
 show av _ _ (adl _ >>= _) _ _ s;refine Zn^tupleItemsOf_ J^Zn^acd (cY _ L O)^Zn^HT.kL U a V ?_;dsimp only;refine rwe (bK (by
  refine rwe hw.1^rwe hw.2 ?_;simp)) ?_
 refine Zn^Zn^acd J.typeIs^Zq^Zn^ael ?_
 first
  |exact Zq^cY _ rfl^Zq h
  |exact Zq _
  |exact Zn _
inductive rSl(P:ZE)(w:ZW)(K:Zm)(v:V)(lo hi:ψ Int)(H:Hp)(Q:VK):Prop
 |mk(m:θ az)(h:aL)(x:aM)(d b:aN)(R:RH K m H h)(J:RW P w K m H v x)(e:aZ x h=aa d)(e2:BT.wV d lo hi=aa b)(p:Post P w K m H (.p b) h Q):rSl P w K v lo hi H Q
def RDs.cut{K:Zm}(r:RDs K m H u ds)(lo a:ψ Int):RDs K m H (yO u lo a)^BT.cut ds lo a:=by unfold yO BT.cut;rw[oZ,oZ];exact rwe r.length^(r.drop _).take _
def C8{lo:ψ Int}(b:HT.sIx ds.length 0 lo=0)(a:HT.sIx ds.length ds.length hi=ds.length):BT.cut ds lo hi=ds:=by unfold BT.cut;rw[oZ,oZ];refine rwe b^rwe a ?_;simp
def osl:SlR X^rSl X.prog X.w X.K:=by
 rintro o s σ H v u t q lo n y Q I l k j i ⟨m,h,x,d,b,R,g,e1,e2,f⟩
 cases d<;>simp![BT.wV]at e2<;>try contradiction
 ·cases e2;let(a,J,rfl,L,e):=(dQ R g e1).aB;cases l
  by_cases c:HT.sIx J.length 0 lo=0/\HT.sIx J.length J.length n=J.length
  ·refine dU (I.tuple L) λO W V _=>((dO _ _ PyProof.Rows.slot_tuple_getitem.lookup V.typeIs^tO V k j i (((by exact W.length.symm:O.toArray.size=J.length)) ▸ ‹_›) #[.ref a,H,I,rfl,?_]));cases (dQ R g e1)with
   |d r =>
    apply f.here R
    rwa [C8 (by exact rwf e.length c.1)^by exact rwf e.length c.2]
  exact ND _ s σ H (.ref a) _ _ _ _ _ _ Q I rfl k j i^fh a _ rfl L c (λp U=>oX R U (e.cut _ _) f)
 ·cases e2;let(a,J,rfl,L,e):=(dQ R g e1).aj;exact IX _ s σ H _ _ _ _ _ _ _ Q I l k j i^dO a _ rfl L.sq (λp U=>k9 R U (e.cut _ _) f)
end
def xo(m:BT.Me)(d:aN)(a:θ aM)(h:aL):aS m (.p d) a h=(match bz a with|some u=>(BT.meD m d u).map λx=>(.p x,h)|none=>af):=by cases m<;>rfl
section
inductive rMe(P:ZE)(w:ZW)(K:Zm)(me:BT.Me)(v:V)(vs:θ V)(H:Hp)(Q:VK):Prop
 |mk(m:θ az)(h:aL)(x:aM)(ws:θ aM)(z:aM)(h':aL)(R:RH K m H h)(J:RW P w K m H v x)(rs:RWs P w K m H vs ws)(e:aS me x ws h=aa (z,h'))(p:Post P w K m H z h' Q):rMe P w K me v vs H Q
def getD_some{J:Type}{b:θ J}{n:Nat}{a:J}(h:b[n]?=aa a):n<b.length:=by
 rcases ZR n _ with z|z
 exact z;rw[ZM z]at h;exact cT h
def C9:MtR X "list.append"^rMe X.prog X.w X.K .append:=by
 rintro o s σ H v q u A Q I l f ⟨m,h,x,j,z,B,R,k,b,e,i⟩
 cases x with
 |p d=>cases j with
  |nil=>exact cT e|cons _ _=>rw[xo]at e;split at e<;>(try exact cT e)
 |r n =>
  cases b with
  |nil=>(first|exact cT e|simp[aS]at e)
  |@cons y V _ _ J t =>
   cases t with
   |cons _ _=>cases J<;>(first|exact cT e|simp[aS]at e)
   |nil =>
    cases J with
    |p J =>
     rw[BT.nS]at e;cases g:bw h n with
     |none=>rw[g]at e;exact cT e
     |some U =>
      replace e:=g ▸ e;simp only at e;refine uxA (dH e) ?_;rintro c ⟨⟩;cases k with
      |@r a _ hn =>
       refine cX (R.cell n a _ hn g) λL O r=>?_;have:=gW;have W:=r.length;exact uh _ s σ H _ _ _ _ Q I l f^fL a L y rfl rfl O ()^i _ _ m (jI (ZJ hn) O) (R.set hn O^r.append^.cons J .nil)^.p .aC
    |_=>(first|exact cT e|simp[aS]at e)
 |_=>(first|exact cT e|simp[aS]at e)
def FM{J:Type}{a:θ J}{d:J}(h:a.getLast?=aa d):a[a.length-1]?=aa d:=List.getLast?_eq_getElem? ▸ ‹_›
def OA:MtR X "list.pop"^rMe X.prog X.w X.K .pop:=by
 rintro l s σ H v o q t Q I k c ⟨m,h,x,i,z,u,R,j,b,e,f⟩
 cases x with
 |p d=>cases i with
  |nil=>exact cT e|cons _ _=>rw[xo]at e;split at e<;>(try exact cT e)
 |r n =>
  cases b with
  |cons _ _=>(first|exact cT e|simp[aS]at e)
  |nil =>
   rw[BT.Jk]at e;cases g:bw h n with
   |none=>rw[g]at e;exact cT e
   |some V =>
    replace e:=g ▸ e;simp only at e;cases O:V.getLast? with
    |none=>replace e:=O ▸ e;exact cT e
    |some d =>
     replace e:=O ▸ e;cases e;cases j with
     |@r a _ hn =>
      refine cX (R.cell n a _ hn g) λJ L r=>(cX (r.get^FM O) λy Y W=>?_);have U:Ext m H m^upd H a^.aj J.dropLast:=jI (ZJ hn) L;exact NJ _ s σ H _ _ _ _ Q I k c^fL a _ y rfl rfl L (r.length ▸ ‹_›)^f _ _ m U (R.set hn L r.dropLast)^.p^W.ext U
 |_=>(first|exact cT e|simp[aS]at e)
def FN(I:Inv X M σ H s)(V:H l=aa^.aj u)(a:LL X.K H b m)(g:u.length+m.length<=ak)(q:Q .aC^upd H l^.aj (u++m)):
 av (π X.w) X.A (call (.builtin "list.extend") [.ref l,.ref b]) (EP X M σ Q) X.xe s:=by
 let(z,L,n,r,d,e):=I.IZ V;let(c,J,Y,W,Z,e2):=rdL I a;have U:L.toArray.size+J.toArray.size<=ak:=by rw[Zx,Zx];lia
 have O:¬(!L.toArray.isEmpty&&abk (L.toArray.size+J.toArray.size))=ah:=by rw[rH U,Bool.and_false];exact aah
 refine abx F.slot_list_extend #[_,e,rfl] F.entry_list_extend (F.args_list_extend_2 _ _)
  (AutoSeq1.list_extend_list_list_0 l L.toArray n b J.toArray Y O (by rw[Zx];lia) ()) #[e,e2,?_]
 refine#[.aC,_,I.IY (its':=L++J) V e (by simp) (r.append W) ?_,rfl,q];rw[ZX];lia
def JN(I:Inv X M σ H s)(V:H l=aa^.aj u)(Z:SqT X.K H b m)(h:u.length+m.length<=ak)(q:Q .aC^upd H l^.aj (u++m)):
 av (π X.w) X.A (call (.builtin "list.extend") [.ref l,.ref b]) (EP X M σ Q) X.xe s:=by
 refine uT (I.IZ V) λz L n r a e=>?_;refine dU (I.tuple Z) λJ U W _=>(qX (id W) ?_);rintro ⟨cls,dd,data,f⟩ e2 d g c;simp only at d c;subst d c;have Y:=U.length;have O:L.toArray.size+J.toArray.size<=ak:=by refine rwe Zx^rwe Zx ?_;lia
 refine abx F.slot_list_extend (cY _ e rfl) F.entry_list_extend (F.args_list_extend_2 _ _)
  (qI l _ n b _ _ _ _ (by
   refine rwe (rH O) ?_;rw[Bool.and_false];exact aah) (by refine rwe Zx ?_;lia) ())^f6 e e2 ?_
 refine#[.aC,_,I.IY V e (by simp) (r.append U)^rwe ZX ?_,rfl,q];lia
def Dc:MtR X "list.extend"^rMe X.prog X.w X.K .extend:=by
 rintro E s σ H v F G M Q I D o ⟨m,h,x,B,z,N,R,C,l,e,q⟩
 cases x with
 |p d=>cases B with
  |nil=>exact cT e|cons _ _=>rw[xo]at e;split at e<;>(try exact cT e)
 |r n =>
  cases l with
  |nil=>(first|exact cT e|simp[aS]at e)
  |@cons y j _ _ W t =>
   cases t with
   |cons _ _=>(first|exact cT e|simp[aS]at e)
   |nil =>
    rw[BT.yV]at e;cases g:bw h n with
    |none=>rw[g]at e;exact cT e
    |some i =>
     cases V:(aZ _ h).bind _ with
     |none=>rw[g,V]at e;exact cT e
     |some f =>
      replace e:=V ▸ g ▸ e;refine uxA (dH e) ?_
      rintro c ⟨⟩
      refine cX (Option.bind_eq_some_iff.mp V) λd e1 e2=>?_;cases C with
      |@r a _ hn =>
       refine cX (R.cell n a _ hn g) λZ J r=>?_;cases D;refine cX o.one ?_
       rintro u rfl A
       have:=gW;have k:=r.length;cases d<;>simp![BT.wW]at e2<;>try contradiction
       ·cases e2;let(b,Y,rfl,U,L):=(dQ R W e1).aB;cases A;have O:=L.length;exact JN I J U ()^q _ _ m (jI (ZJ hn) J) (R.set hn J^r.append L)^.p .aC
       ·cases e2;let(b,Y,rfl,U,L):=(dQ R W e1).aj;cases A;have O:=L.length;exact FN I J U ()^q _ _ m (jI (ZJ hn) J) (R.set hn J^r.append L)^.p .aC
 |_=>(first|exact cT e|simp[aS]at e)
def RWs.pure{K:Zm}:∀{b:θ V}{a:θ aM}{c:θ aN},RWs P w K m H b a->bz a=aa c->RDs K m H b c:=by
 intro b a
 induction a generalizing b with
 |nil =>
  intro c r e;cases r;cases e;exact .nil
 |cons x a J =>
  intro c r e;cases r with
  |cons r t =>
   cases r with
   |p r =>
    let(q,e1,rfl):=dG e;exact .cons r^J t e1
   |_=>exact cT e
theorem nW:∀{a:θ aN}{k j:Nat},BT.l6 x a k=aa j->∃i,j=k+i/\∃(b:i<a.length),aW a[i] x=ah/\∀m (J:m<a.length),m<i->aW a[m] x=ai
 |[],_,_,e=>cT e
 |y::r,k,j,e=>by
  simp![BT.l6]at e;split at e
  ·rename_i c;cases e;exact#[0,rfl,by simp,c,λm _ h=>()]
  ·rename_i c;let(i,rfl,b,U,O):=nW e;refine#[i+1,(),by simp;lia,by simpa using U,λm J L=>?_];cases m with
   |zero=>simpa using c|succ m=>simpa using O m _ ()
theorem m8(I:Inv X u σ H s):∀{e:θ V}{c:θ aN}{a:θ aA},RDs X.K m H e c->dw e a->∀(i:Nat)(b:i<a.length)(g:i<c.length),lN s.heap (pd d) a[i]=aW c[i] d
 |_,_,_,.nil,q=>by cases q;intro i b;simp at b
 |_,_,_,.cons r t,q=>by
  cases q with
  |cons L J =>
   intro i b g;cases i with
   |zero =>
    let(O,f):=mz I r L;simp![List.getElem_cons_zero];refine rwe (zo f^jA r) ?_;rw[rX]
   |succ i=>simpa using m8 I t J i _ _
def De(l:X.A.units+150<ae9):MtR X "tuple.index"^rMe X.prog X.w X.K .tindex:=by
 rintro zt s σ H v vs v' us Q I rv rus ⟨m,h,x,ws,z,h',R,O,rws,e,zr⟩
 cases x with
 |r n=>cases ws with
  |_=>(first|exact cT e|simp[aS]at e)
 |p d =>
  rw[BT.rM]at e;cases g:bz _ with
  |none=>rw[g]at e;exact cT e
  |some D =>
   rw[g]at e;obtain⟨b,e1,⟨⟩⟩:=dG e;cases d<;>first|exact cT e1|skip
   cases D with
   |nil=>exact cT e1
   |cons G E =>
    cases E with
    |cons _ _=>exact cT e1
    |nil =>
     rw[BT.NV]at e1;split at e1
     ·rename_i c;let(j,C,rfl):=dG e1;let(i,rfl,P,S,B):=nW C;cases (rws.pure g)with
      |cons Y rn =>
       cases rn;refine cX rus.one ?_
       rintro u rfl ru
       cases O with
       |p O =>
        let(a,M,rfl,t,T):=RR.aB^.d O;cases rv;refine dU (I.tuple t) λJ L Z _=>(qX (id Z) ?_);rintro ⟨cls,dd,data,sl⟩ ho hc n hd;subst hc hd;have N:=L.length;have o:=T.length;have W:i<J.toArray.size:=by refine rwe Zx ?_;lia
        refine abx F.slot_tuple_index (cY _ ho rfl) F.entry_tuple_index (F.args_tuple_index_2 _ _)
         (tN a _ n _ _ u (lN s.heap^pd G) i W ?_ ?_)^f6 ho ?_ ?_
        ·rwa [show J.toArray[i]=J[i]'() by simp,m8 I T L i _ _]
        ·intro k q U;have V:=by simpa using q
         refine rwe (show J.toArray[k]=J[k]'V by simp) ?_;rw[m8 I T L k _ _];exact B k () U
        ·intro y f;exact j9 l I (.d Y) ru T L c y (by simpa using f)
        ·refine#[ω _,H,I.tok _,#[s.toks,?_],zr.here R^ω _];simp
     exact cT e1
 |_=>(first|exact cT e|simp[aS]at e)
def Df:MtR X "str.index"^rMe X.prog X.w X.K .sindex:=by
 rintro l s σ H v o q A Q I k c ⟨m,h,x,i,z,B,R,J,a,e,f⟩
 cases x with
 |r n=>cases i with
  |_=>(first|exact cT e|simp[aS]at e)
 |p d =>
  rw[BT.rO]at e;cases g:bz _ with
  |none=>rw[g]at e;exact cT e
  |some V =>
   replace e:=g ▸ e;obtain⟨b,e1,⟨⟩⟩:=dG e;cases d<;>first|exact cT e1|skip
   cases V with
   |nil=>exact cT e1
   |cons O W =>
    cases W with
    |cons _ _=>cases O<;>exact cT e1
    |nil =>
     cases O<;>first|exact cT e1|skip
     rename_i x y;rw[BT.EV]at e1;cases L:abt x y 0 _ 1 with
     |nil=>replace e1:=L ▸ e1;exact cT e1
     |cons j rest =>
      replace e1:=L ▸ e1;cases e1;cases (a.pure g)with
      |cons U rn =>
       cases rn;cases U;let(u,rfl,Y,rfl):=c.one;cases J with
       |p J =>
        cases J;let(t,rfl):=k;exact call_gives F.slot_str_index (typeIs_str s x t) F.entry_str_index (F.args_str_index_2 _ _) (gives_str_index x y t _ j _ L) #[ω j,H,I.tok _,#[_,rfl],f.here R^ω _]
 |_=>(first|exact cT e|simp[aS]at e)
end
section
inductive rBi(P:ZE)(w:ZW)(K:Zm)(b:BT.Bi)(mu:Bool)(vs:θ V)(H:Hp)(Q:VK):Prop
 |mk(m:θ az)(h:aL)(ws:θ aM)(z:aM)(h':aL)(R:RH K m H h)(rs:RWs P w K m H vs ws)(e:BT.kBi b mu ws h=aa (z,h'))(p:Post P w K m H z h' Q):rBi P w K b mu vs H Q
inductive RRs(K:Zm)(m:θ az)(H:Hp):θ V->θ aN->Prop
 |nil:RRs K m H [] []
 |cons{v:V}{d:aN}{vs:θ V}{ds:θ aN}(r:RR K m H v d)(t:RRs K m H vs ds):RRs K m H (v::vs) (d::ds)
theorem gq{K:Zm}(R:RH K m H h):∀{b:θ V}{a:θ aM}{c:θ aN},RWs P w K m H b a->aV a h=aa c->RRs K m H b c
 |_,_,_,.nil,e=>by cases e;exact .nil
 |_,_,_,.cons r t,e=>by refine cX (Option.bind_eq_some_iff.mp e) λd e1 e2=>?_;let(q,J,rfl):=dG e2;exact .cons (dQ R r e1)^gq R t J
inductive BiI(b:BT.Bi)(mu:Bool)(ws:θ aM)(h:aL)(z:aM)(h':aL):Prop
 |mk(ds:θ aN)(d:aN)(h1:aV ws h=aa ds)(h2:BT.biD b ds=aa d)(J:(mu=ai/\z=.p d/\h'=h)\/∃xs,mu=ah/\d=.aj xs/\z=.r h.length/\h'=h++[.l xs]):BiI b mu ws h z h'
def kH(e:BT.kBi b m u h=aa (z,H)):BiI b m u h z H:=by
 unfold BT.kBi at e;cases e1:aV _ h with
 |none=>rw[e1]at e;exact cT e
 |some J =>
  replace e:=e1 ▸ e;simp only at e;cases e2:BT.biD b _ with
  |none=>rw[e2]at e;exact cT e
  |some d =>
   replace e:=e2 ▸ e;simp only at e;cases m with
   |false=>cases e;exact#[J,d,e1,e2,.inl^f6 rfl rfl rfl]
   |true =>
    simp![if_true]at e;cases d<;>simp only at e<;>try contradiction
    cases e;exact#[J,_,e1,e2,.inr^kW _ rfl rfl rfl rfl]
def RRs.one{K:Zm}{m:θ az}{H:Hp}{a:θ V}{d:aN}(r:RRs K m H a [d]):∃v,a=[v]/\RR K m H v d:=by
 cases r with
 |cons r t=>cases t;exact(cY _ rfl r)
def OB:f7 X (.builtin "len")^rBi X.prog X.w X.K .len ai:=by
 rintro i s σ H k l Q I c ⟨m,h,j,z,n,R,b,e,f⟩
 obtain⟨O,d,e1,e2,⟨_,rfl,rfl⟩|⟨_,q,_⟩⟩:=kH e
 ·match O,e2 with
  |[.aB _],e2 =>
   cases e2;let(v,rfl,r):=(gq R b e1).one;let(a,J,rfl,L,g):=r.aB;exact k8 _ s σ H _ _ Q I c #[a,J,rfl,.inr L,by rw[g.length];exact f.here R^ω _]
  |[.aj _],e2 =>
   cases e2;let(v,rfl,r):=(gq R b e1).one;let(a,J,rfl,L,g):=r.aj;exact k8 _ s σ H _ _ Q I c #[a,J,rfl,.inl L.sq,by rw[g.length];exact f.here R^ω _]
  |[.str x],e2 =>
   rw[BT.CM]at e2;split at e2
   ·cases e2;refine cX (gq R b e1).one ?_
    rintro v rfl r
    let(rfl,_):=r.str;have:=gW;exact uY _ s σ H _ _ Q I c^eH x rfl ()^f.here R^ω _
   exact cT e2
 exact aP q
def OD:f7 X (.type "int")^rBi X.prog X.w X.K .int ai:=by
 rintro f s σ H j k Q I b ⟨m,h,g,z,l,R,a,e,c⟩
 obtain⟨J,d,e1,e2,⟨_,rfl,rfl⟩|⟨_,q,_⟩⟩:=kH e
 ·match J,e2 with
  |[.int i],e2 =>
   cases e2;let(v,rfl,r):=(gq R a e1).one;cases r.int;exact ua _ s σ H _ _ Q I b^.inl^cY i rfl^c.here R^ω _
  |[.bl i],e2 =>
   cases e2;let(v,rfl,r):=(gq R a e1).one;cases r.bl;exact ua _ s σ H _ _ Q I b^.inr^cY i rfl^c.here R^ω _
 exact aP q
def AS:f7 X (.type "list")^rBi X.prog X.w X.K .list mu:=by
 rintro j s σ H n o Q I c ⟨m,h,l,z,q,R,b,e,i⟩
 let(Z,d,e1,e2,Y):=kH e;have fin:∀{p:az}{J:θ V}{O:θ _},d=.aj O->H p=af->RDs X.K m H J O->Q (.ref p)^upd H p^.aj J:=by
  intro p J O W L r;rcases Y with⟨_,rfl,rfl⟩|⟨k,_,g,rfl,rfl⟩
  subst W;exact k9 R L r i;replace g:=W ▸ g;cases g;exact vf R L r i
 match Z,e2 with
 |[.aB _],e2 =>
  cases e2;let(v,rfl,r):=(gq R b e1).one;let(a,J,rfl,U,f):=r.aB;exact oJ _ s σ H _ _ Q I c #[a,J,rfl,.inr U,λp L=>fin rfl L f]
 |[.aj _],e2 =>
  cases e2;let(v,rfl,r):=(gq R b e1).one;let(a,J,rfl,U,f):=r.aj;exact oJ _ s σ H _ _ Q I c #[a,J,rfl,.inl U.sq,λp L=>fin rfl L f]
theorem jJ:∀{b:θ aN}{a:θ Int},BT.intsOf b=aa a->b=a.map aN.int
 |[],a,h=>by cases h;rfl
 |.int i::r,a,h=>by let(q,e1,rfl):=dG h;refine rwe (jJ e1) ?_;rfl
 |.aC::_,_,h=>cT h|.bl _::_,_,h=>cT h|.str _::_,_,h=>cT h|.aB _::_,_,h=>cT h|.aj _::_,_,h=>cT h
theorem iZ{K:Zm}:∀{b:θ Int}{a:θ V},RDs K m H a^b.map aN.int->a=b.map V.int
 |[],a,r=>by cases r;rfl
 |n::b,a,r=>by
  cases r with
  |cons r t=>cases r;refine rwe (iZ t) ?_;rfl
theorem o7{K:Zm}:∀(a:θ Int),RDs K m H (a.map V.int)^a.map aN.int
 |[]=>.nil|n::a=>.cons (ω n)^o7 _
def Dg(o:X.calm=ah):f7 X (.builtin "max") (λl H Q=>∃(a:az) (i:θ Int),l=[.ref a]/\SqL X.K H a^i.map V.int/\0<i.length/\∀M,M∈i->(∀z∈i,z<=M)->Q (ω M) H):=by
 rintro w s σ H l x Q I r ⟨a,i,rfl,m,k,q⟩
 refine cX (vals1 r) ?_
 rintro u rfl ⟨⟩
 refine dU (I.list m) λZ W p O=>?_;refine uxE (intsAre_of W).allInts.items λL e=>?_;have J:i=L.toList.map (·.1):=by refine rwf (intsAre_of W).numsOf ?_;rw[←nums_intItems,←e]
 have U:=by rw[J,ZA,Z5]at k;exact k
 have Y:=p.isList;rw[e]at Y;refine max_intList (I.ok.hd o) Y U λv h f b c=>(uxE (intItems_at b) ?_)
 rintro t rfl
 refine uxA (argBest_gt (numAt L) (L.size-1)) λg d=>(#[ω _,H,I.aG c,#[t,rfl],q _ ?_ λz O=>?_]);refine rwe J ?_;rw[numAt_eq];exact getD_mem (by rw[ZA];refine rwe Z5 ?_;lia);rw[J]at O;refine cX (mem_getD O) ?_;rintro j n rfl;rw[ZA,Z5]at n;rw[←numAt_eq];exact d j ()
def Dh(o:X.calm=ah):f7 X (.builtin "min") (λl H Q=>∃(a:az) (i:θ Int),l=[.ref a]/\SqL X.K H a^i.map V.int/\0<i.length/\∀M,M∈i->(∀z∈i,M<=z)->Q (ω M) H):=by
 rintro w s σ H l x Q I r ⟨a,i,rfl,m,k,q⟩
 refine cX (vals1 r) ?_
 rintro u rfl ⟨⟩
 refine dU (I.list m) λZ Y p L=>?_;refine uxE (intsAre_of Y).allInts.items λO e=>?_;have J:i=O.toList.map (·.1):=by refine rwf (intsAre_of Y).numsOf ?_;rw[←nums_intItems,←e]
 have W:=by rw[J,ZA,Z5]at k;exact k
 have U:=p.isList;replace U:=e ▸ U;refine min_intList (I.ok.hd o) U W λv h f b c=>(uxE (intItems_at b) ?_)
 rintro t rfl
 refine uxA (argBest_lt (numAt O) (O.size-1)) λg d=>(#[ω _,H,I.aG c,#[t,rfl],q _ ?_ λz L=>?_]);refine rwe J ?_;rw[numAt_eq];exact getD_mem (by rw[ZA];refine rwe Z5 ?_;lia)
 ·replace L:=J ▸ L;refine cX (mem_getD L) ?_
  rintro j n rfl
  rw[ZA,Z5]at n;rw[←numAt_eq];exact d j ()
def xq:f7 X (.builtin "sorted") (λi H Q=>∃(a:az) (h:θ Int),i=[.ref a]/\SqL X.K H a^h.map V.int/\h.length<64/\∀(l:az)(J:θ Int),H l=af->J.Perm h->J.Pairwise (·<=·)->Q (.ref l)^upd H l^.aj^J.map V.int):=by
 rintro m s σ H i n Q I r ⟨a,h,rfl,j,k,q⟩
 refine cX (vals1 r) ?_
 rintro u rfl ⟨⟩
 refine dU (I.list j) λW L p g=>?_;have len:=L.length;rw[ZA]at len;refine sorted_ints p.isList (intsAre_of L) () λU J c O Z=>?_;let(e,Y):=sortedAll_at _ _ _;have f:=O.length_eq;refine#[.ref _,_,I.laid (λb u q=>sortedAll_old q) (aal _) ?_,rfl,q _ _ (I.aI.fresh^aal _) O Z];have d:=adP;exact(lV (by rw[ZA];lia) _ e ((mZ c)) Y)
def JO(n:X.calm=ah):f7 X (.builtin "max")^rBi X.prog X.w X.K .max1 ai:=by
 rintro o s σ H t u Q I j ⟨m,h,p,z,x,R,i,e,l⟩
 obtain⟨c,d,e1,e2,⟨_,rfl,rfl⟩|⟨_,q,_⟩⟩:=kH e
 ·match c,e2 with
  |[.aj _],e2 =>
   refine cX (Option.bind_eq_some_iff.mp e2) λW V U=>?_;let(M,J,rfl):=dG U;refine cX (gq R i e1).one ?_
   rintro v rfl r
   let(a,f,rfl,b,k):=r.aj;replace k:=(jJ V) ▸ k;have ev:=iZ k;subst ev;let(O,L):=BT.CP J;refine Dg n _ s σ H _ _ Q I j^fh a _ rfl b.sq (by cases W with|nil=>cases J|cons _ _=>exact adY _) (λg Z Y=>?_);have:=Int.le_antisymm (L _ Z)^Y _ O;subst this;exact l.here R^ω _
 exact aP q
def JP(n:X.calm=ah):f7 X (.builtin "min")^rBi X.prog X.w X.K .min1 ai:=by
 rintro o s σ H t u Q I j ⟨m,h,p,z,x,R,i,e,l⟩
 obtain⟨b,d,e1,e2,⟨_,rfl,rfl⟩|⟨_,q,_⟩⟩:=kH e
 ·match b,e2 with
  |[.aj _],e2 =>
   refine cX (Option.bind_eq_some_iff.mp e2) λf V U=>?_;let(M,O,rfl):=dG U;refine cX ((gq R i e1).one) ?_
   rintro v rfl r
   let(a,c,rfl,Z,k):=r.aj;replace k:=(jJ V) ▸ k;have ev:=iZ k;subst ev;let(L,J):=BT.CO O;refine Dh n _ s σ H _ _ Q I j^fh a _ rfl Z.sq (by grind) (λg Y W=>?_);have:=Int.le_antisymm (W _ L)^J _ Y;subst this;exact l.here R^ω _
 exact aP q
def ux:f7 X (.builtin "sorted")^rBi X.prog X.w X.K .sorted mu:=by
 rintro y s σ H C D Q I q ⟨m,h,B,z,E,R,o,e,x⟩
 let(n,d,e1,e2,i):=kH e;have fin:∀{p:az}{J:θ V}{O:θ _},d=.aj O->H p=af->RDs X.K m H J O->Q (.ref p)^upd H p^.aj J:=by
  intro p J O Y W r;rcases i with⟨_,rfl,rfl⟩|⟨A,_,u,rfl,rfl⟩
  subst Y;exact k9 R W r x;replace u:=Y ▸ u;cases u;exact vf R W r x
 match n,e2 with
 |[.aj _],e2 =>
  refine cX (Option.bind_eq_some_iff.mp e2) λb Z L=>?_
  by_cases c:b.length<64
  ·rw[bK c]at L;refine cX (gq R o e1).one ?_
   rintro v rfl r
   let(a,J,rfl,k,t):=r.aj;replace t:=(jJ Z) ▸ t;have ev:=iZ t;subst ev;refine xq _ s σ H _ _ Q I q^fh a _ rfl k.sq c (λl U j g f=>?_);have:U=BT.sortI _:=adC (g.trans (BT.sortI_perm _).symm) f^BT.oQ _;subst this;exact fin ((Zv L).symm) j^o7 _
  rw[bL c]at L;exact cT L
def FO:f7 X (.type "tuple")^rBi X.prog X.w X.K .tuple ai:=by
 rintro i s σ H k l Q I c ⟨m,h,j,z,n,R,b,e,f⟩
 obtain⟨U,d,e1,e2,⟨_,rfl,rfl⟩|⟨_,q,_⟩⟩:=kH e
 ·match U,e2 with
  |[.aB _],e2 =>
   cases e2;let(v,rfl,r):=(gq R b e1).one;let(a,J,rfl,L,g):=r.aB;refine nF _ s σ H _ _ Q I c #[a,J,rfl,.inr #[L,?_]];cases r with
   |d r=>exact f.here R r
  |[.aj _],e2 =>
   cases e2;let(v,rfl,r):=(gq R b e1).one;let(a,J,rfl,L,g):=r.aj;exact nF _ s σ H _ _ Q I c #[a,J,rfl,.inl #[L.sq,λp O=>oX R O g f]]
 exact aP q
def tyD:aN->String
 |.aC=>"NoneType"|.bl _=>"bool"|.int _=>"int"|.str _=>"str"|.aB _=>"tuple"|.aj _=>"list"
def JQ{E:aA->Zo->Prop}
(I:Inv X M σ H s)(r:RR X.K m H v d)(J:RelV v u)(e:aaT X.K (.type^tyD d)^.type c=aa b)(h:∀g,Q (.bool b) {s with toks:=g}):
 av (π X.w) A (call (.builtin "isinstance") [u,.type c]) Q E s:=by
 cases d with
 |aC=>cases r.aC;cases J;exact abc PySem.W.kitx_none I.kIn abE e (λz=>nomatch z) h|bl y=>cases r.bl;cases J;exact abc PySem.W.kitx_bool I.kIn abE e (λz=>nomatch z) h|int i=>cases r.int;let(t,rfl):=J;exact abc PySem.W.kitx_int I.kIn abE e (λz=>nomatch z) h|str y=>refine uxA r.str ?_;rintro rfl _;refine uxE J ?_;rintro t rfl;exact abc PySem.W.kitx_str I.kIn abE e (λz=>nomatch z) h
 |aB V =>
  let(a,Y,rfl,O,_):=r.aB;cases J;refine dU (I.tuple O) ?_
  rintro L _ ⟨o,U,j,_⟩ _
  exact abc PySem.W.kitx_tuple I.kIn (cY o U j) e (λz=>nomatch z) h
 |aj V =>
  let(a,Y,rfl,O,_):=r.aj;cases J;let(_,L,n,_,_,U):=rdL I O;exact abc PySem.W.kitx_list I.kIn (cY _ U rfl) e (λz=>nomatch z) h
def FP(K:Zm)(t:String):aaT K (.type t)^.type t=aa ah:=by unfold aaT;exact rwe (bK^by simp) rfl
def FQ(h:xj b=aa (c,f))(d:aN):BT.biD b [d]=aa^.bl^f d:=by
 cases b<;>simp![xj]at h<;>try contradiction
 all_goals (cases h;rfl)
def FU(h:xj b=aa (c,f))(K:Zm)(d:aN):aaT K (.type^tyD d)^.type c=aa^f d:=by
 cases b<;>simp![xj]at h<;>try contradiction
 all_goals (cases h;cases d)
 all_goals first
  |exact FP K _
  |(first|rfl|kernel_rfl|decide +kernel)
end
end BS
end
section
namespace BX
open PySem PySem.Spec PyProof.Rows
section
variable{prog:ZE}{w:ZW}{A:Z7}{R:adt->Zo->Prop}{I:az}{fp wr:θ az}{n:Nat}{P:Nat->aA->Prop}{St:Nat->au->Prop}{kw:θ (ay×aA)}
end
end BX
end
section
namespace BS
open PySem PySem.Spec PyProof.Rows L2
variable{K:Zm}
@[reducible]noncomputable def FT:=bq->θ aM->aL->ψ (aM×aL)
inductive spF(P:ZE)(w:ZW)(K:Zm)(g:θ aM->aL->ψ (aM×aL))(vs:θ V)(H:Hp)(Q:VK)(E:XK):Prop
 |mk(m:θ az)(ws:θ aM)(h:aL)(z:aM)(h':aL)(R:RH K m H h)(r:RWs P w K m H vs ws)(e:g ws h=aa (z,h'))(p:Post P w K m H z h' Q):spF P w K g vs H Q E
inductive tD(X:Cx)(F:FT)(G:ay->ψ aM)(e:aU)(σ:L2.St)(H:Hp)(Q:VK):Prop
 |mk(m:θ az)(s:aY)(h:aL)(z:aM)(h':aL)(R:RH X.K m H h)(S:RS X.prog X.w X.K m H σ s)(q:aK F G e s h=aa (z,h'))(p:Post X.prog X.w X.K m H z h' Q):η e σ H Q
inductive tDs(X:Cx)(F:FT)(G:ay->ψ aM)(es:aT)(σ:L2.St)(H:Hp)(Q:θ V->Hp->Prop):Prop
 |mk(m:θ az)(s:aY)(h:aL)(zs:θ aM)(h':aL)(R:RH X.K m H h)(S:RS X.prog X.w X.K m H σ s)(q:aX F G es s h=aa (zs,h'))(p:∀vs H' m',Ext m H m' H'->RH X.K m' H' h'->RWs X.prog X.w X.K m' H' vs zs->Q vs H'):tDs X F G es σ H Q
inductive tDT(X:Cx)(F:FT)(G:ay->ψ aM)(e:aU)(σ:L2.St)(H:Hp)(Q:Bool->Hp->Prop):Prop
 |mk(m:θ az)(s:aY)(h:aL)(b:Bool)(h':aL)(R:RH X.K m H h)(S:RS X.prog X.w X.K m H σ s)(q:aK F G e s h=aa (.p^.bl b,h'))(p:∀H' m',Ext m H m' H'->RH X.K m' H' h'->Q b H'):tDT X F G e σ H Q
def FW(P:ZE)(w:ZW)(K:Zm)(c:ay->ψ aA)(b:au)(k L:Nat)(g:θ aM->aL->ψ (aM×aL)):Prop :=
 ∀(A:Z7)(J:θ Env)(s:Zo)(H:Hp) (f:az) (Y:θ aA) (W O:θ V) (m:θ az) (U:θ aM) (a:θ BT.Cp) (h:aL) (z:aM) (Z:aL) (Q:VK) (E:XK),fQ k A->qF P w K c b A J s H->dw W Y →
  RH K m H h->RWs P w K m H W U->BT.noC U=ah->rT m H f L O->RCs K m H O a->g (U++a.map BT.Cp.w) h=aa (z,Z)->Post P w K m H z Z Q->ao (ZI P w) A (.call (.ref f) #[Y,[]]) (CR CX0 J P w H s Q E) s
structure LX(X:Cx)(x:ay):Prop where
 mem:x∈BT.j7
 ex:∃c P,aaQ X.K x=aa (c,P)/\X.env.code=.ref c/\PySem.W.CodeHd X.base c P/\∀y∈BT.j7,∀c2,aaQ X.K y=aa (c2,P)->y=x
 ql:X.env.qual=x++".<locals>."
 bm:∃bm ob,X.mg "__builtins__"=aa^.ref bm/\bm≠abK/\X.base.get? bm=aa ob/\ob.cls=.type "module"/\ob.dict=aa abK/\ob.data=.plain
def OE:θ ay:=["len","abs","int","list","tuple","isinstance","str","bool","range","reversed","enumerate","zip","min","max","sorted","sum","all","any","set","ValueError","dict"]
inductive OkC(P:ZE)(w:ZW)(K:Zm)(mg:ay->ψ aA)(base:au)(A:Z7)(f:ay)(sp:Sp):Prop
 |mk(J:az)(fd:aap)(ps:θ ay)(k:Nat)(h1:mg f=aa^.ref J)(h2:Z2 K^.ref J=ah)(U:Binds K fd ps [])(O:fQ k A)(L:gi P w K mg base CX0 k J fd ps sp):OkC P w K mg base A f sp
inductive OkM(P:ZE)(w:ZW)(K:Zm)(mg:ay->ψ aA)(base:au)(A:Z7)(CX:CXT)(c m:ay)(sp:Sp):Prop
 |mk(C g:az)(fd:aap)(ps:θ ay)(k:Nat)(h1:l9 K c C)(h2:uV K C m g)(J:Binds K fd ps [])(O:fQ k A)(L:gi P w K mg base CX k g fd ps sp):OkM P w K mg base A CX c m sp
inductive OkN(P:ZE)(w:ZW)(K:Zm)(mg:ay->ψ aA)(base:au)(A:Z7)(c:ay)(sp:Sp):Prop
 |mk(C g:az)(fd:aap)(ps:θ ay)(k:Nat)(h1:l9 K c C)(h2:mg c=aa^.ref C)(U:Mk K C g)(O:Binds K fd ps [])(L:fQ (k+1) A)(J:gi P w K mg base CX0 k g fd ps sp):OkN P w K mg base A c sp
structure Ok(X:Cx)(F:FT)(G:ay->ψ aM)(sc:aak)(N:θ ay):Prop where
 hsc:X.env.scope=sc
 hN:X.N=N
 nd:X.N.Nodup
 calm:fS N=ah->X.calm=ah
 hu:X.A.units+150<ae9
 own:aeb (π X.w) X.A X.env X.xe
 glob:∀x z,G x=aa z->∃u v,X.mg x=aa u/\RelV v u/\∀m H,RW X.prog X.w X.K m H v z
 call:∀(f:ay) ws h r,F (.f f) ws h=aa r->OkC X.prog X.w X.K X.mg X.base X.A f^spF X.prog X.w X.K^F^.f f
 aE:∀(c m:ay) ws h r,F (.m c m) ws h=aa r->OkM X.prog X.w X.K X.mg X.base X.A CX0 c m^spF X.prog X.w X.K^F^.m c m
 mkc:∀(c:ay) ws h r,F (.m c "__init__") ws h=aa r->OkN X.prog X.w X.K X.mg X.base X.A c^spF X.prog X.w X.K^F^.m c "__init__"
 blt:∀x∈OE,X.mg x=af
 lam:∀(L:Nat) ws h r,F (.l L) ws h=aa r->∃k,fQ k X.A/\FW X.prog X.w X.K X.mg X.base k L^F^.l L
 lamx:(∀x,X.fn x=ah)->∀x,N.contains^BT.jF x=ah->LX X x
def PE.weak(h:PE X e t)(q:∀σ H Q,m σ H Q->t σ H Q):PE X e m:=λJ s σ H Q I hw=>h _ s σ H Q I^q _ _ _ hw
def PT.weak(h:PT X e t)(q:∀σ H Q,m σ H Q->t σ H Q):PT X e m:=λJ s σ H Q I hw=>h _ s σ H Q I^q _ _ _ hw
def PW.weak(h:PW X e t)(q:∀σ H Q,m σ H Q->t σ H Q):PW X e m:=λL J s σ H Q I hw=>h _ _ s σ H Q I^q _ _ _ hw
def PA.weak(h:PA X es t)(q:∀σ H Q,m σ H Q->t σ H Q):PA X es m:=λJ L s σ H Q I hw=>h _ _ s σ H Q I^q _ _ _ hw
def c5(h:noStar e=ah):Z4 (e::m) env=(ai,eval e env)::Z4 m env:=by cases e<;>first|rfl|exact aP h
def xr(h:oU b=ah):Az b:=λo i=>by cases b<;>first|rfl|exact aP h
def ng(h:ef o=ah):ac6 o name env^eval o env=eval o env:=by
 cases o with
 |Call a L J p =>
  cases a with
  |Attribute _ _ _=>rfl|_=>exact aP h
 |_=>first|rfl|exact cT h
def dh:θ Zt->Bool
 |[]=>ah|e::a=>noStar e&&dh a
theorem dW:∀{a:θ Zt},dh a=ah->(abH m^Z4 a env).any (·.1)=ai
 |[],_=>rfl
 |e::a,h=>by simp![dh,Zp]at h;refine rwe (c5 h.1)^rwe (dW h.2) ?_;rfl
theorem kP:∀{es:θ Zt},dh es=ah->(abH m^Z4 es env).all (λx=>!x.1)=ah
 |[],_=>rfl
 |e::es,h=>by simp![dh,Zp]at h;refine rwe (c5 h.1)^rwe (kP h.2) ?_;rfl
def Ud:Tq->Prop
 |.es _ J=>dh J=ah|_=>True
def FY(h:CQ sc N t):Ud t:=by
 induction h with
 |es_nil=>exact rfl
 |es_cons L _ _ _ J =>
  show(noStar _&&dh _)=ah;rw[Zp];exact#[L,J]
 |_=>exact abE
def fZ(h:CEs sc N u m):dh m=ah:=FY h
def noM:Tq->Prop
 |.es (.cons _ _) []=>False|_=>True
def OF(h:CQ sc N t):noM t:=by
 induction h with
 |_=>exact abE
def nX(h:CEs sc N (.cons a r) []):False:=OF h
section
def rY(j:∀s h,aK F G e s h=bI (aK F G a s h)^BT.k2 (aK F G b s) f)(σ:L2.St)(H:Hp)(Q:VK)(q:η e σ H Q):
 tOp (rOp X.prog X.w X.K f) (η a) (η b) σ H Q:=by
 let(m,s,h,z,k,R,S,V,W):=q;rw[j]at V;let(x,U,e1,e2):=c7 V;let(y,O,n,l):=c7 e2;exact#[m,s,h,x,U,R,S,e1,λv C i L p d=>#[i,s,U,y,O,p,S.ext L,n,λu B g J R2 c=>#[g,O,x,y,z,k,R2,d.ext J,c,l,λr A t Y o Z=>W _ _ _ ((L.trans J).trans Y) o Z]]]
def xu(h:∀σ H Q,η e σ H Q->t σ H Q)(σ:L2.St)(H:Hp)(Q:Bool->Hp->Prop)(q:tDT X F G e σ H Q):Em t σ H Q:=by
 let(m,s,L,b,O,R,S,U,J):=q;refine h σ H _ #[m,s,L,_,O,R,S,U,λv Y W x V r=>?_];cases r with
 |p r=>cases r;exact(cY b rfl^J _ _ x V)
def opB(h:MA o m=ah):OpR X (aa1 m)^rOp X.prog X.w X.K^BT.tM o:=by refine rwe (bQ h) ?_;cases o;exact Oq;exact Os;exact Ou;exact Ot;exact JH
def ME:∀{e:θ (ay×V)}{d:θ (ay×aN)}{K:Zm},RDk K e d->KV (e.map λq=>((aaM q.1:Key),q.2)) m->(aa8 m^aaM k).isSome=(BT.gJ k d).isSome:=by
 intro e
 induction e generalizing m with
 |nil =>
  intro d K r q;cases r;cases q;rfl
 |cons p e W =>
  intro d K r q;cases r with
  |@cons x v dd _ d r t =>
   cases q with
   |@cons p z b a U O =>
    let(Z,Y):=z;let(J,L):=U;simp only at J L;subst J;rw[BT.gJ]
    by_cases c:k=x
    ·subst c;simp[aa8]
    ·refine rwe (bL c) ?_;have:=W t O;simp![aa8]at this⊢;refine rwe (acR^by simpa using (λz=>c (ac7 z).symm:¬((aaM x:Key)=aaM k))) ?_;exact this
def opC(O:Ok X F G sc N)(h:JG o op=ah):OpR X (aaw op)^rOp X.prog X.w X.K^bG o:=by
 refine rwe (bQ h) ?_;cases o;exact T9 O.hu;exact Ua O.hu;exact vo RP rfl rfl λ_ _=>rfl;exact vo RQ rfl rfl λ_ _=>rfl;exact vo RT rfl rfl λ_ _=>rfl;exact vo RU rfl rfl λ_ _=>rfl;exact Ow;exact JK
 ·refine Ox O.hu ?_;intro J x b m H v u A B z y s Q I V W L U e q;cases J with
  |t J =>
   cases x with
   |p d =>
    cases d<;>first|exact cT e|skip
    ·obtain rfl:=Zv e;cases U with
     |@k a r _ Y U =>
      cases W;cases L with
      |p L =>
       cases L;cases V;refine jB Y λZ g i dd=>?_;refine cX (map_none^dd s.heap I.kIn) λf C fn=>(aeM (knd:=optKind X.prog X.w) (k:=af) rfl Z C ?_);exact rwe fn #[.bl _,H,I.tok _,rfl,q]
    obtain rfl:=Zv e;cases U with
    |@k a r _ Y U =>
     cases W;cases L with
     |p L =>
      cases L with
      |str x ok =>
       let(t,rfl):=V;let(Z,g,i,dd):=Y;have D:=dd s.heap I.kIn;refine aeM (knd:=eN X.prog X.w) (j4 _ _ _ t) Z D.mapOf ?_;exact rwe (ME U i) #[.bl _,H,I.tok _,rfl,q]
   |_=>exact cT e
  |l J =>
   cases x with
   |p d =>
    let(k,c,rfl):=dG^e;cases U with
    |@kl a ob P _ E U =>
     cases W;cases L with
     |p L =>
      have M:=FH L c;subst M;cases zu I (.inr #[_,E.1]) U k with
      |no g dd n c j =>
       refine aeM (knd:=eN _ _) (EB V) n dd.mapOf ?_;exact rwe j #[.bl _,H,I.tok _,rfl,by rw[c]at q;exact q]
      |is g dd n x R S c j g3 T =>
       refine aeM (knd:=eN _ _) (EB V) n dd.mapOf ?_;exact rwe j #[.bl _,H,I.tok _,rfl,by rw[c]at q;exact q]
   |_=>exact cT e
 ·refine JL O.hu ?_;intro J x b m H v u A B z y s Q I V W L U e q;cases J with
  |t J =>
   cases x with
   |p d =>
    cases d<;>first|exact cT e|skip
    obtain rfl:=Zv e;cases U with
    |@k a r _ Y U =>
     cases W;cases L with
     |p L =>
      cases L with
      |str x ok =>
       let(t,rfl):=V;let(Z,g,i,dd):=Y;have D:=dd _ I.kIn;refine wpAny_notIn_of (knd:=eN _ _) (j4 _ _ _ t) Z D.mapOf ?_;exact rwe (ME U i) #[.bl _,H,I.tok _,rfl,q]
   |_=>exact cT e
  |l J=>exact cT e
end
section
variable{X:Cx}{F:FT}{G:ay->ψ aM}{sc:aak}{N:θ ay}
def JR(O:Ok X F G sc N)(x:ay):X.env.kindOf x=sc.names.lookup x:=by refine rwf O.hsc ?_;rfl
def fN(h:dI x=ah):(x==("__debug__":ay))=ai/\(x==("__classdict__":ay))=ai/\x≠"__name__":=by simp![dI,Zp,adL]at h;exact(f6 h.1.1 h.1.2 (λe=>by replace h:=e ▸ h;simp at h))
def dZ(O:Ok X F G sc N)(h:dJ sc x=ah):Gl X x:=by show X.env.kindOf x=_;rw[JR O];exact bR h
def OG(O:Ok X F G sc N)(h:xm sc x=ah):Vis X.env.scope x:=by
 refine rwe O.hsc ?_;unfold xm at h;unfold Vis;cases e:sc.names.lookup x with
 |none=>rw[e]at h;exact aP h
 |some k=>rw[e]at h;cases k<;>first|(exact .inl rfl)|(exact .inr^.inl rfl)|(exact .inr^.inr rfl)|exact aP h
def AU(O:Ok X F G sc N)(c:N[i]?=aa y)(W:xm sc y=ah)(V:dI y=ah):PE X (.Name y u)^η^.v i:=by
 refine jk (fN V) λZ Y _=>(PE.weak (D8 (by rwa [O.hN]) (OG O W) Z Y) fun a H Q q=>?_);let(m,s,h,z,b,R,S,J,L):=q;simp![BT.AN]at J;split at J
 ·rename_i w e;cases J;exact cX (S.get i _ e) λv U r=>((cY v U^L v H m (.refl _ _) R r))
 exact cT J
def JS(h:MB d c=ah):PE X (.Constant c k u)^η^.j d:=by
 have fin:∀{v:V},(∀m H,RD _ m H v d)->∀J H Q,η (.j d) J H Q->tC v J H Q:=λr J H Q q=>by obtain⟨m,s,h,z,O,R,S,⟨⟩,L⟩:=q;exact L _ H m (.refl _ _) R^.p^r m H
 cases d<;>cases c<;>first|exact aP h|skip
 exact PE.weak M6 (fin λ_ _=>.aC);cases bR h;exact PE.weak Rr (fin λ_ _=>.bl _);cases bR h;exact PE.weak yD (fin λ_ _=>ω _);cases bR (Bool.and_eq_true_iff.mp h).1;exact PE.weak M7 (fin λ_ _=>.str _ (Bool.and_eq_true_iff.mp h).2)
def JT(O:Ok X F G sc N)(b:dJ sc y=ah)(L:dI y=ah):PE X (.Name y M)^η^.aD y:=by
 refine jk (fN L) λU V _=>?_
 rintro d s σ H Q I ⟨m,e,h,z,f,R,S,c,a⟩
 obtain⟨w,e1,⟨⟩⟩:=dG c;exact gK (O.glob _ _ e1) λu v J r rw=>(qO (dZ O b) J r U _ s σ H Q I^a v H m (.refl _ _) R (rw m H))
def MF(c:∀s h,aK F G e s h=bI (aK F G a s h) k)(q:η e σ H Q)
(n:∀m h x z l v j,RH X.K m j h->RW X.prog X.w X.K m j v x->k x h=aa (z,l)->Post X.prog X.w X.K m j z l Q->u v j):η a σ H u:=by
 let(m,s,h,z,l,R,S,J,L):=q;rw[c]at J;let(x,g,e1,e2):=c7 J;exact#[m,s,h,x,g,R,S,e1,λv j b U f Y=>n b g x z l v j f Y e2 λV i Z O d W=>L V i Z (U.trans O) d W]
def o8(b:∀s h,aK F G e s h=bI (aX F G as s h) k)(q:η e σ H Q)
(o:∀m h l z j n i,RH X.K m i h->RWs X.prog X.w X.K m i n l->k l h=aa (z,j)->Post X.prog X.w X.K m i z j Q->R' n i):tDs X F G as σ H R':=by
 let(m,s,h,z,j,R,S,J,L):=q;rw[b]at J;let(x,g,e1,e2):=c7 J;exact#[m,s,h,x,g,R,S,e1,λv i a U d Y=>o a g x z j v i d Y e2 λV f Z O c W=>L V f Z (U.trans O) c W]
def ty_list(R:RH X.K m H h)(r:RW X.prog X.w X.K m H v^.r n)(b:BT.nV (.r n) h=ah):tyV X.K "list" v H:=by
 cases r with
 |@r a _ hn =>
  let(L,e):=Option.isSome_iff_exists.mp b;exact cX (R.cell n a _ hn e) λJ e _=>(.inl #[rfl,J,.inl^.inl e])
def AV(e:BT.kMe m u x h=aa r):BT.nV x h=ah/\bI (u h)^aS m x=aa r:=by unfold BT.kMe at e;split at e;rename_i c;exact#[c,e];exact cT e
def Xz(J:m=.append\/m=.pop\/m=.extend)(e:aS m x u h=aa (z,H)):∃n,x=.r n:=by
 cases x with
 |r n=>exact#[n,rfl]
 |p d =>
  rcases J with rfl|rfl|rfl<;>cases u<;>rw[xo]at e<;>(split at e<;>(try exact cT e))<;>exact cT e
 |k q =>
  rcases J with rfl|rfl|rfl<;>cases u<;>(first|exact cT e|simp[aS]at e)
 |x _ =>
  rcases J with rfl|rfl|rfl<;>cases u<;>(first|exact cT e|simp[aS]at e)
 |c _ _ =>
  rcases J with rfl|rfl|rfl<;>cases u<;>(first|exact cT e|simp[aS]at e)
 |o q =>
  rcases J with rfl|rfl|rfl<;>cases u<;>(first|exact cT e|simp[aS]at e)
end
section
def vp{X:Cx}{e a:aU}{k:aY->aM->aL->ψ (aM×aL)}(Z:∀s h,aK F G e s h=bI (aK F G a s h)^k s){σ:L2.St}{H:Hp}{Q:VK}(q:η e σ H Q){o:V->Hp->Prop}
(p:∀m s h x z n v l,RH X.K m l h->RS X.prog X.w X.K m l σ s->RW X.prog X.w X.K m l v x->k s x h=aa (z,n)->Post X.prog X.w X.K m l z n Q->o v l):η a σ H o:=by
 let(m,s,h,z,n,R,S,L,O):=q;rw[Z]at L;let(x,g,e1,e2):=c7 L;exact#[m,s,h,x,g,R,S,e1,λv l i J c Y=>p _ s g x z _ v _ c (S.ext J) Y e2 λd j f U b W=>O _ _ _ (J.trans U) b W]
def OH{X:Cx}{e a:aU}{k:aY->Bool->aL->ψ (aM×aL)}{kk:aY->aM->aL->ψ (aM×aL)}(d:∀s h,aK F G e s h=bI (aK F G a s h)^kk s)
(c:∀s x h r,kk s x h=aa r->∃b,x=.p^.bl b/\k s b h=aa r){σ:L2.St}{H:Hp}{Q:VK}(q:η e σ H Q){t:Bool->Hp->Prop}
(u:∀m s h b z o n,RH X.K m n h->RS X.prog X.w X.K m n σ s->k s b h=aa (z,o)->Post X.prog X.w X.K m n z o Q->t b n):tDT X F G a σ H t:=by
 let(m,s,h,z,o,R,S,L,O):=q;rw[d]at L;let(x,g,e1,e2):=c7 L;let(b,rfl,f):=c _ _ _ _ e2;exact#[m,s,h,b,g,R,S,e1,λn Z J j=>u Z s g b z o n j (S.ext J) f λV l Y U i W=>O V l Y (J.trans U) i W]
def qb(r:RW P w K m H v^.p^.bl b):v=.bl b:=by cases r with|p r=>cases r;rfl
def AW(e:BT.E7 m x h=aa r):∃b,x=.p^.bl b/\(if b=ah then m h else aa (.p^.bl ai,h))=aa r:=by
 cases x with
 |p d =>
  cases d<;>simp![BT.E7]at e<;>try contradiction
  exact(cY _ rfl e)
 |_=>exact cT e
def FZ(e:BT.kOr m x h=aa r):∃b,x=.p^.bl b/\(if b=ah then aa (.p^.bl ah,h)else m h)=aa r:=by
 cases x with
 |p d =>
  cases d<;>simp![BT.kOr]at e<;>try contradiction
  exact(cY _ rfl e)
 |_=>exact cT e
def JU(e:BT.E8 u m x h=aa r):∃b,x=.p^.bl b/\(if b=ah then u h else m h)=aa r:=by
 cases x with
 |p d =>
  cases d<;>simp![BT.E8]at e<;>try contradiction
  exact(cY _ rfl e)
 |_=>exact cT e
def AX(e:BT.E6 x h=aa r):∃b,x=.p^.bl b/\r=(.p^.bl (!b),h):=by
 cases x with
 |p d =>
  cases d<;>simp![BT.E6]at e<;>try contradiction
  cases e;exact(cY _ rfl rfl)
 |_=>exact cT e
def JV(e:BT.E5 x h=aa r):∃i,x=.p^ω i/\r=(.p^ω (-i),h):=by
 cases x with
 |p d =>
  cases d<;>simp![BT.E5]at e<;>try contradiction
  cases e;exact(cY _ rfl rfl)
 |_=>exact cT e
def AY{X:Cx}{a b:aU}(σ:L2.St)(H:Hp)(Q:VK)(q:η (.and a b) σ H Q):Ml (η a) (η b) σ H Q:=by
 refine vp (k:=λs=>BT.E7^aK F G b s) (λs h=>by simp![BT.Ju]) q λm s h x z L v O R S r e J=>?_;let(c,rfl,e2):=AW e;refine#[c,qb r,?_];cases c with
 |true=>rw[bK rfl]at e2⊢;exact#[m,s,h,z,L,R,S,e2,J]|false=>rw[bL ∅]at e2⊢;cases e2;exact J.here R^.bl _
def F0{X:Cx}{a b:aU}(σ:L2.St)(H:Hp)(Q:VK)(q:η (.or a b) σ H Q):Rv (η a) (η b) σ H Q:=by
 refine vp (k:=λs=>BT.kOr^aK F G b s) (λs h=>by simp![BT.Oc]) q λm s h x z L v O R S r e J=>(cX (FZ e) ?_)
 rintro c rfl e2
 refine(cY c (qb r) ?_);cases c with
 |true=>cases e2;exact J.here R^.bl _|false=>exact#[m,s,h,z,L,R,S,e2,J]
def AZ(σ:L2.St)(H:Hp)(Q:Bool->Hp->Prop)(q:tDT X F G (.and a b) σ H Q):Rt (tDT X F G a) (tDT X F G b) σ H Q:=by
 let(m,s,h,c,W,R,S,Y,L):=q;let(x,g,e1,e2):=c7 Y;refine cX (AW e2) ?_
 rintro d rfl i
 refine#[m,s,h,d,g,R,S,e1,λf V J O=>?_];cases d with
 |true=>exact#[V,s,g,c,W,O,S.ext J,i,λe Z U R2=>L _ _ (J.trans U) R2]|false=>cases i;exact L _ _ J O
def F2(σ:L2.St)(H:Hp)(Q:Bool->Hp->Prop)(q:tDT X F G (.or a b) σ H Q):tOr (tDT X F G a) (tDT X F G b) σ H Q:=by
 let(m,s,h,c,W,R,S,Y,L):=q;let(x,g,e1,e2):=c7 Y;refine cX (FZ e2) ?_
 rintro d rfl i
 refine#[m,s,h,d,g,R,S,e1,λf V J O=>?_];cases d with
 |true=>cases i;exact L _ _ J O|false=>exact#[V,s,g,c,W,O,S.ext J,i,λe Z U R2=>L _ _ (J.trans U) R2]
def JW(σ:L2.St)(H:Hp)(Q:Bool->Hp->Prop)(q:tDT X F G (.not a) σ H Q):Ru (tDT X F G a) σ H Q:=by
 let(m,s,h,c,O,R,S,U,J):=q;let(x,g,e1,e2):=c7 U;refine cX (AX e2) ?_
 rintro d rfl ⟨⟩
 exact#[m,s,h,d,O,R,S,e1,λY W L V=>J _ _ L V]
def JX{X:Cx}{a:aU}(σ:L2.St)(H:Hp)(Q:VK)(q:η (.not a) σ H Q):Mm (η a) σ H Q:=by
 refine vp (k:=λs=>BT.E6) (λs h=>by simp![BT.Jt]) q λm s h x z L v O R S r e J=>(cX (AX e) ?_)
 rintro c rfl ⟨⟩
 exact(cY c (qb r)^J.here R^.bl _)
def OI{X:Cx}{c a b:aU}(σ:L2.St)(H:Hp)(Q:VK)(q:η (.ite c a b) σ H Q):tIf (tDT X F G c) (η a) (η b) σ H Q:=by
 refine OH (kk:=λs=>BT.E8 (aK F G a s)^aK F G b s) (λs h=>by simp![BT.Jv]) (λs x h r e=>JU e) q λm s h t z L O R S e J=>?_;cases t with
 |_=>exact#[m,s,h,z,L,R,S,e,J]
def OJ{X:Cx}{a:aU}(σ:L2.St)(H:Hp)(Q:VK)(q:η (.neg a) σ H Q):tUn (rU λi=>ω (-i)) (η a) σ H Q:=by
 refine vp (k:=λs=>BT.E5) (λs h=>by simp![BT.Js]) q λm s h x z L v O R S r e J=>(cX (JV e) ?_)
 rintro c rfl ⟨⟩
 cases r with|p r=>cases r;exact(cY c rfl^J.here R^ω _)
def xw(σ:L2.St)(H:Hp)(Q:VK)(q:η (.chain o o' a b c) σ H Q):
 yH (rOp X.prog X.w X.K^bG o) (rOp X.prog X.w X.K^bG o') (η a) (η b) (η c) σ H Q:=by
 let(m,s,h,z,h',R,S,ee,n):=q;let(x,M,e1,e2):=c7 ee;let(y,e,e3,J):=c7 e2;refine#[m,s,h,x,M,R,S,e1,λv H1 m1 Z R1 r1=>#[m1,s,M,y,e,R1,S.ext Z,e3,λu H2 m2 Y R2 C=>?_]];unfold BT.oCh at J;cases g:aZ x _ with
 |none=>replace J:=g ▸ J;exact cT J
 |some d =>
  cases y with
  |p d' =>
   replace J:=g ▸ J;simp only at J;have E:∀(o:BT.Cm)(i:aM)(O:aL) dd,aZ i O=aa dd->∀V L,aZ V O=aa L->bG o i V O=(BT.iO o dd L).map λz=>(.p^.bl z,O):=by
    intro o i O dd D V L j;unfold bG;cases V with
    |p _=>simp![D,j]|r _=>simp![D,j]|_=>exact cT j
   cases l:BT.iO o d _ with
   |none=>replace J:=l ▸ J;exact cT J
   |some t =>
    replace J:=l ▸ J;refine#[m2,e,x,_,_,e,R2,r1.ext Y,C,by refine rwe (E o x _ d g _ _ rfl)^rwe l ?_;rfl,λv3 H3 m3 W N r3=>(cY t (qb r3) ?_)];cases t with
    |false =>
     cases J;exact n _ _ _ ((Z.trans Y).trans W) N^.p^.bl _
    |true =>
     let(B,I,e5,U):=c7 J;refine#[m3,s,e,B,I,N,((S.ext Z).ext Y).ext W,e5,λv4 H4 m4 A R4 r4=>?_];unfold BT.SI at U;cases k:aZ _ _ with
     |none=>replace U:=k ▸ U;exact cT U
     |some f =>
      rw[k]at U;refine#[m4,I,_,B,z,h',R4,(C.ext W).ext A,r4,by rwa [E _ _ _ _ rfl _ f k],λv5 H5 m5 P R5 T=>n _ _ _ ((((Z.trans Y).trans W).trans A).trans P) R5 T]
  |_=>rw[g]at J;exact cT J
def OL{lo:aT}(t:∀σ H (Q:ψ Int->Hp->Prop),(∃m s h l zs h',RH X.K m H h/\RS X.prog X.w X.K m H σ s/\aX F G lo s h=aa (zs,h')/\(bz zs).bind BT.EU=aa l/\∀H' m',Ext m H m' H'->RH X.K m' H' h'->Q l H')->tl σ H Q)
(y:∀σ H (Q:ψ Int->Hp->Prop),(∃m s h l zs h',RH X.K m H h/\RS X.prog X.w X.K m H σ s/\aX F G hi s h=aa (zs,h')/\(bz zs).bind BT.EU=aa l/\∀H' m',Ext m H m' H'->RH X.K m' H' h'->Q l H')->th σ H Q)
(σ:L2.St)(H:Hp)(Q:VK)(q:η (.n a lo hi) σ H Q):tSl (rSl X.prog X.w X.K) (η a) tl th σ H Q:=by
 let(m,s,h,z,h',R,S,A,e):=q;let(x,c,e1,e2):=c7 A;let(r,Z,E,D):=c7 e2;let(g,h3,C,J):=c7 D;unfold BT.SJ at J;cases L:aZ x _ with
 |none=>replace J:=L ▸ J;exact cT J
 |some d =>
  cases O:(bz _).bind _ with
  |none=>replace J:=O ▸ L ▸ J;exact cT J
  |some l =>
   cases W:(bz _).bind _ with
   |none=>replace J:=W ▸ O ▸ L ▸ J;exact cT J
   |some u =>
    replace J:=W ▸ O ▸ L ▸ J;obtain⟨b,B,⟨⟩⟩:=dG J;exact#[m,s,h,x,c,R,S,e1,λv H1 p V N j=>t σ _ _ #[p,s,c,l,r,Z,N,S.ext V,E,O,λH2 o U R2=>y σ _ _ #[o,s,Z,u,g,h',R2,(S.ext V).ext U,C,W,λH3 k Y M=>#[k,h',x,d,b,M,(j.ext U).ext Y,L,B,λP H5 T f I i=>e _ _ _ (((V.trans U).trans Y).trans f) I i]]]]
end
section
def A8(U:u=spF X.prog X.w X.K^F^.f f)(q:η (.call f I) σ H Q):wF u [] E0 (tDs X F G I) σ H Q:=by subst U;refine o8 (k:=λO h=>F (.f f) O h) (λs h=>by simp![BT.Ff]) q λm h L z V W Y R r e J=>?_;rw[aau];exact#[m,L,h,z,V,R,r,e,J]
def ly(q:tDs X F G .nil σ H Q):Et σ H Q:=by let(m,s,h,O,U,R,S,J,L):=q;simp![aX]at J;cases J;exact L _ H m (.refl _ _) R .nil
def F3(O:Ok X F G sc N)(Z:dJ sc f=ah)(hn:dI f=ah)(x:CEs sc N P M)(c:PA X M^tDs X F G P):
 PE X (.Call (.Name f p) M [] pos)^η^.call f P:=by
 have J:=fZ x;intro g s L H Q I q;have U:=q;let(m,l,h,z,t,R,S,d,i):=q;let(j,o,e1,e2):=c7 d;let(v,u,n,k,W,Y,b,V,w):=O.call _ _ _ _ e2;cases M with
 |nil =>
  cases P with
  |cons a r=>exact(nX x).elim|nil=>exact(PE.weak (wG w V (dZ O Z) W Y b .nil rJ (fN hn).1) fun L H Q z=>ly^A8 rfl z) _ s L H Q I U
 |cons e M =>
  simp![dh,Zp]at J;exact(PE.weak (Au w V (dZ O Z) W Y b .nil rJ c (fN hn).1 (c5 J.1)^dW J.2) fun L H Q z=>A8 rfl z) _ s L H Q I U
def qc{id:String}(i:PlainAttrs T)(L:Slot T name id)
(Y:typeOf^.builtin id=pure^.type "method_descriptor")(l:MtR X id^rMe X.prog X.w X.K me)(p:ef oe=ah)(n:(apos.endLine==cpos.line)=ah)(Z:es.length<20)(k:PE X oe^η o)(hc:CEs sc N as es)(D:PA X es^tDs X F G as)
(ty:∀(m:θ az)(h h2:aL)(H:Hp)(v:V) (x:aM) ws r,RH X.K m H h->RW X.prog X.w X.K m H v x->BT.nV x h=ah->aS me x ws h2=aa r->(∃σ s,RS X.prog X.w X.K m H σ s/\∃E,aK F G o s E=aa (x,h))->tyV X.K T v H):
 PE X (.Call (.Attribute oe name apos) es [] cpos)^η^.me me o as:=by
 have J:=fZ hc;have W:∀σ H Q,η (.me me o as) σ H Q->tBM X.K T (rMe X.prog X.w X.K me) (η o) (tDs X F G as) σ H Q:=by
  rintro σ H Q ⟨m,s,h,z,d,R,S,f,c⟩
  let(x,t,e1,e2):=c7 f;let(ok,e2):=AV e2;let(ws,h2,I,u):=c7 e2;exact#[m,s,h,x,t,R,S,e1,λv P j O b U=>#[ty _ _ _ _ v x _ _ b U ok u #[σ,s,S.ext O,h,e1],j,s,t,ws,h2,b,S.ext O,I,λvs H2 C g R2 B=>#[C,h2,x,ws,z,d,R2,U.ext g,B,u,λv5 H5 m5 y M A=>c _ _ _ ((O.trans g).trans y) M A]]]
 cases es with
 |nil =>
  cases as with
  |cons a r=>exact(nX hc).elim
  |nil =>
   refine PE.weak (NI i L Y l k (ng p) n) fun σ H Q q=>?_;let(m,s,h,z,d,R,S,f,c):=W σ H Q q;exact#[m,s,h,z,d,R,S,f,λv P j O b U=>#[(c v _ _ O b U).1,ly (c v _ _ O b U).2]]
 |cons e es =>
  simp![dh,Zp] at J;refine PE.weak (EA i L Y l k D (ng p) (rwe (kP^by simp![dh,Zp];exact J)^rwe (bP (by
   simp![aam,adZ,if_true] at Z ⊢;lia)) ?_) n (c5 J.1)^dW J.2) W;rfl
def lO(q:η (.bi b mu u) σ H Q):tCB (rBi X.prog X.w X.K b mu) (tDs X F G u) σ H Q:=o8 (λs h=>by simp![BT.Od]) q λm h L z O U V R r e J=>#[m,h,L,z,O,R,r,e,J]
def OM(O:Ok X F G sc N)(Z:fS N=ah)(a:MC b m x=ah)(L:dJ sc x=ah)(J:dh (e::u)=ah)(U:PA X (e::u)^tDs X F G M):
 PE X (.Call (.Name x p) (e::u) [] I)^η^.bi b m M:=by
 simp![dh,Zp]at J;have Y:Fv b m=aa x:=bR a;have V:=O.blt;cases b<;>cases m<;>first|exact cT Y|(change aa _=aa _ at Y)
 all_goals (cases Y)
 exact PE.weak (gj OB (dZ O L) (V _ ∅) PySem.boot_len U ∅ ∅ (c5 J.1)^dW J.2) (fun W H Q z=>lO z);exact PE.weak (mY OD (dZ O L) (V _ ∅) (by decide +kernel) U ∅ ∅ (c5 J.1)^dW J.2) (fun W H Q z=>lO z);exact PE.weak (mY AS (dZ O L) (V _ ∅) (by decide +kernel) U ∅ ∅ (c5 J.1)^dW J.2) (fun W H Q z=>lO z);exact PE.weak (mY AS (dZ O L) (V _ ∅) (by decide +kernel) U ∅ ∅ (c5 J.1)^dW J.2) (fun W H Q z=>lO z);exact PE.weak (mY FO (dZ O L) (V _ ∅) (by decide +kernel) U ∅ ∅ (c5 J.1)^dW J.2) (fun W H Q z=>lO z);exact PE.weak (gj ux (dZ O L) (V _^by decide +kernel) (by decide +kernel) U ∅ ∅ (c5 J.1)^dW J.2) (fun W H Q z=>lO z);exact PE.weak (gj ux (dZ O L) (V _^by decide +kernel) (by decide +kernel) U ∅ ∅ (c5 J.1)^dW J.2) (fun W H Q z=>lO z);exact PE.weak (gj (JO^O.calm Z) (dZ O L) (V _^by decide +kernel) (by decide +kernel) U ∅ ∅ (c5 J.1)^dW J.2) (fun W H Q z=>lO z);exact PE.weak (gj (JP^O.calm Z) (dZ O L) (V _^by decide +kernel) (by decide +kernel) U ∅ ∅ (c5 J.1)^dW J.2) (fun W H Q z=>lO z)
def Di(U:xj b=aa (c,f)):f7 X (.builtin "isinstance") (λo H Q=>∃v,o=[v,.ty c]/\rBi X.prog X.w X.K b ai [v] H Q):=by
 intro g s a H o j Q I L h;let(v,rfl,m,h,i,z,l,R,J,e,V):=h;let(u,k,rfl,Y,O):=L.two;cases O;obtain⟨n,d,e1,e2,⟨_,rfl,rfl⟩|⟨_,q,_⟩⟩:=kH e
 ·have Z:=gq R J e1;cases Z with
  |cons r t =>
   cases t;rw[FQ U]at e2;cases e2;exact JQ I r Y (FU U X.K _) λW=>#[.bl _,H,I.tok W,rfl,V.here R^.bl _]
 exact aP q
def F4(O:Ok X F G sc N)(V:xj b=aa (c,f))(k:dJ sc "isinstance"=ah)(J:dJ sc^ZC c=ah)(L:noStar e=ah)(l:PE X e^η a):
 PE X (.Call (.Name "isinstance" p) [e,.Name (ZC c) P] [] M)^η^.bi b ai^.cons a .nil:=by
 have U:=O.blt;refine PE.weak (gj (Di V) (dZ O k) (U _ ∅) (by decide +kernel) (iw l (iw (by
  cases b<;>simp![xj]at V<;>try contradiction
  all_goals (cases V)
  exact oA (dZ O J) (U _ ∅) (u:=.type "int") (by decide +kernel) rfl ∅ ∅;exact oA (dZ O J) (U _ ∅) (u:=.type "bool") (by decide +kernel) rfl ∅ ∅;exact oA (dZ O J) (U _ ∅) (u:=.type "str") (by decide +kernel) rfl ∅ ∅;exact oA (dZ O J) (U _ ∅) (u:=.type "tuple") (by decide +kernel) rfl ∅ ∅
 :PE X (.Name (ZC c) P)^tC^.ty c) nP)^c5 L) ∅ ∅ (c5 L) rfl) fun y H Q q=>?_
 let(m,s,h,z,n,R,S,o,Y):=q;let(A,W,e1,e2):=c7 o;obtain⟨x,D,r,⟨⟩⟩:=c7 e1;exact#[m,s,h,x,W,R,S,r,λv I j d w i=>#[v,rfl,j,W,_,z,n,w,.cons i .nil,e2,λB E C Z t g=>Y _ _ _ (d.trans Z) t g]]
def ON(σ:L2.St)(H:Hp)(Q:VK)(q:η (.aB u) σ H Q):RY (tDs X F G u) σ H Q:=by
 refine o8 (k:=λL h=>BT.Jm L h) (λs h=>by simp![BT.Jw]) q λm h U z Y V a R r e J=>?_;unfold BT.Jm at e;cases g:bz _ with
 |none=>replace e:=g ▸ e;exact cT e
 |some Z =>
  replace e:=g ▸ e;refine uxA (dH e) ?_
  rintro c ⟨⟩
  have:=gW;have W:=(r.pure g).length;exact#[(),λp O=>oX R O (r.pure g) J]
def OO(σ:L2.St)(H:Hp)(Q:VK)(q:η (.aj mu u) σ H Q):Nx (tDs X F G u) σ H Q:=by
 refine o8 (k:=λJ h=>BT.Jo mu J h) (λs h=>by simp![BT.Jx]) q λm h U z Y V a R r e O=>?_;unfold BT.Jo at e;cases g:bz _ with
 |none=>rw[g]at e;exact cT e
 |some Z =>
  replace e:=g ▸ e;simp only at e;split at e
  ·have:=gW;have W:=(r.pure g).length;exact#[(),λp L=>qR R L (r.pure g)^by rwa [(Zv e)]]
  exact cT e
def cons_of(σ:L2.St)(H:Hp)(Q:θ V->Hp->Prop)(q:tDs X F G (.cons a u) σ H Q):Mq (η a) (tDs X F G u) σ H Q:=by let(m,s,h,g,c,R,S,d,U):=q;let(x,O,e1,e2):=c7 d;obtain⟨W,k,e,⟨⟩⟩:=c7 e2;exact#[m,s,h,x,O,R,S,e1,λv n b L f Z=>#[b,s,O,W,c,f,S.ext L,e,λi l j J R2 Y=>U _ _ _ (L.trans J) R2^.cons (Z.ext J) Y]]
end
section
variable{K:Zm}
theorem RFs.get:∀{a:θ (ay×V)}{b:θ (ay×aM)},RFs K m H a b->BT.d9 f b=aa x->∃v,a.lookup f=aa v/\RA K m H v x
 |_,_,.nil,e=>cT e
 |_,_,.cons (f:=g) r t,e=>by
  rw[BT.uu]at e
  by_cases c:f=g
  replace e:=(bK c) ▸ e;cases e;subst c;exact(cY _ (by simp) r);rw[bL c]at e;refine cX (RFs.get t e) λv L J=>?_;exact(cY v (by exact rwe abA^rwe (beq_false_of_ne c) L) J)
theorem RFs.none:∀{a:θ (ay×V)}{b:θ (ay×aM)},RFs K m H a b->(BT.d9 f b).isNone=ah->a.lookup f=af
 |_,_,.nil,_=>rfl
 |_,_,.cons (f:=g) r t,e=>by
  rw[BT.uu]at e
  by_cases c:f=g
  rw[bK c]at e;exact aP e;rw[bL c]at e;exact rwe abA^rwe (beq_false_of_ne c)^RFs.none t e
theorem RFs.put(q:RA K m H v x):∀{a:θ (ay×V)}{b:θ (ay×aM)},RFs K m H a b->RFs K m H (L2.fW f v a)^BT.fW f x b
 |_,_,.nil=>.cons q .nil
 |_,_,.cons (f:=g) r t=>by
  rw[L2.fW,BT.CU]
  by_cases c:f=g
  refine rwe (bK c)^rwe (bK c.symm) ?_;subst c;exact .cons q t;exact rwe (bL c)^rwe (bL^aan c)^.cons r^RFs.put q t
theorem RFs.length:∀{a:θ (ay×V)}{b:θ (ay×aM)},RFs K m H a b->a.length=b.length
 |_,_,.nil=>rfl
 |_,_,.cons _ t=>by exact rwe ZQ^rwe (RFs.length t) rfl
end
section
def JY(e:BT.E9 f x h=aa r):∃n c a w,x=.o n/\bA h n=aa (c,a)/\BT.d9 f a=aa w/\r=(w,h):=by
 cases x with
 |o n =>
  rw[BT.N4]at e;cases g:bA h n with
  |none=>rw[g]at e;exact cT e
  |some q =>
   let(c,a):=q;rw[g]at e;let(w,e1,e2):=dG e;exact#[n,c,a,w,rfl,g,e1,e2.symm]
 |_=>exact cT e
def JZ{sc:aak}{N:θ ay}(U:ef x=ah)(O:attrName f=ah)(V:PE X x^η a):PE X (.Attribute x f p)^η^.i a f:=by
 refine PE.weak (Nu V^ng U) fun Z H Q q=>(MF (k:=BT.E9 f) (λs h=>by simp![BT.Jz]) q λm h x z d v j R r e L=>(Cd (JY e) ?_))
 rintro n c y w rfl e1 e2 ⟨⟩
 cases r with
 |o hn =>
  let(C,g,b,Y,J,W):=R.uv _ _ _ _ hn e1;exact cX (W.get e2) λu l t=>((jj _ C _ _ u rfl Y J.cls (J.no f O) l^L u _ m (.refl _ _) R t.rw))
def kQ(V:ef o=ah)(J:dh args=ah)(L:args.length<20)(O:(apos.endLine==u.line)=ah):
 eval (.Call (.Attribute o m apos) args [] u) H=(do
  let I ←eval o H
  aeP apos.atName
  let (f,first) ←ac4 [I] (aeR I m (do return (←importBound o H).getD ah))
  callWith u f first (abH u^Z4 args H)^afv u^adQ [] H):=by
 have U:methodCallForm (args.length+([]:θ aex).length) (abH u^Z4 args H)^afv u^adQ [] H=ah:=by
  unfold methodCallForm;refine rwe (bP (by
   show args.length+0+0 < 30;lia))^rwe (kP J) ?_;rfl
 rw[arm_eval_Call];refine rwe (ng V) ?_;unfold methodCall;refine rwe U^rwe (by
  unfold methodCallPos;refine rwe O ?_;rfl:methodCallPos ah o H apos u=pure u) ?_
 rfl
def F5(e:BT.AK F m u x h=aa r):
 ∃n c b a g,x=.o n/\bA h n=aa (c,b)/\(BT.d9 m b).isNone=ah/\u h=aa (a,g)/\F (.m c m) (.o n::a) g=aa r:=by
 cases x with
 |o n =>
  rw[BT.Jq]at e;cases g:bA h n with
  |none=>rw[g]at e;exact cT e
  |some q =>
   let(c,b):=q;rw[g]at e;simp only at e;split at e
   ·rename_i L;let(a,J,e1,e2):=c7 e;exact#[n,c,b,a,J,rfl,g,L,e1,e2]
   exact cT e
 |_=>exact cT e
def F6(O:Ok X F G sc N)(y:ef oe=ah)(u:(apos.endLine==cpos.line)=ah)(L:es.length<20)(t:PE X oe^η o)(hc:CEs sc N as es)(ha:PA X es^tDs X F G as):
 PE X (.Call (.Attribute oe m apos) es [] cpos)^η^.aE o m as:=by
 rintro zt s σ H Q I ⟨m0,s',h,z,j,R,S,l,Y⟩
 let(x,E,e1,e2):=c7 l;refine iX (F5 e2) ?_;rintro n c fs ws g rfl e3 e4 e5 e6;let(C,ga,fd,ps,k,i,B,D,A,ok):=O.aE _ _ _ _ _ e6;have U:As C m (spF X.prog X.w X.K^F^.m c m) [] E0 (η o) (tDs X F G as) σ H Q:=by
  refine#[m0,s',h,_,E,R,S,e1,λv H1 q V W Z=>?_];cases Z with
  |@o a _ hn =>
   let(C',M,T,f,d,b):=W.uv _ _ _ _ hn e3;cases d.cn.inj i.cn;refine#[a,M,T,rfl,f,b.none e4,q,s',E,ws,g,W,S.ext V,e5,λus H2 m2 p R2 r2=>?_];rw[aau];exact#[m2,_,g,z,j,R2,.cons (.o^p.ix hn) r2,e6,λv5 H5 m5 P R5 r5=>Y _ _ _ ((V.trans p).trans P) R5 r5]
 cases es with
 |nil =>
  cases as with
  |cons a r=>exact(nX hc).elim
  |nil =>
   apply wH t i.cls B ok A D .nil rJ (kQ y (fZ hc) L u) _ s σ H Q I;let(m,s,h,z,j,R,S,l,Y):=U;refine#[m,s,h,z,j,R,S,l,λv H1 q V W Z=>?_];exact we (Y v _ _ V W Z) λa M fs f d b q4=>((ig a _ _ f d b^ly q4))
 |cons e es =>
  have J:=(fZ hc);simp![dh,Zp]at J;exact Av t i.cls B ok A D .nil rJ ha (c5 J.1) (dW J.2) (kQ y (fZ hc) L u) _ s σ H Q I U
def F7(O:Ok X F G sc N)(g:dJ sc c=ah)(hn:dI c=ah)(hc:CEs sc N as es)(E:PA X es^tDs X F G as):
 PE X (.Call (.Name c p) es [] pos)^η^.make c as:=by
 have U:=fZ hc
 rintro zt s σ H Q I ⟨m0,s',h,z,h',R,S,ee,zr⟩
 let(u,b,e1,e2):=c7 ee;let(y,P,n,Y):=c7 e2;obtain ⟨rfl,⟨⟩⟩:=(by
  cases y with
  |p d=>cases d<;>simp[BT.AL]at Y;exact#[rfl,by exact rwe Y.1^rwe Y.2 rfl]|_=>exact cT Y
 :y=.p _/\(z,h')=(.o _,P))
 let(C,ga,fd,ps,k,M,W,j,l,i,ok):=O.mkc _ _ _ _ n;have V:Ew C (spF X.prog X.w X.K^F^.m c "__init__") [] E0 (tDs X F G as) σ H Q:=by
  refine#[m0,s',h,u,b,R,S,e1,λus H1 D t q A x T nx L B=>?_];rw[aau];have J:upd H1 T (.own x) x=af:=by rwa [dD^aan B]
  have ix:(D++[x])[b.length]?=aa x:=by refine rwf q.len ?_;simp
  refine#[_,_,_,_,h',((q.new L).Oo J^ji C _ _ fD M .nil:RH _ _ _ (b++[.o c _])),.cons (.o ix)^A.ext^(j8 L).trans^jH J,n,λv H2 m2 f R2 Z=>?_];cases Z with
  |p Z =>
   cases Z;exact#[rfl,zr _ _ _ (((t.trans^j8 L).trans^jH J).trans f) R2^.o^f.ix ix]
 cases es with
 |nil =>
  cases as with
  |cons a r=>exact(nX hc).elim
  |nil =>
   exact Ex j ok i (dZ O g) W l .nil rJ (fN hn).1 _ s σ H Q I^ly V
 |cons e es =>
  simp![dh,Zp]at U;exact IR j ok i (dZ O g) W l .nil rJ E (fN hn).1 (c5 U.1) (dW U.2) _ s σ H Q I V
def OP(o:bF):TIp:=λx y H Q=>∃i j z,x=ω i/\y=ω j/\BT.rL o (ω i)^ω j=aa^ω z/\Q (ω z) H
def F8:bF->acr->Bool
 |.add,.Add=>ah|.sub,.Sub=>ah|.mul,.Mult=>ah|_,_=>ai
def A9(h:F8 o m=ah):PIp X m^OP o:=by
 rintro d s σ H x y u v Q I b a ⟨i,j,z,rfl,rfl,e,q⟩
 let(t,rfl):=(b);let(J,rfl):=(a);cases o<;>cases m<;>cases h;cases e;exact PyProof.Rows.iadd_int #[ω (i+j),H,I.tok _,#[_,rfl],q];cases e;exact PyProof.Rows.isub_int #[ω _,H,I.tok _,#[_,rfl],q]
 ·refine uxA (dH e) ?_;rintro c ⟨⟩;exact PyProof.Rows.imul_int #[ω _,H,I.tok _,#[_,rfl],q] (by
   rcases aa3 _ _ ▸ c with c|c
   exact .inl^vj c;exact .inr^vj c
  :II i j).ok
def Ba(h:BT.rL o d e=aa z):∃i j k,d=ω i/\e=ω j/\z=ω k:=by
 cases d with
 |int i =>
  cases e with
  |int j =>
   refine(uS i j ?_);cases o with
   |add=>exact#[_,rfl,rfl,(Zv h).symm]|sub=>exact#[_,rfl,rfl,(Zv h).symm]
   |mul =>
    rw[BT.ET]at h;split at h;exact(eH _ rfl rfl^(Zv h).symm);exact cT h
   |_=>exact cT h
  |_=>cases o<;>exact cT h
 |_=>cases o<;>exact cT h
end
section
variable{K:Zm}
end
theorem qd(r:dw m u):∀l:θ Nat,dw (l.filterMap λi=>m[i]?) (l.filterMap λi=>u[i]?)
 |[]=>.nil
 |i::l=>by
  refine rwe Z6^rwe Z6 ?_;cases g:m[i]? with
  |none =>
   refine rwe ((by
    have h:=r.length;rw[aey] at g ⊢;lia:u[i]?=af)) ?_
   exact qd r l
  |some d =>
   exact cX (r.get g) λv e q=>(rwe e^.cons q^qd r l)
def Bb(k:Int)(a:θ V):θ V:=(adx (aao af af (aa k) a.length).1 (aao af af (aa k) a.length).2.1 (aao af af (aa k) a.length).2.2).filterMap λi=>a[i]?
section
def OQ(m:k≠0)(o:PE X e P)(l:PE X R^tC^ω k):
 PE X (.Subscript e (.Slice af af (aa R) p2) pos) (fun σ H Q=>P σ H λx G=>∃a F,x=.ref a/\SqL X.K G a F/\∀p,G p=af->Q (.ref p)^upd G p^.aj^Bb k F):=by
 intro A s σ H Q I h;refine afh (thn (o _ s σ H _ I h) λv C O=>?_);let(x,G,u,d,a,F,S,j,q):=O;subst S;cases d;refine wpAny_Slice^Zq^Zq (thn (l _ _ σ _ (λv w=>v=ω k/\w=G) u #[rfl,rfl]) λB V O=>?_);let(y,E,r,c,g,n):=O;subst g n;let(t,rfl):=c;have U:Inv X _ σ _ { V with heap:=V.heap.push { cls:=.type "slice",data:=.fields #v[.none,.none,.int k t] } }:=r.aG λb N q=>Zr _ q;exact dU (U.list j) λJ W p D=>(afq p.isList.typeIs slot_list_getitem.lookup (by
  have L:=W.length;refine afg p.isList (aed ..) .none .none (ω k t) (λz=>m^Zv z) ?_ (by refine rwe Zx ?_;lia);have Z:slicePick J.toArray af af^aa k=((adx (aao af af (aa k) F.length).1 (aao af af (aa k) F.length).2.1 (aao af af (aa k) F.length).2.2).filterMap λi=>J[i]?).toArray:=by unfold slicePick;refine rwe Zx^rwf L ?_;simp
  refine rwe Z ?_;have Y:=qd W^adx (aao af af (aa k) F.length).1 (aao af af (aa k) F.length).2.1 (aao af af (aa k) F.length).2.2;have f:(Bb k F).length<=F.length:=by have:=slicePick_size_le J.toArray af af^aa k;rw[Z,Zx,Zx]at this;have e:=Y.length;unfold Bb;lia
  refine #[.ref _,_,U.laid (λb N q=>Zr _ q) (Zw _) ?_,rfl,q _^U.aI.fresh^Zw _];exact (lV () _ 0 Y^ZH _ rfl))^by with_unfolding_all rfl)
def Bc(h:(Oj e).bind cInt=aa k):∃a b,e=.Constant (ω k) a b:=by
 cases e with
 |Constant c a b =>
  cases c with
  |int j=>cases h;exact(uS a b rfl)|_=>exact bM (show(af:ψ _)=aa _ from h) (λz=>nomatch z)
 |_=>exact bM (show(af:ψ _)=aa _ from h) (λz=>nomatch z)
def F9(h:vd k e=ah):(∃a b,e=.Constant (ω k) a b/\0<k)\/∃j a b p,e=.UnaryOp .USub (.Constant (ω j) a b) p/\k=-j/\0<j:=by
 unfold vd at h;rw[aa3,Zp,Zp,bN,bN]at h;rcases h with⟨J,L⟩|⟨J,L⟩
 exact qE (Bc^bR J) λa b e1=>(.inl^eW a b e1 L)
 ·have J:=bR J;cases e with
  |UnaryOp o e p =>
   by_cases c:o=.USub
   ·subst c;refine qE (Bc J) ?_
    rintro a b rfl
    exact .inr #[-k,a,b,p,rfl,(),()]
   ·have:unE^.UnaryOp o e p=af:=bL c;rw[this]at J;exact cT J
  |_=>exact bM (show(af:ψ _)=aa _ from J) (λz=>nomatch z)
def J0(W:vd k u=ah)(Y:PE X x^η a):PE X (.Subscript x (.Slice af af (aa u) I) p)^η^.stp mu k a:=by
 have L:k≠0/\PE X u^tC^ω k:=by
  rcases F9 W with⟨a,b,rfl,h⟩|⟨j,a,b,p,rfl,rfl,h⟩
  exact#[(),yD];exact#[(),PE.weak (Mp Ek yD) fun O H Q q=>(cY _ rfl q)]
 refine PE.weak (OQ L.1 Y L.2) fun O H Q q=>(MF (k:=BT.Jp mu k) (λs h=>by simp![BT.Jy]) q λm h x z i v l R r e Z=>?_);unfold BT.Jp at e;cases g:aZ x h with
 |none=>rw[g]at e;exact cT e
 |some d =>
  replace e:=g ▸ e;cases d with
  |aj c =>
   let(a,f,rfl,V,J):=(dQ R r g).aj;refine(dO a _ rfl V.sq (λp U=>qR R U ?_^by rwa [(Zv e)]));unfold Bb BT.ur;exact rwe J.length^RDs.pick J _
  |_=>exact cT e
def Ga{X:Cx}{b:BT.Bi}{g:Int->Int->Int}(O:∀f d,BT.biD b f=aa d->∃i j,f=[ω i,ω j]/\d=ω^g i j){id:String}(n:f7 X (.builtin id) (λl H Q=>∃i j,l=[ω i,ω j]/\Q (ω^g i j) H)):f7 X (.builtin id)^rBi X.prog X.w X.K b ai:=by
 rintro o s σ H u v Q I c ⟨m,h,p,z,x,R,a,e,k⟩
 obtain⟨f,d,e1,e2,⟨_,rfl,rfl⟩|⟨_,q,_⟩⟩:=kH e
 ·refine fz (O _ _ e2) ?_;rintro i j rfl rfl;cases (gq R a e1)with
  |cons r t =>
   cases t with
   |cons L J =>
    cases J;cases r.int;cases L.int;exact n _ s σ H _ _ Q I c^eW i j rfl^k.here R^ω _
 exact aP q
def J1{X:Cx}{f:aak}{N:θ ay}(O:Ok X F G f N)(V:fS N=ah){b:BT.Bi}{g:aT}{x:ay}{e:Zt}{c:θ Zt}{p a:Pos}(L:Fw b x=ah)(W:dJ f x=ah)(J:dh (e::c)=ah)(Y:PA X (e::c)^tDs X F G g):
 PE X (.Call (.Name x p) (e::c) [] a)^η^.bi b ai g:=by
 simp![dh,Zp]at J;cases b<;>first|exact aP L|(replace L:=bR L)
 ·subst L;refine PE.weak (gj (Ga (b:=.min2) (λU d h=>?_)^Cs^O.calm V) (dZ O W) (O.blt _^by decide +kernel) (by decide +kernel) Y ∅ ∅ (c5 J.1)^dW J.2) (fun Z H Q z=>lO z)
  match U,h with
  |[.int i,.int j],h=>exact(eW i j rfl^(Zv h).symm)
 ·subst L;refine PE.weak (gj (Ga (λU d h=>?_)^Cr^O.calm V) (dZ O W) (O.blt _^by decide +kernel) (by decide +kernel) Y ∅ ∅ (c5 J.1)^dW J.2) (fun Z H Q z=>lO z)
  match U,h with
  |[.int i,.int j],h=>exact(eW i j rfl^(Zv h).symm)
end
section
variable{K:Zm}
def Ue(H b:Hp):Prop:=(∀a J,Rd H a^.aB J->Rd b a^.aB J)/\∀a J,Rd H a^.aj J->Rd b a^.aj J
mutual
theorem RD.tr(q:Ue H u):∀{v:V}{d:aN},RD K m H v d->RD K m u v d
 |_,_,.aC=>.aC|_,_,.bl b=>.bl b|_,_,.int i=>ω i|_,_,.str y h=>.str y h|_,_,.aB h r=>.aB (h.elim (λz=>.inl #[q.1 _ _ z.1,z.2]) .inr)^RDs.tr q r|_,_,.aj h r=>.aj (h.elim (λz=>.inl #[q.2 _ _ z.1,z.2]) .inr)^RDs.tr q r
theorem RDs.tr(q:Ue H u):∀{a:θ V}{b:θ aN},RDs K m H a b->RDs K m u a b
 |_,_,.nil=>.nil|_,_,.cons r t=>.cons (RD.tr q r)^RDs.tr q t
end
end
open Classical in
def hid(a:θ (ay×az))(H:Hp):Hp:=λb=>if ∃x,a.lookup x=aa b then af else H b
open Classical in
def ret(a:θ (ay×az))(c H:Hp):Hp:=λb=>if ∃x,a.lookup x=aa b then c b else H b
section
end
def Ug(P:ZE)(w:ZW)(K:Zm)(mg:ay->ψ aA)(base:au)(N:θ ay)(q:ay)(sc:aak)(cl:θ (ay×az))(f c':az)(A:Z7)(outer:θ Env)(s:Zo)(H:Hp):Cx where
 prog:=P
 w:=w
 K:=K
 mg:=mg
 base:=base
 A:=A.deeper^acI q sc s.heap.objs.size f (.ref c') cl
 N:=N
 s₀:=s
 H₀:=hid cl H
 env:=acI q sc s.heap.objs.size f (.ref c') cl
 outer:=outer
 stack:=acI q sc s.heap.objs.size f (.ref c') cl::outer
 ex:=[]
 calm:=ah
 fn:=λ_=>ai
 pn:=[]
 xe:=λ_ _=>False
section
end
def Dj(x C:az)(h:au):Prop:=∃o,h.get? x=aa o/\o.cls=.ref C
section
open PySem.W PySem.Calls PySem.Builtin PySem.Builtin.ObjectAttr PySem.Builtin.Getset_descriptor
variable{E:aA->Zo->Prop}{K:Zm}
def Dj.look(I:Dj x C h):Looks M h (typeOf^.ref x)^.ref C:=by let(o,e,c):=I;exact c ▸ (Looks.ld e).andThen .now
def OR(X:K.In s.heap)(I:Dj x C s.heap)(O:mroIn K C^.type "object"=aa ah)(h:R (.ok^.ret^.ref C) s):ao (ZI prog w) A (.call (.builtin "getset_descriptor.__get__") #[[.builtin "object.__class__",.ref x,tp],[]]) R s:=by
 let(W,Y,Z,J,L):=s;have V:=I.look (M:=ZI prog w);have U:=looks_mroIn (M:=ZI prog w) X O;refine ack KF.slot_gs.plain KF.entry_gs^KF.slot_gs.check _ _ _ _ _ _ _ _ KF.type_class (KF.args_gs _ _ _) ?_
 (unfold Builtin.«getset_descriptor.__get__» descrGet;rw[dga_obj])
 refine Zn^Zq ?_
 (unfold descrGetter descrCheckInstance descrNameAndClass isInstance;simp![KF.owner_class])
 repeat lk
 refine#[afD _^by decide +kernel,codeAny_builtin KF.entry_class ?_]
 (unfold Builtin.«object.__class__» shownTypeOf;repeat lk)
 exact h
def J2(X:K.In h)(c:findIn K (.ref C) nm=aa^aa a)(b:specialIn K a "__get__"=aa^aa g)(U:takesIn K a=aa ah):Looks M h (find (.ref x) (.ref C) nm)^.bind g a:=by have O:=looks_findIn (M:=M) X c;have L:Looks M h (getOf^aa a)^aa g:=looks_specialIn X b;have J:Looks M h (dataDescriptor? (aa a)^aa g)^aa (g,a):=(looks_takesIn (M:=M) X U).andThen .now;exact O.andThen^L.andThen^J.andThen^Looks.tag .now
def Uh(X:K.In s.heap)(I:Dj x C s.heap)(c:ay)(L:XT K c C)(h:R (.ok^.ret^.ref C) s):
 ao (ZI prog w) A (.call (.builtin "BaseException.__getattribute__") #[[.ref x,.str "__class__" m],[]]) R s:=by
 have a:=looks_mroIn (M:=ZI prog w) X L.mrb;have d:=I.look (M:=ZI prog w);have b:=J2 (M:=ZI prog w) (x:=x) X L.fnd L.spc L.tak;let(V,Y,Z,O,U):=s;have W:builtinKind "BaseException.__getattribute__"=aa .slot:=by decide +kernel
 have J:splitId "BaseException.__getattribute__"=aa ("BaseException","__getattribute__"):=by decide +kernel
 have e:=PySem.F.args_bexc_ga (.ref x)^.str "__class__" m;refine ack PySem.F.attrBase_ValueError.ga.plain PySem.F.entry_bexc_ga ?_;simp![checkBuiltinCall,W,J];refine Zn ?_;unfold isInstance
 repeat lk
 refine wpAny_run (A:=A.in1) (h:=af) (c:=.call (.builtin "getset_descriptor.__get__") #[[.builtin "object.__class__",.ref x,.ref C],[]])^OR (s:=#[V,Y,Z,O,U]) X I L.mro ?_;exact Zq^Zq h
def J3(X:K.In s.heap)(I:Dj x C s.heap)(c:ay)(O:XT K c C)(h:Q (aa^.ref C) {s with toks:=s.toks+1}):av (ZI prog w) A (getAttr? (.ref x) "__class__") Q E s:=by
 let(W,Y,Z,J,L):=s;have e:=I.look (M:=ZI prog w);have d:=looks_findIn (M:=ZI prog w) X O.ga;have b:=looks_findIn (M:=ZI prog w) X O.nga;have f:=PySem.F.attrBase_ValueError.ga.bind^.ref x;have U:(ab5 "BaseException.__getattribute__"==ab5 "object.__getattribute__")=ai:=by decide +kernel
 have V:(onTheHeap^aaJ C&&ab5 "BaseException.__getattribute__"==ab5 "object.__getattribute__")=ai:=by rw[U];rfl
 (unfold getAttr? getAttrBy? getAttrBy)
 refine Zn^wpAny_mkText^Zn^ac3^Z9^Zn^e.at^Zn^d.at ?_;show av _ _ (if(onTheHeap^aaJ C&&ab5 "BaseException.__getattribute__"==ab5 "object.__getattribute__")=ah then _ else getAttrByItsOwn (.ref x) (.str "__class__" J) (.ref C) (.builtin "BaseException.__getattribute__") ai ai) _ _ (#[W,Y,Z,J+1,L]:Zo);rw[bL^by rw[V];exact aah];unfold getAttrByItsOwn;refine Zn^b.at ?_;refine Zn^ac3^Z9 ?_;show av _ _ (boundAndCalled (.builtin "BaseException.__getattribute__") (.ref x)^.str "__class__" J) _ _ _;unfold boundAndCalled;rw[f];refine Zn^Zq ?_;show av _ _ (call (.builtin "BaseException.__getattribute__") [.ref x,.str "__class__" J]) _ _ _;refine aaa (acS^Uh (s:=#[W,Y,Z,J+1,L]) (R:=wants (λv a=>v=.ref C/\a=(#[W,Y,Z,J+1,L]:Zo)) λ_ _=>False) X I c O #[rfl,rfl]) (λv a z=>?_) λ_ _ z=>z.elim;let(rfl,rfl):=z;exact handed_on rfl^Zq h
theorem Gb(c:ay)(J:XT K c C):KitX K (.ref x) (.ref C) (Dj x C) where
 ty:=λ_ _ _ I=>I.look
 it:=λM h X I=>by
  let(V,hc,_):=any_some J.dct;unfold clsIn at hc;split at hc
  ·rename_i O;exact λd a b Z k q=>by unfold isType loadHead;exact Zn^wpAny_loadPart (k _ _^X _ _ O)^Zq q
  exact cT hc
 ne:=λh W dd U n Y X L=>by
  let(V,hc,_):=any_some J.dct;refine Bool.eq_false_iff.mpr λq=>?_;have e:=Value.ref.inj^beq_iff_eq.mp q;subst e;unfold clsIn at hc;split at hc
  ·rename_i O;exact nomatch (X _ _ O).symm.trans L
  exact cT hc
 ca:=λX I k=>J3 X I c J k
end
def Gc{E:aA->Zo->Prop}(I:Inv X u σ H s)(f:H a=aa^.ext (excAt X.K c a))
(L:∀C,XT X.K c C->aaT X.K (.ref C) m=aa b)(q:∀e,Q (.bool b) {s with toks:=e}):av (π X.w) X.A (call (.builtin "isinstance") [.ref a,m]) Q E s:=by
 let((o,C,_,J,e1,e2),_,_):=I.aI a _ f;exact abc (Gb c J) I.kIn #[o,e1,e2] (L C J) (by intro z;cases z) q
section
def J4(O:Ok X F G sc N)(P:Fy cn=ah)(hn:dI cn=ah)(hg:dJ sc "isinstance"=ah)(r:dJ sc cn=ah)(U:noStar e=ah)(ha:PE X e^η a):
 PE X (.Call (.Name "isinstance" p) [e,.Name cn p2] [] pos)^η^.isx cn a:=by
 have T:=O.blt;have n:∀{J:L2.St}{H:Hp}{Q:VK},η (.isx cn a) J H Q->η a J H λv V=>∃ad c,v=.ref ad/\V ad=aa^.ext (excAt X.K c ad)/\(∃C,XT X.K c C)/\BT.w6 c cn=ah/\Q (.bl^BT.pY c cn) V:=λ{J H Q} q=>by
  let(m,s,h,z,t,R,S,d,g):=q;simp![BT.JB]at d;let(x,A,e1,e2):=c7 d;refine#[m,s,h,x,A,R,S,e1,λv V l i w k=>?_];cases x with
  |x c =>
   cases k with
   |x L q2 W =>
    have e2:(if BT.w6 c cn=ah then aa (aM.p^.bl^BT.pY c cn,A)else af)=aa (z,t):=e2;let(b,e2):=dH e2;cases e2;exact#[_,c,rfl,L,W,b,g _ V l i w^.p^.bl _]
  |_=>exact cT e2
 by_cases hv:cn="ValueError"
 ·subst hv;have hc:PE X (.Name "ValueError" p2)^tC^.ty "ValueError":=oA (dZ O r) (T _ ∅) (u:=.type "ValueError") (by decide +kernel) rfl ∅ ∅;have call:f7 X (.builtin "isinstance") (λj H Q=>∃ad c,j=[.ref ad,.ty "ValueError"]/\H ad=aa^.ext (excAt X.K c ad)/\Q (.bl^BT.pY c "ValueError") H):=by
   intro f s J H j us Q I Y h;let(ad,c,rfl,L,q):=h;let(u,u2,rfl,E,Z):=Y.two;cases E;cases Z;exact Gc I L (λC W=>W.val) λB=>#[.bl _,H,I.tok B,rfl,by
    have:BT.pY c "ValueError"=ah:=by unfold BT.pY;simp
    rw[← this];exact q]
  refine PE.weak (gj call (dZ O hg) (T _ ∅) (by decide +kernel) (iw ha (iw hc nP)^c5 U) ∅ ∅ (c5 U) rfl) fun J H Q q=>?_;let(m,s,h,z,t,R,S,d,g):=n q;refine#[m,s,h,z,t,R,S,d,λv V l i w k=>?_];let(ad,c,rfl,L,_,_,M):=g v V l i w k;exact#[ad,c,rfl,L,M]
 ·have o:nI cn=ah:=by unfold Fy at P;rw[aa3]at P;exact P.resolve_right λz=>hv^bR z
  have dbg:(cn==("__debug__":ay))=ai:=by unfold dI at hn;simp![Zp]at hn;simpa using hn.1.1
  have hc:PE X (.Name cn p2) (fun J H Q=>∃D,X.mg cn=aa^.ref D/\Q (.ref D) H):=λf s J H Q I ⟨D,hm,q⟩=>qO (v:=.ref D) (dZ O r) hm rfl dbg f s J H Q I q;have call:f7 X (.builtin "isinstance") (λj H Q=>∃ad c D,j=[.ref ad,.ref D]/\CN X.K cn D/\BT.w6 c cn=ah/\H ad=aa^.ext (excAt X.K c ad)/\Q (.bl^BT.pY c cn) H):=by intro f s J H j us Q I Y h;let(ad,c,D,rfl,y,b,L,q):=h;let(u,u2,rfl,E,Z):=Y.two;cases E;cases Z;refine Gc I L (λC W=>?_) λB=>#[.bl _,H,I.tok B,rfl,q];let(D',A,h2):=W.own cn o b;rw[y.inj A];exact h2
  have K2:PE X (.Call (.Name "isinstance" p) [e,.Name cn p2] [] pos) _:=gj call (dZ O hg) (T _ ∅) (by decide +kernel) (iw ha (iw hc nP)^c5 U) ∅ ∅ (c5 U) rfl;intro f s0 J H Q I q;refine K2 f s0 J H Q I ?_;let(m,s,h,z,t,R,S,d,g):=n q;refine#[m,s,h,z,t,R,S,d,λv V l i w k=>?_];let(ad,c,rfl,L,(C,W),b,M):=g v V l i w k;let(D,y,_):=W.own cn o b;exact#[D,aai I.mod.kin I.mod.glob y,ad,c,D,rfl,y,b,L,M]
end
section
variable{X:Cx}
def Dl(l:X.A.units+150<ae9):MtR X "list.index"^rMe X.prog X.w X.K .lindex:=by
 rintro zt s σ H v vs v' us Q I rv rus ⟨m,h,x,ws,z,h',R,L,rws,e,zr⟩
 cases x with
 |r n=>cases ws with
  |_=>(first|exact cT e|simp[aS]at e)
 |p d =>
  rw[BT.yW]at e;cases g:bz _ with
  |none=>rw[g]at e;exact cT e
  |some E =>
   replace e:=g ▸ e;obtain⟨b,e1,⟨⟩⟩:=dG e;have rds:=rws.pure g;cases d<;>first|exact cT e1|skip
   cases E with
   |nil=>exact cT e1
   |cons M G =>
    cases G with
    |cons _ _=>exact cT e1
    |nil =>
     rw[BT.yU]at e1;split at e1
     ·rename_i c;let(j,D,rfl):=dG e1;let(i,rfl,T,C,B):=nW D;cases rds with
      |cons Z rn =>
       cases rn;refine cX rus.one ?_;rintro u rfl ru;cases L with
       |p L =>
        let(a,P,rfl,t,ra):=RR.aj^.d L;cases rv;let(N,J,n,O,_,Y):=rdL I t;have S:=adP;have o:=ra.length;have W:i<J.toArray.size:=by refine rwe Zx ?_;lia
        refine abx F.slot_list_index (cY _ Y rfl) F.entry_list_index (F.args_list_index_2 _ _)
         (SeqAt.list_indexAt a _ n _ _ u (lN s.heap^pd M) i W () ?_ ?_)^f6 Y ?_ ?_
        refine rwe (show J.toArray[i]=J[i]'() by simp) ?_;rw[m8 I ra O i _ _];exact C
        ·intro k q U;have V:=by simpa using q
         refine rwe (show J.toArray[k]=J[k]'V by simp) ?_;exact rwe (m8 I ra O k _ ())^B k _ U
        ·intro y f;exact j9 l I (.d Z) ru ra O c y (by simpa using f)
        ·refine#[ω (((0+i):Nat):Int),H,I.tok _,#[s.toks,?_],zr.here R^ω _];simp
     exact cT e1
 |_=>(first|exact cT e|simp[aS]at e)
def Gd(k:X.A.units+150<ae9):MtR X "list.count"^rMe X.prog X.w X.K .count:=by
 rintro zt s σ H v vs v' us Q I rv P ⟨m,h,x,ws,z,h',R,L,N,e,T⟩
 cases x with
 |r n=>cases ws with
  |_=>(first|exact cT e|simp[aS]at e)
 |p d =>
  rw[BT.CF]at e;cases g:bz _ with
  |none=>rw[g]at e;exact cT e
  |some t =>
   rw[g]at e;obtain⟨b,e1,⟨⟩⟩:=dG e;cases d<;>first|exact cT e1|skip
   rename_i U;cases t with
   |nil=>exact cT e1
   |cons C B =>
    cases B with
    |cons _ _=>exact cT e1
    |nil =>
     obtain⟨c,⟨⟩⟩:=dH e1;cases (N.pure g)with
     |cons Z rn =>
      cases rn;refine cX P.one ?_
      rintro u rfl ru
      cases L with
      |p L =>
       let(a,E,rfl,q,S):=RR.aj^.d L;cases rv;let(D,J,n,V,_,W):=rdL I q;have o:=S.length;refine abx F.slot_list_count (cY _ W rfl) F.entry_list_count (F.args_list_count_2 _ _) (SeqAt.list_countAt a _ n _ _ u^lN s.heap^pd C)^f6 W ?_ ?_
       ·intro y j;exact j9 k I (.d Z) ru S V c y (by simpa using j)
       ·refine #[ω _,H,I.tok _,#[s.toks,?_],T.here R^ω _];exact rwf ((by
         have Y:∀{O:Type}(f:O->Bool)(l:θ O),l.countP f=(l.map f).countP id:=λf l=>by refine rwe List.countP_map ?_;rfl
         rw[Y,Y (λy=>aW y _),(by
          refine List.ext_getElem (by rw[ZA,ZA];lia) λi M G=>?_;rw[ad0,ad0];exact m8 I S V i _ _:J.map _=U.map λy=>aW y _)]:J.countP _=U.countP _)) rfl
 |_=>(first|exact cT e|simp[aS]at e)
end
structure vq(K:Zm)(J:It)(m0:θ az)(H0:Hp)(ds:θ aN)(C:aL->Prop):Prop where
 go:∀m H h (i:Nat),Ext m0 H0 m H->RH K m H h->C h->i<ds.length->J.go i H
 yld:∀m H h (i:Nat) x H' d,Ext m0 H0 m H->RH K m H h->C h->ds[i]?=aa d->J.yld i H x H'->Ext m H m H'/\Le H H'/\RD K m H' x d
 stop:∀m H h,Ext m0 H0 m H->RH K m H h->C h->J.stop ds.length H
def xy(J:bC)(a:θ aM):Prop:=BT.jd a=ah\/((J=.seq\/J=.enu)/\∃q,a=[.r q])
def nY(J:bC)(a:θ aM)(b:θ aN)(h:aL):Prop:=∀q,a=[.r q]->BT.nG J q h=aa b
def xy.p{J:bC}{ws:θ aM}(h:xy J ws)(n:¬(J=.seq\/J=.enu)):BT.jd ws=ah:=h.resolve_right λz=>n z.1
def OS{q:Nat}{a:θ aN}{h:aL}(e:BT.nG .seq q h=aa a):bw h q=aa a:=by
 unfold BT.nG at e;cases g:bw h q with
 |_=>rwa [g]at e
def jK{J:bC}{b:θ aM}{c:θ aN}{h:aL}(a:BT.jd b=ah):nY J b c h:=λq e=>by subst e;exact aP a
def Itv(K:Zm)(a:az)(n:Nat):It :=
 #[λi H=>i<n/\∃J,SqL K H a J/\J.length=n,λi H x L=>L=H/\∀J,SqL K H a J->J[n-1-i]?=aa x,λi H=>i=n]
theorem Ge(a L:az)(n:Nat):Turn P w K tg (Itv K a n) [L] L (λi h=>h.IsRevIter L a ((n:Int)-1-i)) where
 mem:=by simp
 obj:=λi h st b U=>by
  have e:b=L:=by simpa using U
  subst e;let(o,e,c,d):=st;exact#[o,e,λv z=>by rw[d]at z;cases z]
 keep:=λi h Y st k=>st.at λo e=>k L (by simp) o e
 item:=by
  intro X Z hw f hc i t s r H E I W st V;subst Z hw f;let(hi,C,A,hx):=V;let(G,y,p,hz):=I.list A;have hl:=y.length;have B:n-1-i<C.length:=()
  let(u,N,F):=y.get^Zu B;let(q,m,Q,l,j,g):=W L (by simp);have R:((n:Int)-1-(i:Int))=(((n-1-i:Nat)):Int):=()
  have O:s.heap.IsRevIter L a (((n-1-i:Nat)):Int):=by rw[←R];exact st
  refine wpAny_pyNext_rev_item O p.isList (x:=u) (by simpa using N) λY J D=>?_;have T:Inv X t r H {s with heap:=Y}:=I.turned (t':=s.toks) (λb o U e=>(D.2 b U).trans e) q m l j g;let(o,e,c,d):=id J;refine#[u,rfl,Ao (s:={s with heap:=Y}) e c d ∅ #[_,H,T,F,#[rfl,λys M=>by rw[I.wB M A];exact Zu B],?_,λb U=>(W b U).1]];have e2:(((n-1-i:Nat)):Int)-1=(n:Int)-1-((i+1:Nat):Int):=()
  rw[e2]at J;exact J
 done:=by
  intro X Z hw f hc i t s r H E I W st V;subst Z hw f;have V:i=n:=V;subst V;let(q,m,Q,l,j,g):=W L (by simp);have e1:(i:Int)-1-(i:Int)=-1:=()
  have O:s.heap.IsRevIter L a (-1):=by rw[←e1];exact st
  exact wpAny_pyNext_rev_end (I.ok.hd hc) O λY S=>#[rfl,I.turned (t':=s.toks) (λb o U e=>S b o U e) q m l j g]
 self:=λ_ _ _ _ _ st h=>wpAny_pyIter_revIter st h
inductive iD(X:Cx)(F:FT)(G:ay->ψ aM)(sr:bC)(sa:aT)(σ:L2.St)(H:Hp)(R:It->Hp->Prop):Prop
 |mk(m:θ az)(s:aY)(h:aL)(ws:θ aM)(h':aL)(ds:θ aN)(RR:RH X.K m H h)(S:RS X.prog X.w X.K m H σ s)(e:aX F G sa s h=aa (ws,h'))(e2:(aV ws h').bind^bJ sr=aa ds)(L:xy sr ws)
  (p:∀H' m' J,Ext m H m' H'->RH X.K m' H' h'->vq X.K J m' H' ds^nY sr ws ds->R J H'):iD X F G sr sa σ H R
def PI.weak(h:PI X m e t)(q:∀σ H R,u σ H R->t σ H R):PI X m e u:=λJ s σ H R I hw=>h _ s σ H R I^q _ _ _ hw
section
def Ka(h:(Rd P a^.aj I/\a∉M)\/KL K a I)(r:RDs K M P I ds):vq K (Itl K a) M P ds C:=by
 have k:∀{m H},Ext _ _ m H->SqL K H a _:=λx=>LL.sq^h.elim (λq=>.inl (Rd.ext x q.1 q.2).1) .inr;refine#[λm H J i x _ _ V=>(eW _ _ (k x)^Zu (r.length ▸ ‹_›)),λm H J i v W d x RR _ L y=>?_,λm H _ x _ _=>(cY _ (k x)^by exact rwe r.length^Zw _)]
 ·refine uxA y ?_;rintro rfl y;refine cX ((r.ext x).get L) λu U O=>?_;have:=y _^k x;replace this:=U ▸ this;cases this;exact(f6 (.refl _ _) (λ_ _ e=>e) O)
def OT(h:(Rd P a^.aB I/\a∉M)\/KT K a I)(r:RDs K M P I ds):vq K (Itt K a) M P ds C:=by
 have k:∀{m H},Ext _ _ m H->SqT K H a _:=λx=>h.elim (λq=>.inl (Rd.ext x q.1 q.2).1) λ⟨o,b,n,q,_⟩=>.inr^qW o _ n q;refine#[λm H J i x _ _ V=>(eW _ _ (k x)^Zu (r.length ▸ ‹_›)),λm H J i v W d x RR _ L y=>?_,λm H _ x _ _=>(cY _ (k x)^by exact rwe r.length^Zw _)]
 ·refine uxA y ?_;rintro rfl y;refine cX ((r.ext x).get L) λu U O=>?_;have:=y _^k x;replace this:=U ▸ this;cases this;exact(f6 (.refl _ _) (λ_ _ e=>e) O)
def OU(h:(Rd P a^.aj I/\a∉M)\/KL K a I)(r:RDs K M P I ds):vq K (Itv K a ds.length) M P ds.reverse C:=by
 have k:∀{m H},Ext _ _ m H->SqL K H a _:=λx=>LL.sq^h.elim (λq=>.inl (Rd.ext x q.1 q.2).1) .inr;refine#[λm H O i x _ _ L=>(lU (by simpa using L) _ (k x) r.length),λm H O i v W d x RR _ J y=>?_,λm H _ x _ _=>by show ds.reverse.length=ds.length;simp]
 ·refine uxA y ?_;rintro rfl y;refine cX ((r.ext x).get ((List.getElem?_reverse (by
   simpa using (getD_some J))) ▸ J)) λu V U=>?_
  have:=y _^k x;replace this:=V ▸ this;cases this;exact(f6 (.refl _ _) (λ_ _ e=>e) U)
def Gf(lo:Int)(n:Nat):vq K (Itr lo n) u I (BT.upto lo n) C:=by
 have L:(BT.upto lo n).length=n:=by simp[BT.upto]
 refine#[λm H U i x _ _ O=>by rwa [L]at O,λm H U i v V d x RR _ J y=>?_,λm H _ x _ _=>by exact rwe L^Zw n];let(rfl,rfl):=y;have:=by
  have O:=by
   have:=getD_some J
   rwa [L]at this
  simp![BT.upto,ZP]at J;rw[abD O]at J;simpa using J.symm
 subst this;exact(f6 (.refl _ _) (λ_ _ e=>e)^ω _)
def Bd:∀{a:θ aM},BT.jd a=ah->∃b:θ aN,a=b.map aM.p:=by
 intro a
 induction a with
 |nil=>exact λ_=>#[[],rfl]
 |cons w a J =>
  intro h;cases w with
  |p d =>
   refine uxE (J h) ?_
   rintro b rfl
   exact#[d::b,rfl]
  |_=>exact aP h
def Gg(h:aL)(a:θ aN):aV (a.map aM.p) h=aa a:=by
 induction a with
 |nil=>rfl
 |cons d a J =>
  show(aV _ h).map _=_;refine rwe J ?_;rfl
def Gi(L:m=.seq\/m=.rev\/m=.rng1)(e:(aV u h).bind^bJ m=aa ds)(O:BT.jd u=ah):∃d,u=[.p d]/\bJ m [d]=aa ds:=by
 refine uxE (Bd O) ?_
 rintro J rfl
 rw[Gg,Z0]at e;cases J with
 |nil=>rcases L with rfl|rfl|rfl<;>exact cT e
 |cons d J =>
  cases J with
  |nil=>exact(cY d rfl e)
  |cons U J=>rcases L with rfl|rfl|rfl<;>cases d<;>exact cT e
def vv(e:aX F G (.cons a .nil) s h=aa (m,u)):∃w,m=[w]/\aK F G a s h=aa (w,u):=by simp![aX]at e;obtain⟨w,g,e1,⟨⟩⟩:=c7 e;exact(cY w rfl e1)
def Kc{O:θ az}{n:Hp}{a:az}{q:Nat}{l:θ aN}(V:O[q]?=aa a):vq K (Itl K a) O n l^nY .seq [.r q] l:=by
 have k:∀{m H h},Ext O n m H->RH K m H h->nY _ _ _ h->∃J,SqL K H a J/\RDs K m H J _:=λ{m H h} x RR c=>by
  refine cX x.pre ?_
  rintro e rfl _
  refine cX (RR.cell q a l (by rwa [Zs (List.getElem?_eq_some_iff.mp V).1])^OS^c q rfl) λJ f b=>?_;exact(cY _ (LL.sq^.inl^.inl f) b)
 refine#[λm H U i x RR c g=>(cX (k x RR c) λJ L k2=>((eW _ _ L (Zu^by rwa [k2.length])))),λm H U i v j d x RR c W y=>?_,λm H U x RR c=>?_]
 ·refine cX (k x RR c) λJ L k2=>(uxA y ?_);rintro rfl y;refine cX (k2.get W) λu Z Y=>?_;have:=y _ L;replace this:=Z ▸ this;cases this;exact(f6 (.refl _ _) (λ_ _ e=>e) Y)
 exact cX (k x RR c) λJ L k2=>((cY _ L^by exact rwe k2.length^Zw _))
def Ke(Y:PE X x^η a):PI X M x^iD X F G .seq^.cons a .nil:=by
 rintro y s σ H R I ⟨m,k,h,z,t,A,RR,S,e,e2,l,j⟩
 rcases l with l|⟨_,q,rfl⟩
 case inr =>
  obtain⟨w,⟨⟩,V⟩:=vv e;refine Aq Y _ s σ H R I #[m,k,h,_,t,RR,S,V,λv b Z O L J=>?_];cases J with
  |@r a n hn =>
   exact cX (L.cell q a _ hn (by
    simp![aV,aZ]at e2;cases g:bw _ q with
    |none=>exact g ▸ e2|some f=>replace e2:=g ▸ e2;cases e2;rfl
     )) λU c i=>((eH a rfl #[U,LL.sq^.inl^.inl c]^j _ _ _ O L^Kc hn))
 let(d,rfl,W):=Gi (.inl rfl) e2 l;refine cX (vv e) ?_
 rintro w ⟨⟩ V
 rw[BT.E2]at W;cases d<;>simp![BT.wW]at W<;>try contradiction
 ·cases W;refine Nj Y _ s σ H R I #[m,k,h,_,t,RR,S,V,λv b Z O L J=>?_];cases J with
  |p J =>
   cases J with
   |@aB a U _ h r=>exact(eH a rfl (#[U,h.elim (λq=>.inl q.1) λ⟨o,u,n,q,_⟩=>.inr^qW o _ n q])^j _ _ _ O L^OT h r)
 ·cases W;refine Aq Y _ s σ H R I #[m,k,h,_,t,RR,S,V,λv b Z O L J=>?_];cases J with
  |p J =>
   cases J with
   |@aj a U _ h r=>exact(eH a rfl #[U,LL.sq^h.elim (λq=>.inl q.1) .inr]^j _ _ _ O L^Ka h r)
def Gj(O:Ok X F G sc N)(a:dJ sc "range"=ah)(Z:noStar e=ah)(L:PA X [e]^tDs X F G sa):PI X I (.Call (.Name "range" p) [e] [] u)^iD X F G .rng1 sa:=by
 refine PI.weak (Ck (dZ O a) (O.blt _ ∅) L^c5 Z) fun g H R q=>?_;let(m,W,h,i,b,n,RR,S,e,e2,L,U):=q;refine cX (Gi (.inr^.inr rfl) e2^L.p (by rintro (z|z)<;>cases z)) ?_;rintro d rfl J;refine#[m,W,h,_,b,RR,S,e,λk o l V f Y=>?_];obtain⟨j,rfl⟩:∃j:Int,d=.int j:=by
  cases d with
  |int j=>exact#[j,rfl]|_=>exact bM (show(af:ψ^θ _)=aa _ from J) (λz=>nomatch z)
 let(c,J):=dH J;simp![Zp,bN]at c;cases J;cases Y with
 |cons r t =>
  cases t;cases r with
  |p r =>
   cases r;exact(kW j rfl () ()^U _ _ _ V f^Gf 0 _)
def Ui(e:(aV m h).bind^bJ .rng2=aa ds)(J:BT.jd m=ah):∃i j:Int,m=[.p^ω i,.p^ω j]/\(-100000<=i/\i<=100000/\-100000<=j/\j<=100000)/\ds=BT.upto i (j-i).toNat:=by
 refine uxE (Bd J) ?_
 rintro a rfl
 rw[Gg,Z0] at e;refine qE (by
  match a,e with
  |[.int i,.int j],_=>exact(uS i j rfl)
 :∃ i j:Int,a=[ω i,ω j]) ?_
 rintro i j rfl
 let(c,e):=dH e;simp![Zp,bN]at c;cases e;exact(dO i j rfl ((nE c.1.1.1 c.1.1.2 c.1.2 c.2)) rfl)
def Gk(O:Ok X F G sc N)(d:dJ sc "range"=ah)(b:noStar x=ah)(J:noStar y=ah)(U:PA X [x,y]^tDs X F G sa):PI X M (.Call (.Name "range" p) [x,y] [] I)^iD X F G .rng2 sa:=by
 refine PI.weak (Co (dZ O d) (O.blt _ ∅) U (by refine rwe (c5 b)^rwe (c5 J) ?_;rfl)^by refine rwe (c5 J) ?_;rfl) fun k H R q=>?_;let(m,Z,h,l,f,s,RR,S,e,e2,U,V):=q;refine gK (Ui e2^U.p (by rintro (z|z)<;>cases z)) ?_
 rintro i j rfl c rfl
 refine#[m,Z,h,_,f,RR,S,e,λn u o W g a=>?_];cases a with
 |cons r t =>
  cases t with
  |cons L Y =>
   cases Y;cases r with
   |p r =>
    cases r;cases L with
    |p L =>
     cases L;exact(dO i j rfl ((nE () () () ()))^V _ _ _ W g^Gf i _)
def Kf(O:Ok X F G sc N)(n:dJ sc "reversed"=ah)(k:noStar e=ah)(t:PE X e^η a):PI X tg (.Call (.Name "reversed" p) [e] [] P)^iD X F G .rev^.cons a .nil:=by
 rintro zt s σ H R I ⟨m,s',h,ws,T,ds,RR,S,e,e2,ha,zr⟩
 refine cX (Gi (.inr^.inl rfl) e2^ha.p (by rintro (z|z)<;>cases z)) ?_
 rintro d rfl e3
 refine cX (vv e) λw A C=>?_;cases A;obtain⟨U,rfl⟩:∃U:θ aN,d=.aj U:=by
  cases d with
  |aj U=>exact#[U,rfl]|_=>exact bM (show(af:ψ^θ aN)=aa _ from e3) (λz=>nomatch z)
 ·cases e3;refine Call_^jC (u:=.type "reversed") I (dZ O n) (O.blt _ ∅) (by decide +kernel)^aaf (thn (iw t nP (c5 k) P zt s σ H (λj W=>∃a V,j=[.ref a]/\∃J,Ext m H J W/\RH X.K J W T/\((Rd W a^.aj V/\a∉J)\/KL X.K a V)/\RDs X.K J W V U) I ?_) λus M ⟨j,W,I1,Z,q1⟩=>?_) (c5 k) rfl
  ·refine#[m,s',h,_,T,RR,S,C,λv W J g i Z=>?_];cases Z with
   |p Z =>
    cases Z with
    |@aj a V _ f r=>exact#[a,V,rfl,J,g,i,f,r]
  ·let(a,V,rfl,J,g,i,f,r):=q1;refine cX (vals1 Z) ?_
   rintro u rfl ⟨⟩
   let(z,L,E,D,l,B):=rdL I1^f.elim (λq=>.inl q.1) .inr;have y:M.heap.IsList a L.toArray:=(pS _ B rfl _ rfl);have c:=r.length;refine call_reversed_list y ?_;have Y:({M with heap:=M.heap.push^revObj a ((L.toArray.size:Int)-1)}:Zo).heap.IsRevIter M.heap.objs.size a ((U.length:Int)-1-((0:Nat):Int)):=by refine(eH _ (ZH _ rfl) rfl ?_);show Data.fields #v[.ref a,adG ((L.toArray.size:Int)-1)]=_;refine rwe Zx^rwf l^rwe c ?_;simp
   refine wpAny_pyIter_revIter Y^(jj _ _ _ _ _ rfl (I1.aG λb o e=>Zr _ e) (Ge a _ _) Y (λb x=>?_)^zr _ _ _ g i^OU f r);have e:=by simpa using x
   subst e;exact I1.IF (Zw _)^I1.aI.fresh^Zw _
end
section
variable{K:Zm}
end
section
variable{X:Cx}{F:FT}{G:ay->ψ aM}
def Y4:V->V->V->Hp->(Hp->Prop)->Prop:=λo i v H Q=>∃p J k,o=.ref p/\i=kV k/\H p=aa^.dK J/\J.length<ak/\Q^upd H p^.dK^putK J k v
end
section
variable{E:aA->Zo->Prop}
def xA(c:av (ZI prog w) A.in1 (collect v) (λvs J=>vs.length<=ak/\av (ZI prog w) A.in1.in1 (Builtin.«list.sort» { pos:=[.ref J.heap.objs.size] }) (λfin a=>∃ u,fin=.done (.ret u)/\Q (.ref J.heap.objs.size) a) E
 { J with heap:=J.heap.push^seqObj "list" vs.toArray 0 }) E s):av (ZI prog w) A (call (.builtin "sorted") [v]) Q E s:=by
 refine Calls.call_function_entry kind_sorted plain_sorted entry_sorted (args_sorted1 v)^Zn^Zq^Zn (aaa c (λvs J L=>(uxA L λO L=>(Zn^Z8 (Zn^Z9^abJ slot_list_sort (cY _ (ZH _ rfl) rfl) entry_list_sort ?_^args_list_sort _) (by first|size_fits|(exact O)|exact O)))) λ_ _ x=>x);refine aaa L (λfin a q=>(cX q ?_)) λ_ _ x=>x
 rintro u rfl q
 exact(cY u rfl^Zq^cY _ rfl q)
end
section
variable{X:Cx}{F:FT}{G:ay->ψ aM}
end
section
variable{X:Cx}{F:FT}{G:ay->ψ aM}{K:Zm}{m:θ az}{H:Hp}
end
section
variable{F:FT}{G:ay->ψ aM}
end
section
variable{F:FT}{G:ay->ψ aM}
end
section
variable{X:Cx}{F:FT}{G:ay->ψ aM}
def TyX(X:Cx)(T:String)(k:BT.Tx):Prop:=∀(O:θ (az×aq)) (s:Zo) (L:L2.St) (H:Hp) (v:V) (J:aA) (m:θ az) (x:aM) (U:θ aM) (h:aL) (r:aM×aL),
 Inv X O L H s->RelV v J->RW X.prog X.w X.K m H v x->BT.kTx k (x::U) h=aa r->s.TypeIs J T/\∀a,J=.ref a->∃b,s.heap.get? a=aa b/\b.dict=af
def Kg(J:k≠.dget)(e:BT.kTx k m h=aa (z,u)):∃a d,aV m h=aa a/\BT.txD k a=aa d/\z=.p d/\u=h:=by
 refine cX (Option.bind_eq_some_iff.mp (by
  cases k with
  |dget=>exact bM rfl J|_=>exact e
 :((aV m h).bind λa=>(BT.txD k a).map λd=>(aM.p d,h))=aa (z,u))) λa e1 e2=>?_
 obtain⟨d,L,⟨⟩⟩:=dG e2;exact(fh _ d e1 L rfl rfl)
def Gm{J:Type}[Decidable c]{a:ψ J}{b:J}(h:(if c then a else af)=aa b):c/\a=aa b:=by
 by_cases z:c
 rw[bK z]at h;exact#[z,h];rw[bL z]at h;exact cT h
def Uj(e:BT.txD .join m=aa d):∃x b a,m=[.str x,.aj b]/\BT.strsOf b=aa a/\(a.length<=4000/\x.length<=10/\∀t∈a,t.length<=4000)/\d=.str^Str.join x a:=by
 match m,e with
 |[.str x,.aj _],e =>
  exact cX (Option.bind_eq_some_iff.mp^e) λa e1 e2=>(uxA (dH e2) λc J=>((ig x _ _ rfl e1 c J.symm)))
def Re(e:BT.txD .split m=aa d):∃x y,m=[.str x,.str y]/\(y.length=1/\x.length<=BT.lim)/\d=.aj^(Txt.split x y).map .str:=by
 match m,e with
 |[.str x,.str y],e =>
  exact uxA (dH^e) λc J=>((dO x y rfl c J.symm))
def OV(e:aZ w h=aa^.str x):w=.p^.str x:=by
 cases w with
 |p d=>exact bS _^Zv e|r n=>obtain⟨_,_,⟨⟩⟩:=dG^e|_=>exact cT e
def Gn(e:aV (w::m) h=aa u):∃d r,u=d::r/\aZ w h=aa d/\aV m h=aa r:=by
 cases g:aZ w h with
 |none=>simp[g]at e
 |some d =>
  cases J:aV _ h with
  |none=>simp[J]at e|some r=>simp[g,J]at e;exact(dO d r e.symm rfl rfl)
def ty_str(V:k≠.dget)(h:∀i d,BT.txD k i=aa d->∃x r,i=.str x::r):TyX X "str" k:=by
 intro Z s Y H v b m x a f r I L J e;refine mV (Kg V e) λi d e1 e2 _ _=>(qE (h _ _ e2) ?_)
 rintro y r rfl
 refine gK (Gn e1) λg c U O _=>?_;cases U;have W:=OV O;subst W;cases J with
 |p r =>
  cases r with
  |str _ j =>
   let(t,rfl):=L;exact#[typeIs_str s y t,λ_ e=>nomatch e]
inductive rTx(P:ZE)(w:ZW)(K:Zm)(k:BT.Tx)(vs:θ V)(H:Hp)(Q:VK):Prop
 |mk(m:θ az)(h:aL)(ws:θ aM)(z:aM)(h':aL)(R:RH K m H h)(rs:RWs P w K m H vs ws)(e:BT.kTx k ws h=aa (z,h'))(p:Post P w K m H z h' Q):rTx P w K k vs H Q
def oTx(k:BT.Tx)(x y:aM)(h:aL):ψ (aM×aL):=BT.kTx k [x,y] h
inductive MG(X:Cx)(m:θ az)(H:Hp)(s:Zo)(a:az)(o:ψ aN)(k:Key):Prop
 |mk(vs:θ (Key×aA))(dd:s.heap.DictOf (eN X.prog X.w) a vs)(n:(a==ab3)=ai)(h:(o=af/\aa8 vs k=af)\/∃x v u,o=aa x/\aa8 vs k=aa u/\RelV v u/\RD X.K m H v x):MG X m H s a o k
def Uk:∀{e:θ (ay×V)}{d:θ (ay×aN)},RDk K e d->KV (e.map λq=>((aaM q.1:Key),q.2)) I->(BT.gJ k d=af/\aa8 I^aaM k=af)\/∃x v u,BT.gJ k d=aa x/\aa8 I^aaM k=aa u/\RelV v u/\RD K m H v x:=by
 intro e
 induction e generalizing I with
 |nil =>
  intro d r q;cases r;cases q;exact .inl #[rfl,rfl]
 |cons p e W =>
  intro d r q;cases r with
  |@cons x v dd _ d r t =>
   cases q with
   |@cons p z b a U O =>
    let(Z,Y):=z;let(L,J):=U;simp only at L J;subst L;rw[BT.gJ]
    by_cases c:k=x
    ·subst c;exact rwe (bK rfl)^.inr^ig _ v _ rfl (by simp[aa8]) J^r m H
    ·refine rwe (bL c) ?_;have:=W t O;simp![aa8]at this⊢;refine rwe (acR^by simpa using (λz=>c (ac7 z).symm:¬((aaM x:Key)=aaM k))) ?_;exact this
def kdG:BT.Kd->ay->ψ aN
 |.t a,x=>BT.gJ x a|.l a,x=>BT.iY a^.inr x
def OW{l:θ (az×aq)}{σ:L2.St}{H:Hp}{s:Zo}{m:θ az}{q:BT.Kd}{v:V}{u:aA}(I:Inv X l σ H s)(r:RW X.prog X.w X.K m H v^.k q)(Y:RelV v u)(x:ay):
 ∃a,u=.ref a/\MG X m H s a (kdG q x)^.inr x:=by
 cases r with
 |@k a j O d L =>
  cases Y;exact jB d λe J c dd=>#[a,rfl,J,dd _ I.kIn,e,Uk L c]
 |@kl a o i O f L =>
  cases Y;refine(cY a rfl ?_);cases zu I (.inr #[_,f.1]) L _ with
  |no J dd n W U=>exact#[J,dd,n,.inl #[W,U]]|is J dd n y Z b W U h g=>exact#[J,dd,n,.inr^ig y Z b W U h g]
def Gp{x:aM}{a:θ aM}{h:aL}{z:aM}{i:aL}(e:BT.kTx .dget (x::a) h=aa (z,i)):∃q y,x=.k q/\i=h/\((a=[.p .aC]/\z=.p .aC/\∃b,q=.t b)\/(a=[.p^.str y]/\z=.p^(kdG q y).getD .aC)\/∃d,a=[.p^.str y,.p d]/\z=.p^(kdG q y).getD d):=by
 have g:∀(o:ψ^θ _),(o.bind λJ=>(BT.txD .dget J).map λd=>(aM.p d,h))=aa (z,i)->False:=by intro o e;refine cX (Option.bind_eq_some_iff.mp e) λJ _ e2=>?_;let(d,L,_):=dG e2;exact cT (by refine rwf L ?_;rfl)
 cases x with
 |k q =>
  cases q with
  |t b =>
   have e:BT.Fe _ _ h=aa _:=e;unfold BT.Fe at e;split at e;cases e;exact(dO _ ("") rfl rfl^.inl #[rfl,rfl,_,rfl]);cases e;exact(dO _ _ rfl rfl^.inr^.inl #[rfl,rfl]);cases e;exact(dO _ _ rfl rfl^.inr^.inr #[_,rfl,rfl]);exact cT e
  |l b =>
   have e:BT.zg _ _ h=aa _:=e;unfold BT.zg at e;split at e;cases e;exact(dO _ _ rfl rfl^.inr^.inl #[rfl,rfl]);cases e;exact(dO _ _ rfl rfl^.inr^.inr #[_,rfl,rfl]);exact cT e
 |o n=>exact(g (aV (.o n::a) h) e).elim|c f O=>exact(g (aV (.c f O::a) h) e).elim|x c=>exact(g (aV (.x c::a) h) e).elim|_=>exact(g (aV _ h) e).elim
def ty_dict:TyX X "dict" .dget:=by intro Y s W H v d m x Z f r I L J e;refine gK (Gp e) ?_;rintro q y rfl _ _;let(a,rfl,c,dd,n,_):=OW I J L y;refine#[dd.typeIs,λb V=>?_];cases V;exact fV dd λo g h U O _=>((cY o U O.2.1))
end
def rZ:∀(a:θ Int),(ZG a.length).map (λi=>a.getD i 0)=a:=by intro a;refine List.ext_getElem (by simp) λi L J=>?_;simp![ad0,List.getElem_range];rw[aaS,Zu J];rfl
def Kl(a:θ Int):aa0 (λi=>a.getD i 0) a.length=bB a:=by unfold aa0;rw[rZ];rfl
section
def Km:∀{d:θ V}{c:θ aA},d.length=c.length->(∀(j:Nat) x u,d[j]?=aa x->c[j]?=aa u->RelV x u)->dw d c:=by
 intro d
 induction d with
 |nil =>
  intro c h _;cases c with
  |nil=>exact .nil|cons _ _=>simp at h
 |cons x d J =>
  intro c h q;cases c with
  |nil=>simp at h|cons u c=>exact .cons (q 0 x u rfl rfl) (J (by simpa using h) λj a b e1 e2=>q (j+1) a b (by simpa using e1)^by simpa using e2)
def Gq(O:Ok X F G sc N)(hu:fS N=ah)(hg:dJ sc "list"=ah)(A:dJ sc "range"=ah)(hs:noStar ex=ah)(hA:PA X [ex]^tDs X F G sa):
 PE X (.Call (.Name "list" np) [.Call (.Name "range" zp) [ex] [] pos] [] p)^η^.lsr mu .rng1 sa:=by
 intro E s D H Q I q;have q:=o8 (as:=sa) (k:=λL h=>BT.kLs mu .rng1 L h) (λs h=>by simp![BT.JA]) q (R':=λg Y=>∃m h L z h',RH X.K m Y h/\RWs X.prog X.w X.K m Y g L/\BT.kLs mu .rng1 L h=aa (z,h')/\Post X.prog X.w X.K m Y z h' Q) λm h Z z h' g Y R r e f=>#[m,h,Z,z,h',R,r,e,f];refine Call_^jC (u:=.type "list") I (dZ O hg) (O.blt _ ∅) (by decide +kernel)^aaf ?_ (c5 rfl) rfl;rw[c5^rfl];show av _ _ (adO ((ai,eval (.Call (.Name "range" zp) [ex] [] pos) X.env)::abH p^Z4 [] X.env)) _ _ s;refine aaI^Call_^jC (u:=.type "range") I (dZ O A) (O.blt _ ∅) (by decide +kernel)^aaf (thn (hA pos E s D H _ I q) λus s1 ⟨g,Y,I1,r1,q1⟩=>?_) (c5 hs) rfl;let(m,h,L,z,h',R,l,e,f):=q1;unfold BT.kLs at e;cases B:(aV L h).bind^bJ .rng1 with
 |none=>rw[B]at e;exact cT e
 |some a =>
  rw[B]at e;simp only at e
  by_cases cl:a.length<=BT.lim
  case neg=>rw[bL cl]at e;exact cT e
  rw[bK cl]at e;have ez:BT.new mu a h=(z,h'):=Zv e;refine cX (Option.bind_eq_some_iff.mp B) λZ e1 e2=>?_;have P:=gq R l e1;have hd:∃j:Int,Z=[ω j]:=by
   match Z,e2 with
   |[.int j],_=>exact#[j,rfl]
  let(j,rfl):=hd;rw[BT.fY]at e2;split at e2
  case isFalse=>exact cT e2
  rename_i c;simp![Zp,bN]at c;have ed:BT.upto 0 j.toNat=a:=Zv e2;refine cX P.one ?_
  rintro v rfl r
  cases r with
  |d r =>
   cases r;refine cX (vals1 r1) ?_
   rintro u rfl eu
   let(t,rfl):=eu;refine call_range_1^abM ?_;refine call_list_range (s:={s1 with heap:=s1.heap.push {cls:=.type "range",data:=.fields #v[.int 0 s1.toks,.int j t,.int 1 (s1.toks+1)]},toks:=s1.toks+1+1}) (I1.ok.hd^O.calm hu) (IsRange.new ..) (small_one () () () ()) (n:=j.toNat) (by rw[rangeSize_one];split<;>lia) () λC M W c' hk hS J=>?_;have S:a=((ZG j.toNat).map λ(k:Nat)=>(0:Int)+(k:Int)).map aN.int:=by refine rwf ed ?_;refine rwe aaV ?_;rfl
   have y:∀b u,s1.heap.get? b=aa u->C.get? b=aa u:=λb u q=>hk b u^Zr _ q;have U:s1.heap.objs.size<=(s1.heap.push {cls:=.type "range",data:=.fields #v[ω 0 s1.toks,ω j t,ω 1 (s1.toks+1)]}).objs.size:=by rw[aaA];exact aal _
   have T:dw (((ZG j.toNat).map λ(k:Nat)=>(0:Int)+(k:Int)).map V.int) W.toList:=by
    refine Km (by simp[J.1]) λi x u e1 e2=>?_;let(t',rfl):=J.2 i u (by simpa using e2);have:x=ω (0+(i:Int)):=by
     rw[aaV,ZP]at e1;rcases ZR i j.toNat with z|z
     rw[abD z]at e1;exact(Zv e1).symm;rw[ZM^by simpa using z]at e1;exact cT e1
    subst this;exact#[t',by simp]
   have sl:ak=16777216:=adP;refine#[.ref _,_,I1.laid (h':=C) (t':=M) (o:=.aj^((ZG j.toNat).map λ(k:Nat)=>(0:Int)+(k:Int)).map V.int) y U #[by rw[ZA,ZA];refine rwe aar ?_;lia,W.toList,c',T,by simpa using hS],rfl,?_];refine qR (mu:=mu) R (I1.aI.fresh U) (o7 _) ?_;refine rwf S ?_;refine rwe ez ?_;exact f
end
section
variable{F:FT}{G:ay->ψ aM}
end
end BS
end
section
namespace BX
open PySem PyProof.Rows
def NX.keep{S:az}(N:NX w h u a ord i)(U:h.get? S=aa oS)(q:oS.cls=.type "list")(g:a≠S)(k:∀b o,b≠S->h.get? b=aa o->H.get? b=aa o):NX w H u a ord i:=by
 obtain⟨o,l,p,t,first,Z,L,f,J,m⟩:=N.ex;refine#[o,l,p,t,first,k _ _ g Z,L,f,k _ _ (λz=>?_) J,?_]
 ·subst z;rw[U]at J;cases J;exact bM (show(acW "set_iterator")=.type "list" from q) ∅
 ·cases m with
  |A O=>exact .A O
  |B j Y =>
   let(V,e,c,n,d):=j;refine .B #[V,k _ _ (λz=>?_) e,c,n,d] Y;subst z;rw[U]at e;cases e;rw[q]at c;exact bM c ∅
  |C O L W=>exact .C O L W
section
variable{prog:ZE}{w:ZW}{A:Z7}{E:aA->Zo->Prop}{s:Zo}{R:adt->Zo->Prop}
def Gs(F:A.handled=af){L a S:az}{ord:θ aA}{l:aq}{es:Array (Int×aA)}{ep:Nat}{t:SetTable}{h₁:au}(d:L≠a)(g:a≠S)(f:L≠S)(hn:ord.length<=ak)(K:h₁.get? a=aa l)(G:l.data=.set es ep t)(C:ord.length=es.size)(U:aA)
(I:∀h' c,(∀b o,b≠S->b≠L->h₁.get? b=aa o->h'.get? b=aa o)->h'.get? S=aa {cls:=.type "list",dict:=af,data:=.seq ord.toArray c,slots:=#v[]}->R (.ok^.ret U) {s with heap:=h'}):
 ∀(k i:Nat)(h:au)(c:Nat),ord.length-i=k->i<=ord.length->NX w h L a ord i->(∀b o,b≠S->b≠L->h₁.get? b=aa o->h.get? b=aa o) →
  h.get? S=aa {cls:=.type "list",dict:=af,data:=.seq (ord.take i).toArray c,slots:=#v[]} →
  ao (ZI prog w) A (.builtin "list.extend.loop" #[[.ref S,.ref L,U],[]]) R {s with heap:=h}:=by
 intro k
 induction k with
 |zero =>
  intro i h c D E N J j;have Z:i=ord.length:=()
  refine codeAny_builtin ad9 ?_;rw[aaZ aaU _];show av _ A.in1 (aeQ^.ref L >>= _) _ _ _;refine Zn (NQ (s:={s with heap:=h}) (A:=A.in1) F N Z (λo M P X e1 e2=>?_) λh' q=>?_)
  ·have Q:=J a l g d.symm K;replace e1:h.get? a=aa o:=e1;rw[Q]at e1;cases e1;rw[G]at e2;cases e2;exact C
  ·subst Z;rw[List.take_length]at j;exact Zq^I h' c (λb o y p e=>q b o p^J b o y p e)^q S _ f.symm j
 |succ k z =>
  intro i h c D E N J j;have W:i<ord.length:=()
  have B:ord[i]?=aa ord[i]:=Zu W;refine codeAny_builtin ad9 ?_;rw[aaZ aaU _];show av _ A.in1 (aeQ^.ref L >>= _) _ _ _;refine Zn (Jg (s:={s with heap:=h}) N d B λh' T x=>?_);have Y:∀b o,b≠L->h.get? b=aa o->h'.get? b=aa o:=x.extBut;have O:=Y S _ f.symm j;have n:∀b o,b≠S->h'.get? b=aa o->(h'.update S (abG (·.push ord[i]))).get? b=aa o:=λb o H e=>(aaN _ _^aan H).trans e;have V:(ord.take i).toArray.size=i:=by simp;lia
  show av _ A.in1 (updateSeq S (·.push ord[i]) >>= _) _ _ _;refine Zn ?_;have v:(ord.take i).toArray.push ord[i]=(ord.take (i+1)).toArray:=by rw[List.push_toArray,List.take_append_getElem]
  obtain⟨m,hg⟩:∃m,(h'.update S (abG (·.push ord[i]))).get? S=aa {cls:=.type "list",dict:=af,data:=.seq (ord.take (i+1)).toArray m,slots:=#v[]}:=#[_,by rw[←v];exact aad (abG (·.push ord[i])) O rfl];exact adn O rfl (Zq #[plainId_quiet aaU _,z (i+1) _ m () W (T.keep O rfl g n) (λb o u r e=>n b o u^Y b o r^J b o u r e) hg]) (by rw[V];lia) (by show((ord.take i).toArray.push ord[i]).size<=ak+1;rw[Array.size_push,V];lia)
end
def Kn:typeLookup (.type "set") "__len__"=pure^aa^.builtin "set.__len__":=by rw[typeLookup_type,builtinLookup_eq_fast];kernel_rfl
section
variable{E:aA->Zo->Prop}
def Gu(L:s.TypeIs (.ref r) "set")(h:Q ai s):av (ZI prog w) A (adm^.ref r) Q E s:=by
 unfold adm;refine Zn^wpAny_specialOf L Kn ?_;generalize hid:("set.__len__":String)=id0
 wp_delta
 rw[show splitId id0=aa ("set","__len__") from by subst hid;decide +kernel];subst hid;refine Zn^aci (T:="set") (b:=ah) L (by rw[isSubtype_type];kernel_rfl) ?_;refine adp (λJ=>bM J ∅) (λ_=>?_);refine adp (λ_=>?_) (λJ=>bM (by decide +kernel) J);refine Zn^acd L ?_;exact Zq h
def zw{R:adt->Zo->Prop}(B:A.handled=af){a S:az}{o:aq}{P:Array (Int×aA)}{ep:Nat}{t:SetTable}(k:s.heap.get? a=aa o)(l:o.ExactSet)(u:o.data=.set P ep t)(C:t.fits P.size=ah)(V:P.size<ace)(y:Tb (w.params.followText "set-order") t)(Z:a≠S)(U:aA)(W:Nat)(p:s.heap.get? S=aa {cls:=.type "list",data:=.seq #v[] W})
(E:∀M d (ord:θ aA) c,(∀b o,b≠S->s.heap.get? b=aa o->M.get? b=aa o)->ord.Perm (P.toList.map (·.2))->M.get? S=aa {cls:=.type "list",dict:=af,data:=.seq ord.toArray c,slots:=#v[]}->R (.ok^.ret U) {s with heap:=M,drawn:=d}):
 av (ZI prog w) A.in1 (abN (.ref S) (.ref a) U)
  (λfin Q=>match fin with|.done f=>R (.ok f) Q|.again X=>X.quiet=ah/\ao (ZI prog w) A X R Q) (λe Q=>R (.error e) Q) s:=by
 have D:s.TypeIs (.ref a) "set":=#[o,k,l.1];have K:a<s.heap.objs.size:=Zy k;have Sl:S<s.heap.objs.size:=Zy p;unfold abN;refine Zn^acd D ?_;have H:adF (.ref S)^.ref a=ai:=by simp[adF,Z.symm]
 have G:(acW "set"==acW "list")=ai:=∅
 have F:(acW "set"==acW "tuple")=ai:=∅
 simp![H,G,F,ab9,afE,if_false];refine Zn (ES (s:=s) k l u C V y λT d x ord N i Y z q=>?_);have v:ord.length=P.size:=by rw[q.length_eq,ZA,Z5]
 have I:=ab4 V;have j:∀(h:au)(O:Nat),(∀b o,b≠S->T.get? b=aa o->h.get? b=aa o)->h.get? S=aa {cls:=.type "list",data:=.seq #v[] O}->ao (ZI prog w) A (.builtin "list.extend.loop" #[[.ref S,.ref x,U],[]]) R {s with heap:=h,drawn:=d}:=by
  intro h O r J;refine Gs (s:={s with drawn:=d}) (h₁:=T) (t:=t) B (abj^ZU K Y) Z (abj^ZU Sl Y) () (i a o k) u v U (λM c m n=>E M d ord c (λb o V e=>m b o V (ZS^ZU (Zy e) Y)^i b o e) q n)
   ord.length 0 h O (Nat.sub_zero _) (aax _) (N.keep (i S _ p) rfl Z r) (λb o V _ e=>r b o V e) (by simpa using J)
 have J:=i S _ p;refine Zn^Z9^Gu (s:={s with heap:=T,drawn:=d}) #[o,i a o k,l.1] ?_;refine adp (λ_=>?_) (λ_=>Zq #[plainId_quiet aaU _,j _ W (λb o _ e=>e) J]);refine Zn^ael ?_;refine Zn ?_;show av _ _ (updateSeq S (·.push .none) >>= λ_=>updateSeq S (·.pop)) _ _ _;refine Zn^adn J rfl ?_;have L:=aad (abG (·.push ab6)) J rfl;refine adn (hz:=by seq_fits) L rfl ?_;have g:=aad (abG (·.pop)) L rfl;refine Zq #[plainId_quiet aaU _,j _ _ (λb o V e=>?_) g];exact(aaN _ _^aan V).trans^(aaN _ _^aan V).trans e
def xE(m:A.handled=af)(c:s.heap.get? a=aa o)(i:o.ExactSet)(p:o.data=.set I M t)(n:t.fits I.size=ah)(r:I.size<ace)(j:Tb (w.params.followText "set-order") t)
(h:∀v d ord,s.heap.objs.size<v.objs.size->(∀b o,s.heap.get? b=aa o->v.get? b=aa o)->ord.Perm (I.toList.map (·.2))->R ord {s with heap:=v,drawn:=d}):
 av (ZI H w) A (collect^.ref a) R E s:=by
 have k:a<s.heap.objs.size:=Zy c;unfold collect;refine Zn^wpAny_runValue^codeAny_builtin PySem.F.entry_proto_collect ?_;rw[aaZ PySem.F.plain_proto_collect _];show av _ A.in1 (newList [] >>= λl=>again^.builtin "list.__iadd__" #[[l,.ref a],[]]) _ _ s;refine Zn^Z8 ?_;refine Zq #[plainId_quiet aer _,codeAny_builtin PySem.F.entry_list_iadd ?_];rw[aaZ aer _];have L:(s.heap.push {cls:=.type "list",data:=.seq ([]:θ aA).toArray}).get? s.heap.objs.size=aa {cls:=.type "list",data:=.seq #v[]}:=ZH _ rfl;show av _ A.in1 (abN (.ref s.heap.objs.size) (.ref a)^.ref s.heap.objs.size) _ _ _;have Y:=zw (prog:=H) (A:=A) (s:={s with heap:=s.heap.push {cls:=.type "list",data:=.seq ([]:θ aA).toArray} })
  (R:=λ(q:adt) (W:Zo)=>∃ (v:au) (d:Drawn) (ord:θ aA) (V:Nat),q=.ok^.ret^.ref s.heap.objs.size/\W={ s with heap:=v,drawn:=d } ∧
   (∀ b o,s.heap.get? b=aa o->v.get? b=aa o)/\ord.Perm (I.toList.map (·.2))/\v.get? s.heap.objs.size=aa { cls:=.type "list",dict:=af,data:=.seq ord.toArray V,slots:=#v[] })
  m (Zr _ c) i p n r j (ZS k) (.ref s.heap.objs.size) 0 L
  (λv d ord V U O J=>#[v,d,ord,V,rfl,rfl,λb o e=>U b o (ZS^Zy e)^Zr _ e,O,J])
 refine aaa Y (λfin W x=>?_) λe W x=>?_
 ·cases fin with
  |done f =>
   let(v,d,ord,V,e,rfl,U,O,J):=x;cases e;show av _ A (load s.heap.objs.size >>= _) _ _ _;refine Zn^wpAny_load J ?_;refine Zq ?_;show R ord.toArray.toList _;exact h v d ord (Zy J) U O
  |again g =>
   refine#[x.1,codeAny_mono x.2 λq Z y=>?_];let(v,d,ord,V,rfl,rfl,U,O,J):=y;show av _ A (load s.heap.objs.size >>= _) _ _ _;refine Zn^wpAny_load J ?_;refine Zq ?_;show R ord.toArray.toList _;exact h v d ord (Zy J) U O
 ·let(_,_,_,_,u,_):=x;cases u
theorem Be:∀{vs:θ aA},(∀v∈vs,∃k,ad7 k v=ah)->∃a,acy vs a/\∀k,k∈a↔∃v∈vs,ad7 k v=ah
 |[],_=>#[[],.nil,λk=>by simp]
 |v::vs,h=>by
  let(k,O):=h v ZF;let(a,Y,V):=Be λu W=>h u^Zz _ W;let(t,rfl):=afx O;refine#[k::a,.cons k t Y,λj=>?_];constructor
  ·intro U;rcases List.mem_cons.mp U with rfl|U
   exact#[_,ZF,O]
   ·let(u,J,L):=(V j).mp U;exact#[u,Zz _ J,L]
  ·rintro ⟨u,J,L⟩
   rcases List.mem_cons.mp J with rfl|J
   rw[Value.isInt_inj _ _ _ L O];exact ZF;exact Zz _^(V j).mpr #[u,J,L]
theorem uy:∀{l ks:θ Int},l.Nodup->(∀k∈l,k∈ks)->ks.length=l.length->l.Perm ks
 |[],ks,_,_,h=>by rw[List.length_eq_zero_iff.mp h]
 |x::l,ks,n,m,h=>by have J:=m x ZF;let(U,O):=List.nodup_cons.mp n;have:=uy (l:=l) (ks:=ks.erase x) O (λk L=>(List.mem_erase_of_ne (a:=k) (b:=x) (λz=>U^by rw[←z];exact L)).mpr^m k^Zz _ L) (by rw[List.length_erase_of_mem J,h];simp);exact(this.cons x).trans (List.perm_cons_erase J).symm
theorem zx:∀(d J:θ Int),J.Nodup->(d.foldl (fun σ v=>if σ.any (·==v)then σ else σ++[v]) J).Nodup
 |[],J,h=>h
 |n::d,J,h=>by
  show(d.foldl _ (if J.any (·==n)then J else J++[n])).Nodup
  by_cases c:J.any (·==n)=ah
  rw[bK c];exact zx d J h
  ·rw[bL c];refine zx d _^List.nodup_append.mpr #[h,by simp,λa O b L=>?_];rw[List.mem_singleton.mp L];intro z;subst z;exact c^List.any_eq_true.mpr #[a,O,by simp]
def Dm(a:θ Int):(bB a).Nodup:=zx a [] adi
def Dn(p:H.Perm u)(h:acy u m):∃J,acy H J/\J.Perm m:=by
 induction p generalizing m with
 |nil=>exact#[m,h,.refl _]
 |cons x p W =>
  cases h with
  |cons n t h =>
   let(J,a,b):=W h;exact#[n::J,.cons n t a,b.cons n]
 |swap x y l =>
  cases h with
  |cons n t h =>
   cases h with
   |cons U V h=>exact#[U::n::_,.cons U V^.cons n t h,.swap _ _ _]
 |trans p q O L =>
  let(c,a,b):=L h;let(k2,Z,Y):=O a;exact#[k2,Z,Y.trans b]
def zy(C:A.handled=af)(z:tK prog w (w.params.followText "set-order") s.heap a (λu=>(bB ns).any (·==u)) (bB ns).length)(I:(bB ns).length<64)
(H:∀h' d p X e,acy X.toList^BT.sortI^bB ns->(∀b o,s.heap.get? b=aa o->h'.get? b=aa o)->s.heap.objs.size<=p->h'.get? p=aa^seqObj "list" X e->Q (.ref p) {s with heap:=h',drawn:=d}):
 av (ZI prog w) A (call (.builtin "sorted") [.ref a]) Q E s:=by
 let(o,M,T,t,B,hex,F,V,G,f,D,hn,y):=z;have K:=ab4 f;refine BS.xA (xE (A:=A.in1) C B hex F D f y λh' d ord N g O=>#[by rw[O.length_eq,ZA,Z5];lia,?_]);let(Z,c,k2):=Be (vs:=M.toList.map (·.2)) λv x=>by let(e,J,rfl):=List.mem_map.mp x;let((k,U,_),_):=V e J;exact#[k,U]
 let(l,r,m):=Dn O c;have j:Z.length=(bB ns).length:=by have:=afl c;simp at this;lia
 have i:(bB ns).Perm Z:=uy (Dm ns) (λk U=>(k2 k).mpr (by
  let(e,J,q):=(G k).mp^List.any_eq_true.mpr #[k,U,by simp];exact #[e.2,List.mem_map.mpr #[e,J,rfl],q])) j
 refine PyProof.Rows.list_sort_tree (ZH _ rfl) r (by rw[O.length_eq,ZA,Z5];lia) λX L S R P=>#[_,rfl,?_];let(e,J):=PyProof.Rows.sortedHeap_at (h:=h'.push^seqObj "list" ord.toArray 0) (a:=h'.objs.size) (vs:=ord) (n:=0) (out:=X)^ZH _ rfl;have W:L=BT.sortI^bB ns:=adC ((R.trans m).trans^i.symm.trans (BT.sortI_perm _).symm) P^BT.oQ _;subst W;refine H _ d _ X e S (λb ob q=>?_) (aaL N) J;have Y:=g b ob q;have lt:=Zy Y;rw[PyProof.Rows.sortedHeap_old (ZS lt)^by rw[aaA];exact aa4 lt];exact Zr _ Y
end
end BX
namespace BS
open PySem PySem.Spec PyProof.Rows L2
def Inv.drew(I:Inv X m σ H s):Inv X m σ H {s with drawn:=d}:=#[I.ok,I.os,I.bare,I.base,I.loc,I.cell,I.free,I.freeC,I.pin,I.aI,I.len]
theorem zA:∀(a J:θ Int),(a.foldl (fun σ v=>if σ.any (·==v)then σ else σ++[v]) J).length<=a.length+J.length
 |[],J=>by simp
 |n::a,J=>by
  show(a.foldl _ (if J.any (·==n)then J else J++[n])).length<=_
  by_cases c:J.any (·==n)=ah
  ·rw[bK c];have:=zA a J;simp![ZQ];lia
  ·rw[bL c];have:=zA a (J++[n]);simp![ZQ,ZX,aam]at this⊢;lia
section
def Gv(O:Ok X F G sc N)(k:fS N=ah)(hg:dJ sc "sorted"=ah)(Z:dJ sc "set"=ah)(M:noStar ex=ah)(hA:PA X [ex]^tDs X F G sa):
 PE X (.Call (.Name "sorted" np) [.Call (.Name "set" zp) [ex] [] pos] [] p)^η^.bi .sset ai sa:=by
 intro w s t H Q I q;have q:=lO q;refine Call_^jC (u:=.builtin "sorted") I (dZ O hg) (O.blt _ ∅) (by decide +kernel)^ada ?_ (c5 rfl) rfl;rw[c5 (show noStar^.Call (.Name "set" zp) [ex] [] pos=ah from rfl)];show av _ _ (adO ((ai,eval (.Call (.Name "set" zp) [ex] [] pos) X.env)::abH p^Z4 [] X.env)) _ _ s;refine aaI^Call_^jC (u:=.type "set") I (dZ O Z) (O.blt _ ∅) (by decide +kernel)^aaf (thn (hA pos w s t H _ I q) λus s1 ⟨vs,H1,I1,r1,q1⟩=>?_) (c5 M) rfl;let(m,h,ws,z,h',R,W,e,x):=q1;obtain⟨n,d,e1,e2,⟨_,rfl,rfl⟩|⟨_,q,_⟩⟩:=kH e
 rotate_left
 exact aP q;have y:=gq R W e1;have hd:∃L,n=[.aj L]:=by
  match n,e2 with
  |[.aj L],_=>exact#[L,rfl]
 let(L,rfl):=hd;rw[BT.wY]at e2;let(ns,g1,U):=Option.bind_eq_some_iff.mp e2
 by_cases c:ns.length<64
 rotate_left
 rw[bL c]at U;exact bH U;rw[bK c]at U;cases U;let(v,rfl,r):=y.one;let(a,vt,rfl,ha,ra):=r.aj;rw[jJ g1]at ra;have ev:=iZ ra;subst ev;let(u,rfl,eu):=vals1 r1;cases eu;let(J,j,A,hz):=I1.list ha.sq;have T:=intsAre_of j;have B:=j.length;rw[ZA]at B;have sz:J.toArray.size=ns.length:=by simp;lia
 refine BX.EL (items:=J.toArray) (ns:=ns) (I1.ok.hd^O.calm k) A.isList (by simpa using T) (by rw[sz];unfold ace;lia) λh2 i f S=>?_;rw[sz,Kl]at f;refine abM ?_;have dl:=zA ns [];have g:(bB ns).length<64:=by have:(bB ns).length<=ns.length+0:=dl;lia
 refine BX.zy (s:={s1 with heap:=h2,toks:=i}) (ns:=ns) (I1.ok.hd^O.calm k) f g λh3 d p Y e E k2 D C=>?_;have l:s1.heap.objs.size<=p:=by let(o,_,_,_,P,_):=f;exact ZT (aaL^Zy P) D
 have K:=mZ E;have sl:ak=16777216:=adP;have l2:(BT.sortI^bB ns).length=(bB ns).length:=(BT.sortI_perm _).length_eq;exact#[.ref _,_,Inv.drew^I1.laid (o:=.aj^(BT.sortI^bB ns).map V.int) (t':=i) (λb u q=>k2 b u^S b u q) l #[by rw[ZA];lia,Y.toList,e,K,C],rfl,k9 R (I1.aI.fresh l) (o7 _) x]
end
end BS
end
section
namespace BS
open PySem PySem.Spec PyProof.Rows L2
section
end
def r6(a:aak)(x:ay):Bool:=match a.names.lookup x with
 |some .local=>ah|some .cell=>ah|_=>ai
inductive CTs(sc:aak)(N:θ ay):θ (Nat×ay)->θ Zt->Prop
 |nil:CTs sc N [] []
 |cons{i:Nat}{x:ay}{p:Pos}{tg:θ (Nat×ay)}{es:θ Zt}(h1:N[i]?=aa x)(h2:r6 sc x=ah)(r:CTs sc N tg es):CTs sc N ((i,x)::tg) (.Name x p::es)
inductive CT(sc:aak)(N:θ ay):θ (Nat×ay)->Zt->Prop
 |one{i:Nat}{x:ay}{p:Pos}(h1:N[i]?=aa x)(h2:r6 sc x=ah):CT sc N [(i,x)]^.Name x p
 |aB{tg:θ (Nat×ay)}{es:θ Zt}{p:Pos}{k:Nat}(J:Nat.ble 2 tg.length=ah)(h:CTs sc N tg es):CT sc N tg^.Tuple es k p
section
def RS.set{K:Zm}(S:RS P w K m H σ s)(r:RW P w K m H v z):RS P w K m H (σ.set i^aa v)^s.set i^aa z:=by
 refine#[by simp[S.len],λj y e=>?_]
 by_cases c:i=j
 ·subst c;have J:i<s.length:=by
   rcases ZR i _ with q|q
   exact q;rw[ZM^by simpa using q]at e;exact cT e
  replace e:=(ZZ J) ▸ e;cases e;exact(cY v (rwe (ZZ^by exact rwe S.len J) rfl) r)
 rw[ZD c]at e;exact cX (S.get j y e) λu O L=>((cY u (by refine rwe (ZD c) ?_;exact O) L))
def r8(O:Ok X F G sc N)(h:r6 sc x=ah):L2.Loc X.env.scope x:=by
 refine rwe O.hsc ?_;unfold r6 at h;unfold L2.Loc;cases e:sc.names.lookup x with
 |none=>rw[e]at h;exact aP h
 |some k=>rw[e]at h;cases k<;>first|(exact .inl rfl)|(exact .inr rfl)|exact aP h
def o9(h:jf e=ah):∀x,aeo e m x=pure x:=by intro x;cases e<;>first|rfl|exact aP h
def GOk(X:Cx)(a:θ (Nat×ay))(g:TG):Prop:=∀(m:θ az)(H:Hp)(L:L2.St)(s:aY) (x:V) (d:aN) (O:θ aN) (Q:L2.St->Hp->Prop),RS X.prog X.w X.K m H L s->RD X.K m H x d->bf a.length d=aa O →
 (∀J,RS X.prog X.w X.K m H J^BT.sets a O s->Q J H)->g x L H Q
def XA(K:Zm)(n:Nat)(t:TGs):TG:=λv L H Q=>∃a J,v=.ref a/\(SqT K H a J\/LL K H a J)/\J.length=n/\t J L H Q
def OX{X:Cx}{l:θ Zt}{k:Nat}{t:TGs}{n:Nat}{m:Pos}(q:X.calm=ah)(h:PGs X l t)(hn:(abL l X.env).length=n)(J:(abL l X.env).findIdx? (·.1)=af):PG X (.Tuple l k m)^XA X.K n t:=by
 intro O s L H v u Q I r hw;obtain⟨a,Y,rfl,V|V,Z,hw⟩:=hw;exact Nf q h hn J O s L H _ u Q I r #[a,Y,rfl,V,Z,hw]
 ·cases r;let(z,U,j,c,d,e):=rdL I V;rw[assign_Tuple];refine Zn^abw ?_;unfold unpack;rw[hn,J];refine Zn^Z9 ?_;have w:n=U.toArray.size:=by rw[Zx,←Z];exact d
  rw[w];refine PySem.W.kun_itemsOf (I.ok.hd q) #[_,e,rfl,_,rfl] λg f=>?_;have i:Inv X O L H {s with heap:=g}:=I.aG (t':=s.toks) λb o e=>f b o (ZS^Zy e) e;exact h O _ L H Y _ Q i (by simpa using c) hw
inductive GsO(X:Cx)(tg:θ (Nat×ay))(es:θ Zt):Prop
 |mk(J:TGs)(h:PGs X es J)(hn:(abL es X.env).length=tg.length)(L:(abL es X.env).findIdx? (·.1)=af)
  (ok:∀(m:θ az)(H:Hp)(σ:L2.St)(s:aY) (vs:θ V) (ds:θ aN) (Q:L2.St->Hp->Prop),RS X.prog X.w X.K m H σ s->RDs X.K m H vs ds->ds.length=tg.length->(∀σ',RS X.prog X.w X.K m H σ'^BT.sets tg ds s->Q σ' H)->J vs σ H Q):GsO X tg es
def XC{X:Cx}{k:aak}{N:θ ay}(O:Ok X F G k N){g:θ (Nat×ay)}{j:θ Zt}(h:CTs k N g j)(V:∀q∈g,X.fn q.2=ah\/X.env.scope.names.lookup q.2=aa .local):GsO X g j:=by
 induction h with
 |nil =>
  refine#[RE,IE,rfl,rfl,λm H L s U W Q S r J q=>?_];cases r with
  |nil=>exact#[rfl,q _ S]|cons _ _=>cases J
 |@cons i x p g j e c r Y =>
  let(f,b,hn,Z,n):=Y λq a=>V q^Zz _ a;refine#[_,Ed (An O.nd (by exact rwe O.hN e) (r8 O c) (V (i,x)^by simp)) b,bS _ hn,?_,λm H L s U W Q S r J q=>?_]
  ·refine rwe List.findIdx?_cons ?_;refine rwe Z ?_;rfl
  ·cases r with
   |nil=>cases J|@cons v d U W l t=>exact(eW v _ rfl^n m H (L.set i _) (s.set i^aa _) _ _ Q (S.set^.p l) t (Nat.succ.inj J) q)
def sCT(O:Ok X F G sc N)(y:X.calm=ah)(h:CT sc N u I)(U:∀q∈u,X.fn q.2=ah\/X.env.scope.names.lookup q.2=aa .local):∃g,PG X I g/\GOk X u g:=by
 cases h with
 |@one i x p f V =>
  refine(cY _ (An O.nd (by rwa [O.hN]) (r8 O V) (U (i,x)^by simp)) ?_)
  rintro m H J s v d b Q S r ⟨⟩ q
  exact q _^S.set^.p r
 |@aB u l p k Y h =>
  let(j,Z,hn,W,t):=XC O h U;refine(cY _ (OX y Z hn W) ?_);intro m H J s v d b Q S r e q;have V:=Nat.le_of_ble_eq_true Y;unfold bf at e;rw[bL ()]at e;cases r with
  |@aB a L dd h r =>
   let(c,rfl):=dH e;exact#[a,L,rfl,.inl (h.elim (λq=>.inl q.1) λ⟨o,w,n,q,_⟩=>.inr^qW o _ n q),by rwa [r.length],t m H J s _ _ Q S r c q]
  |@aj a L dd h r =>
   let(c,rfl):=dH e;exact#[a,L,rfl,.inr^h.elim (λq=>.inl q.1) .inr,by rwa [r.length],t m H J s _ _ Q S r c q]
  |_=>exact cT e
end
end BS
end
section
namespace BC
open PySem
section
def Do{target:Zt}(I:Nat->Zo->Prop)
(turn:∀ n s,I n s->av (ZI u w) A (aeQ M) (λr L=>match r with
  |none=>R (.ok .next) L
  | some v=>av (ZI u w) A (abP target M v) (λ_ i=>av (ZI u w) A (adH target H v) (λ_ W =>
   av (ZI u w) A (forIn ifs ah λc r=>if r=ah then do let g ← isTrue c H^eval c H;pure^acC g else pure^acC r) (λg J =>
    if g=ah then av (ZI u w) A (eval elt H) (λx V =>
     av (ZI u w) A (call (.builtin "list.append") [acc,x]) (λ_ U=>∃ m,m < n/\I m U) (λ_ _=>False) V) (λ_ _=>False) J
    else ∃ m,m < n/\I m J) (λ_ _=>False) W) (λ_ _=>False) i) (λ_ _=>False) L) (λ_ _=>False) s)
(n:Nat)(h:I n s):ao (ZI u w) A (.compLoop (.ListComp elt [#[target,iter,ifs,0]] scope P) 0 M acc H) R s:=by
 refine codeAny_loop rfl I (λn s f=>?_) n h;show av _ A ((compTurn (.ListComp _ _ _ _) 0 _ _ _).onRaise (λx=>do acV x _;aeO x)) _ _ s;refine wpAny_noted ?_;rw[afs];refine Zn^abw^Zn (aaa (turn n s f) (λr L Z=>?_) λ_ _ O=>O.elim);cases r with
 |none=>exact Zq Z
 |some v =>
  refine Zn (aaa Z (λ_ i a=>(Zn (aaa a (λ_ W e=>Zn (aaa e (λg J Y=>?_) λ_ _ O=>O.elim)) λ_ _ O=>O.elim))) λ_ _ O=>O.elim);cases g with
  |false=>exact Zq #[rfl,Y]
  |true =>
   exact Zn^Zn (aaa Y (λx V d=>Zn (aaa d (λ_ U b=>Zq^Zq #[rfl,b]) λ_ _ O=>O.elim)) λ_ _ O=>O.elim)
end
def jY(a:θ (ay×az)):θ (ay×abT)->θ (ay×az)->θ (ay×az)
 |[],b=>b
 |(n,k)::r,b=>if k==.free then(match a.lookup n with|some c=>jY a r ((n,c)::b)|none=>jY a r b)else jY a r b
def r9(b:θ (ay×az))(a:θ (ay×abT)):Prop:=∀x∈a,x.2=.free->∃c,b.lookup x.1=aa c
theorem sf:∀(b:θ (ay×abT)) (J:θ (ay×az)),r9 m.cells b →
 (forIn b J λx (r:θ (ay×az))=>(if x.2==.free then do let c ←cellOf m x.1;pure^acC ((x.1,c)::r) else pure^acC r:Sem^ForInStep^θ (ay×az)))=pure^jY m.cells b J
 |[],J,_=>rfl
 |(n,k)::r,J,h=>by
  have L:=λJ=>sf r J λx O=>h x^Zz _ O;rw[List.forIn_cons]
  by_cases c:k=.free
  ·subst c;let(a,e):=h _ ZF rfl;simp![jY];unfold cellOf;exact rwe e^L _
  ·simp![jY,(by simpa using c:(k==aaO)=ai)];exact L _
def qe{J L:Type}{m a:Sem J}{f:J->Sem L}(h:m=a):(m >>= f)=(a >>= f):=rwe h rfl
def nZ{a:aak}{b:Env}(h:r9 b.cells a.names):closureFor a b=pure^jY b.cells a.names []:=(qe^sf _ _ h).trans rfl
theorem vz:∀{d:θ (ay×abT)}{J:θ (ay×az)},(∀x c,J.lookup x=aa c->m.lookup x=aa c)->∀x c,(jY m d J).lookup x=aa c->m.lookup x=aa c
 |[],J,h,x,c,e=>h x c e
 |(n,k)::r,J,h,x,c,e=>by
  rw[jY]at e;split at e
  ·split at e
   ·rename_i a O;refine vz (λy b q=>?_) x c e;rw[abA]at q;split at q
    ·rename_i L;have:=by simpa using L
     subst this;cases q;exact O
    exact h y b q
   exact vz h x c e
  exact vz h x c e
theorem qS:∀{a:θ (ay×abT)}{J:θ (ay×az)},(∃c,J.lookup x=aa c)->∃c,(jY m a J).lookup x=aa c
 |[],J,h=>h
 |(n,k)::r,J,h=>by
  rw[jY];split
  ·split
   ·refine qS^rwe abA ?_;split;exact#[_,rfl];exact h
   exact qS h
  exact qS h
theorem vA:∀{a:θ (ay×abT)}{J:θ (ay×az)},(x,aaO)∈a->(∃c,m.lookup x=aa c)->∃c,(jY m a J).lookup x=aa c
 |[],J,h,_=>nomatch h
 |(n,k)::r,J,h,q=>by
  rw[jY];rcases List.mem_cons.mp h with e|e
  ·cases e;let(c,L):=q;exact rwe L^qS #[c,by simp]
  ·split
   ·split;exact vA e q;exact vA e q
   exact vA e q
end BC
end
section
namespace BS
open PySem PySem.Spec PyProof.Rows L2
variable{cond:aT}
def sj(F:FT)(G:ay->ψ aM)(a:aak)(N:θ ay)(cond:aT)(J:θ Zt):Prop :=
 (cond=.nil/\J=[])\/∃c O,cond=.cons c .nil/\J=[O]/\∀L,Ok L F G a N->PT L O^tDT L F G c
structure xF(sc:aak)(N tg:θ ay)(fv:θ (Nat×ay))(scope:aak):Prop where
 k1:scope.kind=.function
 k2:sc.kind=.function
 cell:∀y∈scope.names,y.2≠.cell
 loc:∀y∈scope.names,y.2=.local->scope.names.lookup y.1=aa .local
 free:∀y∈scope.names,y.2=.free->sc.names.lookup y.1=aa .cell
 fvs:∀q∈fv,N[q.1]?=aa q.2/\(q.2,aaO)∈scope.names/\sc.names.lookup q.2=aa .cell/\(d8 scope sc).names.lookup q.2=aa .cell
 nd:(tg++fv.map (·.2)).Nodup
theorem uz:∀{l:θ ay},rS l=ah->l.Nodup
 |[],_=>adi
 |x::r,h=>by simp![rS,Zp]at h;refine List.nodup_cons.mpr #[λz=>?_,uz h.2];have:=h.1;simp[z]at this
def Gw(h:jG sc N m u scope=ah):xF sc N m u scope:=by
 simp![jG,Zp]at h;let((((((f,Z),V),U),O),L),Y):=h;rw[ab0]at V U O L;refine#[bR f,bR Z,λy J e=>?_,λy J e=>?_,λy J e=>?_,λq W=>?_,uz Y]
 ·have:=V y J;rw[e]at this;simp at this
 ·have:=U y J;rw[e]at this;simpa using this
 ·have:=O y J;rw[e]at this;simpa using this
 ·have:=L q W;simp![Zp]at this;let(((a,b),c),d):=this;exact(nE (by simpa using a) (by simpa using b) (by simpa using c)^by simpa using d)
theorem n8{sc:aak}{x:ay}{k:abT}(U:k=.cell\/k=.free):∀{a:θ (ay×abT)},(∀y∈a,y.2≠.cell) →
 (a.map λ(n,k)=>if(k==aaO&&sc.kind==.function&&sc.names.lookup n==aa .cell)then(n,aeh)else(n,k)).lookup x=aa k->(x,aaO)∈a
 |[],_,h=>by simp at h
 |(n,q)::r,b,h=>by
  have W:=n8 (sc:=sc) (x:=x) U λy Y=>b y^Zz _ Y;replace h:abC x ((if(q==aaO&&sc.kind==.function&&sc.names.lookup n==aa _)=ah then(n,aeh)else(n,q))::(r.map _))=aa k:=h;have V:∀(J:abT),(J=q\/(J=.cell/\q=.free))->abC x ((n,J)::(r.map λ(n,k)=>if(k==aaO&&sc.kind==.function&&sc.names.lookup n==aa .cell)then(n,aeh)else(n,k)))=aa k->(x,aaO)∈(n,q)::r:=by
   intro J Z L;rw[abA]at L;split at L
   ·rename_i O;have O:=by simpa using O
    subst O;have e:=Zv L;exact rwe (by
     rcases Z with rfl|⟨_,e2⟩
     ·rcases U with z|z
      exact bM (e.trans z)^b _ ZF;exact e.trans z
     exact e2
    :q=.free) ZF
   exact Zz _^W L
  by_cases c:(q==aaO&&sc.kind==.function&&sc.names.lookup n==aa .cell)=ah
  ·rw[bK c]at h;refine V _ (.inr #[rfl,?_]) h;simp![Zp]at c;exact bR c.1.1
  rw[bL c]at h;exact V q (.inl rfl) h
def blk(X:Cx)(J:θ ay)(b:Zo)(d:Hp)(a:aak)(C:az)(c:θ az):Cx :=
 {X with N:=J,s₀:=b,H₀:=d,env:=ad5 a (BC.jY X.env.cells a.names []) C X.env,outer:=X.stack,stack:=X.stack,ex:=c,fn:=λ_=>ai,pn:=[],xe:=λ_ _=>False}
section
variable{X:Cx}{F:FT}{G:ay->ψ aM}{sc:aak}{N:θ ay}{zt:θ (az×aq)}{σ:L2.St}{H1:Hp}{s2:Zo}
def mE{a:aak}{x:ay}{c:az}(e:(BC.jY X.env.cells a.names []).lookup x=aa c):X.env.cells.lookup x=aa c :=
 BC.vz (λ_ _ z=>by simp at z) x c e
def xG(J:X.env.scope=sc)(x:ay):(ad5 scope (BC.jY X.env.cells scope.names []) C X.env).kindOf x=(d8 scope sc).names.lookup x:=by subst J;rfl
def Bg(U:ξ H1 s2)(J:X.env.scope=sc)(O:xF sc N u H m)(L:(x,aaO)∈m.names):∃c,(BC.jY X.env.cells m.names []).lookup x=aa c:=by
 refine BC.vA L^U.ok.has x^.inl ?_;have:=O.free _ L rfl
 rwa [←J]at this
theorem OY(J:ξ H1 s2)(O:X.env.scope=sc){scope:aak}{tg:θ ay}{f:θ (Nat×ay)}(V:xF sc N tg f scope){g:θ ay}{C:az}{fp:θ az}(Z:C=s2.heap.objs.size+1)
(U:∀b∈fp,rA X zt H1 b)(Y:∀b∈fp,b<s2.heap.objs.size):(blk X g s2 H1 scope C fp).Ok where
 mod:=J.ok.mod
 kind:=V.k1
 glob:=J.ok.glob
 blt:=J.ok.blt
 above:=by show s2.heap.objs.size<=C;rw[Z];exact aal _
 inj:=λx y c a b=>J.ok.inj x y c (mE a)^mE b
 has:=λx d=>by
  refine Bg J O V ?_;have W:(d8 scope sc).names.lookup x=aa .cell\/(d8 scope sc).names.lookup x=aa .free:=by rw[←xG O (C:=C)];exact d
  rcases W with e|e
  exact n8 (.inl rfl) V.cell e;exact n8 (.inr rfl) V.cell e
 cab:=λx c z=>by cases z
 hd:=J.ok.hd
 frames:=J.ok.frames
 stk:=.inl rfl
 exf:=λb L=>#[λz=>by have l:=Y b L;have z:b=C:=z;rw[z,Z]at l;exact bM l^Nat.not_lt.mpr^aal _,λx c e=>(U b L).2.2.2.2.1 x c^mE e]
 bs:=J.bs
 bsz:=ZT J.ok.bsz J.sz
 noex:=λb o e L=>by
  have q:=(J.ok.bs b o e).1;rcases (U b L).2.2.2.1 with z|z
  exact J.ok.noex b o e z;exact bM (Zy q)^Nat.not_lt.mpr z
 exfs:=λb L z=>by
  rcases List.mem_cons.mp^J.kZ b z with e|e
  exact(U b L).2.1 e;exact(U b L).2.2.1 e
 jW:=J.stack
 frf:=J.uU
end
def lobj(a:θ aA)(n:Nat):aq:={cls:=.type "list",data:=.seq a.toArray n}
section
variable{X:Cx}{F:FT}{G:ay->ψ aM}{sc:aak}{N:θ ay}{zt:θ (az×aq)}{σ:L2.St}{H1:Hp}{s2:Zo}
def qf(n:Nat)(σ:L2.St)(J:θ (Nat×ay)):L2.St:=ZN n af++J.map λq=>(σ[q.1]?).getD af
theorem vB(L:ξ H1 s2)(J:X.env.scope=sc)(A:X.N=N)(h:xF sc N tg fv scope)(d:C=s2.heap.objs.size+1)
(y:∀b∈fp,rA X zt H1 b)(Y:∀b∈fp,b<s2.heap.objs.size)(O:∀b o,s2.heap.get? b=aa o->h1.get? b=aa o)(W:h1.Ns C m)(B:h1.get? s2.heap.objs.size=aa^lobj [] 0):
 Inv (blk X (tg++fv.map (·.2)) s2 H1 scope C fp) [(s2.heap.objs.size,lobj [] 0)] (qf tg.length σ fv) H1 {s2 with heap:=h1,toks:=tk} where
 ok:=OY L J h d y Y
 os:=rfl
 bare:=L.bare
 base:=Un.aG O
 loc:=by
  refine#[m,W,λi x v e1 e2 H=>?_];have e1:(tg++fv.map (·.2))[i]?=aa x:=e1;unfold qf at e2
  by_cases c:i<tg.length
  ·rw[Zs^by simpa using c,aaK,bK c]at e2;cases e2
  ·rw[aab^by simpa using c]at e2;rw[aab^by simpa using c]at e1;simp![abi,ZP]at e1 e2;cases g:fv[i-tg.length]? with
   |none=>rw[g]at e1;exact cT e1
   |some q =>
    rw[g]at e1 e2;simp![acO,acg]at e1 e2;subst e1;let(F,E,l,D):=h.fvs q^ZJ g;have f:σ[q.1]?=aa^aa v:=by
     cases j:σ[q.1]? with
     |none=>rw[j]at e2;exact cT e2|some o=>rw[j]at e2;simp![afB]at e2;rw[e2]
    let(G,w,Z):=L.loc;let(u,n,r):=Z q.1 q.2 v (by rw[A];exact F) f (by rw[J];exact .inr^.inl l);refine#[u,n,?_];have s:X.env.kindOf q.2=aa .cell:=by show X.env.scope.names.lookup q.2=_;rw[J];exact l
    rcases r with⟨k,_⟩|⟨k,c,ec,o,U,a⟩
    rw[s]at k;cases k
    ·let(I,V):=Bg L J h E;have:=mE V;rw[ec]at this;cases this;refine .inr #[.inl ?_,c,V,o,O c o U,a];show(ad5 scope (BC.jY X.env.cells scope.names []) C X.env).kindOf q.2=_;rw[xG J];exact D
 cell:=λx c e=>by let(v,o,U,a):=L.cell x c^mE e;exact#[v,o,O c o U,a]
 free:=L.aI.fresh (by show s2.heap.objs.size<=C;rw[d];exact aal _)
 freeC:=λx c e=>L.freeC x c^mE e
 pin:=λp t=>by
  have e:p=(s2.heap.objs.size,lobj [] 0):=by have:p∈[]++[(s2.heap.objs.size,lobj [] 0)]:=t;simpa using this
  subst e;refine#[B,L.aI.fresh^Zw _,?_,?_,λv z=>by cases (show Data.seq _ _=Data.cell v from z)]
  ·show s2.heap.objs.size≠C;rw[d];exact ZS^aav _
  ·intro z;let(_,o,U,_):=L.stack.mem z;exact bM (Zy U)^aas _
 aI:=L.aI.aG O
 len:=by show(qf tg.length σ fv).length=(tg++fv.map (·.2)).length;simp[qf]
end
def tgF:Nat->θ ay->θ (Nat×ay)
 |_,[]=>[]|k,x::r=>(k,x)::tgF (k+1) r
@[reducible]noncomputable def tgI(tg:θ ay):θ (Nat×ay):=tgF 0 tg
theorem vC:∀(a:θ ay)(k:Nat),(tgF k a).length=a.length
 |[],_=>rfl|_::r,k=>bS _^vC r _
theorem Bh{q:Nat×ay}:∀{a:θ ay}{k:Nat},q∈tgF k a->q.2∈a
 |x::r,k,h=>by
  rcases List.mem_cons.mp h with rfl|h
  exact ZF;exact Zz _^Bh h
def Bj(h:nmE m=aa x):∃p,m=.Name x p:=by
 cases m with
 |Name y p=>cases h;exact#[p,rfl]|_=>exact bM (show(af:ψ _)=aa _ from h) (λz=>nomatch z)
def Gx(h:Om m=a::l):∃k p,m=.Tuple (a::l) k p:=by
 cases m with
 |Tuple J k p=>cases h;exact(uS k p rfl)|_=>exact bM (show([]:θ _)=_::_ from h) (λz=>nomatch z)
theorem Gy{d:aak}{fs:θ ay}:∀(c:θ ay){pre:θ ay}{b:θ Zt},c.map aa=b.map nmE->(∀x∈c,r6 d x=ah)->CTs d (pre++(c++fs)) (tgF pre.length c) b
 |[],pre,b,e,_=>by
  cases b with
  |nil=>exact .nil|cons _ _=>cases e
 |x::r,pre,b,e,h=>by
  cases b with
  |nil=>cases e
  |cons a b =>
   refine uxE (Bj (aeI e).symm) ?_
   rintro p rfl
   have q:=Gy (fs:=fs) r (pre:=pre++[x]) (List.tail_eq_of_cons_eq e) λy J=>h y^Zz _ J;rw[aay,ZX]at q;exact .cons (by simp) (h x ZF) q
def vD(h:oV m b u=ah):CT m (b++fs) (tgI b) u/\(tgI b).length=b.length/\∀q∈tgI b,m.names.lookup q.2=aa .local:=by
 have st:∀{x:ay},m.names.lookup x=aa .local->r6 _ x=ah:=λe=>by unfold r6;exact rwe e rfl
 unfold oV at h;rw[Zp,aa3,Zp,ab0]at h;let(h,O):=h;have lo:∀{x},x∈b->m.names.lookup x=aa _:=λ{x} J=>bR^O x J;rcases h with h|⟨c,f⟩
 ·cases b with
  |nil=>exact bM (bS aej^bR h) (by simp)
  |cons x r =>
   cases r with
   |cons _ _=>exact bM (bS aej^bR h) (by simp)
   |nil =>
    refine uxE (Bj (aeI^bR h).symm) ?_
    rintro p rfl
    have l:m.names.lookup x=aa _:=lo ZF;exact(f6 (.one rfl^st l) rfl (λq L=>by exact rwe (List.mem_singleton.mp L) l))
 ·have e:=bR f;cases g:Om _ with
  |nil=>replace e:=g ▸ e;cases b with
   |nil=>exact aP c|cons _ _=>cases e
  |cons a l =>
   replace e:=g ▸ e;refine qE (Gx g) ?_
   rintro k p rfl
   exact(f6 (.aB (by rw[vC];exact c) (Gy (pre:=[]) _ e λx J=>st^lo J)) (vC _ _) (λq L=>lo^Bh L))
theorem Bk:∀(c:θ ay)(k:Nat)(a:θ aN)(b:aY),a.length=c.length->k+c.length<=b.length->BT.sets (tgF k c) a b=b.take k++(a.map BT.eZ++b.drop (k+c.length))
 |[],k,a,b,h,_=>by cases List.length_eq_zero_iff.mp h;exact(ae3 k _).symm
 |x::r,k,a,b,h,e=>by
  cases a with
  |nil=>cases h
  |cons d a =>
   rw[ZQ]at e;show BT.sets _ a _=_;rw[Bk r _ _ _ (Nat.succ.inj h)^by refine rwe ZV ?_;lia,List.drop_set_of_lt (),List.take_succ,ZZ (),List.take_set,List.set_eq_of_length_le^by refine rwe acJ ?_;lia,aay,show k+1+r.length=k+(x::r).length by refine rwe ZQ ?_;lia];rfl
def su{n:Nat}{d:aN}{a:θ aN}(h:bf n d=aa a):a.length=n:=by
 unfold bf at h
 by_cases c:n=1
 replace h:=(bK c) ▸ h;cases h;exact c.symm
 ·replace h:=(bL c) ▸ h;cases d with
  |aB J=>let(c,h):=dH h;rw[←h];exact c|aj J=>let(c,h):=dH h;rw[←h];exact c|_=>exact cT h
def vE(h:(tgI m).length=m.length)(V:m≠[])(L:bf m.length u=aa ds)(U:sl.length=m.length+fs.length)(O:sl.drop m.length=fs):
 BT.sets (tgI m) ds sl=ds.map BT.eZ++fs/\(ds.map BT.eZ++fs).length=m.length+fs.length/\(ds.map BT.eZ++fs).drop m.length=fs:=by
 have g:=Bk _ 0 _ sl (su L) ();rw[Nat.zero_add,O]at g;have J:(ds.map BT.eZ).length=m.length:=by rw[ZA];exact(su L)
 exact(f6 g (by exact rwe ZX^rwe J rfl)^by exact rwf J List.drop_left)
theorem kR:∀{J:θ (Nat×ay)}{a:aY},bD s J=aa a->a.length=J.length/\∀(i:Nat)(q:Nat×ay),J[i]?=aa q->a[i]?=s[q.1]?
 |[],a,e=>by simp[bD]at e;subst e;exact#[rfl,λi q z=>by simp at z]
 |q::r,a,e=>by
  simp![bD]at e;cases g:s[q.1]? with
  |none=>rw[g]at e;exact cT e
  |some w =>
   rw[g]at e;let(U,e1,rfl):=dG e;let(O,L):=kR e1;refine#[by simp[O],λi p z=>?_];cases i with
   |zero=>simp at z;subst z;simp[g]|succ i=>simpa using L i p (by simpa using z)
def qh{K:Zm}(S:RS P w K m H σ s)(U:bD s u=aa fs):RS P w K m H (qf n σ u) (ZN n af++fs):=by
 refine uxA (kR U) λJ V=>#[by simp[qf,J],λi y e=>?_]
 by_cases c:i<n
 ·rw[Zs^by simpa using c,aaK,bK c]at e;cases e
 ·rw[aab^by simpa using c]at e;simp![abi]at e;have O:i-n<u.length:=by
   refine rwf J ?_;rcases ZR _ _ with z|z
   exact z;rw[ZM z]at e;exact cT e
  have g:=Zu O;rw[V _ _ g]at e;refine cX (S.get _ _ e) λv L r=>((cY v (rwe (aab^by simpa using c) ?_) r));simp![abi,ZP,g,acO,L,afB]
def Ko{rest:θ aN}(e:BT.fE f n (d::r) h=aa (rest,m)):
 ∃a o L J,bf n d=aa a/\f a h=aa (o,L)/\BT.fE f n r L=aa (J,m)/\rest=(match o with|some x=>x::J|none=>J):=by
 rw[BT.fE]at e;cases g:bf n d with
 |none=>rw[g]at e;exact cT e
 |some a =>
  rw[g]at e;let(o,L,e1,e2):=c7 e;unfold BT.Jl at e2;let(J,V,U,O):=c7 e2;unfold BT.AH at O;cases O;exact#[a,o,L,J,rfl,e1,U,rfl]
theorem Un.behind(u:Un fs ex H H' h h1)(a:∀b,b<h.objs.size->H2 b=H' b)(lt:∀b o,H b=aa o->b<h.objs.size)(k:∀b o,b<h.objs.size->h1.get? b=aa o->h2.get? b=aa o):Un fs ex H H2 h h2 where
 keep:=λb o e n c d=>k b o (Zy e)^u.keep b o e n c d
 slot:=λb o e n c d=>by let(O,q):=u.slot b o e n c d;exact#[O,k b _ (Zy e) q]
 free:=λb o e n d=>by rw[a b^Zy e];exact u.free b o e n d
 there:=λb o e d=>by let(J,q):=u.there b o e d;exact#[J,k b J (Zy e) q]
 tups:=λb L e=>by rw[a b^lt b _ e];exact u.tups b L e
 frzs:=λb o w e=>by rw[a b^lt b _ e];exact u.frzs b o w e
 tbls:=λb U e=>by rw[a b^lt b _ e];exact u.tbls b U e
section
theorem zB(O:Ok X F G sc N)(hu:fS N=ah)(J:xF sc N tg fv scope):
 Ok (blk X (tg++fv.map (·.2)) s2 H1 scope C fp) F G (d8 scope sc) (tg++fv.map (·.2)) where
 hsc:=by have:=O.hsc;subst this;rfl
 hN:=rfl
 nd:=J.nd
 calm:=λ_=>O.calm hu
 hu:=O.hu
 own:=abW
 glob:=O.glob
 call:=O.call
 aE:=O.aE
 mkc:=O.mkc
 blt:=O.blt
 lam:=O.lam
 lamx:=λh=>bM (show ai=ah from h "") ∅
def Gz{k:Bool}{J:bC}{n:Nat}{l:aY}{d:aY->aL->ψ (θ aM×aL)}{b:aY->BT.EH}{i:θ aM}{h:aL}{z:aM×aL}{j:θ aN}(e:BT.oR k J n (aa l) d b i h=aa z)(g:(aV i h).bind^bJ J=aa j):
 xy J i/\∃a,(∀f h r,a f h=aa r->BT.fH d b l f h=aa r/\nY J i j r.2)/\nY J i j h/\bI (BT.fE a n j h)^BT.kM k=aa z:=by
 unfold BT.oR at e;rw[g]at e;simp only at e
 by_cases U:BT.jd i=ah
 ·replace e:=(bK U) ▸ e;exact#[.inl U,_,λf h r q=>#[q,jK U],jK U,e]
 ·replace e:=(bL U) ▸ e;let(m,q,rfl):=(by
   unfold BT.Fc at e;split at e;exact#[.inl rfl,_,rfl];exact#[.inr rfl,_,rfl];exact cT e
  :(J=.seq\/J=.enu)/\∃ q,i=[.r q])
  have Y:BT.nG J q h=aa j:=by
   unfold BT.nG;simp![aV,aZ,acO]at g;cases Z:bw h q with
   |none=>rw[Z]at g;exact cT g|some f=>rw[Z]at g;exact g
  rcases m with rfl|rfl
  ·refine#[.inr #[.inl rfl,q,rfl],_,λf h r q=>?_,λV L=>by cases L;exact Y,e];unfold BT.chk at q;cases O:BT.fH _ _ _ _ h with
   |none=>replace q:=O ▸ q;exact cT q
   |some W =>
    rw[O]at q;simp only at q;split at q
    ·rename_i c;cases q;exact#[rfl,λV L=>by cases L;unfold BT.nG;refine rwe c ?_;rfl]
    exact cT q
  ·refine#[.inr #[.inr rfl,q,rfl],_,λf h r q=>?_,λV L=>by cases L;exact Y,e];unfold BT.SV at q;cases O:BT.fH _ _ _ _ h with
   |none=>replace q:=O ▸ q;exact cT q
   |some W =>
    rw[O]at q;simp only at q;split at q
    ·rename_i c;cases q;refine#[rfl,λV L=>?_];cases L;refine rwf c ?_;show(bw W.2 q).bind (λf=>bJ _ [.aj _])=(bw _ q).map _;cases bw _ q<;>rfl
    exact cT q
inductive LI(X:Cx)(F:FT)(G:ay->ψ aM)(scope:aak)(tg:θ ay)(fv:θ (Nat×ay))(cond:aT)(elt:aU)(s2:Zo)(H1:Hp)(C:az)(fp:θ az)(tn:Nat->au->Prop)(m1:θ az)(ds outs:θ aN)(fs:aY)(h2:aL)(f':θ aN->aL->ψ (ψ aN×aL))(Cc:aL->Prop)(n:Nat)(s:Zo):Prop
 |mk(i:Nat)(L:L2.St)(H':Hp)(m':θ az)(J:aL)(out rest:θ aN)(vs:θ V)(us:θ aA)(Z:Nat)(sl:aY)(p0:i<=ds.length)(p1:n=ds.length-i)(p2:Inv (blk X (tg++fv.map (·.2)) s2 H1 scope C fp) [(s2.heap.objs.size,lobj us Z)] L H' s)(p3:tn i s.heap)(p4:(∀b∈fp,H' b=af))(p5:Ext m1 H1 m' H')(p6:RH X.K m' H' J)(p7:RS X.prog X.w X.K m' H' L sl)(p8:sl.length=tg.length+fs.length)(p9:sl.drop tg.length=fs)(U:dw vs us)(p11:RDs X.K m' H' vs out)(Y:BT.fE f' tg.length (ds.drop i) J=aa (rest,h2))(W:out++rest=outs)(O:Cc J):LI X F G scope tg fv cond elt s2 H1 C fp tn m1 ds outs fs h2 f' Cc n s
structure Apart(X:Cx)(zt:θ (az×aq))(H:Hp)(C:az):Prop where
 fr:H C=af
 lo:C≠X.env.locals
 ab:X.s₀.heap.objs.size<=C
 ce:∀x c,X.env.cells.lookup x=aa c->c≠C
 pi:∀p∈X.pn++zt,p.1≠C
def uA(O:Ok X F G sc N)(hu:fS N=ah)
(hk:jG sc N tg fv scope=ah)(ht:oV (d8 scope sc) tg te=ah)(hset:jf iter=ah)(hI:PI X te iter^iD X F G sr sa)(hC:sj F G (d8 scope sc) (tg++fv.map (·.2)) cond ifs)
(hE:∀X',Ok X' F G (d8 scope sc) (tg++fv.map (·.2))->PE X' elt'^tD X' F G elt):∀(zt:θ (az×aq)) (s:Zo) (σ:L2.St) (H:Hp) (Q:VK) (use:ψ (aA->Sem Unit)) (Q':aA->Zo->Prop),ξ H s->η (.comp mu sr sa tg fv cond elt) σ H Q →
 (∀(f:Zo)(H6:Hp)(C D:az)(m:ay->ψ aA),ξ H6 f->f.heap.Ns C m->Apart X zt H6 C->Q (.ref D) H6->compPost (π X.w) X.A X.xe use Q' (.ref D) C (.ok .next) f) →
 av (π X.w) X.A (abQ (.ListComp elt' [#[te,iter,ifs,0]] scope pos) scope X.env (firstIterPos [#[te,iter,ifs,0]] pos) (newList []) ai (eval iter X.env) use) Q' X.xe s:=by
 have cf:=Gw hk;let(ct,tl,tloc):=vD (fs:=fv.map (·.2)) ht;have t0:tg≠[]:=by
  rintro rfl
  simp[oV]at ht
 intro zt s σ H Q use Q' I q hfin;let(m,s',h,z,h',R,S,ee,zr):=q;simp![BT.Fg]at ee;let(ws,h1,e1,e2):=c7 ee;cases g1:(aV ws h1).bind^bJ sr with
 |none=>unfold BT.oR at e2;rw[g1]at e2;exact cT e2
 |some Y =>
  cases g2:bD s' fv with
  |none=>unfold BT.oR at e2;rw[g1,g2]at e2;exact cT e2
  |some fs =>
   rw[g2]at e2;let(ca,f',hf',c1,e2):=Gz e2 g1;let(U,h2,e3,e4):=c7 e2;unfold BT.kM at e4
   by_cases cl:U.length<=BT.lim
   case neg=>rw[bL cl]at e4;exact cT e4
   rw[bK cl] at e4;have ez:BT.new mu U h2=(z,h'):=Zv e4;have hfree:BC.r9 X.env.cells scope.names:=λx hx e=>I.ok.has x.1^.inl (by
    have:=cf.free x hx e;show X.env.scope.names.lookup x.1=_;rw[O.hsc];exact this)
   refine wpAny_comprehension_free (use:=use) rfl (o9 hset) (BC.nZ hfree) cf.k1 cf.loc
    (thn (hI zt s σ H (λJ H1=>∃m1,Ext m H m1 H1/\RH X.K m1 H1 h1/\vq X.K J m1 H1 Y^nY sr ws Y) I #[m,s',h,ws,h1,Y,R,S,e1,g1,ca,λH1 m1 J x1 R1 it=>#[m1,x1,R1,it]]) λv s1 hv=>thn hv λitv s2 h2'=>?_)
   let(it,fp,tn,J,H1,rfl,I1,T,st,hf,m1,x1,R1,ito):=h2';have hlt:∀b∈fp,b<s2.heap.objs.size:=λb L=>by let(o,ho,_):=T.obj 0 _ st b L;exact Zy ho
   refine Z8^adB cf.cell (by intro y hy;simp at hy) (λh3 hns hsb=>?_) cf.k1;dsimp only at hns hsb⊢;generalize hH2:s2.heap.push {cls:=.type "list",dict:=af,data:=.seq ([]:θ aA).toArray}=H2 at hns hsb⊢;have M:H2.objs.size=s2.heap.objs.size+1:=by rw[←hH2,aaA]
   have old:∀b o,s2.heap.get? b=aa o->h3.get? b=aa o:=λb o e=>hsb.extBut b o (by rw[M];exact ZS^aa4^Zy e)^Zr _ (hH2 ▸ Zr _ e);have hacc:h3.get? s2.heap.objs.size=aa^lobj [] 0:=hsb.extBut _ _ (by rw[M];exact ZS^aav _)^Zr _ (hH2 ▸ ZH _ rfl);have I4:=vB (tk:=s2.toks+([]:θ (ay×aA)).length) I1 O.hsc O.hN cf M hf hlt old hns hacc;have O':=zB (s2:=s2) (H1:=H1) (C:=H2.objs.size) (fp:=fp) O hu cf;let(g,hg1,hg2):=sCT O' (O.calm hu) ct λq hq=>.inr (by rw[O'.hsc];exact tloc q hq);have hfl:fs.length=fv.length:=(kR g2).1;have B:∀{H':Hp}{o:aq},(∀b∈fp,H' b=af)->∀b∈fp,rA (blk X (tg++fv.map (·.2)) s2 H1 scope H2.objs.size fp) [(s2.heap.objs.size,o)] H' b:=λ{H' o} hn b L=>by
    refine#[hn b L,?_,?_,.inl L,λx c e=>(hf b L).2.2.2.2.1 x c^mE e,λp hp=>?_]
    ·show b≠H2.objs.size;rw[M];exact ZS^aa4^hlt b L
    ·intro a;rcases List.mem_cons.mp^I1.kZ b a with e|e
     exact(hf b L).2.1 e;exact(hf b L).2.2.1 e
    ·have hp':p=(s2.heap.objs.size,o):=by have:p∈[]++[(s2.heap.objs.size,o)]:=hp;simpa using this
     rw[hp'];show s2.heap.objs.size≠b;exact abj^hlt b L
   have loop:∀s4:Zo,s4={s2 with heap:=h3,toks:=s2.toks+([]:θ (ay×aA)).length} →
    ao (π X.w) X.A (.compLoop (.ListComp elt' [#[te,iter,ifs,0]] scope pos) 0 (.ref it) (.ref s2.heap.objs.size)^ad5 scope (BC.jY X.env.cells scope.names []) H2.objs.size X.env)
     (compPost (π X.w) X.A X.xe use Q' (.ref s2.heap.objs.size) H2.objs.size) s4:=by
    rintro s4 rfl
    refine BC.Do (LI X F G scope tg fv cond elt s2 H1 H2.objs.size fp tn m1 Y U fs h2 f'^nY sr ws Y) ?_
     Y.length #[0,_,H1,m1,h1,[],U,[],[],0,_,aax _,rfl,I4,T.keep 0 _ _ st (λb L o e=>old b o e),λb L=>(hf b L).1,.refl _ _,R1,qh (S.ext x1) g2,by simp,by simp,.nil,.nil,by rw[aez];exact e3,rfl,c1]
    rintro n s5 ⟨i,σ5,H5,m5,hh,out,rest,vs,us,nn,sl,hi,rfl,I5,st5,fr5,x5,R5,S5,sl1,sl2,rv5,rd5,go5,ou5,cc5⟩
    by_cases c:i<Y.length
    ·rw[abv c]at go5;let(xs,o,hA,E,eT,eF,eG,eR):=Ko go5;let(eF,cA):=hf' _ _ _ eF;refine thn (T.item (blk X (tg++fv.map (·.2)) s2 H1 scope H2.objs.size fp) rfl rfl rfl (O.calm hu) i _ s5 σ5 H5 _ I5 (B fr5) st5^ito.go m5 H5 hh i x5 R5 cc5 c) λr f hr=>?_;let(u,rfl,hr):=hr;refine thn hr λ_ s7 zq=>?_;let(x,H7,I7,r7,y7,st7,fr7):=zq;let(x7,k7,rd7):=ito.yld m5 H5 hh i x H7 Y[i] x5 R5 cc5 (Zu c) y7;have R7:=R5.ext x7 k7;have I7':=I7.pinned (B fr7)^T.obj _ _ st7;let(sq1,sq2,sq3):=vE tl t0 eT sl1 sl2;refine thn (hg1 _ s7 σ5 H7 x u (fun V H8=>H8=H7/\RS X.prog X.w X.K m5 H7 V (xs.map BT.eZ++fs)) I7' r7 (hg2 m5 H7 σ5 sl x Y[i] xs _ (S5.ext x7) rd7 (by rw[tl];exact eT) fun V S8=>#[rfl,by rw[←sq1];exact S8])) λ_ s8 h8=>?_;let(V,H8,I8,rfl,S8):=h8;have aG:∀{s9:Zo}{σ9:L2.St}{t:Hp},Inv (blk X (tg++fv.map (·.2)) s2 H1 scope H2.objs.size fp) ([(s2.heap.objs.size,lobj us nn)]++nO fp s7.heap) σ9 t s9->tn (i+1) s9.heap/\∀b∈fp,t b=af:=λ{s9 σ9 t} I9=>by refine#[T.keep _ _ _ st7 λb L o e=>(I9.pin (b,o)^Z1 _^Z1 _^iN L e).1,λb L=>?_];let(o,e,_):=T.obj _ _ st7 b L;exact(I9.pin (b,o)^Z1 _^Z1 _^iN L e).2.1
     have elem:∀{s9:Zo}{t:Hp}{m9:θ az}{h9:aL}{w:aM}{hB:aL}{d:aN},Inv (blk X (tg++fv.map (·.2)) s2 H1 scope H2.objs.size fp) ([(s2.heap.objs.size,lobj us nn)]++nO fp s7.heap) V t s9->Ext m5 H8 m9 t->RH X.K m9 t h9 →
      aK F G elt (xs.map BT.eZ++fs) h9=aa (w,hB)->BT.zc w hB=aa (aa d,hA)->o=aa d →
      av (π X.w) X.A (eval elt'^ad5 scope (BC.jY X.env.cells scope.names []) H2.objs.size X.env) (λx s₄ =>
       av (π X.w) X.A (call (.builtin "list.append") [.ref s2.heap.objs.size,x]) (λ_ s₅=>∃ m,m < Y.length - i/\LI X F G scope tg fv cond elt s2 H1 H2.objs.size fp tn m1 Y U fs h2 f' (nY sr ws Y) m s₅) (λ_ _=>False) s₄) (λ_ _=>False) s9:=by
      intro s9 t m9 h9 w hB d I9 x9 R9 eE k eO;have ew:w=.p d/\hB=hA:=by
       cases w with
       |p d'=>cases k;exact#[rfl,rfl]|_=>exact cT k
      let(rfl,rfl):=ew;refine thn (hE _ O' _ s9 V t (λv Ha=>∃P,Ext m9 t P Ha/\RH X.K P Ha hB/\RD X.K P Ha v d) I9 #[m9,_,h9,_,hB,R9,S8.ext x9,eE,λv Ha P xa Ra ra=>by cases ra with|p ra=>exact⟨P,xa,Ra,ra⟩]) λu10 s10 ⟨v10,H10,I10,r10,m10,x10,R10,rd10⟩=>?_
      let(pD,nD,j,nfD,_):=I10.pin (s2.heap.objs.size,lobj us nn) (by simp);have lus:=rv5.length;have lvs:=rd5.length;have lou:out.length<=U.length:=by rw[←ou5];simp
      have lle:=gW;have cl':U.length<=BT.lim:=cl;refine afp #[nn,pD] (λh11 W Z=>?_) (by rw[Zx];lia);let(nn',W):=W;have W:h11.get? s2.heap.objs.size=aa^lobj (us++[u10]) nn':=by rw[W];simp[lobj]
      have Z:aaq s2.heap.objs.size s10.heap h11:=Z;let(st10,fr10):=aG I10;have I11:Inv (blk X (tg++fv.map (·.2)) s2 H1 scope H2.objs.size fp) [] V H10 {s10 with heap:=h11} :=
       Inv.turned (t':=s10.toks) (I10.mW (λp hp=>by cases hp)) (λb o L e=>(Z.2 b L).trans e) nD j (.inr^Zw _) (λx c e a=>by let(v,o,ho,_):=I1.cell x c^mE e;have:=Zy ho;rw[a]at this;exact bM this (aas _)) λp hp=>by cases hp
      have xt:Ext m5 H5 m10 H10:=(x7.trans x9).trans x10;refine#[Y.length-(i+1),(),i+1,V,H10,m10,hB,out++[d],E,vs++[v10],us++[u10],nn',_,c,rfl,(I11.mW λp hp=>by simp![adz]at hp;subst hp;exact#[W,nD,j,nfD,λv a=>by cases (a)]),?_,fr10,x5.trans xt,R10,(S8.ext x9).ext x10,sq2,sq3,rv5.append^.cons r10 .nil,(rd5.ext xt).append^.cons rd10 .nil,eG,?_,cA]
      ·refine T.keep _ _ _ st10 λb L o' e=>(Z.2 b ?_).trans e;exact ZS^hlt b L
      rw[←ou5,eR,eO,aay];rfl
     let(cs,hc,eC,k):=c7 eF;rcases hC with⟨rfl,rfl⟩|⟨cc,cc',rfl,rfl,hCC⟩
     ·simp![aX]at eC;cases eC;have k:=(k);let(w,hB,eE,eL):=c7 k;refine wpAny_tests_nil ?_;refine rwe (bK rfl) ?_;have:∃d,o=aa d:=by
       unfold BT.zc at eL;cases w with
       |p d'=>cases eL;exact#[_,rfl]|_=>exact cT eL
      let(d,rfl):=this;exact elem I8 (.refl _ _) R7 eE eL rfl
     ·simp![aX]at eC;obtain⟨wc,hc2,eC1,⟨⟩⟩:=c7 eC;have L:∃b,wc=.p^.bl b:=by
       cases wc with
       |p d =>
        cases d<;>first|exact#[_,rfl]|exact cT k
       |_=>exact cT k
      let(b,rfl):=L;refine wpAny_tests_one (thn (hCC _ O' _ s8 V H8 (λb' Ha=>b'=b/\∃P,Ext m5 H8 P Ha/\RH X.K P Ha hc) I8 #[m5,_,hh,b,hc,R7,S8,eC1,λHa P xa Ra=>(lU rfl P xa Ra)]) λb' s9 zq=>?_);let(t,I9,hbb,m9,x9,R9):=zq;subst hbb;cases b' with
      |false =>
       have k:=(show aa ((af:ψ aN),hc)=aa _ from k);cases k;refine rwe (bL ∅) ?_;refine uxA (aG I9) λst9 fr9=>#[Y.length-(i+1),(),i+1,V,t,m9,hA,out,E,vs,us,nn,_,c,rfl,I9.oE,st9,fr9,x5.trans^x7.trans x9,R9,S8.ext x9,sq2,sq3,rv5,rd5.ext^x7.trans x9,eG,?_,cA];exact rwf ou5^rwe eR rfl
      |true =>
       refine rwe (bK rfl) ?_;let(w,hB,eE,eL):=c7^(k);let(d,rfl):=(by
        unfold BT.zc at eL;cases w with
        |p d'=>cases eL;exact#[_,rfl]|_=>exact cT eL
       :∃ d,o=aa d)
       exact elem I9 x9 R9 eE eL rfl
    ·have ei:i=Y.length:=()
     subst ei;rw[acL,BT.fE]at go5;cases go5;rw[aau]at ou5;subst ou5;refine thn (T.done (blk X (tg++fv.map (·.2)) s2 H1 scope H2.objs.size fp) rfl rfl rfl (O.calm hu) _ _ s5 σ5 H5 _ I5 (B fr5) st5^ito.stop m5 H5 _ x5 R5 cc5) λr f zq=>?_;let(hr,I6):=zq;subst hr;refine cX I6.loc λmm hmm _=>(nM (I6.pin (s2.heap.objs.size,lobj us nn)^by simp) λpD nD j nfD _=>?_);have j:s2.heap.objs.size≠H2.objs.size:=j;have hos:f.os=s2.os:=I6.os;have lus:=rv5.length;have lvs:=rd5.length;have lle:=gW;have cl':out.length<=BT.lim:=cl;have aI:HOk X.prog X.w (upd H5 s2.heap.objs.size^.aj vs) f.heap:=λb u e=>by
      by_cases eb:b=s2.heap.objs.size
      ·subst eb;replace e:=fD ▸ e;cases e;exact(lV () us nn rv5 pD)
      ·replace e:=(dD eb) ▸ e;refine(I6.aI b u e).stay (λc v hc q=>q) (λc q=>(rwe (dD (λa=>by replace q:=nD ▸ a ▸ q;exact cT q)) q)) λc l q=>?_;exact rwe (dD (λa=>by replace q:=nD ▸ a ▸ q;exact cT q)) q
     have I7:=I1.call (g':=f.gens) (t':=f.toks) (d':=f.drawn) (ch:=fp) (Un.behind (h1:=f.heap) I6.base (λb L=>dD^ZS L) (λb o e=>I1.aI.lt e) λb o L e=>e) aI I6.bare λb L=>(nE ((hf b L).2.2.2.1) ((hf b L).2.1) ((hf b L).2.2.2.2.1)^(hf b L).2.2.2.2.2);have fr6:H5 H2.objs.size=af:=I6.free;have ltC:s2.heap.objs.size<H2.objs.size:=by exact rwe M^aav _
     refine hfin f _ _ _ mm ?_ hmm (by
      refine#[by exact rwe (dD^aan j) fr6,(abj^afb I1.lt ltC),?_,λx c e a=>?_,λp hp a=>?_];exact ZT I1.sz^aaL ltC
      ·refine fz (I1.cell x c e) λv o ho _=>?_;have l:=Zy ho;rw[a]at l;exact bM (afb l ltC)^aas _
      ·have l:=Zy (I1.pin p hp).1;rw[a] at l;exact bM (afb l ltC)^aas _) (qR (mu:=mu) R5 nD rd5^by exact rwe ez (λv' H' m' xx RR rr=>zr v' H' m' ((x1.trans x5).trans xx) RR rr))
     let(hp6,g6,d6,t6,os6):=f;subst hos;exact I7
   exact adf (loop _ rfl)^T.self _ 0 _ _ _ (T.keep 0 _ _ st (λb L o e=>old b o e))^loop _ rfl
def Kp(O:Ok X F G R N)(Y:fS N=ah)
(c:jG R N P fv u=ah)(Z:oV (d8 u R) P te=ah)(J:jf iter=ah)(f:PI X te iter^iD X F G sr sa)(h:sj F G (d8 u R) (P++fv.map (·.2)) cond ifs)
(g:∀V,Ok V F G (d8 u R) (P++fv.map (·.2))->PE V M^tD V F G elt):PE X (.ListComp M [#[te,iter,ifs,0]] u pos)^η^.comp mu sr sa P fv cond elt:=λk s W H Q I q=>uA O Y c Z J f h g _ s W H Q _ _ I q λl j C D m i hn L a=>(cY m hn (λn U=>#[.ref D,j,Inv.turned i (λb o d e=>(U.2 b d).trans e) L.fr L.lo (.inr L.ab) L.ce L.pi,rfl,a]))
def Kq(O:Ok X F G sc N)(p:fS N=ah)
(u:jG sc N tg fv scope=ah)(r:oV (d8 scope sc) tg te=ah)(U:jf iter=ah)(x:PI X te iter^iD X F G sr sa)(E:sj F G (d8 scope sc) (tg++fv.map (·.2)) cond ifs)
(B:∀c,Ok c F G (d8 scope sc) (tg++fv.map (·.2))->PE c elt'^tD c F G elt)(n:N[i]?=aa y)(h:sc.names.lookup y=aa .local)
(W:acv (.ListComp elt' [#[te,iter,ifs,0]] scope pos) (aa^.Name y py) spos.line X.env=pure ah):
 PS X (.Assign [.Name y py] (.ListComp elt' [#[te,iter,ifs,0]] scope pos) spos)^Ef (η^.comp mu sr sa tg fv cond elt)^Am i:=by
 intro d s k H D I q;rw[exec_Assign_Name_used _ _ _ _ W];refine Zn^abw^Zn ?_;show av _ X.A (do let _ ←abQ (.ListComp elt' [#[te,iter,ifs,0]] scope pos) scope X.env _ (newList []) ai (eval iter X.env)^aa^adH (.Name y py) X.env) _ _ s;refine Zn (thn (uA O p u r U x E B d s k H _ (aa^adH (.Name y py) X.env) (λ_ g=>SP X d D .next g) I q λR Q C j m P hn L Y=>?_) λ_ g Y=>Zq^Zq Y);show av _ X.A (adH (.Name y py) X.env^.ref j) _ _ _;refine wpAny_assign_Name^pT P O.nd (by rw[O.hN];exact n) (.inl^by rw[O.hsc];exact h) (v:=.ref j) rfl (λf M t=>?_) (.inr^by rw[O.hsc];exact h);let(a,l,Z):=t;have V:C≠a:=by
  rcases Z with rfl|Z
  exact L.lo;exact λz=>L.ce y a Z z.symm
 refine#[m,hn.sameBut l V,λK J=>?_];have J:aaq C f.heap K:=J;exact#[_,Q,Inv.turned (t':=f.toks) M (λb o w e=>(J.2 b w).trans e) L.fr L.lo (.inr L.ab) L.ce L.pi,Y]
end
section
variable{E:aA->Zo->Prop}
end
section
end
end BS
end
section
namespace L2
open PySem PySem.Spec PyProof.Rows
section
variable{X:Cx}{tg:ab8}
end
end L2
namespace BS
open PySem PySem.Spec PyProof.Rows L2
section
variable{F:FT}{G:ay->ψ aM}
end
end BS
end
section
namespace BS
open PySem PySem.Spec PyProof.Rows L2
section
variable{E:aA->Zo->Prop}
end
section
variable{prog:ZE}{w:ZW}{A:Z7}{s:Zo}{R:adt->Zo->Prop}{xs ys:Array aA}{z TI TO i1 i2 l1 l2 S:az}
end
section
variable{prog:ZE}{w:ZW}{A:Z7}{E:aA->Zo->Prop}{s:Zo}{R:adt->Zo->Prop}{xs ys:Array aA}{z TI TO i1 i2 l1 l2 S:az}
end
section
variable{E:aA->Zo->Prop}
end
section
end
inductive ZK
 |l(a:az)|t(a:az)|s(x:ay)(k:Tok)
def ZK.ty:ZK->String
 |.l _=>"list_iterator"|.t _=>"tuple_iterator"|.s x _=>strIterType x
def ZK.val:ZK->aA
 |.l a=>.ref a|.t a=>.ref a|.s x k=>.str x k
def ZK.at(q:ZK)(J:az)(i:Nat)(h:au):Prop:=match q with
 |.l a=>h.IsListIter J a i|.t a=>h.IsTupleIter J a i|.s x k=>h.IsStrIter J (strIterType x) x k i
def ZK.item(q:ZK)(i:Nat)(h:au)(u:aA):Prop:=match q with
 |.l a=>∃J:θ aA,h.IsList a J.toArray/\J[i]?=aa u|.t a=>∃J:θ aA,h.IsTuple a J.toArray/\J[i]?=aa u|.s x _=>∃c t,x.cps[i]?=aa c/\u=.str #[#v[c]] t
def ZK.done(q:ZK)(i:Nat)(h:au):Prop:=match q with
 |.l a=>∃J:θ aA,h.IsList a J.toArray/\J.length<=i|.t a=>∃J:θ aA,h.IsTuple a J.toArray/\J.length<=i|.s x _=>x.cps.size<=i
section
variable{prog:ZE}{w:ZW}{A:Z7}{E:aA->Zo->Prop}{s:Zo}
end
def ZK.ob(q:ZK):aq:={cls:=.type q.ty,data:=.fields #v[q.val,ω 0 0]}
def ZK.here(q:ZK)(h:au):Prop:=match q with
 |.l a=>∃J:θ aA,h.IsList a J.toArray|.t a=>∃J:θ aA,h.IsTuple a J.toArray|.s _ _=>True
section
variable{prog:ZE}{w:ZW}{A:Z7}{E:aA->Zo->Prop}{s:Zo}
end
section
variable{prog:ZE}{w:ZW}{A:Z7}{E:aA->Zo->Prop}{s:Zo}
end
def ZK.has(q:ZK)(K:Zm)(H:Hp)(i:Nat):Prop:=match q with
 |.l a=>∃J x,SqL K H a J/\J[i]?=aa x|.t a=>∃J x,SqT K H a J/\J[i]?=aa x|.s x _=>∃c,x.cps[i]?=aa c
def ZK.is(q:ZK)(K:Zm)(H:Hp)(i:Nat)(v:V):Prop:=match q with
 |.l a=>∀J,SqL K H a J->J[i]?=aa v|.t a=>∀J,SqT K H a J->J[i]?=aa v|.s x _=>∃c,x.cps[i]?=aa c/\v=.str #[#v[c]]
def ZK.over(q:ZK)(K:Zm)(H:Hp)(i:Nat):Prop:=match q with
 |.l a=>∃J,SqL K H a J/\J.length<=i|.t a=>∃J,SqT K H a J/\J.length<=i|.s x _=>x.cps.size<=i
section
variable{X:Cx}{zt:θ (az×aq)}{σ:L2.St}{H:Hp}{s:Zo}
end
section
variable{F:FT}{G:ay->ψ aM}
end
section
variable{prog:ZE}{w:ZW}{A:Z7}{E:aA->Zo->Prop}{s:Zo}
end
section
variable{F:FT}{G:ay->ψ aM}
end
section
variable{X:Cx}{F:FT}{G:ay->ψ aM}
end
section
variable{X:Cx}{F:FT}{G:ay->ψ aM}
end
section
variable{m:θ az}
def RBs.length(r:RBs m u ns):u.length=ns.length:=by
 induction r with
 |nil=>rfl|cons _ _ J=>refine rwe ZQ ?_;exact rwe ZQ^rwe J rfl
theorem RBs.get:∀{b:θ V}{c:θ Nat}{i n:Nat},RBs m b c->c[i]?=aa n->∃a,b[i]?=aa^.ref a/\m[n]?=aa a
 |_,_,_,_,.nil,e=>by simp at e
 |_,_,0,_,.cons r _,e=>by simp at e;subst e;exact(cY _ rfl r)
 |_,_,i+1,d,.cons _ t,e=>by exact cX (RBs.get t^by simpa using e) λu L J=>((cY u (by simpa using L) J))
theorem RBs.add(h:m[n]?=aa a):∀{b:θ V}{c:θ Nat},RBs m b c->RBs m (b++[.ref a]) (c++[n])
 |_,_,.nil=>.cons h .nil|_,_,.cons r t=>.cons r^RBs.add h t
def RBs.atI(r:RBs m u ns)(e:BT.atP ns i=aa d):∃a,L2.atI u i=aa^.ref a/\m[d]?=aa a:=by unfold L2.atI;refine cX (Option.bind_eq_some_iff.mp e) λj U O=>(cX (r.get O) λv L J=>?_);refine(cY v (rwe r.length ?_) J);show((BT.place _ i).bind _)=_;exact rwe U L
end
section
variable{F:FT}{G:ay->ψ aM}
def OZ(σ:L2.St)(H:Hp)(Q:VK)(q:η (.obl a) σ H Q):Nx (tDs X F G^.cons a .nil) σ H Q:=by
 let(m,s,h,z,c,R,S,Y,O):=q;let(x,W,e1,e2):=c7 Y;cases x with
 |o n =>
  cases e2;refine#[m,s,h,[.o n],W,R,S,by simp![aX,e1,BT.gM,BT.AM,BT.u6],λZ d b U L V=>?_];cases V with
  |cons r t =>
   cases t;cases r with
   |o hn =>
    refine#[by show 1<=_;decide,λp J=>(O _ _ _ (U.trans^jH J) (L.Oo J^cY _ fD^.cons ((jH (o:=.own 0) J).ix hn) .nil)^.r^rwf L.len ?_)];simp
 |_=>exact cT e2
def O0:IxR X^rOp X.prog X.w X.K BT.Jr:=by
 intro J L t s U H v u A B Q I Z c h k;let(m,h,x,y,z,D,R,Y,O,e,V):=h;cases Y with
 |@r a n hn =>
  cases O with
  |p O =>
   cases O with
   |int i =>
    refine cX (Option.bind_eq_some_iff.mp e) λC g e=>?_;obtain⟨d,e1,⟨⟩⟩:=dG e;refine cX (R.AQ _ _ _ hn g) λW q l=>?_;exact cX (l.atI e1) λb j f=>(AA _ _ _ s U H _ _ _ _ Q I Z c (kX a W i _ rfl rfl (.inl^.inl q) j^V _ _ m (.refl _ _) R^.o f) k)
   |_=>exact cT e
  |_=>exact cT e
 |_=>exact cT e
def O4(O:Ok X F G sc N)(d:dJ sc "len"=ah)(b:noStar e=ah)(f:PA X [e]^tDs X F G^.cons a .nil):PE X (.Call (.Name "len" p) [e] [] I)^η^.obn a:=by
 refine PE.weak (gj k8 (dZ O d) (O.blt _ ∅) PySem.boot_len f ∅ ∅ (c5 b) rfl) fun l H Q q=>?_;let(m,s,h,z,i,R,S,j,L):=q;let(x,w,e1,e2):=c7 j;cases x with
 |r n =>
  refine cX (Option.bind_eq_some_iff.mp e2) λu g k=>(uxA (dH k) ?_);rintro c ⟨⟩;refine#[m,s,h,[.r n],i,R,S,by simp![aX,e1,BT.gM,BT.AM,BT.u6],λo y v U J W=>?_];cases W with
  |cons r t =>
   cases t;cases r with
   |r hn =>
    refine cX (J.AQ _ _ _ hn g) λV Z Y=>((dO _ V rfl (.inl^.inl^.inl Z) ?_));exact rwe Y.length^L _ _ _ U J^.p^ω _
 |_=>exact cT e2
def O5(K:ef oe=ah)(E:(apos.endLine==cpos.line)=ah)(b:noStar e=ah)(D:PE X oe^η o)(M:PA X [e]^tDs X F G^.cons a .nil):PE X (.Call (.Attribute oe "append" apos) [e] [] cpos)^η^.oba o a:=by
 refine PE.weak (EA aaz acp aco uh D M (ng K) (by rw[kP (es:=[e])^by simp[dh,b]];rfl) E (c5 b) rfl) fun σ H Q q=>?_;let(m,s,h,z,h',R,S,f,j):=q;simp![BT.JC]at f;let(x,V,e1,e2):=c7 f;cases x with
 |r n =>
  rw[BT.Ob]at e2;have c:(BT.bat V n).isSome=ah:=Decidable.byContradiction λz=>by rw[bL z]at e2;exact cT e2
  rw[bK c]at e2;let(y,N,T,L):=c7 e2;let(A,P):=Option.isSome_iff_exists.mp c;refine#[m,s,h,.r n,V,R,S,e1,λv H1 C Y i u=>?_];cases u with
  |r hn =>
   let(O,w,_):=i.AQ _ _ _ hn P;refine#[.inl #[rfl,O,.inl^.inl w],C,s,V,[y],N,i,S.ext Y,by simp![aX,T,BT.gM,BT.AM,BT.u6],λvs H2 B W R2 l=>?_];cases l with
   |cons r t =>
    cases t;cases r with
    |o I =>
     rw[BT.Oa]at L;let(ns,g,L):=Option.bind_eq_some_iff.mp L;let(c2,L):=dH L;cases L;have J:=W.ix hn;let(k,U,Z):=R2.AQ _ _ _ J g;have:=gW;have d:=Z.length;exact#[_,k,_,rfl,rfl,U,(),j _ _ B ((Y.trans W).trans^jI (ZJ J) U) (R2.setC J #[_,U,rfl] #[_,fD,Z.add I])^.p .aC]
    |_=>exact cT L
 |_=>exact cT e2
def Dp{K:Zm}(h:Z3 K (.ref C) "__init__"=aa^aa^.ref f)(a:acH K^.ref f=ah):afA K (.ref C) (.type "type") "__init__"=aa^.val^.ref f:=by unfold afA;refine rwe ((by decide +kernel:Z3 [] (.type "type") "__init__"=aa^aa^.builtin "type.__init__")) ?_;simp![Z0];refine rwe (show abd K (.builtin "type.__init__") "__get__"=aa^aa^.builtin "wrapper_descriptor.__get__" from(by decide +kernel:abd [] (.builtin "type.__init__") _=aa^aa^.builtin _)) ?_;simp![Z0];refine rwe (show acF K^.builtin "type.__init__"=aa ai from(by decide +kernel:acF []^.builtin "type.__init__"=aa _))^rwe h ?_;simp![Z0];refine rwe (bL (λz=>nomatch z))^rwe (bR a) ?_;simp![Z0];exact rwe (bK^by decide +kernel) rfl
def O6(O:Ok X F G sc N)(y:dJ sc c=ah)(hn:dI c=ah)(t:(apos.endLine==cpos.line)=ah)(V:(e::es).length<20)(U:dh (e::es)=ah)(A:PA X (e::es)^tDs X F G as):
 PE X (.Call (.Attribute (.Name c np) "__init__" apos) (e::es) [] cpos)^η^.sup c as:=by
 rintro zt s σ H Q I ⟨m0,s',h,z,h',R,S,ee,zr⟩
 let(g,i,e1,e2):=c7 ee;let(C,ga,fd,ps,k,f,b,D,B,ok):=O.aE _ _ _ _ _ e2;let(C',_,_,_,_,d,a,_,_,_,_):=O.mkc _ _ _ _ e2;cases f.cn.inj d.cn;have Y:wF (spF X.prog X.w X.K^F^.m c "__init__") [] E0 (tDs X F G as) σ H Q:=by refine#[m0,s',h,g,i,R,S,e1,λn P q l M p=>?_];rw[aau];exact#[q,g,i,z,h',M,p,e2,λv5 H5 m5 j E o=>zr _ _ _ (l.trans j) E o]
 have L:=f.rd;simp![adS,Zp,bU]at L;have Z:abd X.K (.ref C) "__getattribute__"=aa^aa^.builtin "type.__getattribute__":=by unfold abd;exact rwe L.1.1.1.2 L.1.1.2
 have J:=U;simp![dh,Zp]at J;refine acG (thn (qO (v:=.ref C) (dZ O y) a rfl (fN hn).1 _ s σ H (λv T=>v=.ref C/\T=H) I #[rfl,rfl]) λu s1 ⟨x,P,I1,rx,ex,eh⟩=>?_)^kQ rfl U V t;subst ex eh;obtain rfl:u=aaJ C:=rx;refine PySem.W.method_cls I1.kIn Z^PySem.W.cls_value I1.kIn f.rd (Dp b.at_ b.fn) rfl ?_;exact aa9 (first:=[]) I.ok.mod.kin b.kp (thn (A _ _ _ σ _ _ (I1.tok (s1.toks+1)) Y) λn s2 ⟨vs,H2,I3,r,q2⟩=>#[I3.kIn,(rF ok B D .nil rJ I3 r q2)]) (c5 J.1)^dW J.2
end
section
def Dq{X:Cx}{v:V}{c:θ aN}(r:∀m H,RW X.prog X.w X.K m H v^.p^.aB c):∃a b,v=.ref a/\KT X.K a b:=by
 have z:=r [] (λ_=>af);cases z with
 |p z =>
  cases z with
  |@aB a b _ h _ =>
   rcases h with⟨h,_⟩|h
   ·rcases h with h|⟨o,h⟩<;>exact cT h
   exact(eW a b rfl h)
def Dr{X:Cx}{sc:aak}{N:θ ay}(O:Ok X F G sc N){x:ay}{as:aT}{es:θ Zt}{A apos cpos:Pos}(h2:dJ sc x=ah)(h3:dI x=ah)(M:(apos.endLine==cpos.line)=ah)(W:es.length<20)(hc:CEs sc N as es)(P:PA X es^tDs X F G as):
 PE X (.Call (.Attribute (.Name x A) "index" apos) es [] cpos)^η^.me .tindex (.aD x) as:=by
 have J:=fZ hc
 rintro zt s σ H Q I ⟨m,s',h,z,h',R,S,ee,zr⟩
 let(w,g,e1,e2):=c7 ee;refine uxA (AV e2) λ_ e2=>?_;let(c,j,i,L):=c7 e2;obtain⟨w',e5,⟨⟩⟩:=dG e1;refine gK (O.glob _ _ e5) λu v0 K t V=>?_;have T:∃U Z,bz c=aa U/\w=.p^.aB Z/\U≠[]:=by
  cases w with
  |p d =>
   rw[BT.rM]at L;cases Y:bz _ with
   |none=>rw[Y]at L;exact cT L
   |some U =>
    replace L:=Y ▸ L;let(b,k,e8):=dG L;cases d with
    |aB Z=>refine(dO U Z rfl rfl (λz=>?_));subst z;exact cT k|_=>cases U<;>exact cT k
  |_=>cases c<;>(first|exact cT L|simp[aS]at L)
 refine gK T ?_;rintro U Z Y rfl hne;let(a,vt,rfl,o,E,n,(D,k2,k3,k4,k5),C):=Dq V;cases es with
 |nil =>
  cases as with
  |cons a r=>exact(nX hc).elim|nil=>simp![aX]at i;cases i;simp[bz]at Y;exact bM Y hne
 |cons e es =>
  simp![dh,Zp] at J;have f:decide ((e::es).length+([]:θ aex).length+(if ([]:θ aex).isEmpty then 0 else 1) < 30)=ah:=bP (by
   simp![aam,adZ,if_true] at W ⊢;lia)
  refine (EA PySem.F.plainAttrs_tuple PySem.F.slot_tuple_index PySem.F.type_tuple_index (De O.hu) (qO (dZ O h2) K t (fN h3).1) P rfl (by
   refine rwe (kP^by simp![dh,Zp];exact J)^rwe f ?_;rfl) M (c5 J.1)^dW J.2) _ s σ H Q I ?_
  exact#[.inr^.inl #[rfl,o,D,k2,C],m,s',h,c,j,R,S,i,λvs H2 B q R2 y=>#[B,j,.p^.aB _,c,z,h',R2,V _ _,y,L,λv5 H5 m5 l R5 v=>zr _ _ _ (q.trans l) R5 v]]
def O7{X:Cx}{a:BT.Me}(L:a=.append\/a=.pop\/a=.extend){o:aU}:∀(m:θ az)(h b:aL)(H:Hp)(v:V) (x:aM) u r,RH X.K m H h->RW X.prog X.w X.K m H v x->BT.nV x h=ah->aS a x u b=aa r->(∃σ s,RS X.prog X.w X.K m H σ s/\∃O,aK F G o s O=aa (x,h))->tyV X.K "list" v H:=by
 intro m h b H v x u r R J c e _;refine uxE (Xz L e) ?_
 rintro n rfl
 exact ty_list R J c
def XD{X:Cx}{o:aU}:∀(m:θ az)(h a:aL)(H:Hp)(v:V) (x:aM) u r,RH X.K m H h->RW X.prog X.w X.K m H v x->BT.nV x h=ah->aS .sindex x u a=aa r->(∃σ s,RS X.prog X.w X.K m H σ s/\∃L,aK F G o s L=aa (x,h))->tyV X.K "str" v H:=by
 intro m h a H v x u r R J _ e _;cases x with
 |p d =>
  rw[BT.rO]at e;cases g:bz _ with
  |none=>rw[g]at e;exact cT e
  |some U =>
   replace e:=g ▸ e;let(b,O,W):=dG e;cases d with
   |str y=>cases J with|p r=>cases r;exact rfl
   |_=>cases U<;>exact cT O
 |_=>cases u<;>(first|exact cT e|simp[aS]at e)
def Ul{X:Cx}{f:BT.Me}(L:f=.count\/f=.lindex){o:aU}:∀(m:θ az)(h i:aL)(H:Hp)(v:V) (x:aM) u r,RH X.K m H h->RW X.prog X.w X.K m H v x->BT.nV x h=ah->aS f x u i=aa r->(∃σ s,RS X.prog X.w X.K m H σ s/\∃W,aK F G o s W=aa (x,h))->tyV X.K "list" v H:=by
 intro m h i H v x u r R U _ e _;let(J,rfl):=(by
  cases x with
  |p d =>
   rw[xo]at e;cases g:bz _ with
   |none=>rw[g]at e;exact cT e
   |some Z =>
    replace e:=g ▸ e;let(b,Y,c):=dG e;cases d with
    |aj y=>exact#[y,rfl]
    |_=>rcases L with rfl|rfl<;>cases Z<;>exact cT Y
  |_=>rcases L with rfl|rfl<;>cases u<;>(first|exact cT e|simp[aS]at e)
 :∃ J,x=.p^.aj J)
 cases U with
 |p r =>
  cases r with
  |@aj a O _ h _=>exact .inl #[rfl,O,LL.sq^h.elim (λq=>.inl q.1) .inr]
def XG(σ:L2.St)(H:Hp)(Q:Bool->Hp->Prop)(q:tDT X F G e σ H Q):tB (η e) σ H Q:=by let(m,s,L,b,O,R,S,U,J):=q;exact#[m,s,L,_,O,R,S,U,λv Y W x V r=>(cY b (qb r)^J _ _ x V)]
def XE(F:FT)(G:ay->ψ aM)(X:Cx)(a:aU)(e:Zt):Prop:=PE X e^η a/\(tOK a=ah->PT X e^tDT X F G a/\∀L J p,e=.BoolOp L J p->PW X e^tDT X F G a)
def XO(F:FT)(G:ay->ψ aM)(X:Cx)(J:aT)(o:ψ Zt):Prop:=∃t,PO X o t ∧
 ∀O H (Q:ψ Int->Hp->Prop),(∃m s h l U W,RH X.K m H h/\RS X.prog X.w X.K m H O s/\aX F G J s h=aa (U,W)/\(bz U).bind BT.EU=aa l/\∀L V,Ext m H V L->RH X.K V L W->Q l L)->t O H Q
def gu(p:PE X e^η m)(U:∀L a q,e≠.BoolOp L a q)(O:∀J,isTrue e X.env J=(do let v ←J;aeP e.pos;ac4 [v]^truthy v):=by intro _;rfl):XE F G X m e :=
 #[p,λ_=>#[PT.weak (M8 p O) XG,λL a q z=>bM z^U L a q]]
def O8:XO F G X .nil af:=(cY _ IU fun L H Q q=>by refine kY q λm s h l O U R S e1 e2 J=>?_;simp![aX]at e1;cases e1;simp[bz]at e2;subst e2;exact J H m (.refl _ _) R)
def O9(U:PE X e^η a):XO F G X (.cons a .nil)^aa e:=by
 refine(cY _ (IV U) fun Z H Q q=>(kY q λm s h l b V R S e1 e2 J=>?_));simp![aX]at e1;obtain⟨x,d,W,⟨⟩⟩:=c7 e1;refine#[m,s,h,x,V,R,S,W,λv f c L Y O=>?_];cases O with
 |p r =>
  cases r<;>simp[bz]at e2;subst e2;exact(cY _ rfl^J _ _ L Y)
 |_=>simp[bz]at e2
def mF(Y:PE X e^η a)(W:noStar e=ah):PA X [e]^tDs X F G^.cons a .nil :=
 PA.weak (iw Y nP^c5 W) fun J H Q q=>by let(m,s,h,O,Z,R,S,b,L):=cons_of J H Q q;exact#[m,s,h,O,Z,R,S,b,λv f d U c V=>ly^L v _ _ U c V]
def GA(U:PE X e^η a)(O:PE X f^η b)(L:noStar e=ah)(J:noStar f=ah):PA X [e,f]^tDs X F G^.cons a^.cons b .nil :=
 PA.weak (iw U (mF O J)^c5 L) cons_of
def Um(a:aak)(J:Zt)(o:aU):Prop:=∃x p,o=.aD x/\J=.Name x p/\dJ a x=ah/\dI x=ah
def XH(a:aak):Tq->Prop
 |.e o J=>zk o=ai\/Um a J o|_=>True
def Kr(h:CQ sc N t):XH sc t:=by
 induction h with
 |aD J hn=>exact .inr^fh _ _ rfl rfl J hn
 |_=>first|exact .inl rfl|exact abE
def Pa(h:CE' sc N o m):zk o=ai\/Um sc m o:=Kr h
def sMe(O:Ok X F G u N)(a:Ol m o=ah)(c:name=Fx m)(Y:ef H=ah)(V:(apos.endLine==cpos.line)=ah)(U:I.length<20)(Z:CE' u N o H)(J:CEs u N M I)(W:PE X H^η o)(L:PA X I^tDs X F G M):
 PE X (.Call (.Attribute H name apos) I [] cpos)^η^.me m o M:=by
 subst c;cases m with
 |append=>exact qc (sc:=u) (N:=N) aaz acp aco C9 Y V U W J L^O7^.inl rfl|pop=>exact qc aaz PySem.F.slot_list_pop PySem.F.type_list_pop OA Y V U W J L^O7^.inr^.inl rfl|extend=>exact qc aaz PySem.F.slot_list_extend PySem.F.type_list_extend Dc Y V U W J L^O7^.inr^.inr rfl|sindex=>exact qc PySem.F.plainAttrs_str PySem.F.slot_str_index PySem.F.type_str_index Df Y V U W J L XD
 |tindex =>
  rcases Pa Z with z|⟨x,p,rfl,rfl,b,hn⟩
  exact Bool.noConfusion^z.symm.trans a;exact Dr O b hn V U J L
 |dget=>simp[Ol]at a|count=>exact qc aaz PySem.F.slot_list_count PySem.F.type_list_count (Gd O.hu) Y V U W J L^Ul^.inl rfl|lindex=>exact qc aaz PySem.F.slot_list_index PySem.F.type_list_index (Dl O.hu) Y V U W J L^Ul^.inr rfl
def Uo(L:PE X (.BoolOp .And (x::r) p)^η^.and a b)(w:tOK^.and a b=ah->PW X (.BoolOp .And (x::r) p)^tDT X F G^.and a b):XE F G X (.and a b)^.BoolOp .And (x::r) p :=
 #[L,λJ=>#[(w J).pt,λ_ _ _ e=>by exact w J]]
def sOr(L:PE X (.BoolOp .Or (x::r) p)^η^.or a b)(w:tOK^.or a b=ah->PW X (.BoolOp .Or (x::r) p)^tDT X F G^.or a b):XE F G X (.or a b)^.BoolOp .Or (x::r) p :=
 #[L,λJ=>#[(w J).pt,λ_ _ _ e=>by exact w J]]
def qT(h:tOK^.and a b=ah):tOK a=ah/\tOK b=ah:=by have h:(tOK a&&tOK b)=ah:=h;simpa only[Zp]using h
def vF(h:tOK^.or a b=ah):tOK a=ah/\tOK b=ah:=by have h:(tOK a&&tOK b)=ah:=h;simpa only[Zp]using h
def MX(F:FT)(G:ay->ψ aM)(a:aak)(N:θ ay):Tq->Prop
 |.e W e=>∀(X:Cx),Ok X F G a N->XE F G X W e|.es Y b=>∀(X:Cx),Ok X F G a N->PA X b^tDs X F G Y|.o L o=>∀(X:Cx),Ok X F G a N->XO F G X L o|.c cond J=>sj F G a N cond J|.i U V iter=>∀(X:Cx),Ok X F G a N->∀(O:Zt),qz U O=ah->PI X O iter^iD X F G U V
def sQ(h:CQ sc N t):MX F G sc N t:=by
 refine @CQ.rec (λsc N t _=>MX F G sc N t)
  (λw n c X O=>gu (AU O w n c) (λ_ _ _ z=>nomatch z))
  (λh X O=>gu (JS h) (λ_ _ _ z=>nomatch z))
  (λn c X O=>gu (JT O n c) (λ_ _ _ z=>nomatch z))
  (λh _ _ J V X O=>gu (PE.weak (RN (opB h) (J _ O).1 (V _ O).1) (rY λs h=>rfl)) (λ_ _ _ z=>nomatch z))
  (λ_ J X O=>gu (PE.weak (Mp Ek (J _ O).1) OJ) (λ_ _ _ z=>nomatch z))
  (λ_ J X O=>#[PE.weak (Nb (J _ O).1) JX,λU=>#[PT.weak (Na ((J _ O).2 U).1) JW,λ_ _ _ e=>nomatch e]])
  (λ_ _ J V X O=>Uo (PE.weak (Eb (J _ O).1^Ea (V _ O).1) AY) λU=>PW.weak (D9 ((J _ O).2 (qT U).1).1^IB ((V _ O).2 (qT U).2).1) AZ)
  (λ_ _ J V X O=>Uo (PE.weak (Eb (J _ O).1 (V _ O).1) AY) λU=>PW.weak (D9 ((J _ O).2 (qT U).1).1^((V _ O).2 (qT U).2).2 _ _ _ rfl) AZ)
  (λ_ _ J V X O=>sOr (PE.weak (Mn (J _ O).1^Ea (V _ O).1) F0) λU=>PW.weak (Mj ((J _ O).2 (vF U).1).1^M9 ((V _ O).2 (vF U).2).1) F2)
  (λ_ _ J V X O=>sOr (PE.weak (Mn (J _ O).1 (V _ O).1) F0) λU=>PW.weak (Mj ((J _ O).2 (vF U).1).1^((V _ O).2 (vF U).2).2 _ _ _ rfl) F2)
  (λh _ _ l J V X O=>#[PE.weak (IL (opC O h) (J _ O).1 (V _ O).1 l) (rY λs h=>rfl),λ_=>#[PT.weak (IM (opC O h) (J _ O).1 (V _ O).1 l)^xu (rY λs h=>rfl),λ_ _ _ e=>nomatch e]])
  (λh y _ _ _ l J V g X O=>#[PE.weak (En (opC O h) (opC O y) (J _ O).1 (V _ O).1 (g _ O).1 l) xw,λ_=>#[PT.weak (Eo (opC O h) (opC O y) (J _ O).1 (V _ O).1 (g _ O).1 l)^xu xw,λ_ _ _ e=>nomatch e]])
  (λh _ _ _ g J V X O=>#[PE.weak (Ec ((g _ O).2 h).1 (J _ O).1 (V _ O).1) OI,λU=>nomatch U])
  (λ_ J X O=>#[PE.weak (Nz^J _ O) ON,λU=>nomatch U])
  (λ_ J X O=>#[PE.weak (Eu^J _ O) OO,λU=>nomatch U])
  (λ_ _ L J j X O=>gu (PE.weak (Mr Oz (J _ O).1 (j _ O).1^xr L) (rY λs h=>rfl)) (λ_ _ _ z=>nomatch z))
  (λ_ _ _ J C A X O=>gu (by
   refine cX (C _ O) λtl u r=>?_;exact cX (A _ O) λS p o=>(PE.weak (Ez osl (J _ O).1 u p)^OL r o)) (λ_ _ _ z=>nomatch z))
  (λW hn b J X O=>gu (F3 O W hn b^J _ O) (λ_ _ _ z=>nomatch z))
  (λa W Y L _ J X O=>gu (Gv O a W Y L^mF (J _ O).1 L) (λ_ _ _ z=>nomatch z))
  (λa W Y L _ J X O=>gu (Gq O a W Y L^mF (J _ O).1 L) (λ_ _ _ z=>nomatch z))
  (λa d W L _ J X O=>gu (OM O a d W (by simp[dh,L])^mF (J _ O).1 L) (λ_ _ _ z=>nomatch z))
  (λd W Y L _ J X O=>gu (F4 O d W Y L (J _ O).1) (λ_ _ _ z=>nomatch z))
  (λI hn W Y L _ J X O=>gu (J4 O I hn W Y L (J _ O).1) (λ_ _ _ z=>nomatch z))
  (λw n c f m K b i J X O=>gu (sMe O w n c f m K b (i _ O).1^J _ O) (λ_ _ _ z=>nomatch z))
  (λa v U E L _ _ _ j g D X O=>#[Kp O a v U L (j _ O _ E) g λP x=>(D _ x).1,λU=>nomatch U])
  (λd M _ J X O=>gu (JZ (sc:=sc) (N:=N) d M (J _ O).1) (λ_ _ _ z=>nomatch z))
  (λc f m _ b i J X O=>gu (F6 O c f m (i _ O).1 b^J _ O) (λ_ _ _ z=>nomatch z))
  (λv _ J X O=>gu (J0 v (J _ O).1) (λ_ _ _ z=>nomatch z))
  (λa d W k Z _ _ J V X O=>gu (J1 O a d W (by simp[dh,k,Z])^GA (J _ O).1 (V _ O).1 k Z) (λ_ _ _ z=>nomatch z))
  (λW hn b J X O=>gu (F7 O W hn b^J _ O) (λ_ _ _ z=>nomatch z))
  (λL _ J X O=>#[PE.weak (Eu^mF (J _ O).1 L) OZ,λU=>nomatch U])
  (λc f L _ _ i J X O=>gu (O5 c f L (i _ O).1^mF (J _ O).1 L) (λ_ _ _ z=>nomatch z))
  (λ_ _ L J j X O=>gu (PE.weak (Mr O0 (J _ O).1 (j _ O).1^xr L) (rY λs h=>rfl)) (λ_ _ _ z=>nomatch z))
  (λW L _ J X O=>gu (O4 O W L^mF (J _ O).1 L) (λ_ _ _ z=>nomatch z))
  (λW hn f m b J X O=>gu (O6 O W hn f m (fZ b)^J _ O) (λ_ _ _ z=>nomatch z))
  (λX O=>PA.weak nP fun R H Q q=>ly q)
  (λL _ _ J B X O=>PA.weak (iw (J _ O).1 (B _ O)^c5 L) cons_of)
  (λX O=>O8)
  (λ_ J X O=>O9 (J _ O).1)
  (.inl #[rfl,rfl])
  (λU _ J=>.inr^dO _ _ rfl rfl (λP x=>((J _ x).2 U).1))
  (λW L _ J X O _ _=>Gj O W L^mF (J _ O).1 L)
  (λW L Z _ _ J V X O _ _=>Gk O W L Z^GA (J _ O).1 (V _ O).1 L Z)
  (λW L _ J X O _ _=>Kf O W L (J _ O).1)
  (λ_ J X O _ _=>Ke (J _ O).1)
  _ N t h
def sE(h:CE' sc N m e)(O:Ok X F G sc N):PE X e^η m:=(sQ h X O).1
def sT(h:CE' sc N m e)(O:Ok X F G sc N)(L:tOK m=ah):PT X e^tDT X F G m/\∀J a p,e=.BoolOp J a p->PW X e^tDT X F G m:=(sQ h X O).2 L
def sCC{cond:aT}(h:CC sc N cond ifs):sj F G sc N cond ifs:=sQ h
def sCI(h:CI sc N m sa iter)(O:Ok X F G sc N)(a:qz m u=ah):PI X u iter^iD X F G m sa:=sQ h X O _ a
end
end BS
end
section
namespace BS
open PySem PySem.Spec PyProof.Rows L2
open Classical in
section
end
section
variable{F:FT}{G:ay->ψ aM}
section
variable{X:Cx}{cl:θ (ay×az)}{H3 H5:Hp}{s3 s5:Zo}{m2 m5:θ az}
end
end
end BS
end
section
namespace BS
open PySem PySem.Spec PyProof.Rows L2
variable{K:Zm}{st:ZO}
def mG:Zt->Bool
 |.ListComp _ _ _ _=>ai|.SetComp _ _ _ _=>ai|.DictComp _ _ _ _ _=>ai|_=>ah
def swB(b a:aak)(x:ay)(J c:Pos):Bool :=
 (if b.kind.isAnnotationScope then ScopeKind.function else b.kind)==.function&&b.names.lookup x==aa .local&&J.line==c.line&&!(a.names.any λ(n,k)=>n==x&&(k==.local||k==.cell))
mutual
inductive CS(sc:aak)(N:θ ay):BT.S->ZO->Prop
 |setc{i:Nat}{x:ay}{mu:Bool}{V:bC}{W:aT}{tg:θ ay}{U:θ (Nat×ay)}{cond:aT}{O:aU}{te iter J:Zt}{L:θ Zt}{scope:aak}{pos Y p:Pos}(hu:fS N=ah)(h1:N[i]?=aa x)(h3:(sc.names.lookup x==aa .cell||swB sc scope x Y pos)=ah)
  (hk:jG sc N tg U scope=ah) (ht:oV (d8 scope sc) tg te=ah) (hz:qz V te=ah) (Z:jf iter=ah) (hi:CI sc N V W iter) (hc:CC (d8 scope sc) (tg++U.map (·.2)) cond L) (he:CE' (d8 scope sc) (tg++U.map (·.2)) O J) :
  CS sc N (.set i^.comp mu V W tg U cond O)^.Assign [.Name x Y] (.ListComp J [#[te,iter,L,0]] scope pos) p
 |set{i:Nat}{x:ay}{e:aU}{v:Zt}{J p:Pos}(h1:N[i]?=aa x)(h2:r6 sc x=ah)(L:mG v=ah)(O:CE' sc N e v):CS sc N (.set i e)^.Assign [.Name x J] v p
 |put{i:Nat}{x:ay}{k e:aU}{J v:Zt}{L sp p:Pos}(h1:N[i]?=aa x)(h2:xm sc x=ah)(O:dI x=ah)(W:mG v=ah)(V:oU J=ah)(Y:CE' sc N k J)(U:CE' sc N e v):CS sc N (.put i k e)^.Assign [.Subscript (.Name x L) J sp] v p
 |aug{i:Nat}{x:ay}{o:bF}{J:acr}{e:aU}{v:Zt}{L p:Pos}(h1:N[i]?=aa x)(h2:r6 sc x=ah)(O:F8 o J=ah)(U:CE' sc N e v):CS sc N (.aug i o e)^.AugAssign (.Name x L) J v p
 |setf{o e:aU}{f:ay}{J v:Zt}{L p:Pos}(h1:attrName f=ah)(h2:mG v=ah)(O:CE' sc N o J)(U:CE' sc N e v):CS sc N (.setf o f e)^.Assign [.Attribute J f L] v p
 |augf{o e:aU}{f:ay}{b:bF}{J:acr}{L v:Zt}{O p:Pos}(h1:attrName f=ah)(U:F8 b J=ah)(V:CE' sc N o L)(W:CE' sc N e v):CS sc N (.augf o f b e)^.AugAssign (.Attribute L f O) J v p
 |ex{e:aU}{v:Zt}{p:Pos}(h:mG v=ah)(J:CE' sc N e v):CS sc N (.ex e)^.Expr v p
 |ret{e:aU}{v:Zt}{p:Pos}(J:CE' sc N e v):CS sc N (.ret e)^.Return (aa v) p
 |v{c:aU}{a b:BT.S}{t:Zt}{xs ys:θ ZO}{p:Pos}(h:tOK c=ah)(hc:CE' sc N c t)(L:CSs sc N a xs)(J:CSs sc N b ys):CS sc N (.v c a b)^.If t xs ys p
 |j{c:aU}{b:BT.S}{t:Zt}{xs:θ ZO}{p:Pos}(h:tOK c=ah)(hc:CE' sc N c t)(J:CSs sc N b xs):CS sc N (.j c b)^.While t xs [] p
 |for{tg:θ (Nat×ay)}{J:bC}{L:aT}{b:BT.S}{te iter:Zt}{xs:θ ZO}{p:Pos}(U:fS N=ah)(W:CT sc N tg te)(hi:CI sc N J L iter)(hz:qz J te=ah)(O:jf iter=ah)(V:CSs sc N b xs):CS sc N (.for tg J L b)^.For te iter xs [] p
 |bad{st:ZO}:CS sc N .bad st
 |rai{st:ZO}{c:ay}{e:aU}:CS sc N (.rai c e) st
 |rai2{st:ZO}{c:ay}{a e:aU}:CS sc N (.rai2 c a e) st
 |tryr{e:aU}{v:Zt}{p q:Pos}{L:ExceptHandler}{J:θ ExceptHandler}(O:CE' sc N e v):CS sc N (.ret e)^.Try [.Return (aa v) p] (L::J) [] [] q
inductive CSs(sc:aak)(N:θ ay):BT.S->θ ZO->Prop
 |nil:CSs sc N .nil []
 |one{s:BT.S}{st:ZO}(h:CS sc N s st):CSs sc N s [st]
 |cons{a b:BT.S}{st J:ZO}{r:θ ZO}(h:CS sc N a st)(L:CSs sc N b (J::r)):CSs sc N (.seq a b) (st::J::r)
end
def pq(X:Cx)(m:θ az)(H:Hp)(W:BT.Fl)(D:Ends):Prop:=match W with
 |.nx V U=>∀L J O,Ext m H O J->RH X.K O J U->RS X.prog X.w X.K O J L V->D.nx L J|.rt z U=>∀v J O,Ext m H O J->RH X.K O J U->RW X.prog X.w X.K O J v z->D.rt v J|.bk V U=>∀L J O,Ext m H O J->RH X.K O J U->RS X.prog X.w X.K O J L V->D.bk L J|.ct V U=>∀L J O,Ext m H O J->RH X.K O J U->RS X.prog X.w X.K O J L V->D.ct L J
def pq.ext{D:Ends}(x:Ext m H I J)(p:pq X m H u D):pq X I J u D:=by cases u<;>exact λa b c y=>p a b c^x.trans y
inductive tDS(X:Cx)(F:FT)(G:ay->ψ aM)(S:BT.S)(D:Ends)(σ:L2.St)(H:Hp):Prop
 |mk(m:θ az)(s:aY)(h:aL)(J:BT.Fl)(R:RH X.K m H h)(r:RS X.prog X.w X.K m H σ s)(e:bg F G S s h=aa J)(p:pq X m H J D):tDS X F G S D σ H
def PS.weak(h:PS X st t)(q:∀D σ H,m D σ H->t D σ H):PS X st m:=λJ s σ H D I hw=>h _ s σ H D I^q _ _ _ hw
def PSs.weak{st:θ ZO}(h:PSs X st t)(q:∀D σ H,m D σ H->t D σ H):PSs X st m:=λJ s σ H D I hw=>h _ s σ H D I^q _ _ _ hw
section
def GB(D:Ends)(σ:L2.St)(H:Hp)(q:tDS X F G (.seq a b) D σ H):Ry (tDS X F G a) (tDS X F G b) D σ H:=by
 let(m,s,h,Z,R,S,e,J):=q;simp![BT.Fp]at e;cases g:bg F G a s h with
 |none=>rw[g]at e;exact cT e
 |some L =>
  rw[g]at e;refine#[m,s,h,L,R,S,g,?_];cases L with
  |nx V Y=>exact fun O f W U d c=>#[W,V,Y,Z,d,c,e,J.ext U]
  |_=>cases e;exact J
def qA{X:Cx}{U:BT.S}{a:aU}{k:aY->aM->aL->ψ BT.Fl}(b:∀s h,bg F G U s h=bI (aK F G a s h)^k s){D:Ends}{σ:L2.St}{H:Hp}(q:tDS X F G U D σ H){e:V->Hp->Prop}
(f:∀m s h x J v d,RH X.K m d h->RS X.prog X.w X.K m d σ s->RW X.prog X.w X.K m d v x->k s x h=aa J->pq X m d J D->e v d):η a σ H e:=by
 let(m,s,h,J,R,S,O,W):=q;rw[b]at O;let(x,g,e1,e2):=c7 O;exact#[m,s,h,x,g,R,S,e1,λv d Z L c Y=>f Z s g x J v d c (S.ext L) Y e2^W.ext L]
def Bl(h:BT.tst x k=aa m):∃b g,x=aa (.p^.bl b,g)/\k b g=aa m:=by
 let(w,g,e1,e2):=c7 h;unfold BT.Td at e2;cases w with
 |p d =>
  cases d<;>simp only at e2<;>try contradiction
  exact(eW _ g e1 e2)
 |_=>exact cT e2
def lA(h:mG e=ah):acv e t l env=pure ai:=by cases e<;>first|rfl|exact aP h
def Ks(h:mG e=ah):swapsWithSole [t] e l env=pure ai:=lA h
def zC(h:oU i=ah):∀ v,adH (.Subscript o i H) m v=(do
 let u ←ac4 [v]^eval o m
 let I ←ac4 [v,u] (eval i m)
 aeP H
 ac4 [v,u,I] (setItem u I v)
 release [v,u,I] []):=by
 intro v;cases i<;>first|rfl|exact aP h
def Pb(D:Ends)(σ:L2.St)(H:Hp)(q:tDS X F G (.j c b) D σ H):Eh (tDT X F G c) (tDS X F G b) D σ H:=by
 let(w,s,h,y,R,S,e,J):=q;refine(cY (λn σ H=>∃m s h,RH _ m H h/\RS _ _ _ m H σ s/\BT.fT _ _ n s h=aa _/\pq X m H _ D) (#[_,w,s,h,R,S,e,J]) ?_)
 rintro n M N ⟨m,s,h,R,S,e,J⟩
 cases n with
 |zero=>exact cT e
 |succ n =>
  refine fz (Bl e) λt g e1 e2=>#[m,s,h,t,g,R,S,e1,λA u O R2=>?_];cases t with
  |false =>
   cases e2;exact J _ _ _ O R2^S.ext O
  |true =>
   rw[BT.pZ]at e2;refine(cY (fun d x=>∃l k o,RH _ _ _ _/\RS _ _ _ _ _ _ _/\BT.fT _ _ n _ _=aa _/\pq X _ _ _ D) (fun d x ⟨l,k,o,I,E,C,B⟩=>#[n,aav n,l,k,o,I,E,C,B]) ?_);cases f:bg F G b s g with
   |none=>rw[f]at e2;exact cT e2
   |some p =>
    rw[f]at e2;refine#[u,s,g,p,R2,S.ext O,f,?_];cases p with
    |nx a Y=>exact fun V i W L U Z=>#[W,a,Y,U,Z,e2,(J.ext O).ext L]
    |ct a Y=>exact fun V i W L U Z=>#[W,a,Y,U,Z,e2,(J.ext O).ext L]
    |bk a Y=>cases e2;exact fun V i W L U Z=>J _ _ _ (O.trans L) U Z
    |rt z Y=>cases e2;exact λv i W L U r=>J v _ _ (O.trans L) U r
def Pc(D:Ends)(σ:L2.St)(H:Hp)(q:tDS X F G (.aug i o e) D σ H):RJ i (η e) (OP o) D σ H:=by
 let(m,s,h,j,R,S,l,Y):=q;let(y,g,e1,e2):=c7 l;unfold BT.Oh at e2;let(d,V,z,J,rfl,L,rfl):=(by
  cases J:s[i]? with
  |none=>replace e2:=J ▸ e2;cases y<;>exact cT e2
  |some c =>
   cases c with
   |none=>rw[J]at e2;cases y<;>exact cT e2
   |some Z =>
    rw[J]at e2;cases Z<;>cases y<;>simp only at e2<;>try contradiction
    let(z,L,n):=dG e2;exact (ig _ _ z rfl rfl L n.symm):∃ d V z,s[i]?=aa^aa^.p d/\y=.p V/\BT.rL o d V=aa z/\j=.nx (s.set i^aa^.p z) g)
 refine fV (Ba L) ?_
 rintro a b k rfl rfl rfl
 refine cX (S.get i _ J) λv f O=>?_;have ev:v=ω a:=by cases O with|p O=>cases O;rfl
 subst ev;refine#[_,f,m,s,h,_,g,R,S,e1,λu w t W r U=>?_];cases U with
 |p U =>
  cases U;exact(ig a b k rfl rfl L^Y _ _ _ W r^(S.ext W).set^.p^ω k)
def Ds(e:BT.u9 s f v x h=aa m):∃n c a,x=.o n/\bA h n=aa (c,a)/\BT.attrOk v=ah/\a.length<1000/\m=.nx s^h.set n^.o c^BT.fW f v a:=by
 cases x with
 |o n =>
  rw[BT.Fj]at e;cases g:bA h n with
  |none=>rw[g]at e;exact cT e
  |some q =>
   let(c,a):=q;replace e:=g ▸ e;simp only at e;refine uxA (dH e) λJ e=>?_;cases e;simp![Zp,bN]at J;exact(fL n c _ rfl g J.1 J.2 rfl)
 |_=>exact cT e
def xH{D:Ends}(R:RH X.K m H h)(S:RS X.prog X.w X.K m H σ s)(hn:m[n]?=aa a)(b:H a=aa^.ins C I u)(e:l9 X.K c C)(L:RFs X.K m H u fs)(d:RA X.K m H v y)
(J:pq X m H (.nx s^h.set n^.o c^BT.fW f y fs) D):D.nx σ^upd H a^.ins C I^L2.fW f v u:=by
 have x:Ext m H m^upd H a^.ins C I^L2.fW f v u:=rV (ZJ hn) #[_,b,rfl];exact J σ _ m x (R.setC hn #[_,b,rfl] #[C,I,_,fD,e,(RFs.put d L).ext x])^S.ext x
def Ku{X:Cx}{o e:aU}{f:ay}(Z:attrName f=ah)(D:Ends)(σ:L2.St)(H:Hp)(q:tDS X F G (.setf o f e) D σ H):RX X.K (η o) (η e) f D σ H:=by
 refine qA (k:=λs=>BT.AO (aK F G o s) s f) (λs h=>by simp![BT.CW]) q λm s h y j v p R S r e1 V=>?_;let(x,g,e2,b):=c7 e1;refine jz (Ds b) ?_
 rintro n c A rfl w t z rfl
 refine#[m,s,h,_,g,R,S,e2,λu l i J R2 Y=>?_];cases Y with
 |@o a _ hn =>
  let(C,d,W,U,L,O):=R2.uv _ _ _ _ hn w;exact#[a,C,d,W,rfl,U,L.cls,L.no f Z,O.length ▸ ‹_›,xH R2 (S.ext J) hn U L O ((r.ext J).ra t)^V.ext J]
def GC(e:BT.w9 H s f m x h=aa u):∃n c b d y g a z,x=.o n/\bA h n=aa (c,b)/\BT.d9 f b=aa^.p d/\H h=aa (.p y,g)/\bA g n=aa (c,a)/\BT.rL m d y=aa z/\a.length<1000/\u=.nx s^g.set n^.o c^BT.fW f (.p z) a:=by
 cases x with
 |o n =>
  rw[BT.JE]at e;cases U:bA h n with
  |none=>rw[U]at e;exact cT e
  |some q =>
   let(c,b):=q;replace e:=U ▸ e;simp only at e;cases O:BT.d9 f _ with
   |none=>replace e:=O ▸ e;exact cT e
   |some W =>
    replace e:=O ▸ e;cases W with
    |p d =>
     simp only at e;let(y,g,e1,e2):=c7 e;cases y with
     |p y =>
      rw[BT.Fk]at e2;cases L:bA g n with
      |none=>rw[L]at e2;exact cT e2
      |some q =>
       let(Y,a):=q;replace e2:=L ▸ e2;cases J:BT.rL _ d y with
       |none=>rw[J]at e2;exact cT e2
       |some z =>
        replace e2:=J ▸ e2;simp only at e2;refine uxA (dH e2) λV e2=>?_;cases e2;let(rfl,V):=V;exact#[n,Y,b,d,y,g,a,z,rfl,U,O,e1,L,J,V,rfl]
     |_=>exact cT e2
    |_=>exact cT e
 |_=>exact cT e
def Kv{X:Cx}{o e:aU}{f:ay}{b:bF}(E:attrName f=ah)(D:Ends)(σ:L2.St)(H:Hp)(q:tDS X F G (.augf o f b e) D σ H):Ar X.K (η o) (η e) (OP b) f D σ H:=by
 refine qA (k:=λs=>BT.w9 (aK F G e s) s f b) (λs h=>by simp![BT.CY]) q λm s h y fl v H1 R S r e1 w=>?_;let(n,c,fs,d,y,g,P,z,rfl,N,M,e2,I,t,hl,rfl):=GC e1;refine fV (Ba t) ?_
 rintro i j k rfl rfl rfl
 cases r with
 |@o a _ hn =>
  let(C,T,x,B,U,A):=R.uv _ _ _ _ hn N;refine cX (A.get M) λu l ra=>?_;have Q:u=ω i:=by cases ra with|p ra=>cases ra;rfl
  subst Q;refine#[a,C,T,x,_,rfl,B,U.cls,U.no f E,l,m,s,h,_,g,R,S,e2,λu2 H2 m2 J R2 O=>?_];cases O with
  |p O =>
   cases O;let(C',V,L,Z,Y,W):=R2.uv _ _ _ _ (J.ix hn) I;cases Y.cn.inj U.cn;exact#[i,j,k,rfl,rfl,t,V,L,Z,W.length ▸ ‹_›,xH R2 (S.ext J) (J.ix hn) Z Y W (.p^ω k)^w.ext J]
def Pd{X:Cx}{i:Nat}{k e:aU}(D:Ends)(σ:L2.St)(H:Hp)(q:tDS X F G (.put i k e) D σ H):Ef (η e) (RI (η^.v i) (η k) Ms) D σ H:=by
 refine qA (k:=λs=>BT.JD (aK F G k s) s i) (λs h=>by simp![BT.Fq]) q λm s h y E v M R S r e1 l=>?_;unfold BT.JD at e1;cases y with
 |p d =>
  cases g:s[i]? with
  |none=>replace e1:=g ▸ e1;exact cT e1
  |some o =>
   cases o with
   |none=>replace e1:=g ▸ e1;exact cT e1
   |some t =>
    cases t with
    |r n =>
     replace e1:=g ▸ e1;let(q,z,e2,J):=c7 e1;refine#[m,s,h,.r n,h,R,S,by simp![BT.AN,g],λo K x O R2 w=>#[x,s,h,q,z,R2,S.ext O,e2,λC I B L f U=>?_]];unfold BT.Mx at J;cases q with
     |p dk =>
      cases W:bw _ n with
      |none=>replace J:=W ▸ J;cases dk<;>exact cT J
      |some A =>
       rw[W]at J;cases dk with
       |int j =>
        simp only at J;cases c:BT.place _ j with
        |none=>replace J:=c ▸ J;exact cT J
        |some b =>
         replace J:=c ▸ J;cases J;cases (w.ext L)with
         |@r a _ hn =>
          cases U with
          |p U =>
           cases U;refine cX (f.cell n a _ hn W) λu V Z=>((kX a _ j b rfl rfl V (Z.length ▸ ‹_›) ?_));have Y:Ext _ _ _^upd _ a^.aj^u.set b v:=jI (ZJ hn) V;cases r with
           |p r=>exact l σ _ _ ((O.trans L).trans Y) (f.set hn V^RDs.set ((r.ext O).ext L) _ Z)^((S.ext O).ext L).ext Y
       |_=>exact cT J
     |_=>exact cT J
    |_=>rw[g]at e1;exact cT e1
 |_=>exact cT e1
end
def cxT(X:Cx)(b:θ (az×aq))(a:aA->Zo->Prop):Cx:={X with pn:=X.pn++b,xe:=a}
def xJ(I:Inv X m σ H s):Inv (cxT X m u) [] σ H s :=
 #[#[I.ok.mod,I.ok.kind,I.ok.glob,I.ok.blt,I.ok.above,I.ok.inj,I.ok.has,I.ok.cab,I.ok.hd,I.ok.frames,I.ok.stk,I.ok.exf,I.ok.bs,I.ok.bsz,I.ok.noex,I.ok.exfs,I.ok.jW,I.ok.frf],
  I.os,I.bare,I.base,I.loc,I.cell,I.free,I.freeC,λp J=>I.pin p^by simpa [cxT] using J,I.aI,I.len]
def uB(a:X.Ok)(I:Inv (cxT X m u) pins' σ H s):Inv X m σ H s :=
 #[a,I.os,I.bare,I.base,I.loc,I.cell,I.free,I.freeC,λp J=>I.pin p^abm _ J,I.aI,I.len]
def GD(O:Ok X F G sc N)(a:aeb (π X.w) X.A X.env m):Ok (cxT X zt m) F G sc N :=
 #[O.hsc,O.hN,O.nd,O.calm,O.hu,a,O.glob,O.call,O.aE,O.mkc,O.blt,O.lam,λU x J=>let L:=O.lamx U x J;#[L.mem,L.ex,L.ql,L.bm]]
def Kw(O:Ok X F G sc N)(f:∀Y:Cx,Ok Y F G sc N->PE Y v^tD Y F G e):
 PS X (.Try [.Return (aa v) p] (g::M) [] [] q)^tDS X F G^.ret e:=by
 intro B s Z H D I q;let(m,c,h,a,R,S,e1,W):=q;refine aeB ?_;have l:=GD (zt:=B) O^aaW (K:=λe U=>av (π X.w) X.A (setFlight e af) (λ_ L=>av (π X.w) X.A (handleBy e X.env (g::M)) (SP X B D) X.xe L) X.xe U) (E₁:=X.xe);have j:PS _ (.Return (aa v) p)^tDS (cxT X B _) F G^.ret e:=PS.weak (yE^f _ l) λD Z H q =>
  qA (k:=λs=>BT.zh) (λs h=>by simp![BT.xg]) q λm s h y a v n R S r e1 W=>by simp![BT.zh]at e1;cases e1;exact W v n m (.refl _ _) R r
 refine thn (mX j [] s Z H {nx:=λ_ _=>False,rt:=D.rt} (xJ I) #[m,c,h,a,R,S,e1,?_]) λi t q=>?_
 ·simp![BT.xg]at e1;let(y,x,e2,b):=c7 e1;simp![BT.zh]at b;cases b;exact W
 ·cases i with
  |ret u =>
   let(v,V,o,J,d,z):=q;exact#[v,V,o,uB I.ok J,d,z]
  |_=>let(_,_,_,z):=q;exact z.elim
section
def Kx{J:bC}{b:aY->aL->ψ BT.Fl}{n:θ (Nat×ay)}{s:aY}{k:θ aM}{j:θ aN}{h:aL}{U:BT.Fl}(e:(if BT.jd k=ah then BT.fC b n j s h else BT.Fo b n J s k j h)=aa U)(g:(aV k h).bind^bJ J=aa j):
 xy J k/\∃Z,(∀s h r,Z s h=aa r->b s h=aa r/\(∀m l,r=.nx m l->nY J k j l)/\∀m l,r=.ct m l->nY J k j l)/\nY J k j h/\BT.fC Z n j s h=aa U:=by
 by_cases L:BT.jd k=ah
 rw[bK L]at e;exact#[.inl L,_,λs h r q=>#[q,λ_ _ _=>jK L,λ_ _ _=>jK L],jK L,e]
 ·rw[bL L]at e;have two:∃q,(J=.seq\/J=.enu)/\k=[.r q]/\BT.fC (BT.JF J q j b) n j s h=aa U:=by unfold BT.Fo at e;split at e;exact#[_,.inl rfl,rfl,e];exact#[_,.inr rfl,rfl,e];exact cT e
  let(q,o,rfl,d):=two;have a:BT.nG J q h=aa j:=by
   unfold BT.nG;simp![aV,aZ,acO]at g;cases Y:bw h q with
   |none=>rw[Y]at g;exact cT g|some i=>rw[Y]at g;exact g
  refine#[.inr #[o,q,rfl],_,λs h r z=>?_,λV O=>by cases O;exact a,d];unfold BT.JF at z;cases W:b s h with
  |none=>rw[W]at z;exact cT z
  |some f =>
   rw[W]at z;cases f with
   |nx m l =>
    simp only at z;split at z
    ·rename_i c;cases z;exact#[rfl,λ_ _ y V O=>by cases y;cases O;exact c,(λ_ _ y=>nomatch y)]
    exact cT z
   |ct m l =>
    simp only at z;split at z
    ·rename_i c;cases z;exact#[rfl,(λ_ _ y=>nomatch y),λ_ _ y V O=>by cases y;cases O;exact c]
    exact cT z
   |_=>cases z;exact#[rfl,(λ_ _ y=>nomatch y),(λ_ _ y=>nomatch y)]
def Pe(N:GOk X tg g)(D:Ends)(σ:L2.St)(H:Hp)(q:tDS X F G (.for tg sr sa b) D σ H):Nk (iD X F G sr sa) g (tDS X F G b) D σ H:=by
 let(m,s,h,fl,R,S,e,A):=q;let(B,r,e1,e2):=c7 e;unfold BT.kFor at e2;cases f:(aV _ _).bind _ with
 |none=>rw[f]at e2;exact cT e2
 |some V =>
  replace e2:=f ▸ e2;refine MY (Kx e2 f) λC b' P c1 e2=>(#[m,s,h,B,r,V,R,S,e1,f,C,λH1 K J p R1 j=>((cY (λi n σ H=>i<=V.length/\n=V.length-i/\∃m s h,Ext _ _ m H/\RH _ m H h/\RS _ _ _ m H σ s/\nY _ _ _ h/\BT.fC _ _ (V.drop i) s h=aa _/\pq X m H _ D) #[_,aax _,rfl,K,s,r,.refl _ _,R1,S.ext p,c1,e2,A.ext p] ?_))])
  rintro i n σ2 H2 ⟨hi,rfl,m2,s2,h2,x2,R2,S2,c2,e3,post2⟩
  by_cases c:i<V.length
  ·refine .inr^lU (j.go _ _ _ i x2 R2 c2 c) _ (fun w H' z=>#[_,(),c,rfl,z]) (λx H3 y=>(jk (j.yld _ _ _ i x _ _ x2 R2 c2 (Zu c) y) λO M I=>?_));rw[abv c,BT.fC]at e3;cases l:bf _ _ with
   |none=>rw[l]at e3;exact cT e3
   |some dd =>
    replace e3:=l ▸ e3;simp only at e3;refine N _ _ _ _ x _ _ _ (S2.ext O) I l fun u S4=>?_;cases k:b' _ _ with
    |none=>replace e3:=k ▸ e3;exact cT e3
    |some t =>
     replace e3:=k ▸ e3;refine jk (P _ _ _ k) λQ cn cc=>#[m2,_,h2,t,(R2.ext O M),S4,Q,?_];cases t with
     |nx d Z=>exact fun W o Y L U a=>#[Y,d,Z,(x2.trans O).trans L,U,a,cn _ _ rfl,e3,(post2.ext O).ext L]
     |ct d Z=>exact fun W o Y L U a=>#[Y,d,Z,(x2.trans O).trans L,U,a,cc _ _ rfl,e3,(post2.ext O).ext L]
     |bk d Z=>cases e3;exact fun W o Y L U a=>post2 _ _ _ (O.trans L) U a
     |rt z Z=>cases e3;exact λv o Y L U E=>post2 v _ _ (O.trans L) U E
  ·have T:i=V.length:=()
   subst T;refine .inl #[j.stop _ _ _ x2 R2 c2,?_];rw[acL,BT.fC]at e3;cases e3;exact post2 _ _ _ (.refl _ _) R2 S2
def MH{X:Cx}{c:aak}{N:θ ay}(O:Ok X F G c N){x:ay}{L b p:Pos}{J:Zt}{U:θ acs}{a:aak}(h:swB c a x L b=ah):acv (.ListComp J U a b) (aa^.Name x L) p.line X.env=pure ah:=by have e:acv (.ListComp J U _ _) (aa^.Name x _) p.line X.env=pure^swB _ a x L b:=rfl;exact rwe e^rwe O.hsc^rwe h rfl
def Kz(c:(sc.names.lookup x==aa .cell)=ah):r6 sc x=ah:=by unfold r6;exact rwe (bR c) rfl
def GE(h:swB sc scope x u m=ah):sc.names.lookup x=aa .local:=by unfold swB at h;simp![Zp]at h;exact bR h.1.1.2
def Up{X:Cx}{d:aak}{N:θ ay}(O:Ok X F G d N){x:ay}{L b p:Pos}{J:Zt}{U:θ acs}{a:aak}(c:(d.names.lookup x==aa .cell)=ah):acv (.ListComp J U a b) (aa^.Name x L) p.line X.env=pure ai:=by
 have e:acv (.ListComp J U _ _) (aa^.Name x _) p.line X.env=pure^swB _ a x L b:=rfl;have z:swB d a x L b=ai:=by
  cases h:swB _ _ x _ _ with
  |false=>rfl
  |true =>
   have:=GE h;replace this:=(bR c) ▸ this;cases this
 exact rwe e^rwe O.hsc^rwe z rfl
def GF:PSs X []^tDS X F G .nil:=PSs.weak IC λD J H q=>by obtain⟨m,s,h,O,R,S,⟨⟩,L⟩:=q;exact L J H m (.refl _ _) R S
def sS(O:Ok X F G sc N)(A:∀x,X.fn x=ah)(hh:CS sc N s st):PS X st^tDS X F G s :=
 CS.rec (motive_1:=λs st _=>PS X st^tDS X F G s) (motive_2:=λs sts _=>PSs X sts^tDS X F G s)
  (@λi x mu sr sa tg fv cond l te iter elt' ifs b C np p j U W w o n u z hc J=>by
   have K:∀(D:Ends)(V:L2.St)(H:Hp),tDS X F G (.set i^.comp mu sr sa tg fv cond l) D V H->Ef (η^.comp mu sr sa tg fv cond l) (Am i) D V H:=λD V H q =>
    qA (k:=λs=>BT.CV s i) (λs h=>rfl) q λm s h y Z v a R S r e1 L=>by simp![BT.CV]at e1;cases e1;exact L _ a m (.refl _ _) R (S.set r)
   by_cases c:(sc.names.lookup x==aa .cell)=ah
   exact PS.weak (Eg (i:=i) O.nd (by exact rwe O.hN U) (r8 O^Kz c) (sE (CQ.comp j w o n u z hc J) O) (Up O c)^.inl^A x) K
   ·have B:swB sc b x np C=ah:=by rw[aa3]at W;exact W.resolve_left c
    exact PS.weak (Kq O j w o u (sCI z O n) (sCC hc) (λX' O'=>sE J O') U (GE B)^MH O B) K)
  (@λi x e v np p U d W J=>PS.weak (Eg (i:=i) O.nd (by exact rwe O.hN U) (r8 O d) (sE J O) (lA W)^.inl^A x) λD V H q =>
   qA (k:=λs=>BT.CV s i) (λs h=>rfl) q λm s h y Z v a R S r e1 L=>by simp![BT.CV] at e1;cases e1;exact L _ a m (.refl _ _) R^S.set r)
  (λU d W B h5 w J=>PS.weak (Nh (sE J O) (Ng (AU O U d W) (sE w O) set_list^zC h5) (Ks B) rfl) Pd)
  (λU d W J=>PS.weak (Ni O.nd (by exact rwe O.hN U) (r8 O d) (sE J O) (A9 W)^.inl^A _) Pc)
  (λU d M J=>PS.weak (Nv (sE M O) (sE J O)^lA d)^Ku U)
  (λU W M J=>PS.weak (Cv (sE M O) (sE J O)^A9 W)^Kv U)
  (λh J=>PS.weak (ID (sE J O)^lA h) λD V H q =>
   qA (k:=λs=>BT.kEx s) (λs h=>rfl) q λm s h y Z v a R S r e1 L=>by simp![BT.kEx] at e1;cases e1;exact L V a m (.refl _ _) R S)
  (λJ=>PS.weak (yE^sE J O) λD V H q =>
   qA (k:=λs=>BT.zh) (λs h=>rfl) q λm s h y Z v a R S r e1 L=>by simp![BT.zh] at e1;cases e1;exact L v a m (.refl _ _) R r)
  (λh hc ha hb ia f=>PS.weak (RB (sT hc O h).1 ia f) λD V H q=>by
   let(m,s,h,Z,R,S,e,L):=q;rw[BT.Ft]at e;refine fz (Bl e) λt g e1 e2=>#[m,s,h,t,g,R,S,e1,λa m1 x1 R1=>?_];cases t with
   |_=>exact#[m1,s,g,Z,R1,S.ext x1,e2,L.ext x1]
   )
  (λh hc hb f=>PS.weak (Ei O.own (sT hc O h).1 f) Pb)
  (λj o z n u hb f=>by exact cX (sCT O (O.calm j) o (λq _=>.inl^A q.2)) λg Q P=>(PS.weak (Ej O.own (O.calm j) (sCI z O n) Q f^o9 u)^Pe P))
  (λT s V H D I q=>by let(m,s,h,Z,R,S,e,L):=q;exact cT e)
  (λT s V H D I q=>by let(m,s,h,Z,R,S,e,L):=q;exact cT e)
  (λT s V H D I q=>by let(m,s,h,Z,R,S,e,L):=q;exact cT e)
  (λJ=>Kw O λY O2=>sE J O2)
  GF
  (λ_ E=>mX E)
  (λ_ _ E ir=>PSs.weak (wC E ir) GB)
  hh
def sSs(O:Ok X F G sc N)(J:∀x,X.fn x=ah){sts:θ ZO}(U:CSs sc N s sts):PSs X sts^tDS X F G s:=by refine CSs.rec (motive_1:=λ_ _ _=>True) ?_ ?_ ?_ ?_ ?_ ?_ ?_ ?_ ?_ ?_ ?_ ?_ ?_ ?_ ?_ GF (λh _=>mX^sS O J h) (λh _ _ L=>PSs.weak (wC (sS O J h) L) GB) U<;>(intros;trivial)
end
section
variable{K:Zm}
mutual
theorem RD.shrink(x:∀a∈m,a∈u):∀{v:V}{d:aN},RD K u H v d->RD K m H v d
 |_,_,.aC=>.aC|_,_,.bl b=>.bl b|_,_,.int i=>ω i|_,_,.str y h=>.str y h|_,_,.aB h r=>.aB (h.elim (λq=>.inl #[q.1,λz=>q.2^x _ z]) .inr)^RDs.shrink x r|_,_,.aj h r=>.aj (h.elim (λq=>.inl #[q.1,λz=>q.2^x _ z]) .inr)^RDs.shrink x r
theorem RDs.shrink(x:∀a∈m,a∈u):∀{b:θ V}{c:θ aN},RDs K u H b c->RDs K m H b c
 |_,_,.nil=>.nil|_,_,.cons r t=>.cons (RD.shrink x r)^RDs.shrink x t
end
end
theorem RFs.shrink{K:Zm}:∀{J d:θ (ay×V)}{c:θ (ay×aM)},RFs K m H J c->RFs K (m++ex) u d c->RFs K m u d c
 |_,_,_,.nil,.nil=>.nil
 |_,_,_,.cons e g,.cons r t=>by
  refine .cons ?_^RFs.shrink g t;have back:∀{n:Nat}{a b:az},m[n]?=aa b->(m++ex)[n]?=aa a->m[n]?=aa a:=λ{n a b} i f=>by rw[Zs^getD_some i]at f;exact f
  cases r with
  |p r=>exact .p (r.shrink λa O=>abm _ O)
  |r h=>cases e with|r L=>exact .r^back L h
  |o h=>cases e with|o L=>exact .o^back L h
def RKs.shrink{K:Zm}(sub:∀a∈m,a∈M)(r:RKs K M H I u):RKs K m H I u:=by
 induction r with
 |nil=>exact .nil|cons L r t J=>exact .cons (L.shrink sub) (r.shrink sub) J
def RBs.shrink{m c:θ az}{J:θ V}{b:θ Nat}(U:RBs m J b):∀{a:θ V},RBs (m++c) a b->RBs m a b:=by
 induction U with
 |nil=>rintro a ⟨⟩;exact .nil
 |cons h t W =>
  intro a r;cases r with
  |cons L O =>
   rw[Zs^getD_some h]at L;exact .cons L^W O
def fM(e:BT.fin h y g=aa (z,Q))(R:RH K m H h)(x:Ext m H M I)(G:RH K M I g)(r:RW P w K M I v y):
 ∃N,Ext m H N I/\RH K N I Q/\RW P w K N I v z:=by
 unfold BT.fin at e;split at e;cases e;exact(eH M x G r)
 ·split at e
  ·rename_i E B;refine cX x.pre ?_;rintro S rfl T;have sub:∀a∈m,a∈m++S:=λa s=>abm _ s;have V:Ext m H m _:=#[(cY ([]) (by simp)^by simp),x.keep,x.live,x.frz];have R2:RH K m I h:=by
    refine#[R.nd,R.len,λi a f e1 e2=>?_,G.tb];have l:=getD_some e1;have Z:i<h.length:=by exact rwf R.len l
    have z:=G.cl i a _ (by refine rwe (Zs l) ?_;exact e1) (by
     replace e2:=(abF Z) ▸ B ▸ e2;exact e2)
    cases f with
    |o c X =>
     refine fV (R.cl i a _ e1 e2) λF u W _ _ Y=>?_;exact fV z λC A O L J q=>((ji C A O L J^Y.shrink q))
    |z=>exact z
    |b D =>
     refine cX (R.cl i a _ e1 e2) λW _ Y=>?_;exact cX z λO L J=>((cY O L^Y.shrink J))
    |_=>exact cX z λO L J=>((cY O L^J.shrink sub))
   cases r with
   |p r=>cases e;exact(eH m V R2^.p^r.shrink sub)
   |@o a n hn =>
    simp only at e;split at e
    ·rename_i d;cases e;refine(eH m V R2^.o ?_);rw[Zs^by rw[R.len];exact d]at hn;exact hn
    cases e;exact(eH _ x G^.o hn)
   |@r a n hn =>
    simp only at e;split at e
    ·rename_i d;cases e;refine(eH m V R2^.r ?_);rw[Zs^by rw[R.len];exact d]at hn;exact hn
    ·obtain⟨f,t,⟨⟩⟩:=dG e;refine cX (G.cell n a _ hn t) λO L J=>?_;refine(eH m V R2^.p^.aj (.inl #[.inl L,λz=>(uxE (abn z) λj k=>?_)])^J.shrink sub);have U:=getD_some k;have:=uw G.nd (by refine rwe (Zs U) ?_;exact k) hn;rw[R.len]at U;lia
   |_=>exact cT e
  cases e;exact(eH M x G r)
def iz(r:RWs P w K m H I u):RS P w K m H (L2.start N I)^bE N.length u:=by
 have L:=r.length;refine#[by simp[L2.start,L],λi y e=>?_];simp![bE]at e
 by_cases c:i<u.length
 ·rw[Zs^by simpa using c,ZP]at e;obtain⟨z,e1,⟨⟩⟩:=dG e;have:∀{I:θ V}{u:θ _}{i:Nat},RWs P w K m H I u->u[i]?=aa y->∃v,I[i]?=aa v/\RW P w K m H v y:=by
   intro I u i r
   induction r generalizing i with
   |nil=>intro e;simp at e
   |cons r t J =>
    intro e;cases i with
    |zero=>simp at e;subst e;exact(cY _ rfl r)|succ i=>simpa using J (by simpa using e)
  refine cX (this r e1) λv U O=>((cY v (rwe (Zs^by simp;lia) ?_) O));refine rwe ZP ?_;refine rwe U ?_;rfl
 ·rw[aab^by simpa using c,aaK]at e;split at e<;>cases e
def kg(K:Zm)(q:ay)(d:aap)(b:aQ):Prop:=∀y,b.ns.contains^BT.jF y=ah->q=y/\y∈BT.j7 ∧
 (∃c P,aaQ K y=aa (c,P)/\d.code=.ref c/\adD K c P=ah/\∀z∈BT.j7,∀L,aaQ K z=aa (L,P)->z=y) ∧
 ∃J a,aag K ZL "__builtins__"=aa^aa^.ref J/\J≠abK/\K.lookup J=aa a/\a.cls=.type "module"/\a.dict=aa abK/\a.data=.plain
inductive Uq(K:Zm)(mg:ay->ψ aA)(x:ay)(fn:aQ):Prop
 |mk(f:az)(fd:aap)(st:ZO)(h1:mg x=aa^.ref f)(h2:Fun K x x st f fd)(U:dY fn.ns fn.ps^cV st)(O:Binds K fd fn.ps [])(L:CSs (cV st) fn.ns fn.body^dg st)(J:kg K x fd fn):Uq K mg x fn
structure Def(K:Zm)(mg:ay->ψ aA)(x:ay)(fn:aQ):Prop where
 ex:Uq K mg x fn
inductive MI(K:Zm)(mg:ay->ψ aA)(c m:ay)(fn:aQ):Prop
 |mk(C f:az)(fd:aap)(x qual:ay)(st:ZO)(h1:l9 K c C)(h2:mg c=aa^.ref C)(J:uV K C m f)(W:(m="__init__"->Mk K C f))(V:Fun K x qual st f fd)(U:dY fn.ns fn.ps^cV st)(O:Binds K fd fn.ps [])(L:CSs (cV st) fn.ns fn.body^dg st)(Y:kg K qual fd fn):MI K mg c m fn
structure GG(K:Zm)(mg:ay->ψ aA)(c m:ay)(fn:aQ):Prop where
 ex:MI K mg c m fn
structure Txt(P:ZE)(w:ZW)(K:Zm)(mg:ay->ψ aA)(T:bq->ψ aQ)(G:ay->ψ aM):Prop where
 defs:∀x fn,T^.f x=aa fn->Def K mg x fn
 meths:∀c m fn,T^.m c m=aa fn->GG K mg c m fn
 lams:∀L fn,T^.l L=aa fn->False
 glob:∀x z,G x=aa z->∃u v,mg x=aa u/\RelV v u/\∀m H,RW P w K m H v z
 blt:∀x∈OE,mg x=af
def Bm(e:aO T G k x m h=aa r):∃a,T x=aa a:=by
 cases k with
 |zero=>exact cT e
 |succ k =>
  rw[aO]at e;cases q:T x with
  |none=>rw[q]at e;exact cT e|some a=>exact#[a,rfl]
def vG(F:Fun K x u st f X)(S:dY N ps^cV st)(len:∀o H Q E,M o H Q E->o.length=ps.length)
(L:∀ (J:aA) (A:Z7) (n:θ Env) (s:Zo) (H:Hp) (o:θ V) (Q:VK) (E:XK),X.code=J->fQ k^A.deeper^abp u (cV st) s.heap.objs.size f J->Mod K R I->M o H Q E →
  ∃ t,PSs (dF CX0 P w K R I N u (cV st) f J A n s H E).nox (dg st) t/\t { nx:=λ_ v=>Q .aC v,rt:=Q } (L2.start N o) H):gi P w K R I CX0 (k+1) f X ps M:=by
 let(m,l,kV,Z,c,i,J,p,osl,rfl,d,Y):=F.ex;refine#[len,λA n s H O b o Q E W a g r e=>?_];have j:gi P w K R I CX0 (k+1) f (aaF x u (g9 st) (dg st) (cV st) .none kV Z c i J p) ps M:=Aw d Y S len λA n s H o Q E W U=>by let(t,h,q):=L J A n s H o Q E rfl W a.mod U;exact#[t,h.nox,q]
 exact j.run A n s H O b o Q E W a g r e
def xK(X:Txt P w K mg T G)
(p:∀(x:bq)(Q:aQ),T x=aa Q->∀(f:az)(fd:aap)(nm R:ay)(st:ZO),Fun K nm R st f fd->dY Q.ns Q.ps^cV st->CSs (cV st) Q.ns Q.body^dg st->kg K R fd Q->gi P w K mg base CX0 (2*k) f fd Q.ps^spF P w K^aO T G k x)
(B:∀L,(∃Q,T^.l L=aa Q)->FW P w K mg base (2*k) L^aO T G k^.l L)
(e1:Y.prog=P)(e2:Y.w=w)(H:Y.K=K)(F:Y.mg=mg)(E:Y.base=base)(q:Y.env.scope=sc)(D:Y.N=N)(y:Y.N.Nodup)(I:Y.calm=ah)(a:fQ (2*k+1) Y.A)(S:aeb (ZI Y.prog Y.w) Y.A Y.env Y.xe)
(z:(∀x,Y.fn x=ah)->∀x,N.contains^BT.jF x=ah->LX Y x):Ok Y (aO T G k) G sc N:=by
 subst e1 e2 H F E;refine#[q,D,y,λ_=>I,?_,S,X.glob,λg n h r e=>?_,λc g n h r e=>?_,λc n h r e=>?_,X.blt,λL n h r e=>#[2*k,a.mono^aal _,B L^Bm e],z]
 ·have:=a.un;lia
 ·let(J,O):=Bm e;let(W,U,V,M,Z,j,i,d,b):=(X.defs g J O).ex;exact#[W,U,J.ps,2*k,M,Z.kp,i,a.mono^aal _,p _ J O W U g g V Z j d b]
 ·let(J,O):=Bm e;let(C,W,U,m,o,V,s,v,u,t,Z,j,i,d,b):=(X.meths c g J O).ex;exact#[C,W,U,J.ps,2*k,s,u,i,a.mono^aal _,p _ J O W U m o V Z j d b]
 ·let(J,O):=Bm e;let(C,W,U,m,o,V,s,v,u,t,Z,j,i,d,b):=(X.meths c _ J O).ex;exact#[C,W,U,J.ps,2*k,s,v,t rfl,i,a,p _ J O W U m o V Z j d b]
def kh(X:Txt P w K mg T G):
 ∀(k:Nat),(∀(x:bq)(fn:aQ),T x=aa fn->∀(f:az)(fd:aap)(nm qual:ay)(st:ZO),Fun K nm qual st f fd->dY fn.ns fn.ps^cV st->CSs (cV st) fn.ns fn.body^dg st->kg K qual fd fn->gi P w K mg base CX0 (2*k) f fd fn.ps^spF P w K^aO T G k x) ∧
  ∀L,(∃fn,T^.l L=aa fn)->FW P w K mg base (2*k) L^aO T G k^.l L:=by
 intro k
 induction k with
 |zero =>
  refine#[λx fn V f fd nm qual st h2 B h5 h6=>?_,λL S=>?_]
  ·have no:∀U H Q E,¬spF P w K (aO T G 0 x) U H Q E:=λU H Q E h=>by let(m,Y,h,z,C,_,_,e,_):=h;exact cT e
   exact#[λU H Q E h=>bM h^no U H Q E,λA J s H args us U Q E _ _ _ _ h=>bM h^no U H Q E]
  ·intro A J s H f us U cvs m Y cs h z C Q E N e0 rv R rw nc la rc e W;exact cT e
 |succ k t =>
  let(ih,il):=t;refine#[λx fn V f fd nm qual st h2 B h5 h6=>?_,λL S=>?_]
  ·show gi P w K mg base CX0 (2*k+1+1) f fd fn.ps^spF P w K^aO T G (k+1) x;refine vG h2 B (λU H Q E h=>?_) λF A J s H U Q E u N Z h=>?_
   ·let(m,Y,h,z,C,R,r,e,W):=h;rw[aO,V]at e;simp only at e;split at e;rename_i c;rw[r.length];exact c;exact cT e
   ·let(m,Y,h,z,C,R,r,e,W):=h;rw[aO,V]at e;simp only at e;split at e
    ·have O:Ok (dF CX0 P w K mg base fn.ns qual (cV st) f F A J s H E).nox (aO T G k) G (cV st) fn.ns:=by refine xK X ih il rfl rfl rfl rfl rfl rfl rfl B.nd rfl N abW λ_ y hy=>?_;let(t1,t2,(c,Pt,t3,t4,t5,t6),bm,ob,t7,t8,t9,o,n,j):=h6 y hy;exact#[t2,#[c,Pt,t3,u.symm.trans t4,abr Z.kin t5,t6],by show qual++".<locals>."=_;rw[t1],bm,ob,aai Z.kin Z.glob t7,t8,Z.kin _ _ t9,o,n,j]
     refine#[_,sSs O (λ_=>rfl) h5,?_];cases D:bg (aO T G k) G fn.body (bE fn.ns.length Y) h with
     |none=>rw[D]at e;exact cT e
     |some fl =>
      rw[D]at e;refine#[m,_,h,fl,R,iz r,D,?_];cases fl with
      |rt y g =>
       intro v M m' i I r';let(q,d,b,a):=fM e R i I r';exact W v M q d b a
      |nx s' g =>
       intro σ' M m' i I _;let(q,d,b,a):=fM (v:=.aC) e R i I^.p .aC;exact W .aC M q d b a
      |_=>exact cT e
    exact cT e
  ·let(fn,V):=S;exact(X.lams L fn V).elim
end BS
end
section
end
section
namespace BS
open PySem PySem.Spec PyProof.Rows L2
variable{B:au}
inductive CX1(P:ZE)(w:ZW)(outer:θ Env)(H:Hp)(s:Zo)(E:XK)(e:aA)(s':Zo):Prop
 |mk(x C:az)(H':Hp)(B G:au)(O:aA)(V:e=.ref x)(os:s'.os=s.os)(J:adW s'.gens)(un:Un (frs outer) [] H H' s.heap s'.heap)(W:HOk P w H' s'.heap)(Z:Heap.FlyingW B outer x (.ref C) O s'.heap)
  (L:∀b o,s.heap.get? b=aa o->b∉frs outer->∃o',B.get? b=aa o'/\(H b=af->o'=o)) (U:HOk P w H' G) (Y:∀b o,H' b≠af->G.get? b=aa o->B.get? b=aa o) (q:E (.ref C) af H'):CX1 P w outer H s E e s'
def vH{P:ZE}{w:ZW}{H:Hp}{G h:au}(x:HOk P w H G)(k:∀b o,H b≠af->G.get? b=aa o->B.get? b=aa o)(st:B.StaysIn h):HOk P w H h:=λb u e =>
 (x b u e).stay (λc v hc q=>st c v^k c v (by rcases hc with rfl|hc<;>simp[*]) q) (λ_ q=>q) λ_ _ q=>q
section
variable{K:Zm}{E:XK}
def zD{j:θ (az×aq)}{σ:L2.St}{i:Hp}{W:Zo}{h:au}(I:Inv (dF CX P w K mg base N qual scope f m A outer s H E) j σ i W)
(L:∀b o,s.heap.get? b=aa o->b∉frs outer->∃g,B.get? b=aa g/\(H b=af->g=o))(st:B.StaysIn h)(Z:W.heap.UpToSlots h):Un (frs outer) [] H i s.heap h:=by
 have Y:∀b o,s.heap.get? b=aa o->H b=af->b∈frs outer->∃U,h.get? b=aa {o with slots:=U}:=λb o e n J=>by refine uxE (I.base.slot b o e n J^by simp[dF]) λU q=>(jB (I.ok.jW.mem J) λ_ d V c=>?_);replace V:=e ▸ V;cases V;let(O,a):=Z b _ q c;exact#[O,a]
 refine#[λb o e n J _=>?_,λb o e n J _=>Y b o e n J,λb o e n _=>I.base.free b o e n^by simp[dF],λb o e _=>?_,I.base.tups,I.base.frzs,I.base.tbls]
 ·refine cX (L b o e J) λg q r=>?_;rw[r n]at q;exact st b o q
 ·by_cases J:b∈frs outer
  exact uxE (Y b o e (I.ok.frf b J) J) λU q=>#[_,q];exact cX (L b o e J) λg q _=>#[g,st b _ q]
def i0(I:Inv (dF CX P w K mg base N qual scope f m A outer s H E) u σ M L)(e:s.heap.get? b=aa o)(J:b∉frs outer):
 b∉frs (dF CX P w K mg base N qual scope f m A outer s H E).stack:=λz=>by
 rcases List.mem_cons.mp^I.kZ b z with q|q
 exact bM (Zy e) (Nat.not_lt.mpr^by exact rwe q I.ok.above);exact J q
end
section
variable{K:Zm}{E:XK}
def KA(I:Inv (dF (CX1 P w) P w K mg Q N u m f M A outer s H E) zt σ R l)
(a:abU l.heap X x (.ref C) args)(g:E (.ref C) af R):(dF (CX1 P w) P w K mg Q N u m f M A outer s H E).xe (.ref x) {l with heap:=X}:=by
 show av (ZI P w) (A.deeper^abp u m s.heap.objs.size f M) (leaving (abp u m s.heap.objs.size f M)^.ref x) _ _ _;have Z:∀J∈(abp u m s.heap.objs.size f M::outer),∀b,J.frame=aa b->b∈frs (abp u m s.heap.objs.size f M::outer):=λJ d b V=>List.mem_filterMap.mpr #[J,d,V];refine wpAny_leaves_madeW (s:={l with heap:=X}) (base:=aaE l.heap^frs (abp u m s.heap.objs.size f M::outer)) (h:=l.heap) I.ok.frames rfl (λb o q=>ach _ q) (PySem.W.funFrames_hide I.stack Z) a λk t Y j i c=>?_;have O:∀b o,s.heap.get? b=aa o->b∉frs outer->∃U,(aaE l.heap^frs (abp u m s.heap.objs.size f M::outer)).get? b=aa U/\(H b=af->U=o):=λb o e V=>by let(U,q):=I.base.there b o e (by simp[dF]);refine#[U,abq _ q^i0 I e V,λn=>?_];have:=I.base.keep b o e n V (by simp[dF]);rw[q]at this;exact Zv this
 have L:∀b o,R b≠af->l.heap.get? b=aa o->(aaE l.heap^frs (abp u m s.heap.objs.size f M::outer)).get? b=aa o:=λb o n e=>abq _ e λz=>n^I.uU b z;exact#[x,C,R,_,l.heap,.ref t,rfl,I.os,I.bare,zD I O Y.1^(Heap.UpToSlots.of_keeps a.keeps).trans c,vH I.aI L Y.1,Y,O,I.aI,L,g]
def Ur(u:∀C R,E1 (.ref C) af R->E (.ref C) af R):jc (CX1 P w) (dF (CX1 P w) P w K mg base N qual scope f X A outer s H E) E1:=by
 intro g d M D e j I h;let(x,C,R,B,G,y,rfl,e1,e2,S,t,v,Y,a,O,W):=h;show av (ZI P w) (A.deeper^abp qual scope s.heap.objs.size f X) (leaving (abp qual scope s.heap.objs.size f X)^.ref x) _ _ _;have J:Inv (dF (CX1 P w) P w K mg base N qual scope f X A outer s H E) g d R j:=I.tZ (ch:=[]) e1 S t e2 (λb z=>bM z^by simp);refine wpAny_leaves_onW (Q:=λ_ V=>CX1 P w outer H s E (.ref x) V) I.ok.frames rfl v λF U i=>?_;have L:∀b o,s.heap.get? b=aa o->b∉frs outer->∃Z,B.get? b=aa Z/\(H b=af->Z=o):=λb o e c=>by let(r,q):=I.base.there b o e (by simp[dF]);let(p,m,l):=Y b r q^i0 I e c;refine#[p,m,λn=>?_];have k:=I.base.keep b o e n c (by simp[dF]);rw[q]at k;rw[l (I.base.free b o e n^by simp[dF])];exact Zv k
 exact#[x,C,R,B,G,y,rfl,J.os,J.bare,zD J L U.1 i,vH a O U.1,U,L,a,O,u C R W]
end
def nh{i:Int}(h:i.natAbs<2^64):i.natAbs.log2<1920:=by
 by_cases z:i.natAbs=0
 refine rwe z ?_;decide
 ·have:=(Nat.log2_lt z).mpr h;lia
structure lB(K:Zm)(C:az):Prop where
 ok:aeq K C [.type "ValueError",.type "Exception",.type "BaseException",.type "object"] "ValueError.__new__"=ah
inductive Us(K:Zm)(C:az)(h:au):Prop
 |mk(bm:θ aA)(N:az)(nm J:ay)(bs:θ aA)(hdct:Bool)(sn:θ ay)(sub:θ aA)(ab:Bool)(col:ψ Bool)(dd:ψ az)(k0 k1 k2 k3 k5:ψ aA)(mN:ay->ψ aA)(U:h.get? C=aa^ac5 nm J C N bs bm hdct sn sub ab col dd k0 k1 k2 k3 k5 "ValueError.__new__")
  (O:h.Ns N mN) (L:mN "__init__"=af) (T:OwnTail h [.type "ValueError",.type "Exception",.type "BaseException",.type "object"] bm) (V:K.lookup C=aa^ac5 nm J C N bs bm hdct sn sub ab col dd k0 k1 k2 k3 k5 "ValueError.__new__"):Us K C h
def lB.obj{K:Zm}(X:K.In h)(q:lB K C):Us K C h:=by
 have q:=q.ok;unfold aeq at q;split at q
 ·rename_i dd r Y e;split at q
  ·rename_i u s c b k2 a n Z f d;simp![Zp,bU,adL]at q;let(((((rfl,rfl),J),m),V),L):=q;let(v,w,k,j,i,o,g,sub,t,U,p):=r;dsimp only at f J V L;subst f J;have O:Y=#v[c,b,k2,a,aa^.builtin "ValueError.__new__",Z]:=by obtain⟨l⟩:=Y;simp only at d;exact rwe d rfl
   subst O;exact#[s,j,v,i,w,o,g,sub,t,U,dd,c,b,k2,a,Z,_,X _ _ e,.of_isNs^PySem.W.isNs_of_in X V,PySem.W.nsMap_none_of_in X V L,PySem.W.tail_of_in X m,e]
  exact aP q
 exact aP q
inductive xM:V->Prop
 |int{i:Int}(h:i.natAbs<2^64):xM^ω i
 |str{x:ay}(h:(reprText x).length<=50000):xM^.str x
 |aC:xM .aC
 |bl{b:Bool}:xM^.bl b
def GH{P:ZE}{w:ZW}{v:V}{u:aA}(h:xM v)(r:RelV v u):∃x:ay,x.length<=50000/\∀{A:Z7}{E:aA->Zo->Prop}{s:Zo}{Q:aA->Zo->Prop},Q (.str x s.toks) {s with toks:=s.toks+1}->av (ZI P w) A (pyReprObj u) Q E s:=by
 cases h with
 |@int i O =>
  let(U,rfl):=r;have J:(ZC _).length<=50000:=ZT (by
   rw[aeU];exact int_text_length_le ∅^nh O) ∅
  exact(cY _ J (λq=>ado rfl PySem.F.slot_int_repr PySem.F.entry_int_repr (PySem.F.args_int_repr_1 _) (gives_int_repr i _^nh O) q rfl (ZT J ∅)))
 |@str x L =>
  let(U,rfl):=r;exact(cY _ L (λq=>wpAny_pyReprObj_str q (ZT L ∅)))
 |aC =>
  obtain rfl:=r;exact(cY _ ∅ (λq=>ado rfl PySem.F.slot_NoneType_repr PySem.F.entry_NoneType_repr (PySem.F.args_NoneType_repr_1 _) gives_none_repr q rfl ∅))
 |@bl b =>
  obtain rfl:=r;exact(cY _ (by cases b<;>decide) (λq=>ado rfl PySem.F.slot_bool_repr PySem.F.entry_bool_repr (PySem.F.args_bool_repr_1 _) (gives_bool_repr b) q rfl (by cases b<;>decide)))
def GI(M:Gl X x)(hn:dI x=ah)(G:X.mg x=aa^.ref C)(E:lB X.K C)(hc:X.calm=ah)(hl:c.length<=1000)(R:PE X e t)
(I:ξ H s)
(h:t σ H λv H1=>xM v/\∀V h2 a args,ξ H1 V->abU V.heap h2 a (.ref C) args->X.xe (.ref a) {V with heap:=h2}):
 av (π X.w) X.A (exec (.Raise (aa^.Call (.Name x np) [.JoinedStr [.Constant (.str c) j p1,.FormattedValue e 114 af p2] p3] [] cpos) af pos) X.env) Q X.xe s:=by
 let(bm,N,nm,p,bs,hdct,sn,sub,ab,col,dd,k0,k1,k2,k3,k5,mN,hC,S,Y,T,_):=E.obj I.mod.kin;have Z:(x==("__debug__":ay))=ai:=by unfold dI at hn;simp![Zp]at hn;simpa using hn.1.1
 refine wpAny_Raise_call_subT (C:=C) (nm:=nm) (q:=p) (N:=N) (bs:=bs) (bm:=bm) (hdct:=hdct) (sn:=sn) (sub:=sub) (ab:=ab) (col:=col) (dd:=dd) (k0:=k0) (k1:=k1) (k2:=k2) (k3:=k3) (k5:=k5)
  adX (mN:=mN) (T.hasType PySem.F.excBase_ValueError.hasBase) (I.ok.hd hc) rfl Y^jm I M G #[rfl,(ab1^aaI^wpAny_JoinedStr (pos:=p3) ?_)] Z
 have lz:(1000:Nat)+50000<=ak:=∅
 have z:(aby++c).length<=1000:=by rw[acn];show 0+c.length<=1000;lia
 refine acm^dO _ _ rfl (ZT z ()) ?_;refine ae7 (thn (R zt _ σ H _ (I.tok _) h) λu V l=>?_);let(v,H1,i,o,D,k):=l;refine cX (GH (P:=X.prog) (w:=X.w) D o) λn r m=>(m ?_);have g:((aby++c)++n).length<=ak:=by rw[acn];lia
 have fin:∀ (d:Tok) (f:Zo),Inv X _ σ _ f->∃ y t,(abR _ _)=.str y t/\(aby++c++y).length<=ak/\Joins (π X.w) X.A X.xe [] (aby++c++y) (λU O=>U.length<=ak/\av (π X.w) X.A (adO _) (λW L=>(#[abR U O.toks::W,[]]:Args).kw=[]/\(#[abR U O.toks::W,[]]:Args).pos.length<=ak/\L.heap.get? C=aa^ac5 _ _ C N _ _ _ _ _ _ _ _ _ _ _ _ _ _/\L.heap.Ns N _/\OwnTail L.heap [.type _,.type _,.type _,.type _] _ ∧
  ∀ b e,abU L.heap b e _ (#[abR U O.toks::W,[]]:Args).pos->X.xe (.ref e) { L with heap:=b }) X.xe { O with toks:=O.toks+1 }) _:=λd f J=>by
  exact(fh _ d rfl g g^abM #[rfl,by show 1<=ak;decide,J.bk _ _ hC,S.keeps J.bk,T.keeps J.bk,λb a B=>k _ _ a _ (J.tok _) B])
 refine wpAny_formatField_str (fin _ _^i.tok _) (fin _ _^(i.tok _).tok _) (ZT r ())
def Dt{X:Cx}{x:ay}{C:az}{c V:ay}{e e2:Zt}{t m:TE}{j j2:Nat}{np S p2 p R M cpos pos:Pos}(hg:Gl X x)(hn:dI x=ah)(hm:X.mg x=aa^.ref C)(hq:lB X.K C)(hc:X.calm=ah)(hl:c.length<=1000)(hl2:V.length<=1000)(he:PE X e t)(d:PE X e2 m)
{zt:θ (az×aq)}{s:Zo}{σ:L2.St}{H:Hp}{Q:Flow->Zo->Prop}(I:ξ H s)
(h:t σ H λk H0=>(∃i:Int,k=ω i/\i.natAbs<2^64)/\m σ H0 λv H1=>xM v/\∀W h2 a args,ξ H1 W->abU W.heap h2 a (.ref C) args->X.xe (.ref a) {W with heap:=h2}):
 av (π X.w) X.A (exec (.Raise (aa^.Call (.Name x np) [.JoinedStr [.Constant (.str c) j S,.FormattedValue e (-1) af p2,.Constant (.str V) j2 R,.FormattedValue e2 114 af M] p] [] cpos) af pos) X.env) Q X.xe s:=by
 let(bm,N,nm,o,bs,hdct,sn,sub,ab,col,dd,k0,k1,k2,k3,k5,mN,hC,hN,b,T,_):=hq.obj I.mod.kin;have f:(x==("__debug__":ay))=ai:=by unfold dI at hn;simp![Zp]at hn;simpa using hn.1.1
 refine wpAny_Raise_call_subT (C:=C) (nm:=nm) (q:=o) (N:=N) (bs:=bs) (bm:=bm) (hdct:=hdct) (sn:=sn) (sub:=sub) (ab:=ab) (col:=col) (dd:=dd) (k0:=k0) (k1:=k1) (k2:=k2) (k3:=k3) (k5:=k5)
  adX (mN:=mN) (T.hasType PySem.F.excBase_ValueError.hasBase) (I.ok.hd hc) rfl b^jm I hg hm #[rfl,(ab1^aaI^wpAny_JoinedStr (pos:=p) ?_)] f
 have lz:(1000:Nat)+1921+1000+50000<=ak:=∅
 have l0:(aby++c).length<=1000:=by rw[acn];show 0+c.length<=1000;lia
 refine acm^dO _ _ rfl (ZT l0 ()) ?_;refine wpAny_FormattedValue_plain (thn (he zt _ σ H _ (I.tok _) h) λu0 s0 ⟨k,H0,I0,r0,⟨i,hv0,hi⟩,post0⟩=>?_);subst hv0;let(tk,rfl):=r0;have lf:(ZC^toString i).length<=1921:=by rw[aeU];exact int_text_length_le ∅^nh hi
 refine wpAny_formatField_int (nh hi) ?_;have l1:((aby++c)++ZC^toString i).length<=1000+1921:=by rw[acn];lia
 refine(dO _ _ rfl (ZT l1 ()) ?_);have l2:((aby++c)++ZC^toString i++V).length<=1000+1921+1000:=by rw[acn];lia
 refine acm^dO _ _ rfl (ZT l2 ()) ?_;refine ae7 (thn (d zt _ σ H0 _ (((I0.tok _).tok _).tok _) post0) λu W D=>?_);let(v,H1,z,G,hv,B):=D;refine cX (GH (P:=X.prog) (w:=X.w) hv G) λl li E=>(E ?_);have r:((aby++c)++ZC^toString i++V++l).length<=ak:=by rw[acn];lia
 have fin:∀ (Z:Tok) (n:Zo),ξ H1 n->∃ y t,(abR (l) Z)=.str y t/\(aby++c++ZC^toString i++V++y).length<=ak/\Joins (π X.w) X.A X.xe [] (aby++c++ZC^toString i++V++y) (λU O=>U.length<=ak/\av (π X.w) X.A (adO^abH cpos^Z4 [] X.env) (λY L=>(#[abR U O.toks::Y,[]]:Args).kw=[]/\(#[abR U O.toks::Y,[]]:Args).pos.length<=ak/\L.heap.get? C=aa^ac5 nm o C N bs bm hdct sn sub ab col dd k0 k1 k2 k3 k5 "ValueError.__new__"/\L.heap.Ns N mN/\OwnTail L.heap [.type "ValueError",.type "Exception",.type "BaseException",.type "object"] bm ∧
  ∀ g e,abU L.heap g e (.ref C) (#[abR U O.toks::Y,[]]:Args).pos->X.xe (.ref e) { L with heap:=g }) X.xe { O with toks:=O.toks+1 }) _:=λZ n J=>by
  exact(fh _ Z rfl r r^abM #[rfl,by show 1<=ak;decide,J.bk _ _ hC,hN.keeps J.bk,T.keeps J.bk,λg a hx=>B _ _ a _ (J.tok _) hx])
 refine wpAny_formatField_str (fin _ _^z.tok _) (fin _ _^(z.tok _).tok _) (ZT li ())
section
variable{K:Zm}{E:XK}
def Bo{h a:au}{c:az}{v:ψ aA}(x:h.IsCell c v)(u:h.UpToSlots a):a.IsCell c v:=by refine cX x λo L J=>?_;refine uxE (u c o L λO z=>by replace z:=J ▸ z;cases z) λU q=>?_;exact(cY _ q J)
def qU{zt:θ (az×aq)}{σ:L2.St}{H1 H2:Hp}{Z s2:Zo}{G h':au}(I:Inv (dF CX P w K mg base N qual scope f cd A outer s H E) zt σ H1 Z)(J:Inv (dF CX P w K mg base N qual scope f cd A outer s H E) zt σ H2 s2)
(O:∀b o,Z.heap.get? b=aa o->b∉frs (dF CX P w K mg base N qual scope f cd A outer s H E).stack->∃X,B.get? b=aa X/\(H1 b=af->X=o))(M:HOk P w H2 G)(Y:∀b o,H2 b≠af->G.get? b=aa o->B.get? b=aa o)
(st:B.StaysIn h')(U:s2.heap.UpToSlots h'):Inv (dF CX P w K mg base N qual scope f cd A outer s H E) zt σ H2 {s2 with heap:=h'}:=by
 have L:∀b o,s.heap.get? b=aa o->b∉frs outer->∃X,B.get? b=aa X/\(H b=af->X=o):=λb o e g=>by let(t,q):=I.base.there b o e (by simp[dF]);let(l,j,h):=O b t q^i0 I e g;refine#[l,j,λn=>?_];have k:=I.base.keep b o e n g (by simp[dF]);rw[q]at k;rw[h (I.base.free b o e n^by simp[dF])];exact Zv k
 refine#[J.ok,J.os,J.bare,zD J L st U,?_,λx c e=>?_,J.free,J.freeC,λp a=>?_,vH M Y st,J.len]
 ·let(m,hn,F):=J.loc;refine#[m,U.ns hn,λi x v S R Q=>?_];let(u,r,q):=F i x v S R Q;refine#[u,r,?_];rcases q with q|⟨k,c,e,z⟩
  exact .inl q;exact .inr #[k,c,e,Bo z U]
 ·let(v,z):=J.cell x c e;exact#[v,Bo z U]
 ·let(e,n,C,y,d):=J.pin p a;let(e1,D,W,V,T):=I.pin p a;have ns:p.1∉frs (dF CX P w K mg base N qual scope f cd A outer s H E).stack:=λz=>by
   rcases List.mem_cons.mp^I.kZ p.1 z with q|q
   exact W q;exact V q
  let(X,q,r):=O p.1 p.2 e1 ns;rw[r D]at q;exact#[st _ _ q,n,C,y,d]
end
section
variable{E:aA->Zo->Prop}
variable{D:az}{hdct hdct2:Bool}{ab ab2:Bool}{dd:ψ az}{k2:ψ aA}
def mH{os:OsState}
(Z:h.get? C=aa^ac5 nm q C N bs bm hdct X sub ab col dd k0 k1 k2 k3 k5 newId)(V:h.get? D=aa^ac5 I q2 D N2 R m hdct2 u sub2 ab2 col2 P j0 j1 j2 j3 j5 newId2)(Y:h.get? e=aa H)(L:H.cls=.ref C)(J:m.contains^.type "BaseException"=ah)
(O:(aaJ C::bm).contains^.ref D=ah)(W:Q ah #[h,g,d,t,os]):av M A (excMatches (.ref e)^.ref D) Q E ⟨h,g,d,t,os⟩:=by
 have U:(aaJ D::m).contains^.type "BaseException"=ah:=by rw[adA,J,Bool.or_true]
 have f:=tc_notTuple;unfold excMatches
 repeat (first|(with_reducible refine wpAny_loadPart_at Y ?_;rw[L])|with_reducible refine wpAny_loadPart_at V ?_|(with_reducible refine wpAny_isSubtype_exc V ?_;rw[U])|(with_reducible refine wpAny_isSubtype_exc Z ?_;rw[O])|wp_step)
 exact W
end
def GJ(I:Inv X P σ H s)(hn:M.Ns X.env.locals Q)(J:aaq X.env.locals s.heap M):
 Inv X P (ZN X.N.length af) H {s with heap:=M,toks:=R}:=by
 have O:∀b o,X.s₀.heap.get? b=aa o->b≠X.env.locals:=λb o e z=>by have:=I.ok.above;rw[←z]at this;exact bM (Zy e) (Nat.not_lt.mpr this)
 have W:∀b u,H b=aa u->b≠X.env.locals:=λb u e z=>by rw[z,I.free]at e;exact cT e
 refine#[I.ok,I.os,I.bare,#[λb o e n U L=>(J.2 b^O b o e).trans^I.base.keep b o e n U L,λb o e n U L=>?_,I.base.free,λb o e L=>?_,I.base.tups,I.base.frzs,I.base.tbls],#[Q,hn,λi x v l V k=>?_],λx c e=>?_,I.free,I.freeC,λp g=>?_,λb u e=>?_,by simp]
 ·let(Z,q):=I.base.slot b o e n U L;exact#[Z,(J.2 b^O b o e).trans q]
 ·let(a,q):=I.base.there b o e L;exact#[a,(J.2 b^O b o e).trans q]
 ·rw[aaK]at V;split at V<;>cases V
 ·let(v,o,h,j):=I.cell x c e;exact#[v,o,(J.2 c^I.cne x c e).trans h,j]
 ·let(e,n,Y,f,d):=I.pin p g;exact#[(J.2 p.1 Y).trans e,n,Y,f,d]
 ·exact(I.aI b u e).stay (λc v hc q=>(J.2 c (by rcases hc with rfl|hc;exact W _ _ e;exact W _ _ hc)).trans q) (λ_ q=>q) λ_ _ q=>q
def lD(K:Zm)(C D:az):Bool:=match K.lookup C with
 |some ⟨_,_,.cls a,_⟩=>a.mro.contains^.ref D|_=>ai
def obj_some(x:jh P w H h a o):∃q,h.get? a=aa q:=by
 cases o with
 |aj J=>exact nN x λ_ _ _ _ e=>#[_,e]
 |aB J=>exact Io x λ_ _ _ b e _=>#[_,e]
 |set S n=>exact qM x λo _ _ _ e _=>#[_,e]
 |ins C V c=>exact nM x λ_ _ _ e _=>#[_,e]
 |own y=>exact x|xd c=>let(_,(_,_,_,e,_),_):=x;exact#[_,e]
 |rng lo U=>exact D5 x λ_ _ _ e=>#[_,e]
 |frz b u=>exact uxA x λe _=>#[_,e]
 |tbl O=>exact#[_,x]|met f y=>exact#[_,x]|ext L=>exact x.2.1|_=>let(_,_,_,_,o,_,_,e,_):=x;exact#[_,e]
section
variable{K:Zm}{E:XK}
end
end BS
end
section
namespace BT
open PySem
@[reducible]noncomputable def XF:=FK->θ W->HH->ψ (ay×HH)
def rsM(R:XF)(m:ay)(O:HH->ψ (θ W×HH))(x:W)(h:HH):ψ (ay×HH):=match x with
 | .o n=>(match oat h n with
  | some (c,a)=>(match d9 m a with
   |none=>bnd (O h) λJ L=>R (.m c m) (.o n::J) L
   | some _=>af)
  | none=>af)
 |_=>af
def XI(R:XF)(m:ay)(V:HH->ψ (θ W×HH))(L:Nat)(J:ψ^θ Cp)(x:W)(h:HH):ψ (ay×HH):=match x with
 | .o n=>(match oat h n with
  | some (c,a)=>(match d9 m a with
   | none=>bnd (V h) λO U=>(match J with
    |some Y=>R (.m c m) (.o n::(O++[.c (.l L) Y])) U
    | none=>af)
   | some _=>af)
  | none=>af)
 |_=>af
def rsI(x:ψ (W×HH))(a b:HH->ψ (ay×HH)):ψ (ay×HH):=match x with
 |some (.p^.bl ah,h)=>a h|some (.p^.bl ai,h)=>b h|_=>af
def rsC(x:ψ (θ W×HH))(k:θ W->HH->ψ (ay×HH))(d:ψ (ay×HH)):ψ (ay×HH):=match x with
 |some (a,g)=>k a g|none=>d
def rsA(x:ψ (W×HH))(k:HH->ψ (ay×HH))(d:ψ (ay×HH)):ψ (ay×HH):=match x with
 |some (_,g)=>k g|none=>d
def pA:D->Bool
 |.int i=>big i|.str x=>decide ((reprText x).length<=50000)|.aC=>ah|.bl _=>ah|_=>ai
abbrev V8(i:Int):pA^ω i=big i:=rfl
abbrev V9:pA .aC=ah:=rfl
abbrev Wa(b:Bool):pA^.bl b=ah:=rfl
abbrev Wb(x:ay):pA^.str x=decide ((reprText x).length<=50000):=rfl
def rsV(R:XF)(o:ψ^ψ W)(a:θ W)(h:HH):ψ (ay×HH):=match o with
 |some^aa^.c k b=>if noC a then R k (a++b.map Cp.w) h else af
 |_=>af
abbrev Y5(R:XF)(k:FK)(J:θ Cp)(a:θ W)(h:HH):rsV R (aa^aa^.c k J) a h=if noC a then R k (a++J.map Cp.w) h else af:=rfl
def qi:S->Bool
 |.rai _ _=>ah|.rai2 _ _ _=>ah
 |.seq a b=>qi a||qi b
 |.v _ a b=>qi a||qi b
 |_=>ai
def orX(x:ψ (ay×HH))(y:ψ (ay×HH)):ψ (ay×HH):=match x with
 |some r=>aa r|none=>y
theorem Ut(y:ψ (ay×HH)):orX af y=y:=rfl
def Uu(x:ψ Fl)(k:Sl->HH->ψ (ay×HH))(d:ψ (ay×HH)):ψ (ay×HH):=match x with
 |some^.nx s h=>k s h|some^.ct s h=>k s h|some _=>af|none=>d
def GK(b:Sl->HH->ψ Fl)(c:Sl->HH->ψ (ay×HH))(a:θ (Nat×ay)):θ aN->Sl->HH->ψ (ay×HH)
 |[],_,_=>af
 |d::r,s,h=>match target a.length d with
  |some J=>Uu (b (sets a J s) h) (GK b c a r)^c (sets a J s) h|none=>af
def xN(b:Sl->HH->ψ Fl)(d:Sl->HH->ψ (ay×HH))(c:θ (Nat×ay))(J:Sr)(s:Sl)(a:θ W)(h:HH):ψ (ay×HH):=match (rds a h).bind^gh J with
 |some L=>if jd a then GK b d c L s h else af
 |none=>af
def sy(f:θ aN->HH->ψ (ψ aN×HH))(g:θ aN->HH->ψ (ay×HH))(n:Nat):θ aN->HH->ψ (ay×HH)
 |[],_=>af
 |d::r,h=>match target n d with
  | some J=>(match f J h with
   |some (_,a)=>sy f g n r a
   | none=>g J h)
  |none=>af
def qj(L:Sr)(n:Nat)(a:ψ Sl)(V:Sl->HH->ψ (θ W×HH))(U:Sl->EH)(O:Sl->HH->ψ (ay×HH))(b:θ W)(h:HH):ψ (ay×HH) :=
 match (rds b h).bind^gh L,a with
 |some c,aa a=>if jd b=ah/\c.length<=lim then sy (fH V U a) (λJ h=>O (J.map eZ++a) h) n c h else af
 |_,_=>af
def sA(L:Sr)(n:Nat)(a:ψ Sl)(U:Sl->EH)(O:Sl->HH->ψ (ay×HH))(b:θ W)(h:HH):ψ (ay×HH) :=
 match (rds b h).bind^gh L,a with
 | some (d::_),aa a=>if jd b then (match target n d with
  | some J=>(match U (J.map eZ++a) h with
   |none=>O (J.map eZ++a) h
   | some _=>af)
  | none=>af) else af
 |_,_=>af
def rsQ(m:Me)(x:ψ (W×HH))(k:HH->ψ (ay×HH)):ψ (ay×HH):=match m,x with
 |.append,aa (.r n,h)=>if nV (.r n) h then k h else af
 |_,_=>af
section
variable(F:FK->θ W->HH->ψ (W×HH))(R:XF)(D:ay->Bool)(G:ay->ψ W)
mutual
noncomputable def rsE:E->Sl->HH->ψ (ay×HH)
 |.aE o m d,s,h=>bnd (ev F G o s h)^rsM R m^evs F G d s|.methL o m d L e,s,h=>bnd (ev F G o s h)^XI R m (evs F G d s) L^caps s e|.bi _ _ d,s,h=>jZ d s h|.call f d,s,h=>rsC (evs F G d s h) (R^.f f) (if D f then jZ d s h else af)|.y a _,s,h=>rsE a s h|.bin _ a _,s,h=>rsE a s h|.z _ a _,s,h=>rsE a s h|.ite c a b,s,h=>rsI (ev F G c s h) (rsE a s)^rsE b s|.aj _ d,s,h=>jZ d s h|.callv i d,s,h=>rsC (evs F G d s h) (rsV R s[i]?) af|.me m o d,s,h=>rsQ m (ev F G o s h)^jZ d s|.comp _ k l j e .nil g,s,h=>rsC (evs F G l s h) (qj k j.length (frees s e) (evs F G .nil) (ev F G g)^rsE g) af|.comp _ k l j e (.cons c _) _,s,h=>rsC (evs F G l s h) (sA k j.length (frees s e) (ev F G c)^rsE c) af|_,_,_=>af
noncomputable def jZ:Es->Sl->HH->ψ (ay×HH)
 |.cons a r,s,h=>rsA (ev F G a s h) (jZ r s)^rsE a s h|.nil,_,_=>af
end
def rsS:S->Sl->HH->ψ (ay×HH)
 | .rai c e,s,h=>(match ev F G e s h with
  |some (.p d,f)=>if pA d then aa (c,f)else af
  | _=>af)
 | .rai2 c a e,s,h=>(match ev F G a s h with
  | some (.p^.int i,n)=>if big i then (match ev F G e s n with
   |some (.p d,f)=>if pA d then aa (c,f)else af
   | _=>af) else af
  | _=>af)
 | .seq a b,s,h=>(match evS F G a s h with
  |some^.nx m f=>rsS b m f|some _=>af
  | none=>rsS a s h)
 |.v c a b,s,h=>rsI (ev F G c s h) (rsS a s)^rsS b s|.ex e,s,h=>rsE F R D G e s h|.ret e,s,h=>rsE F R D G e s h|.set _ e,s,h=>rsE F R D G e s h|.j c _,s,h=>rsE F R D G c s h|.for k l g b,s,h=>orX (jZ F R D G g s h) (if qi b then rsC (evs F G g s h) (xN (evS F G b) (rsS b) k l s) af else af)|_,_,_=>af
end
section
variable{F:FK->θ W->HH->ψ (W×HH)}{R:XF}{D:ay->Bool}{G:ay->ψ W}{s:Sl}{h:HH}
theorem xe1:rsE F R D G (.aE o m u) s h=bnd (ev F G o s h)^rsM R m^evs F G u s:=rfl
theorem xe3:rsE F R D G (.bi b mu m) s h=jZ F R D G m s h:=rfl
theorem xe4:rsE F R D G (.call f m) s h=rsC (evs F G m s h) (R^.f f) (if D f then jZ F R D G m s h else af):=rfl
theorem xe7:rsE F R D G (.z o a b) s h=rsE F R D G a s h:=rfl
theorem xe8:rsE F R D G (.ite c a b) s h=rsI (ev F G c s h) (rsE F R D G a s)^rsE F R D G b s:=rfl
theorem xe9{b:Bool}{a:Es}:rsE F R D G (.aj b a) s h=jZ F R D G a s h:=rfl
theorem xa1:jZ F R D G (.cons a r) s h=rsA (ev F G a s h) (jZ F R D G r s)^rsE F R D G a s h:=rfl
theorem xa2:jZ F R D G .nil s h=af:=rfl
theorem xs1{c:ay}{e:E}:rsS F R D G (.rai c e) s h=(match ev F G e s h with
 |some (.p d,m)=>if pA d then aa (c,m)else af
 |_=>af
 ):=rfl
theorem xs2{a b:S}:rsS F R D G (.seq a b) s h=(match evS F G a s h with
 |some^.nx m u=>rsS F R D G b m u|some _=>af|none=>rsS F R D G a s h
 ):=rfl
theorem xs3:rsS F R D G (.v c a b) s h=rsI (ev F G c s h) (rsS F R D G a s)^rsS F R D G b s:=rfl
theorem xs4:rsS F R D G (.ex e) s h=rsE F R D G e s h:=rfl
theorem xs5:rsS F R D G (.ret e) s h=rsE F R D G e s h:=rfl
theorem xs6:rsS F R D G (.set i e) s h=rsE F R D G e s h:=rfl
theorem xs9{a:θ (Nat×ay)}{L:Sr}{J:Es}{b:S}:rsS F R D G (.for a L J b) s h=orX (jZ F R D G J s h) (if qi b then rsC (evs F G J s h) (xN (evS F G b) (rsS F R D G b) a L s) af else af):=rfl
theorem xeQ{m:Me}{o:E}{a:Es}:rsE F R D G (.me m o a) s h=rsQ m (ev F G o s h)^jZ F R D G a s:=rfl
theorem xeC{b:Bool}{L:Sr}{O:Es}{a:θ ay}{U:θ (Nat×ay)}{J:E}:rsE F R D G (.comp b L O a U .nil J) s h=rsC (evs F G O s h) (qj L a.length (frees s U) (evs F G .nil) (ev F G J)^rsE F R D G J) af:=rfl
theorem xsR{c:ay}{a e:E}:rsS F R D G (.rai2 c a e) s h=(match ev F G a s h with
 | some (.p^.int i,m)=>if big i then (match ev F G e s m with
  |some (.p d,u)=>if pA d then aa (c,u)else af
  |_=>af
  ) else af
 |_=>af
 ):=rfl
theorem xeG{b:Bool}{L:Sr}{O:Es}{a:θ ay}{U:θ (Nat×ay)}{c J:E}{r:Es}:rsE F R D G (.comp b L O a U (.cons c r) J) s h=rsC (evs F G O s h) (sA L a.length (frees s U) (ev F G c)^rsE F R D G c) af:=rfl
end
def dk(T:FK->ψ Fn)(f:ay):Bool:=(T^.f f).isSome
def fJ(T TX:FK->ψ Fn)(G:ay->ψ W):Nat->FK->θ W->HH->ψ (ay×HH)
 |0,_,_,_=>af
 |k+1,f,b,h=>match TX f with
  |some a=>if b.length=a.ps.length then rsS (φ k) (fJ T TX G k) (dk T) G a.body (dM a.ns.length b) h else af
  |none=>af
def kj(L:TX f=aa fn)(J:m.length=fn.ps.length):
 fJ T TX G (k+1) f m h=rsS (φ k) (fJ T TX G k) (dk T) G fn.body (dM fn.ns.length m) h:=by
 rw[fJ];exact rwe L^bK J
end BT
end
section
namespace BS
open PySem PySem.Spec PyProof.Rows L2
variable{K:Zm}{st:ZO}
def XW(K:Zm)(E:XK)(m:θ az)(H:Hp)(c:ay)(a:aL):Prop:=∀J L,Ext m H L J->RH K L J a->∀C,CN K c C->E (.ref C) af J
def XW.ext{E:XK}{m J:θ az}{H b:Hp}{c:ay}{a:aL}(w:XW K E m H c a)(x:Ext m H J b):XW K E J b c a:=λU O y R C L=>w _ _ (x.trans y) R C L
inductive spX(P:ZE)(w:ZW)(K:Zm)(g:θ aM->aL->ψ (ay×aL))(vs:θ V)(H:Hp)(Q:VK)(E:XK):Prop
 |mk(m:θ az)(ws:θ aM)(h:aL)(c:ay)(h':aL)(R:RH K m H h)(r:RWs P w K m H vs ws)(e:g ws h=aa (c,h'))(p:XW K E m H c h'):spX P w K g vs H Q E
inductive Uv(P:ZE)(w:ZW)(K:Zm)(mg:ay->ψ aA)(base:au)(A:Z7)(f:ay)(sp:Sp):Prop
 |mk(J:az)(fd:aap)(ps:θ ay)(k:Nat)(h1:mg f=aa^.ref J)(h2:Z2 K^.ref J=ah)(U:Binds K fd ps [])(O:fQ k A)(L:gi P w K mg base (CX1 P w) k J fd ps sp):Uv P w K mg base A f sp
def Pf(P:ZE)(w:ZW)(K:Zm)(d:ay->ψ aA)(b:au)(k L:Nat)(g:θ aM->aL->ψ (ay×aL)):Prop :=
 ∀(A:Z7)(J:θ Env)(s:Zo)(H:Hp) (f:az) (Y:θ aA) (W O:θ V) (m:θ az) (U:θ aM) (a:θ BT.Cp) (h:aL) (c:ay) (Z:aL) (Q:VK) (E:XK),
  fQ k A->qF P w K d b A J s H->dw W Y->RH K m H h->RWs P w K m H W U->BT.noC U=ah->rT m H f L O->RCs K m H O a->g (U++a.map BT.Cp.w) h=aa (c,Z)->XW K E m H c Z →
  ao (ZI P w) A (.call (.ref f) #[Y,[]]) (CR (CX1 P w) J P w H s Q E) s
structure OkX(X:Cx)(R:BT.XF)(D:ay->Bool)(E:XK):Prop where
 aE:∀(c m:ay) ws h r,R (.m c m) ws h=aa r->OkM X.prog X.w X.K X.mg X.base X.A (CX1 X.prog X.w) c m^spX X.prog X.w X.K^R^.m c m
 call:∀(f:ay) ws h r,R (.f f) ws h=aa r->Uv X.prog X.w X.K X.mg X.base X.A f^spX X.prog X.w X.K^R^.f f
 aD:∀f,D f=ah->∃fa,X.mg f=aa^.ref fa/\Z2 X.K^.ref fa=ah
 pass:jc (CX1 X.prog X.w) X E
 lam:∀(L:Nat) ws h r,R (.l L) ws h=aa r->∃k,fQ k X.A/\Pf X.prog X.w X.K X.mg X.base k L^R^.l L
def PXE(X:Cx)(e:Zt)(t:L2.St->Hp->Prop):Prop:=∀(L:θ (az×aq)) (s:Zo) (J:L2.St) (H:Hp) (Q:aA->Zo->Prop),Inv X L J H s->t J H->av (π X.w) X.A (eval e X.env) Q X.xe s
def PXS(X:Cx)(st:ZO)(t:L2.St->Hp->Prop):Prop:=∀(L:θ (az×aq)) (s:Zo) (J:L2.St) (H:Hp) (Q:Flow->Zo->Prop),Inv X L J H s->t J H->av (π X.w) X.A (exec st X.env) Q X.xe s
def PXA(X:Cx)(a:θ Zt)(t:L2.St->Hp->Prop):Prop:=∀(J:Pos)(O:θ (az×aq)) (s:Zo) (L:L2.St) (H:Hp) (Q:θ aA->Zo->Prop),Inv X O L H s->t L H->av (π X.w) X.A (adO^abH J^Z4 a X.env) Q X.xe s
def XJ(X:Cx)(st:θ ZO)(t:L2.St->Hp->Prop):Prop:=∀(L:θ (az×aq)) (s:Zo) (J:L2.St) (H:Hp) (Q:Flow->Zo->Prop),Inv X L J H s->t J H->av (π X.w) X.A (execs st X.env) Q X.xe s
inductive xD(X:Cx)(E:XK)(g:aY->aL->ψ (ay×aL))(σ:L2.St)(H:Hp):Prop
 |mk(m:θ az)(s:aY)(h:aL)(c:ay)(h':aL)(R:RH X.K m H h)(S:RS X.prog X.w X.K m H σ s)(e:g s h=aa (c,h'))(p:XW X.K E m H c h'):xD X E g σ H
def cpX(M:Model)(A:Z7)(E:aA->Zo->Prop)(Q:aA->Zo->Prop)(J:aA)(C:az)(L:ψ az)(r:adt)(z:Zo):Prop :=
 match r with
 |.ok _=>∃m,z.heap.Ns C m/\∀g,aaq C z.heap g->Q J {z with heap:=g}|.error x=>∃m,z.heap.Ns C m/\∀g,aaq C z.heap g->∀ce:Env,ce.locals=C->ce.frame=L->av M A (PySem.passOn "comprehension.variables-let-go" x ce:Sem aA) (λ_ _=>False) E {z with heap:=g}
section
variable{M:Model}{A:Z7}{E:aA->Zo->Prop}{s:Zo}{env:Env}
def xO{e:Zt}{t:aak}{v:Pos}{Y c:Sem aA}{g:acs}{p:θ acs}{C:θ (ay×az)}{Q:aA->Zo->Prop}
(F:clausesOf e=g::p)(D:∀x,aeo g.iter env x=pure x)(o:closureFor t env=pure C)(b:t.kind=.function)(n:∀x∈t.names,x.2=.local->t.names.lookup x.1=aa .local)
(h:av M A c (λx W=>av M A (pyIter x) (λZ B=>av M A Y (λJ w=>av M A (newFunctionEnv t env.globals C [] env.qual af .none^aa env) (λce V =>
  ce.frame=env.frame/\ao M A (.compStart e 0 Z J { ce with scope:=relabel t env }) (cpX M A E Q J ce.locals env.frame) V) E w) E B) E W) E s):av M A (abQ e t env v Y ai c af) Q E s:=by
 unfold abQ;refine rwe o^rwe F ?_;refine Zn (thn h λx W j=>Zn^abw^Zn^wpAny_of_eq (D x)^Zn^Z9 (thn j λZ B k2=>wpAny_standIf^Zn (thn k2 λJ w i=>Zn^Zq^Zn (thn i λce V U=>(uxA U λd U=>?_)))));dsimp only;have a:∀x∈(t.names.filter λx=>(x.2==.local||x.2==.cell)&&x.1 != (".0":ay)).reverse,x.2=.local->Env.kindOf {ce with scope:=relabel _ env} _=aa _ :=
  λx k l=>lookup_relabel_local^n x (List.mem_filter.mp^List.mem_reverse.mp k).1 l
 refine Z9^Zn^ac3^Z9^wpAny_run (codeAny_mono U λr z L=>?_);cases r with
 |ok f =>
  let(m,hn,L):=L;exact Zn^Z9 (wpAny_comp_letGo (cenv:={ce with scope:=relabel _ _}) b _ z m a hn λq _ _ O=>Zq^L _ O)
 |error x =>
  let(m,hn,L):=L;exact Zn^Z9 (wpAny_comp_letGo (cenv:={ce with scope:=relabel _ _}) b _ z m a hn λq _ _ O=>aaa (L _ O _ rfl d) (λ_ _ f=>f.elim) λ_ _ y=>y)
end
section
variable{prog:ZE}{w:ZW}{A:Z7}{s:Zo}
def zE{J target iter:Zt}{d:aak}{e:Pos}{U L:aA}{c:Env}{R:adt->Zo->Prop}(I:Nat->Zo->Prop)
(turn:∀ n s,I n s->av (ZI prog w) A (aeQ U) (λr O=>match r with
  |none=>R (.ok .next) O
  | some v=>av (ZI prog w) A (abP target U v) (λ_ i=>av (ZI prog w) A (adH target c v) (λ_ g =>
   av (ZI prog w) A (eval J c) (λx V=>av (ZI prog w) A (call (.builtin "list.append") [L,x]) (λ_ f=>∃ m,m < n/\I m f) (λ_ _=>False) V) (aen (ZI prog w) A c λx j=>R (.error x) j) g) (λ_ _=>False) i) (λ_ _=>False) O) (λ_ _=>False) s)
(n:Nat)(h:I n s):ao (ZI prog w) A (.compLoop (.ListComp J [#[target,iter,[],0]] d e) 0 U L c) R s:=by
 refine codeAny_loop rfl I (λn s b=>?_) n h;show av _ A ((compTurn (.ListComp _ _ _ _) 0 _ _ _).onRaise (λx=>do acV x _;aeO x)) _ _ s;refine wpAny_noted ?_;rw[afs];refine Zn^abw^Zn (aaa (turn n s b) (λr O W=>?_) λ_ _ z=>z.elim);cases r with
 |none=>exact Zq W
 |some v =>
  exact Zn (aaa W (λ_ i a=>(Zn (aaa a (λ_ g k2=>Zn^wpAny_tests_nil^Zn^Zn (thn k2 λx V Z=>Zn (aaa Z (λ_ f Y=>Zq^Zq #[rfl,Y]) λ_ _ z=>z.elim))) λ_ _ z=>z.elim))) λ_ _ z=>z.elim)
end
def Du{B u t:au}{l:θ Env}{e L C:az}{cls V:aA}(x:aeE B l e cls V L u)(s:∃o,B.get? C=aa o)(J:aaq C u t):aeE (aaE B [C]) l e cls V L t:=by
 refine uxE s λp s=>?_;have O:∀{b:az},B.get? b=af->b≠C:=λ{b} q z=>by rw[z,s]at q;exact cT q.symm
 have hn:∀{b:az},B.get? b=af->(aaE B [C]).get? b=af:=λ{b} q=>by
  cases z:(aaE B _).get? b with
  |none=>rfl
  |some o=>have:=ach _ z;rw[q]at this;exact cT this
 let(d,k2,c,Z,W,T,a,Y,e1,e2,n,m,U,k,j,i,h):=x;refine#[λb o q=>((J.2 b (λz=>by rw[z,aeF _^by simp]at q;exact cT q)).trans^d b o^ach _ q),hn k2,?_,Z,W,T,a,Y,(J.2 e^O k2).trans e1,e2,n,m,hn U,k,(J.2 T^O U).trans j,i,h]
 ·induction l with
  |nil=>trivial
  |cons g r f =>
   refine jk c ?_;rintro y ⟨F,o,E,v,D,A⟩ w;exact(f6 y ((fh F o E (hn v) ((J.2 _^O v).trans D) A))^f w)
def xP{M:Model}{A:Z7}{E:aA->Zo->Prop}{s:Zo}{B:au}{l:θ Env}{e L:az}{cls i:aA}{Q:Unit->Zo->Prop}(x:aeE B l e cls i L s.heap)
(q:∀g,aeE B l e cls i L g->s.heap.UpToSlots g->Q Unit.unit {s with heap:=g}):av M A (setFlight (.ref e)^aa L) Q E s:=by
 let(m,k2,k,j,W,T,r,p,e1,e2,h,d,c,a,Y,V,n):=x;have t:=(Array.getElem?_eq_some_iff.mp n).1;have U:∀b,b≠T->(s.heap.update T (aaG (·.setIfInBounds 3 ((aa L).elim ab6 λf=>adG f)))).get? b=s.heap.get? b:=λb O=>aaN _ _^aan O;have Z:∀b o,s.heap.get? b=aa o->(∀W,o.data≠.fields W)->b≠T:=λb o O J z=>by replace O:=Y ▸ z ▸ O;cases O;exact J _ V
 refine Zn^adN e1 h d ?_;exact rwe (bK^by simp)^abf Y V t (q _ #[λb o z=>(U b λw=>by replace z:=c ▸ w ▸ z;exact cT z).trans^m b o z,k2,k.of_keeps λb o O J=>(cY o ((U b^Z b o O J).trans O) rfl),#[j,W,T,_,_,(U e^aan a).trans e1,e2,h,d,c,a,aad _ Y^Obj.isFreed_of_fields^Obj.data_mapFields V _,Obj.data_mapFields V _,by simp[t]]] λb o O J=>#[_,(U b^Z b o O J).trans O])
def Bp(X:Cx)(E:XK):Prop:=∀(W:θ (az×aq)) (V:L2.St) (O:Hp) (J:Zo) (e:aA) (U:Zo) (C:az) (m:ay->ψ aA) (ce:Env) (Q:aA->Zo->Prop) (L:aA),Inv X W V O J->CX1 X.prog X.w X.stack O J E e U →
 J.heap.Ns C m->O C=af->X.s₀.heap.get? C=af->C∉frs X.stack->ce.frame=X.env.frame->aen (π X.w) X.A ce (λx z=>cpX (π X.w) X.A X.xe Q L C X.env.frame (.error x) z) e U
section
variable{P:ZE}{w:ZW}{K:Zm}{mg:ay->ψ aA}{base:au}{N:θ ay}{qual:ay}{scope:aak}{f:az}{cd:aA}{A:Z7}{outer:θ Env}{s:Zo}{H:Hp}{E:XK}
def KB{E1:XK}(hE:∀C H',E1 (.ref C) af H'->E (.ref C) af H'):Bp (dF (CX1 P w) P w K mg base N qual scope f cd A outer s H E) E1:=by
 intro zt σ H1 s1 e s' c mC ce Q acc I h S hH h0 R hf;let(x,C,H',B,G,a0,rfl,e1,e2,un,ho,fl,m,hg,cv2,hE1):=h;have J:Inv (dF (CX1 P w) P w K mg base N qual scope f cd A outer s H E) zt σ H' s':=I.tZ (ch:=[]) e1 un ho e2 (λb z=>bM z^by simp);have h0:s.heap.get? c=af:=h0;refine fV S λoN es ep i hdN rN=>(cX (m c oN i R) λoB qB rB=>?_);have eB:oB=oN:=rB hH;subst eB;have hn:acV (.ref x) ce=acV (.ref x)^abp qual scope s.heap.objs.size f cd:=by unfold acV PySem.frameOf;refine rwe hf ?_;rfl
 unfold aen;refine rwe hn (aeL I.ok.frames rfl fl λh4 Y y=>((cY mC ((ji oB es ep (Y.1 _ _ qB) hdN rN)) (λg sb ce' _ X=>?_))));have W:=Du Y #[_,qB] sb;let(_,_,_,oe,vs,T,oT,ts,he,hc,hd,h1,_):=id W;refine Zn^adN he hd h1 ?_;refine rwe (bL^by simp)^Zn ?_;refine rwe X (xP W λh6 V v=>wpAny_throw ?_);refine Zn^wpAny_noteFrame_againW rfl V.2.2.2 (wpAny_landsW V λh7 j u=>?_);have stay:(aaE B [c]).StaysIn h7:=j.1;have d:∀b o,s.heap.get? b=aa o->b≠c:=λb o q z=>by rw[z,h0]at q;exact cT q
 have Z:∀b o,s.heap.get? b=aa o->b∉frs _->∃p,(aaE B [c]).get? b=aa _/\(H b=af->p=o):=λb o q L=>by refine uxE (I.base.there b o q^by simp[dF]) λo1 O=>?_;refine cX (m b _ O^i0 I q L) λo2 M r2=>((cY o2 (abq _ M^by simpa using d b o q) (λn=>?_)));have k:=I.base.keep b o q n L (by simp[dF]);rw[O]at k;exact rwe (r2 (I.base.free b o q n^by simp[dF]))^Zv k
 have hH':H' _=af:=un.free _ _ i hH (by simp);have l:∀ b o,H' b≠af->G.get? b=aa o->(aaE B [c]).get? b=aa o:=λb o n q=>abq _ (cv2 b o n q) (by
  simp![adz]
  rintro rfl
  exact n hH')
 have up:∀b∈frs outer,∀o,s.heap.get? b=aa o->H b=af->∃F,h7.get? b=aa {o with slots:=F}:=λb L o q n=>by refine uxE (J.base.slot b o q n L^by simp[dF]) λF O=>(jB (I.ok.jW.mem L) λ_ o2 U a=>?_);have U:s.heap.get? b=aa _:=U;replace U:=q ▸ U;cases U;let(sl2,M):=y b _ O a;refine uxE (v b _ ((sb.2 b^d b o q).trans M) a) λsl3 q4=>?_;exact uxE (u b _ q4 a) λD q5=>#[D,q5]
 have t:Un (frs outer) [] H H' s.heap h7:=by
  refine#[λb o q n L _=>?_,λb o q n L _=>up b L o q n,λb o q n _=>J.base.free b o q n^by simp[dF],λb o q _=>?_,J.base.tups,J.base.frzs,J.base.tbls]
  ·refine cX (Z b o q L) λp O r=>?_;rw[r n]at O;exact stay b o O
  ·by_cases L:b∈frs outer
   exact uxE (up b L o q^I.ok.frf b L) λF O=>#[_,O];exact cX (Z b o q L) λp O _=>#[p,stay b _ O]
 refine oq j ?_;rintro k1 k2 ⟨_,_,k3⟩ k4;exact#[x,C,H',_,G,a0,rfl,J.os,J.bare,t,vH hg l stay,(nE k1 k2 k3 k4),Z,hg,l,hE C _ hE1]
end
def cxE(X:Cx)(a:aA->Zo->Prop):Cx:={X with xe:=a}
def MJ{X:Cx}{b:θ (az×aq)}{a:aA->Zo->Prop}{σ:L2.St}{H:Hp}{s:Zo}(I:Inv X b σ H s):Inv (cxE X a) b σ H s :=
 #[#[I.ok.mod,I.ok.kind,I.ok.glob,I.ok.blt,I.ok.above,I.ok.inj,I.ok.has,I.ok.cab,I.ok.hd,I.ok.frames,I.ok.stk,I.ok.exf,I.ok.bs,I.ok.bsz,I.ok.noex,I.ok.exfs,I.ok.jW,I.ok.frf],
  I.os,I.bare,I.base,I.loc,I.cell,I.free,I.freeC,I.pin,I.aI,I.len]
def GL{X:Cx}{b:θ (az×aq)}{a:aA->Zo->Prop}{σ:L2.St}{H:Hp}{s:Zo}(I:Inv (cxE X a) b σ H s):Inv X b σ H s :=
 #[#[I.ok.mod,I.ok.kind,I.ok.glob,I.ok.blt,I.ok.above,I.ok.inj,I.ok.has,I.ok.cab,I.ok.hd,I.ok.frames,I.ok.stk,I.ok.exf,I.ok.bs,I.ok.bsz,I.ok.noex,I.ok.exfs,I.ok.jW,I.ok.frf],
  I.os,I.bare,I.base,I.loc,I.cell,I.free,I.freeC,I.pin,I.aI,I.len]
section
variable{X:Cx}{F:FT}{R:BT.XF}{D:ay->Bool}{G:ay->ψ aM}{E:XK}{sc:aak}{N:θ ay}
def Uw{xe':aA->Zo->Prop}(O:Ok X F G sc N)(J:¬ ∀x,X.fn x=ah)(a:aeb (π X.w) X.A X.env xe'):Ok (cxE X xe') F G sc N :=
 #[O.hsc,O.hN,O.nd,O.calm,O.hu,a,O.glob,O.call,O.aE,O.mkc,O.blt,O.lam,λL=>bM L J]
inductive LIX(X:Cx)(scope:aak)(tg:θ ay)(fv:θ (Nat×ay))(s2:Zo)(H1:Hp)(C:az)(fp:θ az)(tn:Nat->au->Prop)(m1:θ az)(ds:θ aN)(fs:aY)(f:θ aN->aL->ψ (ψ aN×aL))(g:θ aN->aL->ψ (ay×aL))(r:ay×aL)(n:Nat)(s:Zo):Prop
 |mk(i:Nat)(J:L2.St)(H':Hp)(m':θ az)(L:aL)(us:θ aA)(U:Nat)(sl:aY)(p0:i<=ds.length)(p1:n=ds.length-i)(pl:us.length<=i)(p2:Inv (blk X (tg++fv.map (·.2)) s2 H1 scope C fp) [(s2.heap.objs.size,lobj us U)] J H' s)(p3:tn i s.heap)(p4:∀b∈fp,H' b=af)(W:Ext m1 H1 m' H')(Z:RH X.K m' H' L)(Y:RS X.prog X.w X.K m' H' J sl)(V:sl.length=tg.length+fs.length)(p9:sl.drop tg.length=fs)(O:BT.sy f g tg.length (ds.drop i) L=aa r):LIX X scope tg fv s2 H1 C fp tn m1 ds fs f g r n s
def GM(O:Ok X F G sc N)(O1:OkX X R D E)(HX:Bp X E)(hu:fS N=ah){mu:Bool}{sr:bC}{sa:aT}{tg:θ ay}{W:θ (Nat×ay)}{Y:aU}{te iter f:Zt}{scope:aak}{pos:Pos}
(hk:jG sc N tg W scope=ah)(ht:oV (d8 scope sc) tg te=ah)(hset:jf iter=ah)(hI:PI X te iter^iD X F G sr sa)
(hE:∀X',Ok X' F G (d8 scope sc) (tg++W.map (·.2))->PE X' f^tD X' F G Y)(hX:∀X',Ok X' F G (d8 scope sc) (tg++W.map (·.2))->OkX X' R D E->PXE X' f^xD X' E^BT.rsE F R D G Y):
 PXE X (.ListComp f [#[te,iter,[],0]] scope pos)^xD X E^BT.rsE F R D G^.comp mu sr sa tg W .nil Y:=by
 have cf:=Gw hk;let(ct,tl,tloc):=vD (fs:=W.map (·.2)) ht;have t0:tg≠[]:=by
  rintro rfl
  simp[oV]at ht
 intro zt s σ H Q' I q;rw[eval_ListComp];let(m,s',h,c0,h',RR,S,Z,zr):=q;simp![BT.xeC]at Z;cases e1:aX F G sa s' h with
 |none=>rw[e1]at Z;exact cT Z
 |some wh =>
  let(ws,h1):=wh;rw[e1]at Z;have Z:BT.qj sr tg.length (bD s' W) (aX F G .nil) (aK F G Y) (BT.rsE F R D G Y) ws h1=aa (c0,h'):=Z;unfold BT.qj at Z;cases g1:(aV ws h1).bind^bJ sr with
  |none=>rw[g1]at Z;exact cT Z
  |some j =>
   cases g2:bD s' W with
   |none=>rw[g1,g2]at Z;exact cT Z
   |some fs =>
    rw[g1,g2]at Z;simp only at Z
    by_cases ca:BT.jd ws=ah/\j.length<=BT.lim
    case neg=>rw[bL ca]at Z;exact cT Z
    rw[bK ca] at Z;let(ca,dsl):=ca;have hfree:BC.r9 X.env.cells scope.names:=λx hx e=>I.ok.has x.1^.inl (by
     show X.env.scope.names.lookup x.1=_;rw[O.hsc];exact (cf.free x hx e))
    refine xO rfl (o9 hset) (BC.nZ hfree) cf.k1 cf.loc
     (thn (hI zt s σ H (λJ H1=>∃Q,Ext m H Q H1/\RH X.K Q H1 h1/\vq X.K J Q H1 j^nY sr ws j) I #[m,s',h,ws,h1,j,RR,S,e1,g1,.inl ca,λH1 Q J x1 R1 it=>#[Q,x1,R1,it]]) λv s1 hv=>thn hv λitv s2 h2'=>?_)
    let(it,fp,tn,J,H1,rfl,I1,T,st,B,Q,x1,R1,ito):=h2';have t:∀b∈fp,b<s2.heap.objs.size:=λb L=>by let(o,ho,_):=T.obj 0 _ st b L;exact Zy ho
    refine Z8^adB cf.cell (by intro y hy;simp at hy) (λh3 hns hsb=>?_) cf.k1;generalize hH2:s2.heap.push {cls:=.type "list",dict:=af,data:=.seq ([]:θ aA).toArray}=H2 at hns hsb⊢;have k:H2.objs.size=s2.heap.objs.size+1:=by rw[←hH2,aaA]
    have old:∀b o,s2.heap.get? b=aa o->h3.get? b=aa o:=λb o e=>hsb.extBut b o (by rw[k];exact ZS^aa4^Zy e)^Zr _ (hH2 ▸ Zr _ e);have hacc:h3.get? s2.heap.objs.size=aa^lobj [] 0:=hsb.extBut _ _ (by refine rwe k ?_;exact ZS^aav _)^Zr _ (hH2 ▸ ZH _ rfl);have I4:=vB (tk:=s2.toks+([]:θ (ay×aA)).length) I1 O.hsc O.hN cf k B t old hns hacc;have O':=zB (s2:=s2) (H1:=H1) (C:=H2.objs.size) (fp:=fp) O hu cf;let(g,hg1,hg2):=sCT O' (O.calm hu) ct λq hq=>.inr (by refine rwe O'.hsc ?_;exact tloc q hq);have hfl:fs.length=W.length:=(kR g2).1;have ltC:s2.heap.objs.size<H2.objs.size:=by refine rwe k ?_;exact aav _
    have O2:=Uw (xe':=aen (π X.w) X.A (blk X (tg++W.map (·.2)) s2 H1 scope H2.objs.size fp).env λx z=>cpX (π X.w) X.A X.xe Q' (.ref s2.heap.objs.size) H2.objs.size X.env.frame (.error x) z) O' (λz=>aP^z "") aaW;have O3:OkX (cxE (blk X (tg++W.map (·.2)) s2 H1 scope H2.objs.size fp) (aen (π X.w) X.A (blk X (tg++W.map (·.2)) s2 H1 scope H2.objs.size fp).env λx z=>cpX (π X.w) X.A X.xe Q' (.ref s2.heap.objs.size) H2.objs.size X.env.frame (.error x) z)) R D E:=by
     refine#[O1.aE,O1.call,O1.aD,λpins' U H8 s8 e s9 l hcx=>?_,O1.lam];have l:=GL l;refine cX l.loc λmm hmm _=>?_;refine HX zt σ H8 s8 e s9 _ mm _ Q' _ (I1.tZ (ch:=fp) l.os l.base l.aI l.bare λb L=>(nE ((B b L).2.2.2.1) ((B b L).2.1) ((B b L).2.2.2.2.1)^(B b L).2.2.2.2.2)) hcx hmm l.free ?_ ?_ rfl
     ·cases z:X.s₀.heap.get? H2.objs.size with
      |none=>rfl|some o=>exact bM (ZU (Zy z) I1.sz)^Nat.not_lt.mpr^aaL ltC
     ·intro z;refine jB (I1.stack.mem z) λ_ o ho _=>?_;exact bM (Zy ho)^Nat.not_lt.mpr^aaL ltC
    have P:∀{H':Hp}{o:aq},(∀b∈fp,H' b=af)->∀b∈fp,rA (blk X (tg++W.map (·.2)) s2 H1 scope H2.objs.size fp) [(s2.heap.objs.size,o)] H' b:=λ{H' o} hn b L=>by
     refine#[hn b L,?_,?_,.inl L,λx c e=>(B b L).2.2.2.2.1 x c^mE e,λp hp=>?_];exact rwe k^ZS^aa4^t b L
     ·intro zz;rcases List.mem_cons.mp^I1.kZ b zz with e|e
      exact(B b L).2.1 e;exact(B b L).2.2.1 e
     ·refine rwe ((by
       have:p∈[]++[(s2.heap.objs.size,o)]:=hp;simpa using this:p=(s2.heap.objs.size,o))) ?_
      exact abj^t b L
    have loop:∀s4:Zo,s4={s2 with heap:=h3,toks:=s2.toks+([]:θ (ay×aA)).length} →
     ao (π X.w) X.A (.compLoop (.ListComp f [#[te,iter,[],0]] scope pos) 0 (.ref it) (.ref s2.heap.objs.size)^ad5 scope (BC.jY X.env.cells scope.names []) H2.objs.size X.env)
      (cpX (π X.w) X.A X.xe Q' (.ref s2.heap.objs.size) H2.objs.size X.env.frame) s4:=by
     rintro s4 rfl
     refine zE (LIX X scope tg W s2 H1 H2.objs.size fp tn Q j fs (BT.fH (aX F G .nil) (aK F G Y) fs) (λxs h=>BT.rsE F R D G Y (xs.map BT.eZ++fs) h) (c0,h')) ?_
      j.length #[0,_,H1,Q,h1,[],0,_,aax _,rfl,Zw _,I4,T.keep 0 _ _ st (λb L o e=>old b o e),λb L=>(B b L).1,.refl _ _,R1,qh (S.ext x1) g2,by simp,by simp,by exact rwe aez Z]
     rintro n s5 ⟨i,σ5,H5,m5,hh,us,nn,sl,hi,rfl,ul,I5,st5,fr5,x5,R5,S5,sl1,sl2,go5⟩
     by_cases c:i<j.length
     ·rw[abv c,BT.sy]at go5;cases eT:bf tg.length j[i]with
      |none=>rw[eT]at go5;exact cT go5
      |some xs =>
       replace go5:=eT ▸ go5;simp only at go5;refine thn (T.item (blk X (tg++W.map (·.2)) s2 H1 scope H2.objs.size fp) rfl rfl rfl (O.calm hu) i _ s5 σ5 H5 _ I5 (P fr5) st5^ito.go m5 H5 hh i x5 R5 (jK ca) c) λr s6 hr=>?_;let(u,rfl,hr):=hr;refine thn hr λ_ s7 ⟨x,H7,I7,r7,y7,st7,fr7⟩=>(jk (ito.yld m5 H5 hh i x H7 j[i] x5 R5 (jK ca) (Zu c) y7) λx7 k7 rd7=>?_);have R7:=R5.ext x7 k7;have I7':=I7.pinned (P fr7)^T.obj _ _ st7;refine jk (vE tl t0 eT sl1 sl2) λsq1 sq2 sq3=>?_;refine thn (hg1 _ s7 σ5 H7 x u (fun U H8=>H8=H7/\RS X.prog X.w X.K m5 H7 U (xs.map BT.eZ++fs)) I7' r7 (hg2 m5 H7 σ5 sl x j[i] xs _ (S5.ext x7) rd7 (by exact rwe tl eT) fun U S8=>#[rfl,by exact rwf sq1 S8])) λ_ s8 h8=>?_;refine gK h8 ?_;rintro U H8 l rfl S8;have aG:∀{s9:Zo}{σ9:L2.St}{H9:Hp},Inv (blk X (tg++W.map (·.2)) s2 H1 scope H2.objs.size fp) ([(s2.heap.objs.size,lobj us nn)]++nO fp s7.heap) σ9 H9 s9->tn (i+1) s9.heap/\∀b∈fp,H9 b=af:=λ{s9 σ9 H9} I9=>by refine#[T.keep _ _ _ st7 λb L o e=>(I9.pin (b,o)^Z1 _^Z1 _^iN L e).1,λb L=>?_];exact cX (T.obj _ _ st7 b L) λo e _=>((I9.pin (b,o)^Z1 _^Z1 _^iN L e).2.1)
       cases gI:BT.fH (aX F G .nil) (aK F G Y) fs xs hh with
       |none =>
        replace go5:=gI ▸ go5;exact thn (hX _ O2 O3 _ s8 U H8 _ (MJ l) #[m5,_,hh,c0,h',R7,S8,go5,zr.ext^x1.trans^x5.trans x7]) λ_ _ z=>z
       |some oh =>
        let(o,hA):=oh;replace go5:=gI ▸ go5;simp only at go5;let(cs,hc,eC,eK):=c7 gI;simp![aX]at eC;cases eC;have eK:=(eK);let(w,hB,eE,eL):=c7 eK;have ew:∃d,w=.p d/\hB=hA:=by
         cases w with
         |p d'=>cases eL;exact(cY _ rfl rfl)|_=>exact cT eL
        refine cX ew ?_;rintro d rfl rfl;refine aaa (hE _ O' _ s8 U H8 (λv Ha=>∃ma,Ext m5 H8 ma Ha/\RH X.K ma Ha hB/\RD X.K ma Ha v d) l #[m5,_,hh,_,hB,R7,S8,eE,λv Ha ma xa Ra ra=>by cases ra with|p ra=>exact(eH ma xa Ra ra)]) (λu10 s10 ⟨v10,H10,I10,r10,m10,x10,R10,rd10⟩=>(nM (I10.pin (s2.heap.objs.size,lobj us nn)^by simp) λpD nD neD nfD _=>?_)) λ_ _ z=>z.elim
        have lle:=gW;refine afp #[nn,pD] (λM V a=>?_) (by refine rwe Zx ?_;have dsl:=dsl;lia);refine uxE V λnn' V=>?_;have V:M.get? s2.heap.objs.size=aa^lobj (us++[u10]) nn':=by refine rwe V ?_;simp[lobj]
        have a:aaq s2.heap.objs.size s10.heap M:=a;let(st10,fr10):=aG I10;have I11:Inv (blk X (tg++W.map (·.2)) s2 H1 scope H2.objs.size fp) [] U H10 {s10 with heap:=M} :=
         Inv.turned (t':=s10.toks) (I10.mW (λp hp=>by cases hp)) (λb o L e=>(a.2 b L).trans e) nD neD (.inr^Zw _) (λx c e zz=>by refine fz (I1.cell x c^mE e) λv o ho _=>?_;have:=Zy ho;rw[zz]at this;exact bM this (aas _)) λp hp=>by cases hp
        have I12:Inv (blk X (tg++W.map (·.2)) s2 H1 scope H2.objs.size fp) [(s2.heap.objs.size,lobj (us++[u10]) nn')] U H10 {s10 with heap:=M}:=I11.mW λp hp=>by simp![adz]at hp;subst hp;exact(pR V nD neD nfD (λv zz=>by cases (zz)))
        have xt:Ext m5 H5 m10 H10:=x7.trans x10;refine#[j.length-(i+1),(),i+1,U,H10,m10,hB,us++[u10],nn',_,c,rfl,by exact rwe ZX^aec ul,I12,?_,fr10,x5.trans xt,R10,S8.ext x10,sq2,sq3,go5];exact T.keep _ _ _ st10 λb L o' e=>(a.2 b^ZS^t b L).trans e
     ·have ei:i=j.length:=()
      subst ei;rw[acL,BT.sy]at go5;exact cT go5
    exact#[rfl,adf (loop _ rfl)^T.self _ 0 _ _ _ (T.keep 0 _ _ st (λb L o e=>old b o e))^loop _ rfl]
end
section
variable{prog:ZE}{w:ZW}{A:Z7}{s:Zo}
def zF{J target iter c:Zt}{b:aak}{d:Pos}{O L:aA}{a:Env}{R:adt->Zo->Prop}
(turn:av (ZI prog w) A (aeQ O) (λr U=>match r with
  |none=>False
  | some v=>av (ZI prog w) A (abP target O v) (λ_ g=>av (ZI prog w) A (adH target a v) (λ_ e =>
   av (ZI prog w) A (isTrue c a^eval c a) (λ_ _=>False) (aen (ZI prog w) A a λx f=>R (.error x) f) e) (λ_ _=>False) g) (λ_ _=>False) U) (λ_ _=>False) s):ao (ZI prog w) A (.compLoop (.ListComp J [#[target,iter,[c],0]] b d) 0 O L a) R s:=by
 refine codeAny_loop rfl (λ(_:Nat) f=>f=s) (λn U Y=>?_) 0 rfl;subst Y;show av _ A ((compTurn (.ListComp J [#[target,iter,[c],0]] b d) 0 O L a).onRaise (λx=>do acV x a;aeO x)) _ _ U;refine wpAny_noted ?_;rw[afs];refine Zn^abw^Zn (aaa turn (λr e V=>?_) λ_ _ z=>z.elim);cases r with
 |none=>exact V.elim
 |some v =>
  refine Zn (aaa V (λ_ g W=>?_) λ_ _ z=>z.elim);exact Zn (aaa W (λ_ e k2=>Zn^wpAny_tests_one (aaa k2 (λ_ _ z=>z.elim) λ_ _ y=>y)) λ_ _ z=>z.elim)
end
def zG{M:Model}{A:Z7}{E:aA->Zo->Prop}{s:Zo}{d:Env}{e:Zt}{a:aak}{c:Pos}{L J:Sem aA}{b:Bool}{o:ψ (aA->Sem Unit)}{g:acs}{O:θ acs}{Q:aA->Zo->Prop}
(f:clausesOf e=g::O)(h:av M A J (λ_ _=>False) E s):av M A (abQ e a d c L b J o) Q E s:=by
 unfold abQ;rw[f];exact Zn (aaa h (λ_ _ z=>z.elim) λ_ _ x=>x)
section
variable{X:Cx}{F:FT}{R:BT.XF}{D:ay->Bool}{G:ay->ψ aM}{E:XK}{sc:aak}{N:θ ay}
def Dv(O:Ok X F G sc N)(O1:OkX X R D E)(HX:Bp X E)(hu:fS N=ah){mu:Bool}{sr:bC}{sa:aT}{tg:θ ay}{V:θ (Nat×ay)}{gc elt:aU}{cr:aT}{te iter k gx:Zt}{scope:aak}{pos:Pos}
(hk:jG sc N tg V scope=ah)(ht:oV (d8 scope sc) tg te=ah)(hset:jf iter=ah)(hI:PI X te iter^iD X F G sr sa)
(hX:∀(Y:Cx)(zt:θ (az×aq)) (s:Zo) (σ:L2.St) (H:Hp) (Q:Bool->Zo->Prop),Ok Y F G (d8 scope sc) (tg++V.map (·.2))->OkX Y R D E->Inv Y zt σ H s->xD Y E (BT.rsE F R D G gc) σ H->av (ZI Y.prog Y.w) Y.A (isTrue gx Y.env^eval gx Y.env) Q Y.xe s):
 PXE X (.ListComp k [#[te,iter,[gx],0]] scope pos)^xD X E^BT.rsE F R D G^.comp mu sr sa tg V (.cons gc cr) elt:=by
 have cf:=Gw hk;refine jk (vD (fs:=V.map (·.2)) ht) λct tl tloc=>?_;have t0:tg≠[]:=by
  rintro rfl
  simp[oV]at ht
 intro zt s σ H Q' I q;rw[eval_ListComp];let(m,s',h,c0,h',RR,S,L,zr):=q;simp![BT.xeG]at L;cases e1:aX F G sa s' h with
 |none=>rw[e1]at L;exact cT L
 |some wh =>
  let(ws,j):=wh;rw[e1]at L;have L:BT.sA sr tg.length (bD s' V) (aK F G gc) (BT.rsE F R D G gc) ws j=aa (c0,h'):=L;unfold BT.sA at L;cases g1:(aV ws j).bind^bJ sr with
  |none=>replace L:=g1 ▸ L;exact cT L
  |some ds =>
   cases g2:bD s' V with
   |none=>replace L:=g2 ▸ g1 ▸ L;cases ds<;>exact cT L
   |some fs =>
    rw[g1,g2]at L;cases ds with
    |nil=>exact cT L
    |cons dd dr =>
    simp only at L
    by_cases ca:BT.jd ws=ah
    case neg=>rw[bL ca]at L;exact cT L
    replace L:=(bK ca) ▸ L;have P:BC.r9 X.env.cells scope.names:=λx hx e=>I.ok.has x.1^.inl (by
     show X.env.scope.names.lookup x.1=_;exact rwe O.hsc^(cf.free x hx e))
    refine xO rfl (o9 hset) (BC.nZ P) cf.k1 cf.loc
     (thn (hI zt s σ H (λJ H1=>∃a,Ext m H a H1/\RH X.K a H1 j/\vq X.K J a H1 (dd::dr)^nY sr ws (dd::dr)) I #[m,s',h,ws,j,(dd::dr),RR,S,e1,g1,.inl ca,λH1 a J x1 R1 it=>(eH a x1 R1 it)]) λv s1 hv=>thn hv λitv s2 h2'=>?_)
    let(it,fp,tn,J,H1,rfl,I1,T,st,d,a,x1,R1,ito):=h2';have M:∀b∈fp,b<s2.heap.objs.size:=λb U=>by exact cX (T.obj 0 _ st b U) λo ho _=>(Zy ho)
    refine Z8^adB cf.cell (by intro y hy;simp at hy) (λh3 hns B=>?_) cf.k1;generalize hH2:s2.heap.push {cls:=.type "list",dict:=af,data:=.seq ([]:θ aA).toArray}=H2 at hns B⊢;have W:H2.objs.size=s2.heap.objs.size+1:=by refine rwf hH2 ?_;rw[aaA]
    have t:∀b o,s2.heap.get? b=aa o->h3.get? b=aa o:=λb o e=>B.extBut b o (by exact rwe W^ZS^aa4^Zy e)^Zr _ (hH2 ▸ Zr _ e);have hacc:h3.get? s2.heap.objs.size=aa^lobj [] 0:=B.extBut _ _ (by exact rwe W^ZS^aav _)^Zr _ (hH2 ▸ ZH _ rfl);have I4:=vB (tk:=s2.toks+([]:θ (ay×aA)).length) I1 O.hsc O.hN cf W d M t hns hacc;have O':=zB (s2:=s2) (H1:=H1) (C:=H2.objs.size) (fp:=fp) O hu cf;refine cX (sCT O' (O.calm hu) ct λq hq=>.inr^by exact rwe O'.hsc^tloc q hq) λg hg1 hg2=>?_;have hfl:fs.length=V.length:=(kR g2).1;have ltC:s2.heap.objs.size<H2.objs.size:=by exact rwe W^aav _
    have O2:=Uw (xe':=aen (π X.w) X.A (blk X (tg++V.map (·.2)) s2 H1 scope H2.objs.size fp).env λx z=>cpX (π X.w) X.A X.xe Q' (.ref s2.heap.objs.size) H2.objs.size X.env.frame (.error x) z) O' (λz=>aP^z "") aaW;have O3:OkX (cxE (blk X (tg++V.map (·.2)) s2 H1 scope H2.objs.size fp) (aen (π X.w) X.A (blk X (tg++V.map (·.2)) s2 H1 scope H2.objs.size fp).env λx z=>cpX (π X.w) X.A X.xe Q' (.ref s2.heap.objs.size) H2.objs.size X.env.frame (.error x) z)) R D E:=by
     refine#[O1.aE,O1.call,O1.aD,λpins' l H8 s8 e s9 Z hcx=>?_,O1.lam];have Z:=GL Z;refine cX Z.loc λmm hmm _=>(HX zt σ H8 s8 e s9 _ mm _ Q' _ (I1.tZ (ch:=fp) Z.os Z.base Z.aI Z.bare λb U=>(nE ((d b U).2.2.2.1) ((d b U).2.1) ((d b U).2.2.2.2.1)^(d b U).2.2.2.2.2)) hcx hmm Z.free ?_ ?_ rfl)
     ·cases z:X.s₀.heap.get? H2.objs.size with
      |none=>rfl|some o=>exact bM (ZU (Zy z) I1.sz)^Nat.not_lt.mpr^aaL ltC
     ·intro z;exact jB (I1.stack.mem z) λ_ o ho _=>(bM (Zy ho)^Nat.not_lt.mpr^aaL ltC)
    have f:∀{H':Hp}{o:aq},(∀b∈fp,H' b=af)->∀b∈fp,rA (blk X (tg++V.map (·.2)) s2 H1 scope H2.objs.size fp) [(s2.heap.objs.size,o)] H' b:=λ{H' o} hn b U=>by
     refine#[hn b U,?_,?_,.inl U,λx c e=>(d b U).2.2.2.2.1 x c^mE e,λp hp=>?_];exact rwe W^ZS^aa4^M b U
     ·intro zz;rcases List.mem_cons.mp^I1.kZ b zz with e|e
      exact(d b U).2.1 e;exact(d b U).2.2.1 e
     ·refine rwe ((by
       have:p∈[]++[(s2.heap.objs.size,o)]:=hp;simpa using this:p=(s2.heap.objs.size,o))) ?_
      exact abj^M b U
    have i:∀s4:Zo,s4={s2 with heap:=h3,toks:=s2.toks+([]:θ (ay×aA)).length} →
     ao (π X.w) X.A (.compLoop (.ListComp k [#[te,iter,[gx],0]] scope pos) 0 (.ref it) (.ref s2.heap.objs.size)^ad5 scope (BC.jY X.env.cells scope.names []) H2.objs.size X.env)
      (cpX (π X.w) X.A X.xe Q' (.ref s2.heap.objs.size) H2.objs.size X.env.frame) s4:=by
     rintro s4 rfl
     refine zF ?_;cases eT:bf tg.length dd with
     |none=>rw[eT]at L;exact cT L
     |some xs =>
      replace L:=eT ▸ L;simp only at L;cases gI:aK F G gc (xs.map BT.eZ++fs) j with
      |some q=>rw[gI]at L;exact cT L
      |none =>
       replace L:=gI ▸ L;refine thn (T.item (blk X (tg++V.map (·.2)) s2 H1 scope H2.objs.size fp) rfl rfl rfl (O.calm hu) 0 _ _ _ H1 _ I4 (f λb U=>(d b U).1) (T.keep 0 _ _ st (λb U o e=>t b o e))^ito.go a H1 j 0 (.refl _ _) R1 (jK ca)^adY _) λr s6 hr=>(cX hr ?_);rintro u rfl hr;refine thn hr λ_ s7 ⟨x,H7,I7,r7,y7,st7,fr7⟩=>(jk (ito.yld a H1 j 0 x H7 dd (.refl _ _) R1 (jK ca) rfl y7) λx7 k7 rd7=>?_);have R7:=R1.ext x7 k7;have I7':=I7.pinned (f fr7)^T.obj _ _ st7;let(sq1,sq2,sq3):=vE (fs:=fs) tl t0 eT (sl:=ZN tg.length _++fs) (by simp) (by simp);refine thn (hg1 _ _ _ _ x u (fun l H8=>H8=H7/\RS X.prog X.w X.K _ _ _ (xs.map BT.eZ++fs)) I7' r7 (hg2 _ _ _ _ x _ _ _ ((qh (n:=tg.length) (S.ext x1) g2).ext x7) rd7 (by exact rwe tl eT) fun l S8=>#[rfl,by exact rwf sq1 S8])) λ_ s8 h8=>?_;refine gK h8 ?_;rintro l H8 Z rfl S8;exact aaa (hX _ _ _ _ _ _ O2 O3 (MJ Z) #[a,_,j,c0,h',R7,S8,L,zr.ext^x1.trans x7]) (λ_ _ z=>z) λ_ _ z=>z
    exact#[rfl,adf (i _ rfl)^T.self _ 0 _ _ _ (T.keep 0 _ _ st (λb U o e=>t b o e))^i _ rfl]
end
section
variable{D:ay->Bool}{E:XK}
def KC(e:BT.rsM R m u x h=aa r):
 ∃n c b a g,x=.o n/\bA h n=aa (c,b)/\(BT.d9 m b).isNone=ah/\u h=aa (a,g)/\R (.m c m) (.o n::a) g=aa r:=by
 unfold BT.rsM at e;cases x with
 |o n =>
  simp only at e;cases L:bA h n with
  |none=>replace e:=L ▸ e;exact cT e
  |some q =>
   let(c,b):=q;replace e:=L ▸ e;simp only at e;cases J:BT.d9 m _ with
   |some _=>rw[J]at e;exact cT e
   |none =>
    replace e:=J ▸ e;let(a,g,e1,e2):=c7 e;exact#[n,c,b,a,g,rfl,L,by refine rwe J ?_;rfl,e1,e2]
 |_=>exact cT e
def GN(O:Ok X F G sc N)(y:OkX X R D E)(T:ef oe=ah)(P:(apos.endLine==cpos.line)=ah)(L:es.length<20)(M:PE X oe^η o)(hc:CEs sc N as es)(ha:PA X es^tDs X F G as):
 PXE X (.Call (.Attribute oe m apos) es [] cpos)^xD X E^BT.rsE F R D G^.aE o m as:=by
 have U:=fZ hc
 rintro zt s σ H Q I ⟨m0,s',h,c0,p,RR,S,q,Z⟩
 let(x,h1,e1,e2):=c7 q;let(n,c,fs,ws,g,rfl,e3,e4,e5,e6):=KC e2;let(C,ga,fd,ps,k,l,hM,hB,hR,ok):=y.aE _ _ _ _ _ e6;have V:As C m (spX X.prog X.w X.K^R^.m c m) [] E (η o) (tDs X F G as) σ H (λ_ _=>False):=by
  refine#[m0,s',h,_,h1,RR,S,e1,λv H1 B W Y d=>?_];cases d with
  |@o a _ hn =>
   let(C',t,vs,j,i,f):=Y.uv _ _ _ _ hn e3;cases i.cn.inj l.cn;refine#[a,t,vs,rfl,j,f.none e4,B,s',h1,ws,g,Y,S.ext W,e5,λus H2 m2 A R2 r2=>?_];rw[aau];exact#[m2,_,g,c0,p,R2,.cons (.o^A.ix hn) r2,e6,Z.ext^W.trans A]
 have fin:∀u b,EP X zt σ (λ_ _=>False) u b->Q u b:=λu b ⟨_,_,_,_,z⟩=>z.elim;cases es with
 |nil =>
  cases as with
  |cons a r=>exact(nX hc).elim
  |nil =>
   refine thn (wH M l.cls hM ok hR hB .nil y.pass (kQ T U L P) _ s σ H _ I ?_) fin;let(m,s,h,z,p,R,S,q,Z):=V;refine#[m,s,h,z,p,R,S,q,λv H1 B W Y d=>?_];exact we (Z v _ _ W Y d) λa t fs j i f q4=>((ig a t fs j i f^ly q4))
 |cons e es =>
  have J:=U;simp![dh,Zp]at J;exact thn (Av M l.cls hM ok hR hB .nil y.pass ha (c5 J.1) (dW J.2) (kQ T U L P) _ s σ H _ I V) fin
end
def Ux:BT.Me->Bool
 |.append=>ai|_=>ah
theorem xQ{f:θ aN->aL->ψ (ψ aN×aL)}{g:θ aN->aL->ψ (ay×aL)}(J:∀a h,g a h=af)(n:Nat):∀(b:θ aN)(h:aL),BT.sy f g n b h=af
 |[],h=>rfl
 |d::r,h=>by
  rw[BT.sy];cases bf n d with
  |none=>rfl
  |some a =>
   simp only;cases f _ h with
   |none=>exact J _ h|some o=>exact xQ J n r _
def noX:aU->Bool
 |.v _=>ah|.j _=>ah|.aj _ .nil=>ah|.aB _=>ah|.lsr _ _ _=>ah|.i _ _=>ah|.n _ _ _=>ah|.obi _ _=>ah|.me m _ _=>Ux m|.comp _ _ _ _ _ .nil a=>noX a|_=>ai
def Ph:aT->Bool
 |.nil=>ah|.cons a r=>noX a&&Ph r
section
variable{D:ay->Bool}{E:XK}
theorem vI(h:noX a=ah)(s:aY)(g:aL):BT.rsE F R D G a s g=af:=by
 cases a with
 |me m o L =>
  cases m with
  |append=>exact aP h|_=>rfl
 |comp e Y Z W d cond J =>
  cases cond with
  |cons c r=>exact aP h
  |nil =>
  have O:∀s h,BT.rsE F R D G _ s h=af:=λs b=>vI (a:=J) h s _;refine rwe BT.xeC ?_;cases aX F G _ s g with
  |none=>rfl
  |some V =>
   show BT.qj _ _ _ _ _ _ _ _=af;unfold BT.qj;split
   ·split;exact xQ (λU h=>O _ h) _ _ _;rfl
   rfl
 |aj _ L=>cases L with
  |nil=>rfl|cons _ _=>exact aP h
 |_=>first|exact aP h|rfl
theorem Bq:∀{b:aT},Ph b=ah->∀(s:aY)(g:aL),BT.jZ F R D G b s g=af
 |.nil,_,s,g=>rfl
 |.cons a r,h,s,g=>by let(L,J):=Bool.and_eq_true_iff.mp h;refine rwe BT.xa1 ?_;unfold BT.rsA;split;exact Bq J _ _;exact vI L _ _
def KG{X:Cx}{tg:θ (Nat×ay)}{V:bC}{d:aT}{b:BT.S}{g:TG}(hg:GOk X tg g){D1:Ends}{σ:L2.St}{H:Hp}{m:θ az}{s:aY}{h:aL}{c:ay}{h':aL}(R0:RH X.K m H h)(S:RS X.prog X.w X.K m H σ s)
(e:BT.rsC (aX F G d s h) (BT.xN (bg F G b) (BT.rsS F R D G b) tg V s) af=aa (c,h'))(Q:XW X.K E m H c h'):
 Nk (iD X F G V d) g (λD' σ H=>tDS X F G b D' σ H\/xD X E (BT.rsS F R D G b) σ H) D1 σ H:=by
 cases e1:aX F G d s h with
 |none=>rw[e1]at e;exact cT e
 |some T =>
  let(a,W):=T;rw[e1]at e;have e2:BT.xN (bg F G b) (BT.rsS F R D G b) tg V s a W=aa (c,h'):=e;unfold BT.xN at e2;cases p:(aV a W).bind^bJ V with
  |none=>rw[p]at e2;exact cT e2
  |some L =>
   rw[p]at e2;simp only at e2;split at e2
   ·rename_i q;refine #[m,s,h,a,W,L,R0,S,e1,p,.inl q,λH1 v J u R1 A=>?_];refine #[λi n σ H=>i<=L.length/\n=L.length - i/\∃ m s h,Ext v H1 m H/\RH X.K m H h/\RS X.prog X.w X.K m H σ s/\BT.GK (bg F G b) (BT.rsS F R D G b) tg (L.drop i) s h=aa (c,h')/\XW X.K E m H c h',
     #[L.length,aax _,rfl,v,s,W,.refl _ _,R1,S.ext u,by rw[aez];exact e2,Q.ext u],?_]
    rintro i n σ2 H2 ⟨hi,rfl,m2,s2,h2,x2,R2,S2,e3,post2⟩
    by_cases Y:i<L.length
    ·refine .inr #[A.go m2 H2 h2 i x2 R2 (jK q) Y,_,fun P H' z=>#[L.length-(i+1),(),Y,rfl,z],λx M y=>?_];let(O,k3,r3):=A.yld m2 H2 h2 i x M L[i] x2 R2 (jK q) (Zu Y) y;rw[abv Y,BT.GK]at e3;cases o:bf tg.length L[i]with
     |none=>rw[o]at e3;exact cT e3
     |some dd =>
      rw[o]at e3;simp only at e3;have I:=R2.ext O k3;refine hg m2 M σ2 s2 x L[i] dd _ (S2.ext O) r3 o fun N C=>?_;cases l:bg F G b (BT.sets tg dd s2) h2 with
      |none =>
       rw[l]at e3;exact .inr #[m2,_,h2,c,h',I,C,e3,post2.ext O]
      |some B =>
       rw[l]at e3;refine .inl #[m2,_,h2,B,I,C,l,?_];cases B with
       |nx f k=>exact fun Z H5 j U t r=>#[j,f,k,(x2.trans O).trans U,t,r,e3,(post2.ext O).ext U]
       |ct f k=>exact fun Z H5 j U t r=>#[j,f,k,(x2.trans O).trans U,t,r,e3,(post2.ext O).ext U]
       |_=>exact cT e3
    ·have ei:i=L.length:=()
     subst ei;rw[acL,BT.GK]at e3;exact cT e3
   exact cT e2
def GO(O:Ok X F G sc N)(V:OkX X R D E)(Y:dJ sc f=ah)(hn:dI f=ah)(hc:CEs sc N P M)(t:PA X M^tDs X F G P)(n:PXA X M^xD X E^BT.jZ F R D G P):
 PXE X (.Call (.Name f p) M [] cpos)^xD X E^BT.rsE F R D G^.call f P:=by
 have J:=fZ hc
 rintro zt s σ H Q I ⟨C,s',h,c0,T,RR,S,y,A⟩
 simp![BT.xe4]at y;cases M with
 |nil =>
  cases P with
  |cons a r=>exact(nX hc).elim
  |nil =>
   let(d,v,l,k,L,U,Z,W,B):=V.call _ _ _ _ y;exact thn (wG B W (dZ O Y) L U Z .nil V.pass (fN hn).1 _ s σ H (λ_ _=>False) I #[C,[],h,c0,T,RR,.nil,y,A]) λu s2 ⟨_,_,_,_,z⟩=>z.elim
 |cons e M =>
  simp![dh,Zp]at J;cases g:aX F G _ _ h with
  |some q =>
   let(b,c):=q;replace y:=g ▸ y;let(d,v,l,k,L,U,Z,W,B):=V.call _ _ _ _ y;refine thn (Au B W (dZ O Y) L U Z .nil V.pass t (fN hn).1 (c5 J.1) (dW J.2) _ s σ H (λ_ _=>False) I #[C,s',h,b,c,RR,S,g,λw x m i R2 j=>?_]) λu s2 ⟨_,_,_,_,z⟩=>z.elim;rw[aau];exact#[m,b,c,c0,T,R2,j,y,A.ext i]
  |none =>
   replace y:=g ▸ y;split at y
   ·rename_i o;exact cX (V.aD _ o) λd L U=>(aaB^jm I (dZ O Y) L (aa9 I.ok.mod.kin U (n _ _ s σ H _ I #[C,s',h,c0,T,RR,S,y,A]) (c5 J.1)^dW J.2) (fN hn).1)
   exact cT y
end
section
variable{F:FT}{R:BT.XF}{D:ay->Bool}{G:ay->ψ aM}{E:XK}{X:Cx}
def Wc{c:Bool}{b:aT}{a:θ Zt}{p:Pos}(U:PXA X a^xD X E^BT.jZ F R D G b):PXE X (.List a p)^xD X E^BT.rsE F R D G^.aj c b:=λZ s J H Q I q=>by refine wpAny_List_spliced^U p _ s J H _ I ?_;let(m,O,h,Y,V,RR,S,W,L):=q;exact#[m,O,h,Y,V,RR,S,W,L]
def zH{o:aU}{as:aT}{b e:Zt}{apos cpos:Pos}{es:θ Zt}(T:ef b=ah)(P:(apos.endLine==cpos.line)=ah)(U:(e::es).length<20)(O:dh (e::es)=ah)(N:PE X b^η o)(M:PXA X (e::es)^xD X E^BT.jZ F R D G as):
 PXE X (.Call (.Attribute b "append" apos) (e::es) [] cpos)^xD X E^BT.rsE F R D G^.me .append o as:=by
 have J:=O;simp![dh,Zp] at J;have c:decide ((e::es).length+([]:θ aex).length+(if ([]:θ aex).isEmpty then 0 else 1) < 30)=ah:=bP (by
  simp![ZQ,aam,adZ,if_true] at U ⊢;lia)
 intro d s Z H Q I q;let(m,W,h,j,i,RR,S,L,p):=q;rw[BT.xeQ]at L;cases e1:aK F G o W h with
 |none=>rw[e1]at L;exact cT L
 |some u =>
  let(x,Y):=u;rw[e1]at L;cases x with
  |r n =>
   have L:(if BT.nV (.r n) Y=ah then BT.jZ F R D G as W Y else af)=aa (j,i):=L;let(ok,L):=Gm L;refine wpAny_Call_method_late (ng T) (by rw[kP O,c];rfl) P rfl (thn (N d s Z H (λx V=>tyV X.K "list" x V/\xD X E (BT.jZ F R D G as) Z V) I #[m,W,h,.r n,Y,RR,S,e1,λv V C f k a=>#[ty_list k a ok,C,W,Y,j,i,k,S.ext f,L,p.ext f]]) λv A t=>?_);let(x,V,l,a,ty,B):=t;let(y,w):=yQ l a ty;refine#["list","list.append",aaz,acp,aco,y,w,?_];have g:=M cpos d A Z V (λ_ _=>False) l B;rw[c5 J.1]at g⊢;refine acM (by show(ai||(abH cpos^Z4 es X.env).any (·.1))=ai;rw[dW J.2];rfl)^ab1 ?_;exact thn g λus s2 z=>z.elim
  |_=>exact cT L
end
mutual
inductive CXE(sc:aak)(N:θ ay):aU->Zt->Prop
 |aE(J:ef oe=ah)(U:(apos.endLine==cpos.line)=ah)(O:es.length<20)(L:CE' sc N o oe)(V:CEs sc N as es):CXE sc N (.aE o m as)^.Call (.Attribute oe m apos) es [] cpos
 |call(J:dJ sc f=ah)(hn:dI f=ah)(L:CEs sc N as es)(O:xR sc N as es):CXE sc N (.call f as)^.Call (.Name f np) es [] p
 |y(J:CXE sc N a x):CXE sc N (.y a i)^.Subscript x sl p
 |bin(J:CXE sc N a x):CXE sc N (.bin o a b)^.BinOp x op y p
 |ite{c a b:aU}{t x y:Zt}{p:Pos}(h:tOK c=ah)(hc:CE' sc N c t)(L:CXE sc N a x)(J:CXE sc N b y):CXE sc N (.ite c a b)^.IfExp t x y p
 |app{e:Zt}{es:θ Zt}(J:ef oe=ah)(V:(apos.endLine==cpos.line)=ah)(O:(e::es).length<20)(L:CE' sc N o oe)(U:xR sc N as (e::es)):CXE sc N (.me .append o as)^.Call (.Attribute oe "append" apos) (e::es) [] cpos
 |bin2{mu:Bool}{a b:aU}{x y:Zt}{J:acr}{p:Pos}(hc:CE' sc N a x)(O:CXE sc N a x)(L:CXE sc N b y):CXE sc N (.aj mu^.cons a^.cons b .nil)^.BinOp x J y p
 |no(h:noX a=ah):CXE sc N a x
inductive xR(sc:aak)(N:θ ay):aT->θ Zt->Prop
 |nil:xR sc N .nil []
 |cons{a:aU}{as:aT}{e:Zt}{es:θ Zt}(J:noStar e=ah)(hc:CE' sc N a e)(L:CXE sc N a e)(O:xR sc N as es):xR sc N (.cons a as) (e::es)
end
mutual
inductive CXS(sc:aak)(N:θ ay)(ra:θ ay):BT.S->ZO->Prop
 |rai(L:fS N=ah)(U:ra.contains c=ah)(J:dJ sc c=ah)(hn:dI c=ah)(O:t.length<=1000)(V:CE' sc N e v):
  CXS sc N ra (.rai c e)^.Raise (aa^.Call (.Name c np) [.JoinedStr [.Constant (.str t) j p1,.FormattedValue v 114 af p2] p3] [] cpos) af pos
 |rai2{a e:aU}{L v:Zt}{c t J:ay}{j O:Nat}{Y p1 p2 Z W U cpos pos:Pos}(hu:fS N=ah)(hx:ra.contains c=ah)(hg:dJ sc c=ah)(hn:dI c=ah)(hl:t.length<=1000)(V:J.length<=1000)(ha:CE' sc N a L)(he:CE' sc N e v):
  CXS sc N ra (.rai2 c a e)^.Raise (aa^.Call (.Name c Y) [.JoinedStr [.Constant (.str t) j p1,.FormattedValue L (-1) af p2,.Constant (.str J) O W,.FormattedValue v 114 af U] Z] [] cpos) af pos
 |bad{st:ZO}:CXS sc N ra .bad st
 |ex(h:mG v=ah)(J:CXE sc N e v):CXS sc N ra (.ex e)^.Expr v p
 |ret(J:CXE sc N e v):CXS sc N ra (.ret e)^.Return (aa v) p
 |set{st:ZO}(h:noX e=ah):CXS sc N ra (.set i e) st
 |setx(h:mG v=ah)(J:CXE sc N e v):CXS sc N ra (.set i e)^.Assign [.Name x np] v p
 |setcs{i:Nat}{e:aU}{te iter J:Zt}{L:θ Zt}{scope:aak}{x:ay}{O pos p:Pos}(hw:swB sc scope x O pos=ah)(U:CXE sc N e iter):CXS sc N ra (.set i e)^.Assign [.Name x O] (.ListComp J [#[te,iter,L,0]] scope pos) p
 |retg{mu:Bool}{L:bC}{V:aT}{tg:θ ay}{O:θ (Nat×ay)}{o:BT.Cm}{a b U:aU}{Z:aT}{te iter J x y:Zt}{W:CmpOp}{scope:aak}{pos Y p:Pos}(hu:fS N=ah)(hr:ra≠[])(hk:jG sc N tg O scope=ah)(ht:oV (d8 scope sc) tg te=ah)(hz:qz L te=ah)(hs:jf iter=ah)(hi:CI sc N L V iter)(hm:ad6 W y=ai)(hx:CXE (d8 scope sc) (tg++O.map (·.2)) a x):
  CXS sc N ra (.ret^.comp mu L V tg O (.cons (.z o a b) Z) U)^.Return (aa^.ListComp J [#[te,iter,[.Compare x [W] [y] Y],0]] scope pos) p
 |forb{tg:θ (Nat×ay)}{J:bC}{L:aT}{b:BT.S}{te iter:Zt}{xs:θ ZO}{p:Pos}(U:fS N=ah)(hn:Ph L=ah)(Y:CT sc N tg te)(hi:CI sc N J L iter)(hz:qz J te=ah)(O:jf iter=ah)(W:CSs sc N b xs)(V:gE sc N ra b xs):CXS sc N ra (.for tg J L b)^.For te iter xs [] p
 |setcx{i:Nat}{mu U:Bool}{V:bC}{W:aT}{tg:θ ay}{O:θ (Nat×ay)}{L:aU}{te iter J:Zt}{scope:aak}{x:ay}{pos np Z Y p:Pos}(hu:fS N=ah)(hr:ra≠[])(hg:dJ sc "tuple"=ah)(hk:jG sc N tg O scope=ah)(ht:oV (d8 scope sc) tg te=ah)(hz:qz V te=ah)(hs:jf iter=ah)(hi:CI sc N V W iter)(he:CE' (d8 scope sc) (tg++O.map (·.2)) L J)(hx:CXE (d8 scope sc) (tg++O.map (·.2)) L J):
  CXS sc N ra (.set i^.bi .tuple U^.cons (.comp mu V W tg O .nil L) .nil)^.Assign [.Name x np] (.Call (.Name "tuple" Z) [.ListComp J [#[te,iter,[],0]] scope pos] [] Y) p
 |v{c:aU}{a b:BT.S}{t:Zt}{xs ys:θ ZO}{p:Pos}(h:tOK c=ah)(hc:CE' sc N c t)(L:gE sc N ra a xs)(J:gE sc N ra b ys):CXS sc N ra (.v c a b)^.If t xs ys p
inductive gE(sc:aak)(N:θ ay)(ra:θ ay):BT.S->θ ZO->Prop
 |nil{sts:θ ZO}:gE sc N ra .nil sts
 |bads{sts:θ ZO}:gE sc N ra .bad sts
 |one{st:ZO}(h:CXS sc N ra s st):gE sc N ra s (st::r)
 |cons{a b:BT.S}{st:ZO}{r:θ ZO}(hn:CS sc N a st)(h:CXS sc N ra a st)(J:gE sc N ra b r):gE sc N ra (.seq a b) (st::r)
end
theorem uC{b:aak}{N:θ ay}:∀{e:aT}{a:θ Zt},xR b N e a->dh a=ah
 |_,_,.nil=>rfl
 |_,_,.cons c _ _ d=>by simp![dh,Zp];exact#[c,uC d]
structure MadeX(ra:θ ay)(X:Cx)(E:XK):Prop where
 made:∀zt σ H s1 h2 a args C,ξ H s1->abU s1.heap h2 a (.ref C) args->E (.ref C) af H->X.xe (.ref a) {s1 with heap:=h2}
 cls:∀c,ra.contains c=ah->∃C,CN X.K c C/\X.mg c=aa^.ref C/\lB X.K C
 held:Bp X E
section
variable{F:FT}{R:BT.XF}{D:ay->Bool}{G:ay->ψ aM}{E:XK}{X:Cx}{sc:aak}{N:θ ay}{ra:θ ay}
def sEs(h:CEs sc N u m)(O:Ok X F G sc N):PA X m^tDs X F G u:=sQ h X O
mutual
theorem sXE(O:Ok X F G sc N)(i:OkX X R D E):∀{e:aU}{v:Zt},CXE sc N e v->PXE X v^xD X E^BT.rsE F R D G e
 |_,_,.aE h3 h6 h7 ho T=>GN O i h3 h6 h7 (sE ho O) T^sEs T O|_,_,.call hg hn T hx=>GO O i hg hn T (sEs T O)^Pi O i hx
 | _,_,.y T=>λW s U H Q I q=>afh^sXE O i T W s U H _ I (by
  let(m,L,h,Z,Y,RR,S,J,f):=q;exact #[m,L,h,Z,Y,RR,S,J,f])
 | _,_,.bin T=>λW s U H Q I q=>aeN^sXE O i T W s U H _ I (by
  let(m,L,h,Z,Y,RR,S,J,f):=q;exact #[m,L,h,Z,Y,RR,S,J,f])
 |_,_,@CXE.ite _ _ c a b t x y p h hc T hb=>λW s U H Q I q=>by
  let(m,L,C,Z,Y,RR,S,J,f):=q;simp![BT.xe8]at J;unfold BT.rsI at J;split at J
  ·rename_i r e1;refine wpAny_IfExp (thn ((sT hc O h).1 W s U H (λd V=>d=ah/\xD X E (BT.rsE F R D G a) U V) I #[m,L,C,ah,r,RR,S,e1,λV o j z=>#[rfl,o,L,r,Z,Y,z,S.ext j,J,f.ext j]]) λd l k=>?_);let(V,A,n,B):=k;subst n;exact sXE O i T W l U V Q A B
  ·rename_i r e1;refine wpAny_IfExp (thn ((sT hc O h).1 W s U H (λd V=>d=ai/\xD X E (BT.rsE F R D G b) U V) I #[m,L,C,ai,r,RR,S,e1,λV o j z=>#[rfl,o,L,r,Z,Y,z,S.ext j,J,f.ext j]]) λd l k=>?_);let(V,A,n,B):=k;subst n;exact sXE O i hb W l U V Q A B
  exact cT J
 |_,_,.app h3 h6 h7 ho hx=>zH h3 h6 h7 (uC hx) (sE ho O)^Pi O i hx
 |_,_,@CXE.bin2 _ _ mu a b x y op p hc T hb=>λW s U H Q I q=>by
  let(m,L,h,Z,Y,RR,S,J,f):=q;simp![BT.xe9,BT.xa1,BT.xa2]at J;cases g:aK F G a L h with
  |none =>
   rw[g]at J;exact aeN^sXE O i T W s U H _ I #[m,L,h,Z,Y,RR,S,J,f]
  |some K =>
   let(M,w):=K;rw[g]at J;have J:BT.rsA (aK F G b L w) (λ_=>af)^BT.rsE F R D G b L w=aa (Z,Y):=J;have J:BT.rsE F R D G b L w=aa (Z,Y):=by unfold BT.rsA at J;split at J;exact cT J;exact J
   refine aeN (thn (sE hc O W s U H (λ_ V=>xD X E (BT.rsE F R D G b) U V) I #[m,L,h,M,w,RR,S,g,λv V o j z P=>#[o,L,w,Z,Y,z,S.ext j,J,f.ext j]]) λu l k=>?_);let(v,V,A,P,n):=k;exact sXE O i hb W l U V _ A n
 |_,_,.no h=>λW s U H Q I q=>by let(m,L,C,Z,Y,RR,S,J,f):=q;rw[vI h]at J;exact cT J
theorem Pi(O:Ok X F G sc N)(h:OkX X R D E):∀{w:aT}{t:θ Zt},xR sc N w t->PXA X t^xD X E^BT.jZ F R D G w
 |_,_,.nil=>λL V s U H Q I q=>by let(m,W,b,d,c,RR,S,J,Z):=q;simp![BT.xa1,BT.xa2]at J;exact cT J
 |_,_,@xR.cons _ _ a w e t x A B y=>λL V s U H Q I q=>by
  let(m,W,b,d,c,RR,S,J,Z):=q;simp![BT.xa1,BT.xa2]at J;rw[c5 x];show av _ _ (adO ((ai,eval e X.env)::abH L^Z4 t X.env)) _ _ s;unfold BT.rsA at J;split at J
  ·rename_i z g e1;refine aaI (thn (sE A O V s U H (λv Y=>xD X E (BT.jZ F R D G w) U Y) I #[m,W,b,z,g,RR,S,e1,λv Y l f n r=>#[l,W,g,d,c,n,S.ext f,J,Z.ext f]]) λu j i=>?_);let(v,Y,o,p,k):=i;exact Pi O h y L V j U Y _ o k
  exact aaI^sXE O h B V s U H _ I #[m,W,b,d,c,RR,S,J,Z]
end
def Pj(O:Ok X F G sc N)(o:fS N=ah)(M:MadeX ra X E){c t:ay}{e:aU}{v:Zt}{j:Nat}{n l p2 k cpos pos:Pos}(L:ra.contains c=ah)(w:dJ sc c=ah)(hn:dI c=ah)(u:t.length<=1000)(y:CE' sc N e v):
 PXS X (.Raise (aa^.Call (.Name c n) [.JoinedStr [.Constant (.str t) j l,.FormattedValue v 114 af p2] k] [] cpos) af pos)^xD X E^BT.rsS F R D G^.rai c e:=by
 intro T s P H Q I q;refine dU (M.cls c L) λC z r Z=>?_;let(m,g,h,c0,h',RR,S,J,Y):=q;simp![BT.xs1]at J;split at J
 ·rename_i d A e1;split at J
  ·rename_i V;cases J;refine GI (dZ O w) hn r Z (O.calm o) u (sE y O) I #[m,g,h,_,_,RR,S,e1,λv H1 m1 f B U=>?_];cases U with
   |p U =>
    refine#[?_,λs1 A a W K L=>M.made _ _ _ _ _ _ _ _ K L^Y _ _ f B C z];cases U with
    |int i=>exact ω (by simpa [BT.big]using V)|str x L=>exact .str (by simpa using V)|aC=>exact .aC|bl b=>exact .bl|_=>exact aP V
  exact cT J
 exact cT J
def Uy{m:θ az}{H:Hp}{v:V}{d:aN}(r:RD K m H v d)(J:BT.pA d=ah):xM v:=by
 cases r with
 |int i=>exact ω (by simpa [BT.big]using J)|str x L=>exact .str (by simpa using J)|aC=>exact .aC|bl b=>exact .bl|_=>exact aP J
def KH(O:Ok X F G sc N)(A:fS N=ah)(M:MadeX ra X E){c t b:ay}{a e:aU}{Z v:Zt}{j z:Nat}{x w p2 u r o cpos pos:Pos}(V:ra.contains c=ah)(T:dJ sc c=ah)(hn:dI c=ah)(K:t.length<=1000)(W:b.length<=1000)(ha:CE' sc N a Z)(he:CE' sc N e v):
 PXS X (.Raise (aa^.Call (.Name c x) [.JoinedStr [.Constant (.str t) j w,.FormattedValue Z (-1) af p2,.Constant (.str b) z r,.FormattedValue v 114 af o] u] [] cpos) af pos)^xD X E^BT.rsS F R D G^.rai2 c a e:=by
 intro zt s σ H Q I q;refine dU (M.cls c V) λC hC B l=>?_;let(m,f,h,c0,h',RR,S,J,k):=q;simp![BT.xsR]at J;split at J
 ·rename_i i h1 e0;split at J
  ·rename_i P;split at J
   ·rename_i d h2 e1;split at J
    ·rename_i hb;cases J;refine Dt (dZ O T) hn B l (O.calm A) K W (sE ha O) (sE he O) I #[m,f,h,_,_,RR,S,e0,λv0 H0 y Y R0 U=>?_];cases U with
     |p U =>
      cases U with
      |int _ =>
       refine#[(cY i rfl^by simpa [BT.big]using P),y,f,h1,_,_,R0,S.ext Y,e1,λv H1 m1 n R1 L=>?_];cases L with
       |p L=>exact#[Uy L hb,λs1 h2 a g I1 V=>M.made _ _ _ _ _ _ _ _ I1 V^k _ _ (Y.trans n) R1 C hC]
    exact cT J
   exact cT J
  exact cT J
 exact cT J
mutual
theorem sXS(O:Ok X F G sc N)(f:OkX X R D E)(M:ra≠[]->MadeX ra X E)(r:∀x,X.fn x=ah):∀{s:BT.S}{st:ZO},CXS sc N ra s st->PXS X st^xD X E^BT.rsS F R D G s
 |_,_,.rai2 hu hx hg hn hl hl2 ha he=>KH O hu (M^by rintro rfl;exact aP hx) hx hg hn hl hl2 ha he|_,_,.rai hu hx hg hn hl he=>Pj O hu (M^by rintro rfl;exact aP hx) hx hg hn hl he
 |_,_,.bad=>λU s L H Q I q=>by let(m,V,h,Z,Y,RR,S,J,W):=q;exact cT J
 |_,_,.ex h he=>λU s L H Q I q=>by refine wpAny_Expr_any (sXE O f he U s L H _ I ?_) I.quiet^lA h;let(m,V,h,Z,Y,RR,S,J,W):=q;exact#[m,V,h,Z,Y,RR,S,J,W]
 |_,_,.ret he=>λU s L H Q I q=>by refine acT^sXE O f he U s L H _ I ?_;let(m,V,h,Z,Y,RR,S,J,W):=q;exact#[m,V,h,Z,Y,RR,S,J,W]
 |_,_,.set h=>λU s L H Q I q=>by let(m,V,l,Z,Y,RR,S,J,W):=q;simp![BT.xs6]at J;rw[vI h]at J;exact cT J
 |_,_,.setx h he=>λU s L H Q I q=>by let(m,V,l,Z,Y,RR,S,J,W):=q;simp![BT.xs6]at J;exact aem (sXE O f he U s L H _ I #[m,V,l,Z,Y,RR,S,J,W])^lA h
 |_,_,@CXS.setcs _ _ _ i e te iter elt' ifs scope x np pos p hw he=>λU s L H Q I q=>by let(m,V,l,Z,Y,RR,S,J,W):=q;simp![BT.xs6]at J;rw[exec_Assign_Name_used _ _ _ _^MH O hw];refine Zn^abw^Zn ?_;show av _ X.A (do let _ ←abQ (.ListComp elt' [#[te,iter,ifs,0]] scope pos) scope X.env _ (newList []) ai (eval iter X.env)^aa^adH (.Name x np) X.env) _ _ s;exact Zn^zG rfl^sXE O f he U s L H _ I #[m,V,l,Z,Y,RR,S,J,W]
 |_,_,@CXS.retg _ _ _ mu sr sa tg fv o a b elt cr te iter elt' x y op scope pos cp p hu hr hk ht hz hs hi hm hx=>λU s L H Q I q=>by
  let(m,V,h,Z,Y,RR,S,J,W):=q;simp![BT.xs5]at J;have PX:PXE X (.ListComp elt' [#[te,iter,[.Compare x [op] [y] cp],0]] scope pos)^xD X E^BT.rsE F R D G^.comp mu sr sa tg fv (.cons (.z o a b) cr) elt:=Dv O f (M hr).held hu hk ht hs (sCI hi O hz) λX' U s L H Q B O2 I' q'=>by let(m2,s2,h2,c2,h3,RR2,S2,ee2,k):=q';exact wpAny_isTrue_Compare1 (sXE B O2 hx U s L H _ I' #[m2,s2,h2,c2,h3,RR2,S2,ee2,k]) hm
  exact acT^PX U s L H _ I #[m,V,h,Z,Y,RR,S,J,W]
 |_,_,@CXS.forb _ _ _ tg sr sa b te iter xs p hu hn ht hi hz hs hb hx=>λU s L H Q I q=>by
  let(g,hg1,hg2):=sCT O (O.calm hu) ht (λq _=>.inl^r q.2);have hbb:PSs X xs (λD' L H=>tDS X F G b D' L H\/xD X E (BT.rsS F R D G b) L H):=λU s L H D' I q=>q.elim (λq=>sSs O r hb U s L H D' I q) λq=>zI O f M r hx U s L H _ I q;let(m,V,h,Z,Y,RR,S,J,W):=q;simp![BT.xs9]at J;rw[Bq hn,BT.Ut]at J;split at J
  ·refine thn (Ej O.own (O.calm hu) (sCI hi O hz) hg1 hbb (o9 hs) U s L H {nx:=λ_ _=>False,rt:=λ_ _=>False} I^KG hg2 RR S J W) λfl s2 q=>?_;cases fl with
   |ret u=>let(_,_,_,_,_,z):=q;exact z.elim|_=>let(_,_,_,z):=q;exact z.elim
  exact cT J
 |_,_,@CXS.setcx _ _ _ i mu mu2 sr sa tg fv elt te iter elt' scope x pos np tp cp p hu hr hg hk ht hz hs hi he hx=>λU s L H Q I q=>by
  let(m,V,h,Z,Y,RR,S,J,W):=q;simp![BT.xs6,BT.xe3,BT.xa1,BT.xa2]at J;have PX:PXE X (.ListComp elt' [#[te,iter,[],0]] scope pos)^xD X E^BT.rsE F R D G^.comp mu sr sa tg fv .nil elt:=GM O f (M hr).held hu hk ht hs (sCI hi O hz) (λX' B=>sE he B) λX' B O2=>sXE B O2 hx;have J:BT.rsE F R D G (.comp mu sr sa tg fv .nil elt) V h=aa (Z,Y):=by unfold BT.rsA at J;split at J;exact cT J;exact J
  refine aem ?_^lA rfl;refine aaB (jC I (dZ O hg) (O.blt _ ∅) (show acf "tuple"=aa (.type "tuple") by decide +kernel) ?_ ∅ ∅);refine aaf ?_ (c5 rfl) rfl;show av _ _ (adO ((ai,eval (.ListComp elt' [#[te,iter,[],0]] scope pos) X.env)::abH cp^Z4 [] X.env)) _ _ s;exact aaI^PX U s L H _ I #[m,V,h,Z,Y,RR,S,J,W]
 |_,_,@CXS.v _ _ _ c a b t xs ys p h hc ha hb=>λU s L H Q I q=>by
  let(m,V,l,Z,Y,RR,S,J,W):=q;simp![BT.xs3]at J;unfold BT.rsI at J;split at J
  ·rename_i w e1;refine wpAny_If (thn ((sT hc O h).1 U s L H (λd j=>d=ah/\xD X E (BT.rsS F R D G a) L j) I #[m,V,l,ah,w,RR,S,e1,λj m1 n R1=>#[rfl,m1,V,w,Z,Y,R1,S.ext n,J,W.ext n]]) λd K C=>?_);let(j,I1,T,P):=C;subst T;exact zI O f M r ha U K L j Q I1 P
  ·rename_i w e1;refine wpAny_If (thn ((sT hc O h).1 U s L H (λd j=>d=ai/\xD X E (BT.rsS F R D G b) L j) I #[m,V,l,ai,w,RR,S,e1,λj m1 n R1=>#[rfl,m1,V,w,Z,Y,R1,S.ext n,J,W.ext n]]) λd K C=>?_);let(j,I1,T,P):=C;subst T;exact zI O f M r hb U K L j Q I1 P
  exact cT J
theorem zI(O:Ok X F G sc N)(i:OkX X R D E)(M:ra≠[]->MadeX ra X E)(Z:∀x,X.fn x=ah):∀{s:BT.S}{sts:θ ZO},gE sc N ra s sts->XJ X sts^xD X E^BT.rsS F R D G s
 |_,_,.nil=>λU s V H Q I q=>by let(m,W,h,d,c,RR,S,J,Y):=q;exact cT J
 |_,_,.bads=>λU s V H Q I q=>by let(m,W,h,d,c,RR,S,J,Y):=q;exact cT J
 |_,_,.one h=>λU s V H Q I q=>abI^sXS O i M Z h U s V H _ I q
 |_,_,@gE.cons _ _ _ a b st r hn h C=>λU s V H Q I q=>by
  let(m,W,e,d,c,RR,S,J,Y):=q;simp![BT.xs2]at J;cases g:bg F G a W e with
  |none =>
   rw[g]at J;exact abI^sXS O i M Z h U s V H _ I #[m,W,e,d,c,RR,S,J,Y]
  |some v =>
   rw[g]at J;cases v with
   |nx j k =>
    simp only at J;refine abI (thn (sS O Z hn U s V H {nx:=fun L B=>xD X E (BT.rsS F R D G b) L B,rt:=λ_ _=>False} I #[m,W,e,.nx j k,RR,S,g,fun L l t n y w=>#[t,j,k,d,c,y,w,J,Y.ext n]]) λf o q=>?_);cases f with
    |next =>
     let(L,l,A,p):=q;exact zI O i M Z C U o L l Q A p
    |ret u=>let(_,_,_,_,_,z):=q;exact z.elim|_=>let(_,_,_,z):=q;exact z.elim
   |_=>exact cT J
end
end
def XM(P:ZE)(w:ZW)(K:Zm)(h:ay->ψ aA)(b:au)(N:θ ay)(q:ay)(c:aak)(d:θ (ay×az))(f g:az)(A:Z7)(a:θ Env)(s:Zo)(H:Hp)(E:XK):Cx :=
 {Ug P w K h b N q c d f g A a s H with xe:=λe L=>av (ZI P w) (A.deeper^acI q c s.heap.objs.size f (.ref g) d) (leaving (acI q c s.heap.objs.size f (.ref g) d) e) (λ_ J=>CX1 P w a H s E e J) (λO J=>CX1 P w a H s E O J) L}
section
variable{P:ZE}{w:ZW}{K:Zm}{mg:ay->ψ aA}{base:au}{N:θ ay}{q:ay}{sc:aak}{cl:θ (ay×az)}{f c':az}{A:Z7}{outer:θ Env}{s:Zo}{H:Hp}{E:XK}
end
inductive GP(rn:θ ay)(K:Zm)(c m:ay)(fn:aQ):Prop
 |mk(C f:az)(fd:aap)(x qual:ay)(st:ZO)(h1:l9 K c C)(h2:uV K C m f)(J:Fun K x qual st f fd)(V:dY fn.ns fn.ps^cV st)(U:Binds K fd fn.ps [])(O:gE (cV st) fn.ns rn fn.body^dg st)(L:kg K qual fd fn):GP rn K c m fn
structure xS(rn:θ ay)(K:Zm)(c m:ay)(fn:aQ):Prop where
 ex:GP rn K c m fn
inductive MK(rn:θ ay)(K:Zm)(mg:ay->ψ aA)(x:ay)(fn:aQ):Prop
 |mk(f:az)(fd:aap)(st:ZO)(h1:mg x=aa^.ref f)(h2:Fun K x x st f fd)(U:dY fn.ns fn.ps^cV st)(O:Binds K fd fn.ps [])(L:gE (cV st) fn.ns rn fn.body^dg st)(J:kg K x fd fn):MK rn K mg x fn
structure GQ(rn:θ ay)(K:Zm)(mg:ay->ψ aA)(x:ay)(fn:aQ):Prop where
 ex:MK rn K mg x fn
structure xT(rn:θ ay)(K:Zm)(mg:ay->ψ aA)(TX:bq->ψ aQ):Prop where
 defs:∀x fn,TX^.f x=aa fn->GQ rn K mg x fn
 meths:∀c m fn,TX^.m c m=aa fn->xS rn K c m fn
 cls:∀c,rn.contains c=ah->∃C,CN K c C/\mg c=aa^.ref C/\lB K C
 lams:∀L fn,TX^.l L=aa fn->False
def zJ(e:BT.fJ T TX G k x m h=aa r):∃a,TX x=aa a:=by
 cases k with
 |zero=>exact cT e
 |succ k =>
  rw[BT.fJ]at e;cases q:TX x with
  |none=>rw[q]at e;exact cT e|some a=>exact#[a,rfl]
def ML(X:Txt P w K mg T G){ps:θ ay}{E:XK}
(O:N.Nodup)(L:∀x,N.contains^BT.jF x=ai)(U:fQ (2*k+1)^A.deeper^abp qual (cV st) s.heap.objs.size f cdv):Ok (dF CX P w K mg base N qual (cV st) f cdv A outer s H E) (aO T G k) G (cV st) N :=
 xK X (kh X k).1 (kh X k).2 rfl rfl rfl rfl rfl rfl rfl O rfl U aeW λ_ x J=>by rw[L x]at J;exact aP J
def zK{rn:θ ay}{P:ZE}{w:ZW}{N:ay->ψ aA}{base:au}{T TX:bq->ψ aQ}{G:ay->ψ aM}{k:Nat}{E:XK}{Z:Cx}(X:Txt P w K N T G)(Y:xT rn K N TX)
(p:∀(x:bq)(I:aQ),TX x=aa I->∀(f:az)(Q:aap)(S M:ay)(st:ZO),Fun K S M st f Q->dY I.ns I.ps^cV st->gE (cV st) I.ns rn I.body^dg st->kg K M Q I->gi P w K N base (CX1 P w) (2*k) f Q I.ps^spX P w K^BT.fJ T TX G k x)
(t:∀L,(∃I,TX^.l L=aa I)->Pf P w K N base (2*k) L^BT.fJ T TX G k^.l L)
(e1:Z.prog=P)(e2:Z.w=w)(D:Z.K=K)(B:Z.mg=N)(z:Z.base=base)(b:fQ (2*k+1) Z.A)(R:jc (CX1 P w) Z E):OkX Z (BT.fJ T TX G k) (BT.dk T) E:=by
 subst e1 e2 D B z;refine#[λc g o h r e=>?_,λg o h r e=>?_,λf u=>?_,R,λL o h r e=>#[2*k,b.mono^aal _,t L^zJ e]]
 ·let(J,O):=zJ e;let(C,a,U,q,s,V,d,F,W,n,m,j,i):=(Y.meths c g J O).ex;exact#[C,a,U,J.ps,2*k,d,F,m,b.mono^aal _,p _ J O a U q s V W n j i]
 ·let(J,O):=zJ e;let(a,U,V,d,W,n,m,j,i):=(Y.defs g J O).ex;exact#[a,U,J.ps,2*k,d,W.kp,m,b.mono^aal _,p _ J O a U g g V W n j i]
 ·let(I,v):=Option.isSome_iff_exists.mp u;let(y,Q,st,H,W,_):=(X.defs f I v).ex;exact#[y,H,W.kp]
def KI(F:Fun K x m st f R)(S:dY N ps^cV st)(len:∀n H Q E,I n H Q E->n.length=ps.length)
(L:∀ (J:aA) (A:Z7) (l:θ Env) (s:Zo) (H:Hp) (n:θ V) (Q:VK) (E:XK),R.code=J->fQ k^A.deeper^abp m (cV st) s.heap.objs.size f J->Mod K M u->I n H Q E →
  ∃ t,PSs (dF X P w K M u N m (cV st) f J A l s H E) (dg st) t/\t { nx:=λ_ o=>Q .aC o,rt:=Q } (L2.start N n) H):gi P w K M u X (k+1) f R ps I:=by
 let(i,h,kV,d,g,j,J,q,osl,rfl,a,W):=F.ex;exact#[len,λA l s H Z e n Q E U Y c r b=>((Aw a W S len λA l s H n Q E U O=>L _ A _ s H _ Q E rfl U Y.mod O).run A _ s H _ _ _ Q E U Y c r b)]
def pB{rn:θ ay}{P:ZE}{w:ZW}{mg:ay->ψ aA}{base:au}{T TX:bq->ψ aQ}{G:ay->ψ aM}(X:Txt P w K mg T G)(Y:xT rn K mg TX):
 ∀(k:Nat),(∀(x:bq)(fn:aQ),TX x=aa fn->∀(f:az)(fd:aap)(nm qual:ay)(st:ZO),Fun K nm qual st f fd->dY fn.ns fn.ps^cV st->gE (cV st) fn.ns rn fn.body^dg st->kg K qual fd fn->gi P w K mg base (CX1 P w) (2*k) f fd fn.ps^spX P w K^BT.fJ T TX G k x)/\∀L,(∃fn,TX^.l L=aa fn)->Pf P w K mg base (2*k) L^BT.fJ T TX G k^.l L:=by
 intro k
 induction k with
 |zero =>
  refine#[?_,λL hL A J s H f us U cvs m W cs h z j Q E v e0 rv R rw nc la rc e n=>nomatch e];intro x fn g f fd nm qual st N F h5 h6;have no:∀U H Q E,¬spX P w K (BT.fJ T TX G 0 x) U H Q E:=λU H Q E h=>by let(m,W,h,z,j,_,_,e,_):=h;exact cT e
  exact#[λU H Q E h=>bM h^no U H Q E,λA J s H b us U Q E _ _ _ _ h=>bM h^no U H Q E]
 |succ k u =>
  let(ih,il):=u;refine#[?_,λL hL=>?_]
  rotate_left
  ·let(fn,g):=hL;exact(Y.lams L fn g).elim
  intro x fn g f fd nm qual st N F h5 h6;show gi P w K mg base (CX1 P w) (2*k+1+1) f fd fn.ps^spX P w K^BT.fJ T TX G (k+1) x;have Z:∀{W:θ aM}{h:aL}{r:ay×aL},BT.fJ T TX G (k+1) x W h=aa r->W.length=fn.ps.length/\BT.rsS (aO T G k) (BT.fJ T TX G k) (BT.dk T) G fn.body (bE fn.ns.length W) h=aa r:=λ{W h r} e=>by rw[BT.fJ,g]at e;simp only at e;split at e;rename_i c;exact#[c,e];exact cT e
  refine KI N F (λU H Q E h=>?_) λV A J s H U Q E B v i h=>?_
  ·let(m,W,h,c,j,R,r,e,n):=h;rw[r.length];exact(Z e).1
  ·let(m,W,h,c,j,R,r,e,n):=h;have O:Ok (dF (CX1 P w) P w K mg base fn.ns qual (cV st) f V A J s H E) (aO T G k) G (cV st) fn.ns:=by refine xK X (kh X k).1 (kh X k).2 rfl rfl rfl rfl rfl rfl rfl F.nd rfl v aeW λ_ y hy=>?_;let(t1,t2,(c,Pt,t3,t4,t5,t6),bm,ob,t7,t8,t9,t,p,o):=h6 y hy;exact#[t2,#[c,Pt,t3,B.symm.trans t4,abr i.kin t5,t6],by show qual++".<locals>."=_;rw[t1],bm,ob,aai i.kin i.glob t7,t8,i.kin _ _ t9,t,p,o]
   have O1:OkX (dF (CX1 P w) P w K mg base fn.ns qual (cV st) f V A J s H E) (BT.fJ T TX G k) (BT.dk T) E:=zK (base:=base) X Y ih il rfl rfl rfl rfl rfl v (Ur λ_ _ z=>z);have M:MadeX rn (dF (CX1 P w) P w K mg base fn.ns qual (cV st) f V A J s H E) E:=#[λS d H s1 N a b C I hx hE=>KA I hx hE,Y.cls,KB λ_ _ z=>z];exact #[λD d H'=>xD (dF (CX1 P w) P w K mg base fn.ns qual (cV st) f V A J s H E) E (BT.rsS (aO T G k) (BT.fJ T TX G k) (BT.dk T) G fn.body) d H',
    λS s d H D I q=>zI O O1 (λ_=>M) (λ_=>rfl) h5 S s d H _ I q,m,_,h,c,j,R,iz r,(Z e).2,n]
def pC(J:ay)(a:θ aM->aL->ψ (aM×aL))(F:FT):FT:=λx=>match x with
 |.f y=>if y=J then a else F^.f y
 |.m c m=>F^.m c m|.l L=>F^.l L
def xU:pC m told F^.f m=told:=bK rfl
def Br(h:¬y=m):pC m told F^.f y=F^.f y:=bL h
def KJ(O:Ok X F G sc N)
(b:X.mg u=aa^.ref m)(a:Z2 X.K^.ref m=ah)(U:Binds X.K H ps [])(L:fQ k X.A)(J:gi X.prog X.w X.K X.mg X.base CX0 k m H ps^spF X.prog X.w X.K told):Ok X (pC u told F) G sc N :=
 #[O.hsc,O.hN,O.nd,O.calm,O.hu,O.own,O.glob,λf V h r e=>by
  by_cases c:f=u
  ·subst c;exact rwe xU #[m,H,ps,k,b,a,U,L,J]
  ·rw[Br c] at e ⊢;exact O.call f _ h r e,O.aE,O.mkc,O.blt,O.lam,O.lamx]
def lE(F:FT)(G:ay->ψ aM)(a:aQ)(b:θ aM)(h:aL):ψ (aM×aL):=if b.length=a.ps.length then BT.jE (bg F G a.body (bE a.ns.length b) h)^BT.fin h else af
section
variable{K:Zm}
def GR(X:Txt P w K mg T G)(k:Nat)(h2:Fun K nm qual st f fd)(l:dY fn.ns fn.ps^cV st)(S:CSs (cV st) fn.ns fn.body^dg st)(N:kg K qual fd fn)
(D:mg tn=aa^.ref fa)(C:Z2 K^.ref fa=ah)(B:Binds K fd' ps [])(x:gi P w K mg base CX0 (2*k) fa fd' ps^spF P w K told):
 gi P w K mg base CX0 (2*k+1+1) f fd fn.ps^spF P w K^lE (pC tn told^aO T G k) G fn:=by
 refine vG h2 l (λt H Q E h=>?_) λd A J s H t Q E a j L h=>?_
 ·let(m,q,h,z,h',R,r,e,U):=h;unfold lE at e;split at e;rename_i c;exact rwe r.length c;cases e
 ·let(m,q,h,z,h',R,r,e,U):=h;unfold lE at e;split at e
  ·have O:Ok (dF CX0 P w K mg base fn.ns qual (cV st) f d A J s H E).nox (aO T G k) G (cV st) fn.ns:=by refine xK X (kh X k).1 (kh X k).2 rfl rfl rfl rfl rfl rfl rfl l.nd rfl j abW λ_ y M=>(oz (N y M) ?_);rintro t1 t2 ⟨c,Pt,t3,t4,t5,t6⟩ bm ob t7 t8 t9 t10 t11 t12;exact#[t2,(fh c Pt t3 (a.symm.trans t4) (abr L.kin t5) t6),by show qual++".<locals>."=_;exact rwe t1 rfl,bm,ob,aai L.kin L.glob t7,t8,L.kin _ _ t9,t10,t11,t12]
   refine(cY _ (sSs (KJ O D C B (j.mono^aal _) x) (λ_=>rfl) S) ?_);cases b:bg (pC _ _ _) G _ (bE _ _) h with
   |none=>replace e:=b ▸ e;cases e
   |some n =>
    replace e:=b ▸ e;refine#[m,_,h,n,R,iz r,b,?_];cases n with
    |rt y g =>
     intro v H' I Z i u;exact dU (fM e R Z i u) λF Y W V=>(U v _ _ Y W V)
    |nx s' g =>
     intro o H' I Z i _;let(F,Y,W,V):=fM e R Z i^.p .aC;exact U _ _ _ Y W V
    |_=>cases e
  cases e
end
end BS
end
section
end
section
namespace BS
open PySem PySem.Spec PyProof.Rows L2
variable{hp:Pos}{st:ZO}
@[reducible]noncomputable def Bs(A:Z7):Z7:={A with handled:=af}
def cxU(P:ZE)(w:ZW)(K:Zm)(g:ay->ψ aA)(d:au)(N:θ ay)(c:ay)(a:aak)(f:az)(h:aA)(A:Z7)(b:θ Env)(s:Zo)(H:Hp):Cx :=
 {dF CX0 P w K g d N c a f h A b s H E0 with calm:=ai,xe:=λ_ _=>False}
section
variable{K:Zm}
def zL
(S:dY N ps scope)(J:qF P w K mg base A outer s H)(L:m.length=ps.length)(r:dw m u)
(x:InCallC s s.heap.objs.size (bindL (abp qual scope s.heap.objs.size f cd).kindOf (ps.zip u) λ_=>af) (aeT (s.heap.objs.size+1) scope.names []) (bindC (abp qual scope s.heap.objs.size f cd).kindOf (ps.zip u) λ_=>af) M):
 Inv (cxU P w K mg base N qual scope f cd A outer s H) [] (L2.start N m) H M:=by
 have I:=ug (CX:=CX0) (E:=E0) S rfl (#[J.frames,J.mod,J.bs,J.bsz,J.jW,J.frf,J.aI,J.bare]:qF P w K _ _ (Bs A) _ s H) L r x;exact #[#[I.ok.mod,I.ok.kind,I.ok.glob,I.ok.blt,I.ok.above,I.ok.inj,I.ok.has,I.ok.cab,λz=>(aP z),aeZ J.frames,I.ok.stk,I.ok.exf,I.ok.bs,I.ok.bsz,I.ok.noex,I.ok.exfs,I.ok.jW,I.ok.frf],
  I.os,I.bare,I.base,I.loc,I.cell,I.free,I.freeC,I.pin,I.aI,I.len]
structure FnU(P:ZE)(w:ZW)(K:Zm)(mg:ay->ψ aA)(base:au)(k:Nat)(f:az)(fd:aap)(ps:θ ay)(sp:Sp):Prop where
 len:∀vs H Q E,sp vs H Q E->vs.length=ps.length
 run:∀(A:Z7)(outer:θ Env)(s:Zo)(H:Hp) (args:Args) (us:θ aA) (vs:θ V) (Q:VK) (E:XK),fQ k^Bs A->qF P w K mg base A outer s H->BindsTo s fd args^ps.zip us->dw vs us->sp vs H Q E →
  ao (ZI P w) A (.call (.ref f) args) (CR CX0 outer P w H s Q E) s
def Pk{kV:aA}
{osl:Array^ψ aA}(l:K.lookup f=aa #[oc,od,.func^aaF name R params body M dV kV doc pm an X ct,osl])(c:acj K X R=ah)(S:dY N ps M)
(len:∀vs H Q E,sp vs H Q E->vs.length=ps.length)
(U:∀ (A:Z7) (T:θ Env) (s:Zo) (H:Hp) (vs:θ V) (Q:VK) (E:XK),fQ k^Bs^A.deeper^abp R M s.heap.objs.size f X->sp vs H Q E →
  ∃ t,PSs (cxU P w K mg base N R M f X A T s H) body t/\t { nx:=λ_ H'=>Q .aC H',rt:=Q } (L2.start N vs) H):
 FnU P w K mg base (k+1) f (aaF name R params body M dV kV doc pm an X ct) ps sp:=by
 refine#[len,λA T s H h j vs Q E g Z C r W=>?_];have z:=len _ _ _ _ W;have i:K.In _:=Z.mod.kin.keeps λb o e=>(Z.bs b o e).1;have lim:=Z.mod.nolimit.keeps λb o e=>(Z.bs b o e).1;have O:∀y∈ps.zip j,M.names.lookup y.1=aa _\/(M.names.lookup y.1=aa _/\((aeT (s.heap.objs.size+1) _ []).lookup y.1).isSome=ah):=λ⟨n,v⟩ hy=>by
  rcases S.par n (ac0 hy).1 with q|q
  exact .inl q;exact .inr #[q,acA _ _ _^.inl q]
 refine codeAny_call_function g.depth (i _ _ l) rfl S.co S.gen rfl (ae2 i c)^C _ _ _ _ (ae0 S.kind O λF B G x=>?_);subst B;refine#[lim.keeps x.toInCall.keep,codeAny_func ?_];let(t,m,p):=U A _ s H _ Q E (g.deeper _) W;have I:=zL (cd:=X) (qual:=R) S Z z r x;refine aaa (m _ _ (L2.start N _) H _ I p) (λD d Y=>?_) λe d Y=>Y.elim;have fin:∀{L:L2.St}{H':Hp}{v:V}{u:aA},Inv (cxU P w K mg base N R M f X A _ s H) [] L _ d->RelV v u->Q v _->CE T P w H s Q u _ :=
  λ{L H' v u} J a q=>#[v,H',J.os,J.bare,J.base,J.aI,a,q]
 cases D with
 |ret u =>
  exact fV Y λv L H' J a q=>(fin J a q)
 |next =>
  exact fz Y fun L H' J q=>(fin (v:=V.aC) J rfl q)
 |_=>exact fz Y λ_ _ _ q=>(aat q)
def sC(a:aQ):θ aM->aL->ψ (aM×aL):=lE (λ_ _ _=>af) (λ_=>af) a
def Pn(l:∀x∈OE,mg x=af)(h2:Fun K nm qual st f fd)(q:dY fn.ns fn.ps^cV st)(N:CSs (cV st) fn.ns fn.body^dg st)(M:fS fn.ns=ai)(b:∀x,fn.ns.contains^BT.jF x=ai):
 FnU P w K mg base (k+1) f fd fn.ps^spF P w K^sC fn:=by
 let(oc,od,kV,T,pm,an,j,ct,osl,rfl,G,d):=h2.ex;refine Pk G d q (λB H Q E h=>?_) λA J s H B Q E o h=>?_
 ·let(m,U,h,z,S,R,r,e,V):=h;unfold sC lE at e;split at e;rename_i c;exact rwe r.length c;exact cT e
 ·let(m,U,h,z,S,R,r,e,V):=h;unfold sC lE at e;split at e
  ·have O:Ok (cxU P w K mg base fn.ns qual (cV st) f j A J s H) (λ_ _ _=>af) (λ_=>af) (cV st) fn.ns:=by refine#[rfl,rfl,q.nd,λz=>bM z^by refine rwe M ?_;decide,?_,abW,λx z e=>(cT e),λg U h r e=>(cT e),λc g U h r e=>(cT e),λc U h r e=>(cT e),l,λL U h r e=>(cT e),λ_ x I=>bM I^by refine rwe (b x) ?_;decide];show A.units+3+150<ae9;have o.un:A.units+3+16*k+200<ae9:=o.un;lia
   refine(cY _ (sSs O (λ_=>rfl) N) ?_);cases i:bg _ _ _ (bE _ _) h with
   |none=>rw[i]at e;exact cT e
   |some t =>
    rw[i]at e;refine#[m,_,h,t,R,iz r,i,?_];cases t with
    |rt y g =>
     intro v X F a n C;exact dU (fM e R a n C) λD Z Y W=>(V v _ _ Z Y W)
    |nx s' g =>
     intro u X F a n _;let(D,Z,Y,W):=fM e R a n^.p .aC;exact V _ _ _ Z Y W
    |_=>exact cT e
  exact cT e
end
def GS(F:FnU X.prog X.w X.K X.mg X.base k f fd ps R)(Y:fQ k^Bs X.A)(c:Gl X x)(Z:X.mg x=aa^.ref f)(b:Z2 X.K^.ref f=ah)(g:Binds X.K fd ps [])
(i:PA X (e::P) t)(O:(x==("__debug__":ay))=ai)(d:Z4 (e::P) X.env=(ai,eval e X.env)::Z4 P X.env)(L:(abH M^Z4 P X.env).any (·.1)=ai):
 PE X (.Call (.Name x p) (e::P) [] M)^wF R [] E0 t:=by
 intro W s V H Q I h;refine aaB^jm I c Z ?_ O;refine aa9 (h₀:=X.base) I.ok.mod.kin b (thn (i M W s V H _ I h) λm o ⟨n,v,I1,r,q⟩=>#[I1.kIn,?_]) d L;have q:R (n++[]) v Q E0:=q;have U:dw (n++[]) (m++[]):=r.append .nil;have a:(m++[]).length=ps.length:=by rw[←U.length];exact F.len _ _ _ _ q
 refine acS (codeAny_mono (F.run X.A X.stack o v #[m,[]] (m++[]) (n++[]) Q E0 Y I1.NB (g o m I1.kIn a) U q) λr l J=>?_);cases r with
 |error e=>exact aat J
 |ok j =>
  cases j with
  |ret u=>exact I1.after J|_=>exact aat J
def cxI(X:Cx)(x:az):Cx:={X with A:=X.A.mark^aa^.ref x,calm:=ai,xe:=λ_ _=>False}
def KM(I:Inv X Q σ H s)(O:s.heap.get? x=aa P)(N:P.cls=.ref C)(R:CN X.K c C)(Y:XT X.K c C)(m:H x=af)(i:x≠X.env.locals)(j:∀v,P.data≠.cell v)
(hp:∀p∈X.pn++Q,p.1≠x)(r:X.s₀.heap.get? x=af):Inv (cxI X x) Q σ (upd H x^.ext (excAt X.K c x)) s:=by
 have J:∀{b:az}{o:HO},H b=aa o->upd H x (.ext (excAt X.K c x)) b=aa o:=λ{b o} e=>by exact rwe (dD (λz=>by rw[z,m]at e;exact cT e)) e
 refine #[#[I.ok.mod,I.ok.kind,I.ok.glob,I.ok.blt,I.ok.above,I.ok.inj,I.ok.has,I.ok.cab,λz=>(aP z),I.ok.frames,I.ok.stk,I.ok.exf,I.ok.bs,I.ok.bsz,I.ok.noex,I.ok.exfs,I.ok.jW,I.ok.frf],
  I.os,I.bare,#[I.base.keep,I.base.slot,λb o e n l=>?_,I.base.there,λb E e=>J^I.base.tups b _ e,λb o u e=>J^I.base.frzs b o u e,λb F e=>?_],I.loc,I.cell,?_,λy a e=>?_,λp W=>?_,λb u e=>?_,I.len]
 exact rwe (dD (λz=>by rw[z]at e;have e:X.s₀.heap.get? x=aa o:=e;rw[r]at e;exact cT e))^I.base.free b o e n l;exact uxE (I.base.tbls b _ e) λL q=>#[L,J q];exact rwe (dD^aan i) I.free
 ·rw[dD _];exact I.freeC y a e
  ·intro z;refine fz (I.cell y a e) λv o U V=>?_;replace U:=O ▸ z ▸ U;cases U;exact j v V
 ·refine nM (I.pin p W) λh g f d Z=>?_;exact(pR h (by exact rwe (dD^hp p W) g) f d Z)
 ·by_cases z:b=x
  ·subst z;replace e:=fD ▸ e;cases e;refine(f6 ((fh P C R Y O N)) #[P,O] (λM G q k=>?_));exact mV q λo D B A w t=>((fh o D B A (k _ w) t))
  ·rw[dD z]at e;exact(I.aI b u e).stay (λ_ _ _ q=>q) (λ_ q=>J q) λ_ _ q=>J q
def Dw(a:X.Ok)(I:Inv (cxI X x) m σ H s):Inv X m σ H s :=
 #[a,I.os,I.bare,I.base,I.loc,I.cell,I.free,I.freeC,I.pin,I.aI,I.len]
section
variable{K:Zm}{E:XK}
def Dy{zt:θ (az×aq)}{σ:L2.St}{H1:Hp}{s1 s':Zo}{e:aA}{tn n rn c:ay}{C D fr:az}{fdr:aap}{pr:θ ay}{sp:Sp}{k i:Nat}{p1 p2 p3 p5 p6:Pos}{Wn:Hp->Prop}{R:VK}{Q:Flow->Zo->Prop}
(I:Inv (dF CX P w K mg base N qual scope f cd A outer s0 H0 E) zt σ H1 s1)(h:CX1 P w (dF CX P w K mg base N qual scope f cd A outer s0 H0 E).stack H1 s1 E1 e s')(hE1:∀C' d H',E1 (.ref C') d H'->C'=C/\Wn H')
(nd:N.Nodup)(hi:N[i]?=aa n)(Y:scope.names.lookup n=aa .local)(okn:dI n=ah)(hgD:Gl (dF CX P w K mg base N qual scope f cd A outer s0 H0 E) tn)(okD:dI tn=ah)(hmD:mg tn=aa^.ref D)(hgR:Gl (dF CX P w K mg base N qual scope f cd A outer s0 H0 E) rn)(okR:dI rn=ah)(hmR:mg rn=aa^.ref fr)
(hkR:Z2 K^.ref fr=ah)(hbR:Binds K fdr pr [])(FR:FnU P w K mg base k fr fdr pr sp)(hr:fQ k (dF CX P w K mg base N qual scope f cd A outer s0 H0 E).A)(cnC:CN K c C)(xt:XT K c C)(xC:lB K C)(xD:lB K D)(U:lD K C D=ah)
(g:∀H' x,Wn H'->H' x=af->sp [.ref x] (upd H' x^.ext (excAt K c x)) R E0)
(hQ:∀v u F H' s'',R v H'->RelV v u->Inv (dF CX P w K mg base N qual scope f cd A outer s0 H0 E) zt F H' s''->Q (.ret u) s''):
 av (ZI P w) (dF CX P w K mg base N qual scope f cd A outer s0 H0 E).A (acV e (dF CX P w K mg base N qual scope f cd A outer s0 H0 E).env) (λ_ s2=>av (ZI P w) (dF CX P w K mg base N qual scope f cd A outer s0 H0 E).A (setFlight e af) (λ_ s3 =>
  av (ZI P w) (dF CX P w K mg base N qual scope f cd A outer s0 H0 E).A (handleBy e (dF CX P w K mg base N qual scope f cd A outer s0 H0 E).env [.ExceptHandler (aa^.Name tn p1) (aa n) [.Return (aa^.Call (.Name rn p2) [.Name n p3] [] p5) p6] hp]) Q
   (dF CX P w K mg base N qual scope f cd A outer s0 H0 E).xe s3) (dF CX P w K mg base N qual scope f cd A outer s0 H0 E).xe s2) (dF CX P w K mg base N qual scope f cd A outer s0 H0 E).xe s':=by
 let(x,C',H',B,G,a0,rfl,e1,e2,un,ho,fl,s,hg,r,hE):=h;let(rfl,wn):=hE1 _ _ _ hE;have J:Inv (dF CX P w K mg base N qual scope f cd A outer s0 H0 E) zt σ H' s':=I.tZ (ch:=[]) e1 un ho e2 (λb z=>bM z^by simp);have l:∀{y:ay},dI y=ah->(y==("__debug__":ay))=ai:=λ{y} q=>(fN q).1;refine aeL I.ok.frames rfl fl λh4 Z M=>?_;refine wpAny_landsW Z λh5 j H=>?_;have t:Inv (dF CX P w K mg base N qual scope f cd A outer s0 H0 E) zt σ H' {s' with heap:=h5}:=qU I J s hg r j.1^M.trans H;let(ob,hob,hobc):=j.there;refine wpAny_handleBy_cons (codeAny_handlers_test ?_) (by intro q;cases q);refine abl t.ok.kind hgD (acD (by rw[t.ok.glob];exact t.mod.glob.keeps t.bk) hmD ?_)^l okD;let(bm,N1,nm,qn,bs,hdct,sn,sub,ab,col,dd,k0,k1,k2,k3,k5,mN,hC,hN,hni,T,lC):=xC.obj I.mod.kin;let(bm2,N2,nm2,qn2,bs2,hdct2,sn2,sub2,ab2,col2,dd2,j0,j1,j2,j3,j5,mN2,hD,hN2,hni2,T2,_):=xD.obj I.mod.kin;have lC:K.lookup C'=_:=lC;have hcD:(aaJ C'::bm).contains^.ref D=ah:=by unfold lD at U;rw[lC]at U;exact U
 refine mH (t.bk _ _ hC) (t.bk _ _ hD) hob hobc (T2.hasType rfl) hcD ?_;refine codeAny_handlers_suite_as ?_;refine lands_againW j λh6 fl6 sm6=>?_;have J6:Inv (dF CX P w K mg base N qual scope f cd A outer s0 H0 E) zt σ H' {s' with heap:=h6}:=qU I J s hg r fl6.1^(M.trans H).trans sm6;let(_,xB,_,oe,vs,_,_,_,V,(hoc,_),W,_):=fl6;have nl:x≠(dF CX P w K mg base N qual scope f cd A outer s0 H0 E).env.locals:=λz=>by let(m,(o,es,ep,L,O,_),_):=J6.loc;have L:h6.get? _=aa o:=L;rw[←z,V]at L;cases L;rw[W]at O;cases O
 have nH:H' x=af:=by
  cases q:H' x with
  |none=>rfl
  |some u =>
   let(o,q2):=obj_some^hg x u q;have:=r x o (by rw[q];exact λz=>nomatch z) q2;rw[xB]at this;exact cT this
 have nf:x∉(dF CX P w K mg base N qual scope f cd A outer s0 H0 E).fs:=λz=>by let(_,o,L,O):=J6.jW.mem z;have L:h6.get? _=aa o:=L;rw[V]at L;cases L;exact O _ W
 have ns:∀{b:az}{o:aq},s1.heap.get? b=aa o->b∉frs (dF CX P w K mg base N qual scope f cd A outer s0 H0 E).stack->b≠x:=λ{b o} q1 q2 z=>by let(o',q3,_):=s b o q1 q2;rw[z,xB]at q3;exact cT q3
 have hpn:∀p∈(dF CX P w K mg base N qual scope f cd A outer s0 H0 E).pn++zt,p.1≠x:=λp hp=>by
  let(q1,_,q3,q4,_):=I.pin p hp;refine ns q1 λz=>?_;rcases List.mem_cons.mp^I.kZ p.1 z with q|q
  exact q3 q;exact q4 q
 have hs0:s0.heap.get? x=af:=by
  cases q:s0.heap.get? x with
  |none=>rfl
  |some o =>
   let(o1,q1):=I.base.there x o q (by simp[dF]);exact bM rfl^ns q1^i0 I q nf
 refine pT J6 nd hi (.inl Y) (v:=.ref x) rfl (λs7 J7 S=>?_)^.inr Y;have h7:s7.heap.get? x=aa oe:=by
  let(a,S,ha):=S;have ne:x≠a:=by
   rcases ha with rfl|ha
   exact nl
   ·intro z;let(v,o,L,O):=J6.cell n a ha;have L:h6.get? _=aa o:=L;rw[←z,V]at L;cases L;rw[W]at O;cases O
  exact(S.2 x ne).trans V
 have J8:=KM (c:=c) J7 h7 hoc cnC xt nH nl (λv z=>by rw[W]at z;cases z) hpn hs0;have body:av (ZI P w) (cxI (dF CX P w K mg base N qual scope f cd A outer s0 H0 E) x).A (execs [.Return (aa^.Call (.Name rn p2) [.Name n p3] [] p5) p6] (dF CX P w K mg base N qual scope f cd A outer s0 H0 E).env)
  (SP (cxI (dF CX P w K mg base N qual scope f cd A outer s0 H0 E) x) zt {nx:=λ_ _=>False,rt:=R}) (λ_ _=>False) s7:=by
  have dn:(n==("__classdict__":ay))=ai:=(fN okn).2.1;refine(mX^yE^GS (X:=cxI (dF CX P w K mg base N qual scope f cd A outer s0 H0 E) x) FR #[rfl,hr.dp,hr.un] hgR hmR hkR hbR (iw (D8 (i:=i) hi (.inl Y) (l okn) dn) nP) (l okR) rfl rfl) zt s7 _ _ _ J8 ?_;have iσ:i<σ.length:=by rw[J6.len];exact(List.getElem?_eq_some_iff.mp hi).1
  exact#[.ref x,ZZ iσ,g H' x wn nH]
 refine aaa body (λfl s8 q=>?_) λ_ _ z=>z.elim;cases fl with
 |ret u =>
  let(v,F,H2,J9,rv,q):=q;let(m,hn,_):=J9.loc;show av _ _ (do bindName _ n .none;unbindBehindTheSuite _ n hp) _ _ _;exact wpAny_nameGoes Y hn (by rw[show(dF CX P w K mg base N qual scope f cd A outer s0 H0 E).env.scope.kind=.function from J.ok.kind];rfl) λh' m' hn' S=>hQ _ _ _ _ _ q rv^GJ (Dw J.ok J9) hn' S
 |_=>let(_,_,_,z):=q;exact z.elim
end
structure Uz(K:Zm)(D:az):Prop where
 all:∀c,nI c=ah->∃C,CN K c C/\XT K c C/\lB K C/\lD K C D=ah
def sD(F:FT)(R:BT.XF)(D:ay->Bool)(G:ay->ψ aM)(a J:aQ)(b:θ aM)(h:aL):ψ (aM×aL) :=
 if b.length=a.ps.length then (match BT.jE (bg F G a.body (bE a.ns.length b) h)^BT.fin h with
  |some r=>aa r
  |none=>match BT.rsS F R D G a.body (bE a.ns.length b) h with
   |some (c,d)=>if nI c then sC J [.x c] d else af
   | none=>af) else af
section
variable{K:Zm}
end
section
variable{P:ZE}{w:ZW}{K:Zm}{mg:ay->ψ aA}{base:au}{T TX:bq->ψ aQ}{G:ay->ψ aM}
end
def i6(c m:ay)(g:θ aM->aL->ψ (aM×aL))(F:FT):FT:=λx=>match x with
 |.f y=>F^.f y
 |.m O J=>if O=c/\J=m then g else F^.m O J
 |.l L=>F^.l L
def qk{c m:ay}{g:θ aM->aL->ψ (aM×aL)}{F:FT}:i6 c m g F^.m c m=g:=bK #[rfl,rfl]
def mJ{c m b a:ay}{g:θ aM->aL->ψ (aM×aL)}{F:FT}(h:¬(b=c/\a=m)):i6 c m g F^.m b a=F^.m b a:=bL h
def xV{X:Cx}{F:FT}{G:ay->ψ aM}{a:aak}{N:θ ay}(O:Ok X F G a N){c m:ay}{g:θ aM->aL->ψ (aM×aL)}(V:¬("__init__":ay)=m)
(h:OkM X.prog X.w X.K X.mg X.base X.A CX0 c m^spF X.prog X.w X.K g):Ok X (i6 c m g F) G a N :=
 #[O.hsc,O.hN,O.nd,O.calm,O.hu,O.own,O.glob,O.call,λJ U L W r e=>by
  by_cases q:J=c/\U=m
  ·let(rfl,rfl):=q;exact rwe qk h
  ·rw[mJ q]at e⊢;exact O.aE _ _ _ _ r e,λJ L W r e=>by
  rw[mJ (λq=>V q.2)] at e ⊢;exact O.mkc _ _ _ r e,O.blt,O.lam,O.lamx]
section
variable{P:ZE}{w:ZW}{K:Zm}{mg:ay->ψ aA}{base:au}{T:bq->ψ aQ}{G:ay->ψ aM}
def Po(X:Txt P w K mg T G)(k:Nat){b:aQ}{f:az}{h:aap}{a:ay}{J:aA}{A:Z7}{outer:θ Env}{s:Zo}{H:Hp}{E:XK}(Y:dY b.ns b.ps^cV st)(W:kg K a h b)(O:h.code=J)(L:Mod K mg base)
(V:fQ (2*k+1)^A.deeper^abp a (cV st) s.heap.objs.size f J):Ok (dF CX0 P w K mg base b.ns a (cV st) f J A outer s H E).nox (aO T G k) G (cV st) b.ns:=by
 refine xK X (kh X k).1 (kh X k).2 rfl rfl rfl rfl rfl rfl rfl Y.nd rfl V abW λ_ y U=>(oz (W y U) ?_);rintro r q ⟨c,v,p,o,n,m⟩ u t l j i g e d;exact#[q,(fh c v p (O.symm.trans o) (abr L.kin n) m),by show a++".<locals>."=_;exact rwe r rfl,u,t,aai L.kin L.glob l,j,L.kin _ _ i,g,e,d]
end
section
variable{CX:CXT}{P:ZE}{w:ZW}{K:Zm}{mg:ay->ψ aA}{base:au}{N:θ ay}{qual:ay}{scope:aak}{f:az}{cd:aA}{A:Z7}{outer:θ Env}{s0:Zo}{H0:Hp}{E E1:XK}
def Dz{zt:θ (az×aq)}{σ:L2.St}{H1:Hp}{F s':Zo}{e:aA}{k:ay}{C D:az}{j:Nat}{p1 p2 p3:Pos}{Wn:Hp->Prop}{Q:Flow->Zo->Prop}
(I:Inv (dF CX P w K mg base N qual scope f cd A outer s0 H0 E) zt σ H1 F)(h:CX1 P w (dF CX P w K mg base N qual scope f cd A outer s0 H0 E).stack H1 F E1 e s')(u:∀i d H',E1 (.ref i) d H'->i=C/\Wn H')
(r:Gl (dF CX P w K mg base N qual scope f cd A outer s0 H0 E) k)(m:dI k=ah)(p:mg k=aa^.ref D)(X:lB K C)(xD:lB K D)(L:lD K C D=ah)
(hQ:∀H' Z,Wn H'->Inv (dF CX P w K mg base N qual scope f cd A outer s0 H0 E) zt σ H' Z->Q (.ret .none) Z):
 av (ZI P w) (dF CX P w K mg base N qual scope f cd A outer s0 H0 E).A (acV e (dF CX P w K mg base N qual scope f cd A outer s0 H0 E).env) (λ_ s2=>av (ZI P w) (dF CX P w K mg base N qual scope f cd A outer s0 H0 E).A (setFlight e af) (λ_ s3 =>
  av (ZI P w) (dF CX P w K mg base N qual scope f cd A outer s0 H0 E).A (handleBy e (dF CX P w K mg base N qual scope f cd A outer s0 H0 E).env [.ExceptHandler (aa^.Name k p1) af [.Return (aa^.Constant .none j p2) p3] hp]) Q
   (dF CX P w K mg base N qual scope f cd A outer s0 H0 E).xe s3) (dF CX P w K mg base N qual scope f cd A outer s0 H0 E).xe s2) (dF CX P w K mg base N qual scope f cd A outer s0 H0 E).xe s':=by
 let(x,i,H',B,G,a0,rfl,e1,e2,un,ho,fl,g,M,c,hE):=h;let(rfl,wn):=u _ _ _ hE;have J:Inv (dF CX P w K mg base N qual scope f cd A outer s0 H0 E) zt σ H' s':=I.tZ (ch:=[]) e1 un ho e2 (λb z=>bM z^by simp);refine aeL I.ok.frames rfl fl λh4 O Y=>?_;refine wpAny_landsW O λh5 U W=>?_;have V:Inv (dF CX P w K mg base N qual scope f cd A outer s0 H0 E) zt σ H' {s' with heap:=h5}:=qU I J g M c U.1^Y.trans W;let(ob,o,a):=U.there;refine wpAny_handleBy_cons (codeAny_handlers_test ?_) (by intro q;cases q);refine abl V.ok.kind r (acD (by rw[V.ok.glob];exact V.mod.glob.keeps V.bk) p ?_) (fN m).1;let(bm,N1,nm,qn,bs,R,sn,sub,ab,col,dd,k0,k1,k2,k3,k5,mN,hC,hN,hni,T,n):=X.obj I.mod.kin;let(bm2,N2,nm2,qn2,bs2,s,sn2,y,ab2,S,dd2,j0,j1,j2,j3,j5,mN2,hD,hN2,H,T2,_):=xD.obj I.mod.kin;have n:K.lookup i=_:=n;have t:(aaJ i::bm).contains^.ref D=ah:=by unfold lD at L;rw[n]at L;exact L
 refine mH (V.bk _ _ hC) (V.bk _ _ hD) o a (T2.hasType rfl) t ?_;refine codeAny_handlers_suite ?_;refine lands_againW U λh6 v l=>?_;have J6:Inv (dF CX P w K mg base N qual scope f cd A outer s0 H0 E) zt σ H' {s' with heap:=h6}:=qU I J g M c v.1^(Y.trans W).trans l;exact abI^acT^Constant_none^hQ _ _ wn J6
end
def qC(F:FT)(R:BT.XF)(D:ay->Bool)(G:ay->ψ aM)(a:aQ)(e:ay)(b:θ aM)(h:aL):ψ (aM×aL) :=
 if b.length=a.ps.length then (match bg F G a.body (bE a.ns.length b) h with
  |some^.rt y g=>BT.fin h y g|some _=>af
  |none=>match BT.rsS F R D G a.body (bE a.ns.length b) h with
   |some (c,d)=>if c=e then BT.fin h (.p .aC) d else af
   | none=>af) else af
section
variable{P:ZE}{w:ZW}{K:Zm}{mg:ay->ψ aA}{base:au}{T TX:bq->ψ aQ}{G:ay->ψ aM}
def GT{rn:θ ay}(X:Txt P w K mg T G)(Y:xT rn K mg TX){k:Nat}{fn:aQ}{a cn:ay}{f:az}{fd:aap}{nm qual:ay}{body:θ ZO}{C D:az}{j:Nat}{p1 p2 p3 pos:Pos}(cnC:CN K cn C)(xC:lB K C)(Z:lD K C D=ah)
(h2:Fun K nm qual st f fd)(h3:dY fn.ns fn.ps^cV st)(hB:dg st=[.Try body [.ExceptHandler (aa^.Name a p1) af [.Return (aa^.Constant .none j p2) p3] hp] [] [] pos])
(h5:CSs (cV st) fn.ns fn.body body)(h6:gE (cV st) fn.ns [] fn.body body)(N:∀x,fn.ns.contains^BT.jF x=ai)
(hgD:dJ (cV st) a=ah)(M:dI a=ah)(S:mg a=aa^.ref D)(o:lB K D):
 gi P w K mg base CX0 (2*k+1+1) f fd fn.ps^spF P w K^qC (aO T G k) (BT.fJ T TX G k) (BT.dk T) G fn cn:=by
 let(oc,od,kV,doc,pm,an,cdv,ct,osl,rfl,lk,hcd):=h2.ex;refine Aw lk hcd h3 (λB H Q E h=>?_) λA outer s H B Q E hr h=>?_
 ·let(m,ws,h,z,h',R,r,e,b):=h;refine rwe r.length ?_;unfold qC at e;split at e;rename_i c;exact c;exact cT e
 ·let(m,ws,h,z,h',R,r,e,b):=h;unfold qC at e;split at e
  ·have O:=ML (CX:=CX0) (base:=base) (outer:=outer) (H:=H) (E:=E) (ps:=fn.ps) X h3.nd N hr;refine rwe hB #[λDd σ L=>σ=L2.start fn.ns B/\L=H/\(∀v U,Dd.rt v U↔Q v U),mX ?_,rfl,rfl,λ_ _=>Iff.rfl];intro zt s1 σ H1 Dd I ⟨q1,q2,q3⟩;subst q1 q2;refine aeB ?_;cases gg:bg (aO T G k) G fn.body (bE fn.ns.length ws) h with
   |some fl =>
    rw[gg]at e;cases fl with
    |rt y g =>
     refine thn (sSs (GD (zt:=zt) O aaW) (λ_=>rfl) h5 [] s1 (L2.start fn.ns B) H1 {nx:=λ_ _=>False,rt:=Q} (xJ I) #[m,_,h,_,R,iz r,gg,?_]) λfw s2 q=>?_
     ·intro v L m' t R' r';exact dU (fM e R t R' r') λV n l i=>(b v L V n l i)
     ·cases fw with
      |ret u =>
       exact fV q λv W L J rv z=>((ji v W L (uB I.ok J) rv^(q3 _ _).mpr z))
      |_=>exact fz q λ_ _ _ z=>z.elim
    |_=>exact cT e
   |none =>
    replace e:=gg ▸ e;cases g1:BT.rsS _ (BT.fJ T _ G k) _ G _ (bE _ _) h with
    |none=>replace e:=g1 ▸ e;exact cT e
    |some cq =>
     let(c,hq):=cq;replace e:=g1 ▸ e;simp only at e;split at e
     ·rename_i hc;subst hc;refine zI (R:=BT.fJ T _ G k) (E:=λcv _ U=>cv=.ref C/\∃V,Ext m _ V U/\RH K V U _) (GD O aaW) (zK (base:=base) X Y (pB X Y k).1 (pB X Y k).2 rfl rfl rfl rfl rfl hr ?_) (bM rfl) (λ_=>rfl) h6 _ _ (L2.start _ _) _ _ (xJ I) #[m,_,h,c,hq,R,iz r,g1,λL m' t R' C' hC'=>(lU (by exact rwe (hC'.inj cnC) rfl) m' t R')];intro F W U s2 ee s3 I' hcx;refine Dz (Wn:=λU=>∃V,Ext m _ _ _/\RH K _ _ _) (uB I.ok I') hcx (λC' d L z=>#[by have:=z.1;cases this;rfl,z.2]) (dZ O hgD) M S xC o Z λL s'' wn J=>(cX wn λV x2 R2=>?_);let(m4,n,l,i):=fM e R x2 R2^.p .aC;exact(ji .aC _ L J rfl^(q3 _ _).mpr^b _ _ _ n l i)
     exact cT e
  exact cT e
def DA(X:Txt P w K mg T G)(k:Nat){fn:aQ}{f:az}{fd:aap}{nm qual:ay}(h2:Fun K nm qual st f fd)(n:dY fn.ns fn.ps^cV st)(M:CSs (cV st) fn.ns fn.body^dg st)(I:kg K qual fd fn)
{c m:ay}{g:θ aM->aL->ψ (aM×aL)}
(D:¬("__init__":ay)=m){C a:az}{b:aap}{pg:θ ay}(g1:l9 K c C)(g2:uV K C m a)(g3:Binds K b pg [])(S:gi P w K mg base CX0 (2*k) a b pg^spF P w K g):
 gi P w K mg base CX0 (2*k+1+1) f fd fn.ps^spF P w K^lE (i6 c m g^aO T G k) G fn:=by
 refine vG h2 n (λt H Q E h=>?_) λcdv A outer s H t Q E Y l F h=>?_
 ·let(m,j,h,z,N,R,r,e,J):=h;unfold lE at e;split at e;rename_i c;rw[r.length];exact c;cases e
 ·let(x,j,h,z,N,R,r,e,J):=h;unfold lE at e;split at e
  ·have O':=xV (c:=c) (Po X k (f:=f) (outer:=outer) (H:=H) (E:=E) n I Y F l) D #[C,a,b,pg,2*k,g1,g2,g3,l.mono^aal _,S];refine#[_,sSs O' (λ_=>rfl) M,?_];cases Z:bg (i6 c m g^aO T G k) G fn.body (bE fn.ns.length j) h with
   |none=>rw[Z]at e;cases e
   |some o =>
    rw[Z]at e;refine#[x,_,h,o,R,iz r,Z,?_];cases o with
    |rt y g =>
     intro v i B V d u;let(W,U,O,L):=fM e R V d u;exact J v i W U O L
    |nx s' g =>
     intro q i B V d _;let(W,U,O,L):=fM (v:=.aC) e R V d^.p .aC;exact J .aC i W U O L
    |_=>cases e
  cases e
end
section
variable{P:ZE}{w:ZW}{K:Zm}{mg:ay->ψ aA}{base:au}{T TX:bq->ψ aQ}{G:ay->ψ aM}
def DB{rn:θ ay}(X:Txt P w K mg T G)(Y:xT rn K mg TX){k:Nat}{fn a:aQ}{tn n rn:ay}{f fr:az}{fd B:aap}{nm qual:ay}{body:θ ZO}{D:az}{i:Nat}{p1 p2 p3 p5 p6 pos:Pos}(Z:Uz K D)
(h2:Fun K nm qual st f fd)(h3:dY fn.ns fn.ps^cV st)(hB:dg st=[.Try body [.ExceptHandler (aa^.Name tn p1) (aa n) [.Return (aa^.Call (.Name rn p2) [.Name n p3] [] p5) p6] hp] [] [] pos])
(h5:CSs (cV st) fn.ns fn.body body)(h6:gE (cV st) fn.ns [] fn.body body)(hnt:∀x,fn.ns.contains^BT.jF x=ai)(hi:fn.ns[i]?=aa n)(hln:(cV st).names.lookup n=aa .local)(okn:dI n=ah)
(hgD:dJ (cV st) tn=ah)(okD:dI tn=ah)(hmD:mg tn=aa^.ref D)(xD':lB K D)(hgR:dJ (cV st) rn=ah)(okR:dI rn=ah)(hmR:mg rn=aa^.ref fr)(hkR:Z2 K^.ref fr=ah)(hbR:Binds K B a.ps [])(FR:FnU P w K mg base 1 fr B a.ps^spF P w K^sC a)
{c m:ay}{g:θ aM->aL->ψ (aM×aL)}(hm:¬("__init__":ay)=m){C1 ga:az}{fg:aap}{pg:θ ay}(t:l9 K c C1)(g2:uV K C1 m ga)(g3:Binds K fg pg [])(g5:gi P w K mg base CX0 (2*k) ga fg pg^spF P w K g):
 gi P w K mg base CX0 (2*k+1+1) f fd fn.ps^spF P w K^sD (i6 c m g^aO T G k) (BT.fJ T TX G k) (BT.dk T) G fn a:=by
 let(oc,od,kV,doc,pm,an,cdv,ct,osl,rfl,lk,hcd):=h2.ex;refine Aw lk hcd h3 (λS H Q E h=>?_) λA outer s H S Q E hr h=>?_
 ·let(l,N,h,z,h',R,r,e,M):=h;rw[r.length];unfold sD at e;split at e;rename_i c;exact c;exact cT e
 ·let(l,N,h,z,h',R,r,e,M):=h;unfold sD at e;split at e
  ·have O:=xV (c:=c) (g:=g) (ML (CX:=CX0) (base:=base) (outer:=outer) (H:=H) (E:=E) (ps:=fn.ps) X h3.nd hnt hr) hm #[C1,ga,fg,pg,2*k,t,g2,g3,hr.mono^aal _,g5];rw[hB];refine#[λDd σ V=>σ=L2.start fn.ns S/\V=H/\(∀v U,Dd.rt v U↔Q v U)/\∀L U,Dd.nx L U↔Q .aC U,mX ?_,rfl,rfl,λ_ _=>Iff.rfl,λ_ _=>Iff.rfl];intro zt s1 σ H1 Dd I ⟨q1,q2,q3,q4⟩;subst q1 q2;refine aeB ?_;cases b:BT.jE (bg (i6 c m g^aO T G k) G fn.body (bE fn.ns.length N) h)^BT.fin h with
   |some rr =>
    rw[b]at e;cases e;cases gg:bg (i6 c m g^aO T G k) G fn.body (bE fn.ns.length N) h with
    |none=>rw[gg]at b;exact cT b
    |some fl =>
     rw[gg]at b;refine thn (sSs (GD (zt:=zt) O aaW) (λ_=>rfl) h5 [] s1 (L2.start fn.ns S) H1 {nx:=λ_ U=>Q .aC U,rt:=Q} (xJ I) #[l,_,h,fl,R,iz r,gg,?_]) λfw s2 q=>?_
     ·cases fl with
      |rt y g =>
       intro v V m' j F r';let(W,y1,y2,y3):=fM b R j F r';exact M v V W y1 y2 y3
      |nx s' g =>
       intro L V m' j F _;let(W,y1,y2,y3):=fM (v:=.aC) b R j F^.p .aC;exact M .aC V W y1 y2 y3
      |_=>exact cT b
     ·cases fw with
      |next =>
       let(L,V,J,z):=q;exact acu #[L,V,uB I.ok J,(q4 _ _).mpr z]
      |ret u =>
       let(v,L,V,J,rv,z):=q;exact#[v,L,V,uB I.ok J,rv,(q3 _ _).mpr z]
      |_=>let(_,_,_,z):=q;exact z.elim
   |none =>
    rw[b]at e;simp only at e;cases t:BT.rsS (i6 c m g^aO T G k) (BT.fJ T TX G k) (BT.dk T) G fn.body (bE fn.ns.length N) h with
    |none=>rw[t]at e;exact cT e
    |some cq =>
     let(cc,hq):=cq;rw[t]at e;simp only at e;split at e
     ·rename_i hxn;let(C,cnC,xt,xC,o):=Z.all cc hxn;refine zI (R:=BT.fJ T TX G k) (E:=λcv _ U=>cv=.ref C/\∃W,Ext l H1 W U/\RH K W U hq) (ra:=[]) (GD (zt:=zt) O aaW) (zK (base:=base) X Y (pB X Y k).1 (pB X Y k).2 rfl rfl rfl rfl rfl hr ?_) (λz=>bM rfl z) (λ_=>rfl) h6 [] s1 (L2.start fn.ns S) H1 _ (xJ I) #[l,_,h,cc,hq,R,iz r,t,λV m' j F C' hC'=>#[by rw[hC'.inj cnC],m',j,F]]
      ·intro pins' L U s2 ee s3 I' hcx;refine Dy (Wn:=λU=>∃W,Ext l H1 W U/\RH K W U hq) (R:=Q) (uB I.ok I') hcx (λC' d V z=>#[by have:=z.1;cases this;rfl,z.2]) h3.nd hi hln okn (dZ O hgD) okD hmD (dZ O hgR) okR hmR hkR hbR FR (hr.mono ()) cnC xt xC xD' o (λV x wn hx=>?_) λv u L V s'' q rv J=>#[v,L,V,J,rv,(q3 _ _).mpr q];let(W,x2,R2):=wn;refine#[W,[.x cc],hq,z,h',R2.new hx,.cons (.x fD (R2.mq hx) #[C,xt]) .nil,e,λv H3 m3 x3 R3 r3=>?_];exact M v H3 m3 ((x2.trans^j8 hx).trans x3) R3 r3
     exact cT e
  exact cT e
end
end BS
end
section
namespace BT
open PySem
variable{aF:θ Int}{g2:HH}{gv most:Nat}{li lj rs:θ Nat}
def gO:Fn:=#[["part"],["part"], (.seq (.v (.z .eq (.y (.aD "INNER_COUNTS")^.y (.v 0)^.j^ω 0)^.j^ω 0) (.ret^.aB .nil) .nil)^.ret^.n (.v 0) (cS^.j^ω 1) .nil)]
def pF:Fn:=#[[],[], (.ret^.aB^cN (.j^ω 0) (.bin .mul (.aB^cS^.j^ω 0)^.bi .len ai^cS^.aD "LETTERS") (.bin .mul (.aB^cS^.j^ω 0)^.aD "CELL_COUNT") (.aB .nil) (.j^ω 0)^.aB .nil)]
def ko:Fn:=#[["term"],["term","parts","waiting","part"], (.seq (.set 1^.aj ah .nil)^.seq (.set 2^.aj ah^cS^.v 0)^.seq (.j (.z .gt (.bi .len ai^cS^.v 2)^.j^ω 0)^.seq (.set 3^.me .pop (.v 2) .nil)^.seq (.ex^.me .append (.v 1)^cS^.v 3)^.ex^.me .extend (.v 2)^cS^.call "inner_sums"^cS^.v 3)^.ret^.v 1)]
def ni:Fn:=#[["word","one","other"],["word","one","other"], (.seq (.v (.z .eq (.v 0)^.j^.str "less") (.ret^.ite (.z .lt (.v 1)^.v 2) (.j^ω 1)^.j^ω 0) .nil)^.seq (.v (.z .eq (.v 0)^.j^.str "add") (.ret^.bin .mod (.bin .add (.v 1)^.v 2)^.aD "WORTH_COUNT") .nil)^.seq (.v (.z .eq (.v 0)^.j^.str "sub") (.ret^.bin .mod (.bin .sub (.v 1)^.v 2)^.aD "WORTH_COUNT") .nil)^.ret^.bin .mod (.bin .mul (.v 1)^.v 2)^.aD "WORTH_COUNT")]
def iQ:Fn:=#[["thing"],["thing"], (.ret^.z .mem (.v 0)^.aD "LETTERS")]
def i7:Fn:=#[["state","thing"],["state","thing"], (.seq (.v (.call "is_name"^cS^.v 1) (.ret^.y (.y (.v 0)^.aD "NAMES")^.me .tindex (.aD "LETTERS")^cS^.v 1) .nil)^.seq (.ex^.call "check_thing"^cS^.v 1)^.ret^.y (.y (.v 0)^.aD "CELLS")^.v 1)]
def gw:Fn:=#[["part","worths","state"],["part","worths","state","word","last"], (.seq (.set 3^.y (.v 0)^.j^ω 0)^.seq (.v (.z .eq (.v 3)^.j^.str "num") (.ret^.y (.v 0)^.j^ω 1) .nil)^.seq (.v (.z .eq (.v 3)^.j^.str "name") (.ret^.call "worth_in"^cR (.v 2)^.y (.v 0)^.j^ω 1) .nil)^.seq (.set 4^.me .pop (.v 1) .nil)^.seq (.v (.z .eq (.v 3)^.j^.str "cell") (.ret^.y (.y (.v 2)^.aD "CELLS")^.bin .mod (.v 4)^.aD "CELL_COUNT") .nil)^.ret^.call "of_two"^cQ (.v 3) (.me .pop (.v 1) .nil)^.v 4)]
def kq:Fn:=#[["term","state"],["term","state","worths","part"], (.seq (.set 2^.aj ah .nil)^.seq (.for [(3,"part")] .rev (cS^.call "laid_out"^cS^.v 0)^.ex^.me .append (.v 2)^cS^.call "worth_of"^cQ (.v 3) (.v 2)^.v 1)^.ret^.y (.v 2)^.j^ω 0)]
def lF:Fn:=#[["term","state"],["term","state"], (.ret^.bin .mod (.call "reckoned"^cR (.v 0)^.v 1)^.aD "CELL_COUNT")]
def jL:Fn:=#[["program","state"],["program","state","word"], (.seq (.v (.z .ge (.y (.v 1)^.aD "ROW")^.bi .len ai^cS^.v 0) (.ret^.j^.bl ah) .nil)^.seq (.set 2^.y (.y (.v 0)^.y (.v 1)^.aD "ROW")^.j^ω 0)^.seq (.v (.z .eq (.v 2)^.j^.str "back") (.ret^.z .eq (.bi .len ai^cS^.y (.v 1)^.aD "CALLS")^.j^ω 0) .nil)^.seq (.v (.z .eq (.v 2)^.j^.str "call") (.ret^.z .ge (.bi .len ai^cS^.y (.v 1)^.aD "CALLS")^.aD "MOST_CALLS") .nil)^.ret^.z .eq (.v 2)^.j^.str "stop")]
def gU:Fn:=#[["row","state"],["row","state","word"], (.seq (.set 2^.y (.v 0)^.j^ω 0)^.seq (.v (.or (.z .eq (.v 2)^.j^.str "jump")^.z .eq (.v 2)^.j^.str "call") (.ret^.y (.v 0)^.j^ω 1) .nil)^.seq (.v (.z .eq (.v 2)^.j^.str "back") (.ret^.y (.y (.v 1)^.aD "CALLS")^.neg^.j^ω 1) .nil)^.seq (.v (.and (.z .eq (.v 2)^.j^.str "unless")^.z .eq (.call "reckoned"^cR (.y (.v 0)^.j^ω 1)^.v 1)^.j^ω 0) (.ret^.y (.v 0)^.j^ω 2) .nil)^.ret^.bin .add (.y (.v 1)^.aD "ROW")^.j^ω 1)]
def iT:Fn:=#[["worths","number","worth"],["worths","number","worth"], (.ret^.bin .add (.bin .add (.n (.v 0) .nil^cS^.v 1)^.aB^cS^.v 2)^.n (.v 0) (cS^.bin .add (.v 1)^.j^ω 1) .nil)]
def jo:Fn:=#[["state","name","worth"],["state","name","worth"], (.ret^.call "with_worth"^cQ (.y (.v 0)^.aD "NAMES") (.me .tindex (.aD "LETTERS")^cS^.v 1)^.v 2)]
def jM:Fn:=#[["asked","number"],["asked","number"], (.ret^.ite (.z .lt (.v 1)^.bi .len ai^cS^.v 0) (.y (.v 0)^.v 1)^.j^ω 0)]
def lG:Fn:=#[["program","asked","state"],["program","asked","state","row","word","behind"], (.seq (.set 3^.y (.v 0)^.y (.v 2)^.aD "ROW")^.seq (.set 4^.y (.v 3)^.j^ω 0)^.seq (.set 5^.bi .list ah^cS^.v 2)^.seq (.put 5 (.aD "ROW")^.call "place_behind"^cR (.v 3)^.v 2)^.seq (.v (.z .eq (.v 4)^.j^.str "set") (.put 5 (.aD "NAMES")^.call "with_name"^cQ (.v 2) (.y (.v 3)^.j^ω 1)^.call "reckoned"^cR (.y (.v 3)^.j^ω 2)^.v 2)^.v (.z .eq (.v 4)^.j^.str "put") (.put 5 (.aD "CELLS")^.call "with_worth"^cQ (.y (.v 2)^.aD "CELLS") (.call "cell_by"^cR (.y (.v 3)^.j^ω 1)^.v 2)^.call "reckoned"^cR (.y (.v 3)^.j^ω 2)^.v 2)^.v (.z .eq (.v 4)^.j^.str "ask") (.seq (.put 5 (.aD "NAMES")^.call "with_name"^cQ (.v 2) (.y (.v 3)^.j^ω 1)^.call "brought"^cR (.v 1)^.y (.v 2)^.aD "ASKED")^.put 5 (.aD "ASKED")^.bin .add (.y (.v 2)^.aD "ASKED")^.j^ω 1)^.v (.z .eq (.v 4)^.j^.str "say") (.put 5 (.aD "SAID")^.bin .add (.y (.v 2)^.aD "SAID")^.aB^cS^.call "reckoned"^cR (.y (.v 3)^.j^ω 1)^.v 2)^.v (.z .eq (.v 4)^.j^.str "call") (.put 5 (.aD "CALLS")^.bin .add (.y (.v 2)^.aD "CALLS")^.aB^cS^.bin .add (.y (.v 2)^.aD "ROW")^.j^ω 1)^.v (.z .eq (.v 4)^.j^.str "back") (.put 5 (.aD "CALLS")^.n (.y (.v 2)^.aD "CALLS") .nil^cS^.neg^.j^ω 1) .nil)^.ret^.bi .tuple ai^cS^.v 5)]
def Bt:ZC s=ZC t↔s=t:=by
 constructor
 ·intro h;rw[ae1,ae1]at h;have L:=by simpa using (bS (λx=>x.cps.toList) h)
  have inj:∀(a b:θ _),a.map Char.toNat=b.map Char.toNat->a=b:=by
   intro a
   induction a with
   |nil=>intro b h;cases b with
    |nil=>rfl|cons _ _=>simp at h
   |cons x U J=>intro b h;cases b with
    |nil=>simp at h
    |cons y O =>
     simp![ZY,abY]at h;exact rwe (Char.toNat_inj.mp h.1)^rwe (J _ h.2) rfl
  exact String.toList_inj.mp^inj _ _ L
 intro h;exact rwe h rfl
abbrev Wd(s t:String):(ZC s==ZC t)=(s==t):=by
 by_cases h:s=t
 subst h;simp;exact rwe (beq_eq_false_iff_ne.mpr (λe=>h^Bt.mp e))^rwe (beq_eq_false_iff_ne.mpr h) rfl
abbrev XN(s t:String):(ZC s=ZC t)=(s=t):=propext Bt
abbrev Zg(h:θ α)(a:α)(r:θ α):(h++a::r)[h.length]?=aa a:=by simp
abbrev UA(h:θ α)(a b:α)(r:θ α):(h++a::b::r)[h.length+1]?=aa b:=by simp
abbrev Zh(h:θ α)(a x:α)(r:θ α):(h++a::r).set h.length x=h++x::r:=by simp
abbrev Zi(h:θ α)(a b x:α)(r:θ α):(h++a::b::r).set (h.length+1) x=h++a::x::r:=by simp
def cZ(h:HH)(w:W):fin h w h=aa (w,h):=by simp[fin]
def pG(h g:HH)(d:D):fin h (.p d) (h++g)=aa (.p d,h):=by
 unfold fin;cases g with
 |_=>simp
abbrev XQ(h:HH)(a:Cl)(r:HH):lat (h++a::r) h.length=rK a:=by simp[lat]
abbrev Zj(h:HH)(a b:Cl)(r:HH):lat (h++a::b::r) (h.length+1)=rK b:=by unfold lat;rw[UA];rfl
abbrev Zk(h:HH)(a:Cl)(r:HH):oat (h++a::r) h.length=tL a:=by simp[oat]
abbrev Zl(h:HH)(a b:Cl)(r:HH):oat (h++a::b::r) (h.length+1)=tL b:=by unfold oat;rw[UA];rfl
def KN(e:lat h n=aa m)(c:Cl):lat (h.set n c) n=rK c:=by
 unfold lat at e⊢;cases g:h[n]? with
 |none=>replace e:=g ▸ e;exact iy e|some q=>refine rwe List.getElem?_set_self' ?_;refine rwe g ?_;rfl
def UB(h:HH)(a:θ D)(g:HH):fin h (.r h.length) (h++.l a::g)=aa (.p^.aj a,h):=by unfold fin;simp
def Bu(h a:HH)(w:W)(e:a.length=h.length):fin h w a=aa (w,a):=by simp[fin,e]
structure Prg(T:FK->ψ Fn)(G:ay->ψ W):Prop where
 inner_sums:T "inner_sums"=aa gO
 begun:T "begun"=aa pF
 laid_out:T "laid_out"=aa ko
 of_two:T "of_two"=aa ni
 worth_of:T "worth_of"=aa gw
 is_name:T "is_name"=aa iQ
 worth_in:T "worth_in"=aa i7
 reckoned:T "reckoned"=aa kq
 cell_by:T "cell_by"=aa lF
 is_over:T "is_over"=aa jL
 place_behind:T "place_behind"=aa gU
 with_worth:T "with_worth"=aa iT
 with_name:T "with_name"=aa jo
 brought:T "brought"=aa jM
 stepped:T "stepped"=aa lG
 LETTERS:G "LETTERS"=aa^.p^.aB [.str "a",.str "b",.str "c",.str "d",.str "e",.str "f"]
 CELL_COUNT:G "CELL_COUNT"=aa^.p^ω 4
 WORTH_COUNT:G "WORTH_COUNT"=aa^.p^ω 10007
 INNER:G "INNER_COUNTS"=aa^.k^.t [("num",ω 0),("name",ω 0),("cell",ω 1),("add",ω 2),("sub",ω 2),("mul",ω 2),("less",ω 2)]
 ROW:G "ROW"=aa^.p^ω 0
 NAMES:G "NAMES"=aa^.p^ω 1
 CELLS:G "CELLS"=aa^.p^ω 2
 CALLS:G "CALLS"=aa^.p^ω 3
 ASKED:G "ASKED"=aa^.p^ω 4
 SAID:G "SAID"=aa^.p^ω 5
 MOST_CALLS:G "MOST_CALLS"=aa^.p^ω 6
inductive Op
 |add|sub|mul|less
def Op.w:Op->String
 |.add=>"add" |.sub=>"sub" |.mul=>"mul" |.less=>"less"
inductive Nm
 |a|b|c|d|e|f
def Nm.w:Nm->String
 |.a=>"a" |.b=>"b" |.c=>"c" |.d=>"d" |.e=>"e" |.f=>"f"
def Nm.ix:Nm->Nat
 |.a=>0|.b=>1|.c=>2|.d=>3|.e=>4|.f=>5
def Nm.GU(x:Nm):x.ix<6:=by cases x<;>decide
inductive Sm
 |num(n:Int)
 |nam(i:Nm)
 |cell(s:Sm)
 |two(o:Op)(s t:Sm)
def Sm.enc:Sm->D
 |.num n=>.aB [.str "num",ω n]|.nam i=>.aB [.str "name",.str i.w]|.cell s=>.aB [.str "cell",s.enc]|.two o s t=>.aB [.str o.w,s.enc,t.enc]
def Sm.size:Sm->Nat
 |.num _=>1|.nam _=>1|.cell s=>s.size+1|.two _ s t=>s.size+t.size+1
def Sm.lay:Sm->θ Sm
 |.num n=>[.num n]|.nam i=>[.nam i]|.cell s=>.cell s::s.lay|.two o s t=>.two o s t::(t.lay++s.lay)
def Sm.subs:Sm->θ Sm
 |.num _=>[]|.nam _=>[]|.cell s=>[s]|.two _ s t=>[s,t]
def Wth(n:Int):Prop:=0<=n/\n<=10006
def Sm.ok:Sm->Prop
 |.num n=>Wth n|.nam _=>True|.cell s=>s.ok|.two _ s t=>s.ok/\t.ok
def Sm.size_pos(s:Sm):1<=s.size:=by cases s<;>simp[Sm.size]
structure St where
 row:Nat
 names:θ Int
 cells:θ Int
 calls:θ Nat
 aF:Nat
 said:θ Int
def cW(xs:θ Int):θ D:=xs.map D.int
def cU(xs:θ Nat):θ D:=xs.map λ(n:Nat)=>D.int (n:Int)
def St.enc(s:St):D:=.aB [ω s.row,.aB^cW s.names,.aB^cW s.cells,.aB^cU s.calls,ω s.aF,.aB^cW s.said]
structure St.ok(s:St):Prop where
 nlen:s.names.length=6
 clen:s.cells.length=4
 nw:∀x∈s.names,Wth x
 cw:∀x∈s.cells,Wth x
def two(o:Op)(x y:Int):Int:=match o with
 |.add=>(x+y)%10007|.sub=>(x-y)%10007|.mul=>(x*y)%10007
 |.less=>if x<y then 1 else 0
def Sm.val(st:St):Sm->Int
 |.num n=>n|.nam i=>st.names.getD i.ix 0|.cell s=>st.cells.getD (s.val st%4).toNat 0|.two o s t=>BT.two o (s.val st)^t.val st
def zM{a:θ Int}(h:∀x∈a,Wth x)(i:Nat):Wth^a.getD i 0:=by
 refine rwe aaS ?_;cases e:a[i]? with
 |none=>exact#[∅,∅]|some x=>exact h x^ZJ e
def UC(o:Op):Wth^BT.two o x y:=by cases o<;>simp![BT.two,Wth];lia;lia;lia;split<;>decide
theorem Sm.xW{st:St}(J:st.ok):∀{s:Sm},s.ok->Wth^s.val st
 |.num _,h=>h|.nam i,_=>zM J.nw _|.cell _,_=>zM J.cw _|.two _ _ _,_=>UC _
section
def DC(P:Prg T G)(k:Nat)(s:Sm)(h:HH):φ (k+1) "inner_sums" [.p s.enc] h=aa (.p^.aB^s.subs.map Sm.enc,h):=by
 refine rwe (run_eq P.inner_sums rfl) ?_;cases s with
 |two o s t =>
  have g:=P.INNER;have q:gJ (ZC o.w) [("num",ω 0),("name",ω 0),("cell",ω 1),("add",ω 2),("sub",ω 2),("mul",ω 2),("less",ω 2)]=aa^ω 2:=by cases o<;>simp[Op.w]
  generalize ([("num",ω 0),("name",ω 0),("cell",ω 1),("add",ω 2),("sub",ω 2),("mul",ω 2),("less",ω 2)]:θ (ay×D))=I at *;simp[gO,g,q,Sm.enc,Sm.subs,cZ]
 |_=>simp[gO,P.INNER,Sm.enc,Sm.subs,cZ]
def zN(P:Prg T G)(k:Nat)(o:Op)(J:Wth x)(h:HH):
 runN T G (k+1) "of_two" [.p^.str o.w,.p^ω x,.p^ω y] h=aa (.p^ω^two o x y,h):=by
 refine rwe (run_eq P.of_two rfl) ?_;have b:big x=ah:=bP (by have O:=J.1;have L:=J.2;lia);cases o<;>simp[ni,P.WORTH_COUNT,cZ,Op.w,two,b]
 by_cases c:x<y<;>simp[c,cZ]
def zO:θ D:=[.str "a",.str "b",.str "c",.str "d",.str "e",.str "f"]
def KO(x:Nm):iO .mem (.str x.w)^.aB zO=aa ah:=by cases x<;>simp[zO,Nm.w]
def GV(x:Nm):meD .tindex (.aB zO) [.str x.w]=aa^ω (x.ix:Int):=by cases x<;>simp[zO,Nm.w,Nm.ix]
def xX{i:Nat}(h:i<m.length):d7 (.aB^cW m)^ω (i:Int)=aa^ω^m.getD i 0:=by show atP _ _=_;unfold atP place cW;refine rwe (bK^Int.natCast_nonneg _)^rwe (bK^by rw[ZA];lia) ?_;show(m.map _)[((i:Int)).toNat]?=_;rw[aa5];refine rwe ZP ?_;refine rwe aaS ?_;refine rwe (Zu h) ?_;rfl
theorem DE(st:St):d7 st.enc^ω 1=aa^.aB^cW st.names:=rfl
theorem DF(st:St):d7 st.enc^ω 2=aa^.aB^cW st.cells:=rfl
def mK(P:Prg T G)(k:Nat)(x:Nm)(h:HH):φ (k+1) "is_name" [.p^.str x.w] h=aa (.p^.bl ah,h):=by refine rwe (run_eq P.is_name rfl) ?_;have g:G _=aa^.p^.aB zO:=P.LETTERS;simp[-rP,iQ,g,(KO x),cZ]
def pH(P:Prg T G)(k:Nat)(st:St)(J:st.ok)(x:Nm)(h:HH):φ (k+2) "worth_in" [.p st.enc,.p^.str x.w] h=aa (.p^ω^st.names.getD x.ix 0,h):=by refine rwe (run_eq P.worth_in rfl) ?_;have g:G _=aa^.p^.aB zO:=P.LETTERS;simp[-iP,i7,(mK P k x),P.NAMES,g,(xX^by exact rwe J.nlen x.GU),(GV x),(DE _),cZ]
def mL(P:Prg T G)(k:Nat)(st:St)(J:st.ok)(n:Nat)(h:HH):
 (∀i,φ (k+3) "worth_of" [.p (Sm.num i).enc,.r n,.p st.enc] h=aa (.p^ω i,h)) ∧
 (∀i,φ (k+3) "worth_of" [.p (Sm.nam i).enc,.r n,.p st.enc] h=aa (.p^ω^st.names.getD i.ix 0,h)):=by
 refine#[λi=>?_,λi=>?_]<;>refine rwe (run_eq P.worth_of rfl) ?_;simp[gw,Sm.enc,cZ];simp[gw,Sm.enc,cZ,(pH P k _ J i)]
def sF(P:Prg T G)(k:Nat)(st:St)(O:st.ok)(n:Nat)(h:HH)(s:Sm)(a:θ D)(v:Int)(e:lat h n=aa (a++[ω v]))(U:0<=v):
 runN T G (k+1) "worth_of" [.p (Sm.cell s).enc,.r n,.p st.enc] h=aa (.p^ω^st.cells.getD (v%4).toNat 0,h.set n^.l a):=by
 refine rwe (run_eq P.worth_of rfl) ?_;have c:(((v%4).toNat):Int)=v%4:=()
 have J:=xX (i:=(v%4).toNat) (by refine rwe O.clen ?_;lia);rw[c]at J;have L:=DF st;generalize cW _=sn at *;generalize st.cells.getD _ 0=z at *;simp[gw,Sm.enc,P.CELLS,P.CELL_COUNT,e,J,L,Bu]
def Op.other(o:Op):¬o.w="num"/\¬o.w="name"/\¬o.w="cell":=by cases o<;>decide
def tP(P:Prg T G)(k:Nat)(st:St)(n:Nat)(h:HH)(o:Op)(s t:Sm)(a:θ D)(x y:Int)(U:Wth x)(e:lat h n=aa (a++[ω x,ω y])):
 runN T G (k+2) "worth_of" [.p (Sm.two o s t).enc,.r n,.p st.enc] h=aa (.p^ω^two o x y,h.set n^.l a):=by
 refine rwe (run_eq P.worth_of rfl) (jk o.other λO L J=>?_);have b:(Sm.two o s t).enc=.aB _:=rfl;refine rwe b ?_;simp[gw,e,(KN e _),O,L,J,(zN P k o U),Bu]
def loC:E:=.z .gt (.bi .len ai^cS^.v 2)^.j^ω 0
def loB:S:=.seq (.set 3^.me .pop (.v 2) .nil)^.seq (.ex^.me .append (.v 1)^cS^.v 3)^.ex^.me .extend (.v 2)^cS^.call "inner_sums"^cS^.v 3
def sizes(l:θ Sm):Nat:=(l.map Sm.size).sum
def zP(s:Sm)(l:θ Sm):sizes (s.subs.reverse++l)+1=sizes (s::l):=by cases s<;>simp[sizes,Sm.subs,Sm.size]<;>lia
def GW(s:Sm)(l:θ Sm):(s::l).flatMap Sm.lay=s::(s.subs.reverse++l).flatMap Sm.lay:=by cases s<;>simp[Sm.lay,Sm.subs]
def KP(s:Sm):s.subs.length<=2:=by cases s<;>simp[Sm.subs]
def uD(l:θ Sm):l.length<=sizes l:=by
 induction l with
 |nil=>simp[sizes]
 |cons s l J =>
  have L:=s.size_pos;simp![sizes,ZY,aeH,ZQ]at J⊢;lia
def KQ(P:Prg T G)(k:Nat)(h:HH)(L:W):∀(m:Nat)(J:θ Sm)(f:θ D)(x:ψ W),sizes J<=m->f.length+sizes J<=50000 →
 ∃O,fT (ev (φ (k+1)) G loC) (evS (φ (k+1)) G loB) (m+1) [aa L,aa^.r h.length,aa^.r (h.length+1),x] (h++[.l f,.l^J.reverse.map Sm.enc]) =
  aa^.nx [aa L,aa^.r h.length,aa^.r (h.length+1),O] (h++[.l (f++(J.flatMap Sm.lay).map Sm.enc),.l []]):=by
 intro m
 induction m with
 |zero =>
  intro J f x Y _;have:J=[]:=by have:=uD J;exact ad2 ()
  subst this;exact#[x,by simp[fT,loC,rd]]
 |succ m V =>
  intro J f x Y a;cases J with
  |nil=>exact#[x,by simp[fT,loC,rd]]
  |cons s l =>
   have e:=zP s l;refine uxE (V (s.subs.reverse++l) (f++[s.enc]) (aa^.p s.enc) ()^by simp![ZX,abV];lia) λO q=>#[O,?_];have r:=DC P k s;have Z:(0:Int)<(l.length:Int)+1:=()
   have U:f.length<100000:=()
   rw[fT,(by
    simp[loC,rd,Z]:ev (φ (k+1)) G loC [aa L,aa^.r h.length,aa^.r (h.length+1),x] (h++[.l f,.l^(s::l).reverse.map Sm.enc])=aa (.p^.bl ah,h++[.l f,.l^(s::l).reverse.map Sm.enc])),kG,pZ,(by
     simp[loB,r,(by
      have d:=KP s;have c:=uD l;have b:sizes (s::l)=s.size+sizes l:=by simp[sizes]
      lia:l.length+s.subs.length<=100000),U]:evS (φ (k+1)) G loB [aa L,aa^.r h.length,aa^.r (h.length+1),x] (h++[.l f,.l^(s::l).reverse.map Sm.enc]) =
      aa^.nx [aa L,aa^.r h.length,aa^.r (h.length+1),aa^.p s.enc] (h++[.l (f++[s.enc]),.l^(s.subs.reverse++l).reverse.map Sm.enc])),gn,q,GW,ZY,aay,abg]
theorem sG:ko=⟨["term"],["term","parts","waiting","part"],.seq (.set 1^.aj ah .nil)
 (.seq (.set 2^.aj ah^.cons (.v 0) .nil)^.seq (.j loC loB)^.ret^.v 1)⟩:=rfl
def vJ(P:Prg T G)(k:Nat)(s:Sm)(L:s.size<=40000)(h:HH):φ (k+2) "laid_out" [.p s.enc] h=aa (.p^.aj^s.lay.map Sm.enc,h):=by refine rwe (run_eq P.laid_out rfl) (uxE (KQ P k h (.p s.enc) 99999 [s] [] af (by simp![sizes,ZY,aaH,aeH,List.sum_nil];lia)^by simp![sizes,ZY,aaH,aeH,List.sum_nil,aam];lia) λJ q=>?_);simp![acP,ZY,aaH]at q;refine rwe sG ?_;simp[turns,q,UB]
def rkB:S:=.ex^.me .append (.v 2)^cS^.call "worth_of"^cQ (.v 3) (.v 2)^.v 1
def KR(P:Prg T G)(k:Nat)(h:HH)(J:W)(st:St)(U:st.ok):∀(s:Sm),s.ok->∀(f:θ D)(rest:θ D)(x:ψ W),f.length+s.size<=50000 →
 ∃c,fC (evS (φ (k+3)) G rkB) [(3,"part")] ((s.lay.map Sm.enc).reverse++rest) [aa J,aa^.p st.enc,aa^.r h.length,x] (h++[.l f]) =
  fC (evS (φ (k+3)) G rkB) [(3,"part")] rest [aa J,aa^.p st.enc,aa^.r h.length,c] (h++[.l (f++[ω^s.val st])]):=by
 intro s
 induction s with
 |num n =>
  intro _ f rest x L;refine#[aa^.p (Sm.num n).enc,?_];have r:=(mL P k st U h.length (h++[.l f])).1 n;have l:f.length<100000:=by simp![Sm.size]at L;lia
  have V:evS (φ (k+3)) G rkB [aa J,aa^.p st.enc,aa^.r h.length,aa^.p (Sm.num n).enc] (h++[.l f]) =
   aa^.nx [aa J,aa^.p st.enc,aa^.r h.length,aa^.p (Sm.num n).enc] (h++[.l (f++[ω n])]):=by
   simp[rkB,r,l]
  simp![Sm.lay,ZY,aaH,acP,abg,Sm.val];simp[V]
 |nam i =>
  intro _ f rest x L;refine#[aa^.p (Sm.nam i).enc,?_];have r:=(mL P k st U h.length (h++[.l f])).2 i;have l:f.length<100000:=by simp![Sm.size]at L;lia
  have V:evS (φ (k+3)) G rkB [aa J,aa^.p st.enc,aa^.r h.length,aa^.p (Sm.nam i).enc] (h++[.l f]) =
   aa^.nx [aa J,aa^.p st.enc,aa^.r h.length,aa^.p (Sm.nam i).enc] (h++[.l (f++[ω^st.names.getD i.ix 0])]):=by
   simp[rkB,r,l]
  simp![Sm.lay,ZY,aaH,acP,abg,Sm.val];simp[V]
 |cell s d =>
  intro O f rest x L;refine uxE (d O f ((Sm.cell s).enc::rest) x^by simp![Sm.size]at L;lia) λb e1=>#[aa^.p (Sm.cell s).enc,?_];have r:=sF P (k+2) st U h.length (h++[.l (f++[ω^s.val st])]) s f (s.val st) (by simp) (Sm.xW (s:=s) U O).1;have l:f.length<100000:=by simp![Sm.size]at L;lia
  simp![Sm.lay,ZY,List.reverse_cons,aay,abg];refine rwe e1 ?_;simp[(by
   simp[rkB,r,l,Sm.val]:evS (φ (k+3)) G rkB [aa J,aa^.p st.enc,aa^.r h.length,aa^.p (Sm.cell s).enc] (h++[.l (f++[ω^s.val st])]) =
   aa^.nx [aa J,aa^.p st.enc,aa^.r h.length,aa^.p (Sm.cell s).enc] (h++[.l (f++[ω^(Sm.cell s).val st])]))]
 |two o s t Z Y =>
  intro O f rest x L;have a:=L;simp![Sm.size]at a;refine uxE (Z O.1 f ((t.lay.map Sm.enc).reverse++((Sm.two o s t).enc::rest)) x ()) λb e1=>?_;refine uxE (Y O.2 (f++[ω^s.val st]) ((Sm.two o s t).enc::rest) b^by simp![ZX,abV];have:=s.size_pos;lia) λe e2=>#[aa^.p (Sm.two o s t).enc,?_];have r:=tP P (k+1) st h.length (h++[.l (f++[ω^s.val st,ω^t.val st])]) o s t f (s.val st) (t.val st) (Sm.xW U O.1) (by simp);have l:f.length<100000:=()
  have V:evS (φ (k+3)) G rkB [aa J,aa^.p st.enc,aa^.r h.length,aa^.p (Sm.two o s t).enc] (h++[.l (f++[ω^s.val st,ω^t.val st])]) =
   aa^.nx [aa J,aa^.p st.enc,aa^.r h.length,aa^.p (Sm.two o s t).enc] (h++[.l (f++[ω^(Sm.two o s t).val st])]):=by
   simp[rkB,r,l,Sm.val]
  simp![Sm.lay,ZY,abh,List.reverse_cons,List.reverse_append,aay,abg];refine rwe e1^rwe e2 ?_;simp[V]
theorem sH:kq=⟨["term","state"],["term","state","worths","part"],.seq (.set 2^.aj ah .nil)
 (.seq (.for [(3,"part")] .rev (.cons (.call "laid_out"^.cons (.v 0) .nil) .nil) rkB)^.ret^.y (.v 2)^.j^.int 0)⟩:=rfl
def iA(P:Prg T G)(k:Nat)(s:Sm)(J:s.size<=40000)(O:s.ok)(st:St)(L:st.ok)(h:HH):
 runN T G (k+4) "reckoned" [.p s.enc,.p st.enc] h=aa (.p^ω^s.val st,h):=by
 refine rwe (run_eq P.reckoned rfl) (uxE (KR P k h (.p s.enc) _ L s O [] [] af^by simp![aam];lia) λU q=>(rwe sH ?_));simp![aau]at q;simp[(vJ P _ s J),jd,q,pG,rd]
end
section
variable{T:FK->ψ Fn}{F:FK->θ W->HH->ψ (W×HH)}{G:ay->ψ W}{i:Nat}{e e' c:E}{a b:S}{s s':Sl}{h g:HH}{w:W}{d d' z:D}
def nJ(f:evS F G a s h=aa^.nx s' g):evS F G (.seq a b) s h=evS F G b s' g:=by simp[f]
def fu(f:aK F G e s h=aa (w,g)):evS F G (.seq (.set i e) b) s h=evS F G b (s.set i^aa w) g:=by simp[f]
def GX(f:aK F G c s h=aa (.p^.bl ai,h)):evS F G (.seq (.v c a .nil) b) s h=evS F G b s h:=by simp[f]
def Pp(j:aK F G c s h=aa (.p^.bl ah,h))(f:aK F G e s h=aa (w,g)):evS F G (.seq (.v c (.ret e) .nil) b) s h=aa^.rt w g:=by simp[j,f]
def jN(f:aK F G e s h=aa (w,g)):evS F G (.ret e) s h=aa^.rt w g:=by simp[f]
def GY(L:T f=aa fn)(J:m.length=fn.ps.length)(j:evS (φ k) G fn.body (dM fn.ns.length m) h=aa^.rt (.p d) h):φ (k+1) f m h=aa (.p d,h):=by exact rwe (run_eq L J)^rwe j^cZ h _
def UD(j:aK F G e s h=aa (.p d,g))(f:aK F G e' s g=aa (.p d',g))(J:d7 d d'=aa z):aK F G (.y e e') s h=aa (.p z,g):=by simp[j,f,J]
end
section
def iB(a:θ α)(i:Nat):atP a (i:Int)=a[i]?:=by
 by_cases h:i<a.length
 simp[h];simp[(by lia:¬(i<(a.length:Int)))];lia
def jO(P:Prg T G)(k:Nat)(a:θ D)(i:Nat)(b:i<a.length)(J:a.length<=1000)(d:D)(h:HH):
 runN T G (k+1) "with_worth" [.p^.aB a,.p^ω i,.p d] h=aa (.p^.aB^a.set i d,h):=by
 refine rwe (run_eq P.with_worth rfl) ?_;simp[iT,(by lia:¬ ((i:Int) < 0)),(by lia:i<=a.length),(by lia:¬ ((i:Int)+1 < 0)),(by lia:i+1<=(a.length:Int)),(by lia:i+1+(a.length - (i+1))<=100000),(by lia:i+1<=100000),(by
  apply List.take_of_length_le;simp:((a.drop _).take (a.length-(i+1)))=a.drop (i+1)),(by
   exact rwe List.set_eq_take_append_cons_drop^rwe (bK b) rfl:a.take i++d::a.drop _=a.set i d),cZ]
abbrev Y6(st:St):d7 st.enc^ω 0=aa^ω st.row:=rfl
abbrev Y7(st:St):d7 st.enc^ω 1=aa^.aB^cW st.names:=rfl
abbrev Y8(st:St):d7 st.enc^ω 2=aa^.aB^cW st.cells:=rfl
abbrev Y9(st:St):d7 st.enc^ω 3=aa^.aB^cU st.calls:=rfl
abbrev Za(st:St):d7 st.enc^ω 4=aa^ω st.aF:=rfl
abbrev Zb(st:St):d7 st.enc^ω 5=aa^.aB^cW st.said:=rfl
inductive Rw
 |set(x:Nm)(s:Sm)|put(s t:Sm)|ask(x:Nm)|say(s:Sm)|jump(p:Nat)|unless(s:Sm)(p:Nat)|call(p:Nat)|back|stop
def Rw.enc:Rw->D
 |.set x s=>.aB [.str "set",.str x.w,s.enc]|.put s t=>.aB [.str "put",s.enc,t.enc]|.ask x=>.aB [.str "ask",.str x.w]|.say s=>.aB [.str "say",s.enc]|.jump p=>.aB [.str "jump",ω p]|.unless s p=>.aB [.str "unless",s.enc,ω p]|.call p=>.aB [.str "call",ω p]|.back=>.aB [.str "back"]|.stop=>.aB [.str "stop"]
def xY(s:Sm):Prop:=s.ok/\s.size<=15
def Rw.ok(n:Nat):Rw->Prop
 |.set _ s=>xY s|.put s t=>xY s/\xY t|.ask _=>True|.say s=>xY s|.jump p=>p<=n|.unless s p=>xY s/\p<=n|.call p=>p<=n|.back=>True|.stop=>True
@[reducible]noncomputable def Pg:=θ Rw
def fG(p:Pg):D:=.aB^p.map Rw.enc
def Pg.ok(p:Pg):Prop:=∀r∈p,r.ok p.length
def Rw.next(aF:θ Int)(st:St):Rw->St
 |.set x s=>{st with row:=st.row+1,names:=st.names.set x.ix^s.val st}|.put s t=>{st with row:=st.row+1,cells:=st.cells.set (s.val st%4).toNat^t.val st}|.ask x=>{st with row:=st.row+1,names:=st.names.set x.ix^aF.getD st.aF 0,aF:=st.aF+1}|.say s=>{st with row:=st.row+1,said:=st.said++[s.val st]}|.jump p=>{st with row:=p}|.unless s p=>{st with row:=if s.val st=0 then p else st.row+1}|.call p=>{st with row:=p,calls:=st.calls++[st.row+1]}|.back=>{st with row:=st.calls.getLast?.getD 0,calls:=st.calls.dropLast}|.stop=>st
def Rw.over(st:St):Rw->Bool
 |.back=>st.calls.length==0|.call _=>decide (6<=st.calls.length)|.stop=>ah|_=>ai
def over(p:Pg)(st:St):Bool:=match p[st.row]? with
 |some r=>r.over st|none=>ah
def step(p:Pg)(aF:θ Int)(st:St):St:=match p[st.row]? with
 |some r=>r.next aF st
 |none=>st
def St.zero:St:=#[0,[0,0,0,0,0,0],[0,0,0,0],[],0,[]]
def KS:St.zero.ok:=#[rfl,rfl,by simp[St.zero,Wth],by simp[St.zero,Wth]]
def sts(p:Pg)(aF:θ Int):Nat->St->θ St
 |0,st=>[st]
 |n+1,st=>if over p st then [st]else st::sts p aF n^step p aF st
def uE(P:Prg T G)(k:Nat)(h:HH):φ (k+1) "begun" [] h=aa (.p St.zero.enc,h):=by refine rwe (run_eq P.begun rfl) ?_;simp[pF,P.LETTERS,P.CELL_COUNT,cZ,St.zero,St.enc,cW,cU,rep]
def xZ(P:Prg T G)(k:Nat)(aF:θ Int)(n:Nat)(h:HH):φ (k+1) "brought" [.p^.aj^cW aF,.p^ω n] h=aa (.p^ω^aF.getD n 0,h):=by
 refine rwe (run_eq P.brought rfl) ?_
 by_cases c:n<aF.length
 simp[jM,cW,c,cZ];simp[jM,cW,(by lia:¬n<aF.length),cZ]
def kI(P:Prg T G)(k:Nat)(st:St)(J:st.ok)(x:Nm)(d:Int)(h:HH):
 runN T G (k+2) "with_name" [.p st.enc,.p^.str x.w,.p^ω d] h=aa (.p^.aB^cW^st.names.set x.ix d,h):=by
 refine rwe (run_eq P.with_name rfl) ?_;have l:(cW st.names).length=6:=by simp[cW,J.nlen]
 have q:=(jO P k _) _ (by exact rwe l x.GU) ()^ω d;rw[(by simp[cW]:(cW _).set _ _=cW^st.names.set x.ix d)]at q;have g:G _=aa^.p^.aB zO:=P.LETTERS;simp[jo,P.NAMES,g,(GV x),cZ,q]
def ya(P:Prg T G)(k:Nat)(s:Sm)(J:xY s)(st:St)(L:st.ok)(h:HH):φ (k+5) "cell_by" [.p s.enc,.p st.enc] h=aa (.p^ω (s.val st%4),h):=by refine rwe (run_eq P.cell_by rfl) ?_;simp[lF,(iA P k s (by have:=J.2;lia) J.1 _ L),P.CELL_COUNT,cZ]
def Rw.word:Rw->String
 |.set _ _=>"set" |.put _ _=>"put" |.ask _=>"ask" |.say _=>"say" |.jump _=>"jump" |.unless _ _=>"unless" |.call _=>"call" |.back=>"back" |.stop=>"stop"
def Rw.vK(r:Rw):d7 r.enc^ω 0=aa^.str r.word:=by cases r<;>rfl
def plT:S:=(.seq (.v (.or (.z .eq (.v 2)^.j^.str "jump")^.z .eq (.v 2)^.j^.str "call") (.ret^.y (.v 0)^.j^ω 1) .nil)^.seq (.v (.z .eq (.v 2)^.j^.str "back") (.ret^.y (.y (.v 1)^.aD "CALLS")^.neg^.j^ω 1) .nil)^.seq (.v (.and (.z .eq (.v 2)^.j^.str "unless")^.z .eq (.call "reckoned"^cR (.y (.v 0)^.j^ω 1)^.v 1)^.j^ω 0) (.ret^.y (.v 0)^.j^ω 2) .nil)^.ret^.bin .add (.y (.v 1)^.aD "ROW")^.j^ω 1)
theorem yb:gU=⟨["row","state"],["row","state","word"],
 (.seq (.set 2^.y (.v 0)^.j^.int 0) plT)⟩:=rfl
def KU(P:Prg T G)(F:FK->θ W->HH->ψ (W×HH))(J:W)(st:St)(h:HH)(v:String)(V:¬v="jump")(U:¬v="call")(O:¬v="back")(L:¬v="unless"):evS F G plT [aa J,aa^.p st.enc,aa^.p^.str v] h=aa^.rt (.p^ω ((st.row:Int)+1)) h:=by simp[plT,V,U,O,L,P.ROW]
def MM(F:FK->θ W->HH->ψ (W×HH))(d:D)(J:W)(h:HH)(v:String)(q:Int)(L:v="jump"\/v="call")(a:d7 d^ω 1=aa^ω q):evS F G plT [aa^.p d,aa J,aa^.p^.str v] h=aa^.rt (.p^ω q) h:=by rcases L with rfl|rfl<;>simp[plT,a]
def DG(P:Prg T G)(k:Nat)(n:Nat)(r:Rw)(L:r.ok n)(st:St)(Y:st.ok)(aF:θ Int)(O:r.over st=ai)(h:HH):
 runN T G (k+5) "place_behind" [.p r.enc,.p st.enc] h=aa (.p^ω (r.next aF st).row,h):=by
 have J:∀q:Int,jE (aa^.rt (.p^ω q) h)^fin h=aa (.p^ω q,h):=λq=>by simp[cZ]
 refine rwe ((by
  refine rwe (run_eq P.place_behind rfl)^rwe yb ?_;simp[r.vK]:φ (k+5) "place_behind" [.p r.enc,.p st.enc] h=jE (evS (φ (k+4)) G plT [aa^.p r.enc,aa^.p st.enc,aa^.p^.str r.word] h)^fin h)) ?_
 cases r with
 |«unless» s p =>
  have W:d7 (Rw.unless s p).enc^ω 1=aa s.enc:=rfl;have V:d7 (Rw.unless s p).enc^ω 2=aa^ω (p:Int):=rfl
  by_cases c:s.val st=0<;>simp[plT,Rw.word,Rw.next,(iA P k s (by have:=L.1.2;lia) L.1.1 st Y),c,(rfl:d7 st.enc^ω 0=aa _),W,V,cZ,P.ROW]
 |back =>
  have c:st.calls≠[]:=by intro e;simp[Rw.over,e]at O
  have:∃l x,st.calls=l++[x]:=(uS _ _^(List.dropLast_concat_getLast c).symm);refine qE this λl x e=>?_;have U:d7 st.enc^ω 3=aa _:=rfl;have a:d7 (.aB^cU st.calls)^ω (-1)=aa^ω x:=by simp[cU,e,(by lia:-((l.length:Int)+1)<=-1),(by lia:(-1+((l.length:Int)+1)).toNat=l.length)]
  refine rwe (by simp[Rw.next,e]:((Rw.back).next aF st).row=x) ?_;simp[-iP,plT,Rw.word,P.CALLS,U,a,cZ]
 |stop=>simp[Rw.over]at O|jump p=>rw[Rw.word,MM _ _ _ _ _ _ (.inl rfl) rfl,J];rfl|call p=>rw[Rw.word,MM _ _ _ _ _ _ (.inr rfl) rfl,J];rfl|_=>rw[Rw.word,KU P _ _ _ _ _ ∅ ∅ ∅ ∅,J];rfl
def ovT:S:=(.seq (.v (.z .eq (.v 2)^.j^.str "back") (.ret^.z .eq (.bi .len ai^cS^.y (.v 1)^.aD "CALLS")^.j^ω 0) .nil)^.seq (.v (.z .eq (.v 2)^.j^.str "call") (.ret^.z .ge (.bi .len ai^cS^.y (.v 1)^.aD "CALLS")^.aD "MOST_CALLS") .nil)^.ret^.z .eq (.v 2)^.j^.str "stop")
theorem tQ:jL=⟨["program","state"],["program","state","word"],
 (.seq (.v (.z .ge (.y (.v 1)^.aD "ROW")^.bi .len ai^.cons (.v 0) .nil) (.ret^.j^.bl ah) .nil)
  (.seq (.set 2^.y (.y (.v 0)^.y (.v 1)^.aD "ROW")^.j^.int 0)
   ovT))⟩:=rfl
def KW(F:FK->θ W->HH->ψ (W×HH))(L J:W)(h:HH)(v:String)(U:¬v="back")(O:¬v="call"):evS F G ovT [aa L,aa J,aa^.p^.str v] h=aa^.rt (.p^.bl (decide (v="stop"))) h:=by
 by_cases c:v="stop"
 ·subst c;simp[ovT]
 simp[ovT,U,O,c]
def yc(P:Prg T G)(k:Nat)(p:Pg)(st:St)(h:HH):φ (k+1) "is_over" [.p^fG p,.p st.enc] h=aa (.p^.bl^over p st,h):=by
 have J:biD .len [fG p]=aa^ω p.length:=by simp[fG]
 by_cases c:st.row<p.length
 ·have e:=Zu c;have a:d7 (fG p)^ω st.row=aa (p[st.row]).enc:=by simp[fG,(by lia:st.row<p.length),e]
  refine rwe ((by rw[over,e]:over p _=(p[st.row]).over _)) ?_;generalize p[st.row]=r at a ⊢;refine rwe (by
   refine rwe (run_eq P.is_over rfl)^rwe tQ ?_;simp[J,a,r.vK,P.ROW,(by lia:¬ p.length<=st.row)]:φ (k+1) "is_over" [.p^fG p,.p st.enc] h=jE (evS (φ k) G ovT [aa^.p^fG p,aa^.p st.enc,aa^.p^.str r.word] h)^fin h) ?_
  have L:biD .len [.aB^cU st.calls]=aa^ω st.calls.length:=by simp[cU]
  have O:d7 st.enc^ω 3=aa _:=rfl;cases r with
  |back =>
   have U:((st.calls.length:Int)==0)=(st.calls.length==0):=by grind
   simp[-um,ovT,Rw.word,P.CALLS,O,L,U,cZ,Rw.over]
  |call q =>
   simp[-um,ovT,Rw.word,P.CALLS,P.MOST_CALLS,O,L,(decide_eq_decide.mpr ():decide ((6:Int)<=st.calls.length)=decide (6<=st.calls.length)),cZ,Rw.over]
  |_ =>
   rw[Rw.word];refine rwe (KW _ _ _ _ _ ∅ ∅) ?_;simp[cZ,Rw.over]
 ·have V:p.length<=st.row:=()
  have e:p[st.row]?=af:=ZM ();refine rwe (run_eq P.is_over rfl) ?_;simp[jL,J,P.ROW,V,cZ,over,e]
def ints_set(a:θ Int)(i:Nat)(v:Int):(cW a).set i^ω v=cW^a.set i v:=by simp[cW]
def kT(a:θ Int):(cW a).length=a.length:=by simp[cW]
def ints_snoc(a:θ Int)(v:Int):cW a++[ω v]=cW (a++[v]):=by simp[cW]
def DH(a:θ Nat)(v:Nat):cU a++[ω (v:Int)]=cU (a++[v]):=by simp[cU]
def GZ(a:θ Nat):cut (cU a) af^aa (-1)=cU a.dropLast:=by simp[cU,(by lia:(-1+(a.length:Int)).toNat=a.length-1),List.dropLast_eq_take]
structure St.small(st:St):Prop where
 sl:st.said.length<=5000
 cl:st.calls.length<=5000
def encL(st:St):θ D:=[ω st.row,.aB^cW st.names,.aB^cW st.cells,.aB^cU st.calls,ω st.aF,.aB^cW st.said]
theorem G0(st:St):biD .list [st.enc]=aa^.aj^encL st:=rfl
def Pq:S:=(.put 5 (.aD "CALLS")^.n (.y (.v 2)^.aD "CALLS") .nil^cS^.neg^.j^ω 1)
def Pr:S:=(.v (.z .eq (.v 4)^.j^.str "back") Pq .nil)
def Pu:S:=(.put 5 (.aD "CALLS")^.bin .add (.y (.v 2)^.aD "CALLS")^.aB^cS^.bin .add (.y (.v 2)^.aD "ROW")^.j^ω 1)
def KY:S:=(.v (.z .eq (.v 4)^.j^.str "call") Pu Pr)
def Pv:S:=(.put 5 (.aD "SAID")^.bin .add (.y (.v 2)^.aD "SAID")^.aB^cS^.call "reckoned"^cR (.y (.v 3)^.j^ω 1)^.v 2)
def G1:S:=(.v (.z .eq (.v 4)^.j^.str "say") Pv KY)
def Pw:S:=(.seq (.put 5 (.aD "NAMES")^.call "with_name"^cQ (.v 2) (.y (.v 3)^.j^ω 1)^.call "brought"^cR (.v 1)^.y (.v 2)^.aD "ASKED")^.put 5 (.aD "ASKED")^.bin .add (.y (.v 2)^.aD "ASKED")^.j^ω 1)
def DI:S:=(.v (.z .eq (.v 4)^.j^.str "ask") Pw G1)
def Px:S:=(.put 5 (.aD "CELLS")^.call "with_worth"^cQ (.y (.v 2)^.aD "CELLS") (.call "cell_by"^cR (.y (.v 3)^.j^ω 1)^.v 2)^.call "reckoned"^cR (.y (.v 3)^.j^ω 2)^.v 2)
def zQ:S:=(.v (.z .eq (.v 4)^.j^.str "put") Px DI)
def Py:S:=(.put 5 (.aD "NAMES")^.call "with_name"^cQ (.v 2) (.y (.v 3)^.j^ω 1)^.call "reckoned"^cR (.y (.v 3)^.j^ω 2)^.v 2)
def n9:S:=(.v (.z .eq (.v 4)^.j^.str "set") Py zQ)
def Pz:S:=(.seq n9^.ret^.bi .tuple ai^cS^.v 5)
theorem tR:lG=⟨["program","asked","state"],["program","asked","state","row","word","behind"],
 (.seq (.set 3^.y (.v 0)^.y (.v 2)^.aD "ROW")
  (.seq (.set 4^.y (.v 3)^.j^.int 0)
   (.seq (.set 5^.bi .list ah^.cons (.v 2) .nil)
    (.seq (.put 5 (.aD "ROW")^.call "place_behind"^.cons (.v 3)^.cons (.v 2) .nil)
     Pz))))⟩:=rfl
theorem PB(F:FK->θ W->HH->ψ (W×HH))(A B:S)(s:Sl)(h:HH):evS F G (.seq A B) s h=kN (evS F G A s h)^evS F G B:=rfl
def pick(F:FK->θ W->HH->ψ (W×HH))(U O L J:W)(v w:String)(rest:Sl)(h:HH)(A B:S):evS F G (.v (.z .eq (.v 4)^.j^.str w) A B) (aa U::aa O::aa L::aa J::aa^.p^.str v::rest) h=if v=w then evS F G A (aa U::aa O::aa L::aa J::aa^.p^.str v::rest) h else evS F G B (aa U::aa O::aa L::aa J::aa^.p^.str v::rest) h:=by
 have e:eqv (.str v)^.str w=decide (v=w):=by
  by_cases c:v=w
  refine rwe (bP c)^rwe c ?_;simp;simp[c]
 by_cases c:v=w
 ·rw[bP c]at e;refine rwe (bK c) ?_;simp[-eqv,e]
 ·rw[bO c]at e;refine rwe (bL c) ?_;simp[-eqv,e]
def to0(F:FK->θ W->HH->ψ (W×HH))(U O L J:W)(rest:Sl)(h:HH):evS F G n9 (aa U::aa O::aa L::aa J::aa^.p^.str "set"::rest) h=evS F G Py (aa U::aa O::aa L::aa J::aa^.p^.str "set"::rest) h:=by rw[n9,pick,bK rfl]
def to1(F:FK->θ W->HH->ψ (W×HH))(U O L J:W)(rest:Sl)(h:HH):evS F G n9 (aa U::aa O::aa L::aa J::aa^.p^.str "put"::rest) h=evS F G Px (aa U::aa O::aa L::aa J::aa^.p^.str "put"::rest) h:=by rw[n9,pick,bL ∅,zQ,pick,bK rfl]
def to2(F:FK->θ W->HH->ψ (W×HH))(U O L J:W)(rest:Sl)(h:HH):evS F G n9 (aa U::aa O::aa L::aa J::aa^.p^.str "ask"::rest) h=evS F G Pw (aa U::aa O::aa L::aa J::aa^.p^.str "ask"::rest) h:=by rw[n9,pick,bL ∅,zQ,pick,bL ∅,DI,pick,bK rfl]
def to3(F:FK->θ W->HH->ψ (W×HH))(U O L J:W)(rest:Sl)(h:HH):evS F G n9 (aa U::aa O::aa L::aa J::aa^.p^.str "say"::rest) h=evS F G Pv (aa U::aa O::aa L::aa J::aa^.p^.str "say"::rest) h:=by rw[n9,pick,bL ∅,zQ,pick,bL ∅,DI,pick,bL ∅,G1,pick,bK rfl]
def to4(F:FK->θ W->HH->ψ (W×HH))(U O L J:W)(rest:Sl)(h:HH):evS F G n9 (aa U::aa O::aa L::aa J::aa^.p^.str "call"::rest) h=evS F G Pu (aa U::aa O::aa L::aa J::aa^.p^.str "call"::rest) h:=by rw[n9,pick,bL ∅,zQ,pick,bL ∅,DI,pick,bL ∅,G1,pick,bL ∅,KY,pick,bK rfl]
def to5(F:FK->θ W->HH->ψ (W×HH))(U O L J:W)(rest:Sl)(h:HH):evS F G n9 (aa U::aa O::aa L::aa J::aa^.p^.str "back"::rest) h=evS F G Pq (aa U::aa O::aa L::aa J::aa^.p^.str "back"::rest) h:=by rw[n9,pick,bL ∅,zQ,pick,bL ∅,DI,pick,bL ∅,G1,pick,bL ∅,KY,pick,bL ∅,Pr,pick,bK rfl]
def toN(F:FK->θ W->HH->ψ (W×HH))(U O L J:W)(rest:Sl)(h:HH)(v:String)(V:v∉["set","put","ask","say","call","back"]):evS F G n9 (aa U::aa O::aa L::aa J::aa^.p^.str v::rest) h=aa^.nx (aa U::aa O::aa L::aa J::aa^.p^.str v::rest) h:=by simp![ab7,aba,or_false,not_or]at V;let(d,c,b,a,Z,Y):=V;rw[n9,pick,bL d,zQ,pick,bL c,DI,pick,bL b,G1,pick,bL a,KY,pick,bL Z,Pr,pick,bL Y];rfl
def yd(P:Prg T G)(k:Nat)(p:Pg)(i:Pg.ok p)(aF:θ Int)(st:St)(L:st.ok)(Z:st.small)(Y:over p st=ai)(h:HH):
 runN T G (k+6) "stepped" [.p^fG p,.p^.aj^cW aF,.p st.enc] h=aa (.p (step p aF st).enc,h):=by
 have c:st.row<p.length:=by
  rcases ZR st.row p.length with q|q
  exact q;rw[over,ZM q]at Y;exact Se Y
 have e:p[st.row]?=aa p[st.row]:=Zu c;have J:=i _^acK c;have O:(p[st.row]).over st=ai:=by rwa [over,e]at Y
 have V:=DG P k p.length p[st.row] J st L aF O;rw[step];refine rwe e ?_;have f:=Z.sl;have d:=Z.cl
 revert V J O
 generalize p[st.row]=r at *;intro J O V;have g:d7 (fG p)^ω st.row=aa r.enc:=by simp[fG,(by lia:(st.row:Int)<(p.length:Int)),e]
 have U:φ (k+6) "stepped" [.p^fG p,.p^.aj^cW aF,.p st.enc] h =
  jE (evS (φ (k+5)) G Pz [aa^.p^fG p,aa^.p^.aj^cW aF,aa^.p st.enc,aa^.p r.enc,aa^.p^.str r.word,aa^.r h.length] (h++[.l [ω (r.next aF st).row,.aB^cW st.names,.aB^cW st.cells,.aB^cU st.calls,ω st.aF,.aB^cW st.said]]))^fin h:=by
  refine rwe (run_eq P.stepped rfl)^rwe tR ?_;simp[g,r.vK,P.ROW,G0,encL,V]
 refine rwe U ?_;rw[Pz,PB];cases r with
 |set x s =>
  have q:=iA P (k+1) s (by have:=J.2;lia) J.1 st L;simp![Rw.enc,Rw.next,Rw.word,to0];simp[Py,P.ROW,P.NAMES,q,(kI P (k+3) st L x^s.val st),rd,pG,Rw.next];simp[St.enc]
 |put s t =>
  have q:=ya P k s J.1 st L;have v:=Sm.xW (s:=s) L J.1.1;have w:=jO P (k+4) (cW st.cells) (s.val st%4).toNat (by rw[kT];refine rwe L.clen ?_;lia) (by rw[kT];refine rwe L.clen ?_;lia)^ω^t.val st;rw[(by lia:(((s.val st%4).toNat:Nat):Int)=s.val st%4),ints_set]at w;simp![Rw.enc,Rw.next,Rw.word,to1];simp[Px,P.ROW,P.CELLS,q,(iA P (k+1) t (by have:=J.2.2;lia) J.2.1 st L),w,rd,pG,Rw.next];simp[St.enc]
 |ask x =>
  have b:=xZ P (k+4) aF st.aF;have w:=kI P (k+3) st L x^aF.getD st.aF 0;simp![Rw.enc,Rw.next,Rw.word,to2];simp![aaS]at b w⊢;simp[Pw,P.ROW,P.NAMES,P.ASKED,b,w,rd,pG,Rw.next];simp[St.enc]
 |say s =>
  have q:=iA P (k+1) s (by have:=J.2;lia) J.1 st L;simp![Rw.enc,Rw.next,Rw.word,to3];have W:(cW st.said).length+1<=100000:=by rw[kT];lia
  simp[Pv,P.ROW,P.SAID,q,rd,pG,Rw.next,W,ints_snoc];simp[St.enc]
 |call q =>
  simp![Rw.enc,Rw.next,Rw.word,to4];have W:(cU st.calls).length+1<=100000:=by simp[cU];lia
  have a:cU st.calls++[ω ((st.row:Int)+1)]=cU (st.calls++[st.row+1]):=by rw[←DH];simp
  simp[Pu,P.ROW,P.CALLS,rd,pG,Rw.next,W,a];simp[St.enc]
 |back =>
  simp![Rw.enc,Rw.next,Rw.word,to5];simp[-EY,Pq,P.ROW,P.CALLS,rd,pG,Rw.next,(by rw[EY,(GZ st.calls)]:wV (.aB^cU st.calls) af^aa (-1)=aa^.aB^cU st.calls.dropLast)];simp[St.enc]
 |stop=>simp[Rw.over]at O
 |_ =>
  simp![Rw.next,Rw.word];refine rwe (toN _ _ _ _ _ _ _ _ ∅) ?_;simp[rd,pG];simp[St.enc]
end
def Ask(aF:θ Int):Prop:=∀x∈aF,Wth x
def G2{a:θ Int}{i:Nat}{v:Int}(h:∀x∈a,Wth x)(L:Wth v):∀x∈a.set i v,Wth x:=λx J=>by
 rcases abu J with q|q
 exact h x q;exact rwe q L
structure At(n:Nat)(st:St):Prop where
 ok:st.ok
 said:st.said.length<=n
 calls:st.calls.length<=6
def At.small{st:St}(a:At n st)(h:n<=5000):st.small:=#[by have:=a.said;lia,by have:=a.calls;lia]
def Bv:At 0 St.zero:=#[KS,Zw _,∅]
def Bw{n:Nat}{p:Pg}{st:St}(e:Pg.ok p)(U:Ask aF)(a:At n st)(O:over p st=ai):At (n+1)^step p aF st:=by
 have c:st.row<p.length:=by
  rcases ZR _ _ with q|q
  exact q;rw[over,ZM q]at O;cases O
 have L:=e _^acK c;have J:(p[st.row]).over st=ai:=by rw[over,(Zu c)]at O;exact O
 rw[step];refine rwe (Zu c) ?_;dsimp only
 revert L J
 generalize p[st.row]=r;intro L J;let(b,V,d):=a;cases r with
 |set x s=>exact#[#[by simp[Rw.next,b.nlen],b.clen,G2 b.nw^Sm.xW b L.1,b.cw],by simp[Rw.next];lia,d]|put s t=>exact#[#[b.nlen,by simp[Rw.next,b.clen],b.nw,G2 b.cw^Sm.xW b L.2.1],by simp[Rw.next];lia,d]|ask x=>exact#[#[by simp[Rw.next,b.nlen],b.clen,G2 b.nw^zM U _,b.cw],by simp[Rw.next];lia,d]|say s=>exact#[#[b.nlen,b.clen,b.nw,b.cw],by simp[Rw.next];lia,d]
 |call q =>
  simp[Rw.over]at J;exact#[#[b.nlen,b.clen,b.nw,b.cw],by simp[Rw.next];lia,by simp[Rw.next];lia]
 |back=>exact#[#[b.nlen,b.clen,b.nw,b.cw],by simp[Rw.next];lia,by simp[Rw.next];lia]|stop=>simp[Rw.over]at J|_=>exact#[#[b.nlen,b.clen,b.nw,b.cw],by simp[Rw.next];lia,d]
section
end
def i8:Fn:=#[["_law_script","_law_k"],["_law_script","_law_k"], (.seq (.v (.z .eq (.v 0)^.aj ai .nil) (.ret^.bin .mul (.j^ω 7)^.v 1) .nil)^.ret^.bin .add (.y (.v 0)^.bin .mod (.v 1)^.bi .len ai^cS^.v 0)^.bin .mul (.j^ω 6553)^.bin .fdiv (.v 1)^.bi .len ai^cS^.v 0)]
def jq:Fn:=#[["_law_script","_law_k","_law_many"],["_law_script","_law_k","_law_many","_law_cell_here"], (.seq (.set 3^.bin .mod (.bin .add (.bin .mul (.bin .mod (.call "_law_cell"^cR (.v 0)^.v 1)^.j^ω 2147483563)^.j^ω 69069)^.bin .mul (.j^ω 104723)^.bin .add (.v 1)^.j^ω 1)^.j^ω 2147483563)^.seq (.set 3^.bin .mod (.bin .add (.bin .mul (.v 3)^.v 3)^.bin .fdiv (.v 3)^.j^ω 3)^.j^ω 2147483399)^.ret^.bin .mod (.bin .fdiv (.bin .mod (.bin .add (.bin .mul (.v 3)^.v 3)^.bin .fdiv (.v 3)^.j^ω 7)^.j^ω 2147483647)^.j^ω 11)^.v 2)]
def smL:S:=(.seq (.v (.z .eq (.call "_law_drawn"^cQ (.v 0) (.bin .add (.v 1)^.j^ω 1)^.j^ω 2)^.j^ω 0) (.ret^.aB^cR (.j^.str "num")^.y (.aj ai^cN (.j^ω 0) (.j^ω 1) (.j^ω 2) (.j^ω 3) (.j^ω 10)^.j^ω 10006)^.call "_law_drawn"^cQ (.v 0) (.bin .add (.v 1)^.j^ω 2)^.j^ω 6) .nil)^.ret^.aB^cR (.j^.str "name")^.y (.j^.str "abcf")^.call "_law_drawn"^cQ (.v 0) (.bin .add (.v 1)^.j^ω 2)^.j^ω 4)
def smR:S:=(.seq (.set 4^.call "_law_sum"^cQ (.v 0) (.bin .add (.bin .mul (.v 1)^.j^ω 2)^.j^ω 5)^.bin .sub (.v 2)^.j^ω 1)^.seq (.v (.z .lt (.v 3)^.j^ω 6) (.ret^.aB^cR (.j^.str "cell")^.v 4) .nil)^.ret^.aB^cQ (.y (.aj ai^cP (.j^.str "add") (.j^.str "sub") (.j^.str "mul")^.j^.str "less")^.bin .sub (.v 3)^.j^ω 6) (.v 4)^.call "_law_sum"^cQ (.v 0) (.bin .add (.bin .mul (.v 1)^.j^ω 2)^.j^ω 19)^.bin .sub (.v 2)^.j^ω 1)
def gX:Fn:=#[["_law_script","_law_at","_law_deep"],["_law_script","_law_at","_law_deep","_law_way","_law_one"], (.seq (.set 3^.call "_law_drawn"^cQ (.v 0) (.v 1)^.j^ω 10)^.seq (.v (.or (.z .eq (.v 2)^.j^ω 0)^.z .lt (.v 3)^.j^ω 4) smL .nil) smR)]
def lH:Fn:=#[["_law_script","_law_at","_law_size"],["_law_script","_law_at","_law_size","_law_way","_law_place","_law_name","_law_one"], (.seq (.set 3^.call "_law_drawn"^cQ (.v 0) (.v 1)^.j^ω 16)^.seq (.set 4^.call "_law_drawn"^cQ (.v 0) (.bin .add (.v 1)^.j^ω 1)^.bin .add (.v 2)^.j^ω 1)^.seq (.set 5^.y (.j^.str "abc")^.call "_law_drawn"^cQ (.v 0) (.bin .add (.v 1)^.j^ω 2)^.j^ω 3)^.seq (.set 6^.call "_law_sum"^cQ (.v 0) (.bin .add (.v 1)^.j^ω 3)^.j^ω 2)^.seq (.v (.z .lt (.v 3)^.j^ω 5) (.ret^.aB^cQ (.j^.str "set") (.v 5)^.v 6) .nil)^.seq (.v (.z .lt (.v 3)^.j^ω 7) (.ret^.aB^cQ (.j^.str "put") (.call "_law_sum"^cQ (.v 0) (.bin .add (.v 1)^.j^ω 9)^.j^ω 1)^.v 6) .nil)^.seq (.v (.z .lt (.v 3)^.j^ω 9) (.ret^.y (.aj ai^cR (.aB^cR (.j^.str "ask")^.v 5)^.aB^cR (.j^.str "say")^.v 6)^.bin .sub (.v 3)^.j^ω 7) .nil)^.seq (.v (.z .lt (.v 3)^.j^ω 12) (.ret^.y (.aj ai^cQ (.aB^cR (.j^.str "jump")^.v 4) (.aB^cQ (.j^.str "unless") (.v 6)^.v 4)^.aB^cQ (.j^.str "unless") (.aB^cR (.j^.str "name")^.v 5)^.v 4)^.bin .sub (.v 3)^.j^ω 9) .nil)^.ret^.y (.aj ai^cP (.aB^cR (.j^.str "call")^.v 4) (.aB^cR (.j^.str "call")^.v 4) (.aB^cS^.j^.str "back")^.y (.aj ai^cR (.aB^cS^.j^.str "stop")^.aB^cS^.j^.str "back")^.bin .mod (.v 4)^.j^ω 2)^.bin .sub (.v 3)^.j^ω 12)]
def gy:Fn:=#[["_law_script","_law_at"],["_law_script","_law_at","_law_size","_law_put","_law_sign","_law_rows"], (.seq (.set 2^.bin .add (.j^ω 1)^.call "_law_drawn"^cQ (.v 0) (.v 1)^.j^ω 9)^.seq (.v (.z .eq (.call "_law_drawn"^cQ (.v 0) (.bin .add (.v 1)^.j^ω 1)^.j^ω 4)^.j^ω 0) (.seq (.set 3^.aB^cQ (.j^.str "put") (.aB^cR (.j^.str "name")^.j^.str "a")^.aB^cR (.j^.str "num")^.call "_law_drawn"^cQ (.v 0) (.bin .add (.v 1)^.j^ω 2)^.j^ω 9)^.seq (.set 4^.y (.aj ai^cR (.j^.str "add")^.j^.str "sub")^.call "_law_drawn"^cQ (.v 0) (.bin .add (.v 1)^.j^ω 3)^.j^ω 2)^.seq (.set 5^.aB^cO (.aB^cR (.j^.str "ask")^.j^.str "a") (.aB^cR (.j^.str "call")^.j^ω 4) (.aB^cR (.j^.str "say")^.aB^cR (.j^.str "name")^.j^.str "a") (.aB^cR (.j^.str "jump")^.j^ω 0)^.v 3)^.ret^.bin .add (.v 5)^.aB^cP (.aB^cR (.j^.str "call")^.j^ω 7) (.aB^cS^.j^.str "back") (.aB^cQ (.j^.str "set") (.j^.str "b")^.aB^cQ (.v 4) (.aB^cR (.j^.str "name")^.j^.str "b")^.aB^cR (.j^.str "name")^.j^.str "a")^.aB^cS^.j^.str "back") .nil)^.ret^.bi .tuple ai^cS^.comp ai .rng1 (cS^.v 2) ["_law_k"] [(0,"_law_script"),(1,"_law_at"),(2,"_law_size")] .nil^.call "_law_row"^cQ (.v 1) (.bin .add (.bin .add (.v 2)^.j^ω 10)^.bin .mul (.j^ω 40)^.v 0)^.v 3)]
def jr:Fn:=#[["_law_script","_law_at"],["_law_script","_law_at"], (.ret^.comp ai .rng1 (cS^.call "_law_drawn"^cQ (.v 0) (.v 1)^.j^ω 4) ["_law_k"] [(0,"_law_script"),(1,"_law_at")] .nil^.y (.aj ai^cP (.j^ω 0) (.j^ω 1) (.j^ω 5)^.j^ω 10006)^.call "_law_drawn"^cQ (.v 1) (.bin .add (.bin .add (.v 2)^.j^ω 1)^.v 0)^.j^ω 4)]
structure Lw(T:FK->ψ Fn):Prop where
 cell:T "_law_cell"=aa i8
 drawn:T "_law_drawn"=aa jq
 sum:T "_law_sum"=aa gX
 row:T "_law_row"=aa lH
 aF:T "_law_asked"=aa jr
def By(a:θ Int)(k:Int):Int:=if a=[]then 7*k else a.getD (k%a.length).toNat 0+6553*(k/a.length)
def drw(c:θ Int)(k many:Int):Int :=
 let a:=(By c k%2147483563*69069+104723*(k+1))%2147483563
 let b:=(a*a+a/3)%2147483399
 (b*b+b/7)%2147483647/11%many
def gY(a:θ Int)(k:Int)(h:0<many):0<=drw a k many:=Int.emod_nonneg _ ()
def gZ(a:θ Int)(k:Int)(h:0<many):drw a k many<many:=Int.emod_lt_of_pos _ h
def uF(J:0<=i)(a:i<18446744073709551616):big i=ah:=bP ()
section
def KZ(a:θ Int):eqv (.aj^cW a)^.aj []=decide (a=[]):=by cases a<;>simp[cW]
def G3(L:Lw T)(m:Nat)(a:θ Int)(O:a.length<=1000)(k:Int)(h:HH):φ (m+1) "_law_cell" [.p^.aj^cW a,.p^ω k] h=aa (.p^ω^By a k,h):=by
 refine rwe (run_eq L.cell rfl) ?_
 by_cases c:a=[]
 ·subst c;simp[i8,cW,By,big,cZ]
 ·have J:=List.length_pos_iff.mpr c;simp[i8,-eqv,(by rw[KZ];exact bO c:eqv _ _=ai),By,c];simp -implicitDefEqProofs [cW,cZ,J,(Int.emod_nonneg k (b:=a.length) ()),(Int.emod_lt_of_pos k (by lia:0<(a.length:Int))),big,(by lia:(a.length:Int)<1073741824)]
def g7(L:Lw T)(m:Nat)(a:θ Int)(O:a.length<=1000)(k many:Int)(J:0<many)(h:HH):
 runN T G (m+2) "_law_drawn" [.p^.aj^cW a,.p^ω k,.p^ω many] h=aa (.p^ω^drw a k many,h):=by
 refine rwe (run_eq L.drawn rfl) ?_;simp[jq,(G3 L m _ O k),(by decide:big 104723=ah),(λx=>uF () ():∀x,big (x%2147483563)=ah),(λx=>uF () ():∀x,big (x%2147483399)=ah),cZ,J,drw]
def BA(i:Int)(J:0<=i)(d:i<4):∃x:Nm,d7 (.str "abcf")^ω i=aa^.str x.w:=by
 rcases (by lia:i=0\/i=1\/i=2\/i=3)with rfl|rfl|rfl|rfl
 exact#[.a,rfl];exact#[.b,rfl];exact#[.c,rfl];exact#[.f,rfl]
def PC(i:Int)(J:0<=i)(d:i<3):∃x:Nm,d7 (.str "abc")^ω i=aa^.str x.w:=by
 rcases (by lia:i=0\/i=1\/i=2)with rfl|rfl|rfl
 exact#[.a,rfl];exact#[.b,rfl];exact#[.c,rfl]
def BB(i:Int)(J:0<=i)(a:i<6):∃n:Int,Wth n/\d7 (.aj [ω 0,ω 1,ω 2,ω 3,ω 10,ω 10006])^ω i=aa^ω n:=by
 rcases (by lia:i=0\/i=1\/i=2\/i=3\/i=4\/i=5)with rfl|rfl|rfl|rfl|rfl|rfl
 exact(cY 0 #[∅,∅] rfl);exact(cY 1 #[∅,∅] rfl);exact(cY 2 #[∅,∅] rfl);exact(cY 3 #[∅,∅] rfl);exact(cY _ #[∅,∅] rfl);exact(cY _ #[∅,∅] rfl)
def PD(i:Int)(J:0<=i)(a:i<4):∃o:Op,d7 (.aj [.str "add",.str "sub",.str "mul",.str "less"])^ω i=aa^.str o.w:=by
 rcases (by lia:i=0\/i=1\/i=2\/i=3)with rfl|rfl|rfl|rfl
 exact#[.add,rfl];exact#[.sub,rfl];exact#[.mul,rfl];exact#[.less,rfl]
def G4(L:Lw T)(a:θ Int)(U:a.length<=1000)(p n:Int)(k:Nat)(rest:Sl)(h:HH)(c:drw a (p+1) 2=0)(b:d7 (.aj [ω 0,ω 1,ω 2,ω 3,ω 10,ω 10006])^ω^drw a (p+2) 6=aa^ω n):
 evS (φ (k+2)) G smL (aa^.p^.aj^cW a::aa^.p^ω p::rest) h=aa^.rt (.p (Sm.num n).enc) h:=by
 simp[-dS,-l7,smL,(λq J O=>g7 (G:=G) L k _ U q J O),c,b,Sm.enc]
def G5(L:Lw T)(a:θ Int)(U:a.length<=1000)(p:Int)(x:Nm)(k:Nat)(rest:Sl)(h:HH)(c:¬drw a (p+1) 2=0)(b:d7 (.str "abcf")^ω^drw a (p+2) 4=aa^.str x.w):
 evS (φ (k+2)) G smL (aa^.p^.aj^cW a::aa^.p^ω p::rest) h=aa^.rt (.p (Sm.nam x).enc) h:=by
 simp[-dS,-l7,smL,(λq J O=>g7 (G:=G) L k _ U q J O),c,b,Sm.enc]
def BD(L:Lw T)(A:θ Int)(U:A.length<=1000):∀(J:Nat)(p:Int),∃s:Sm,s.ok/\s.size+1<=2^(J+1)/\∀(m:Nat)(h:HH),
 runN T G (m+J+3) "_law_sum" [.p^.aj^cW A,.p^ω p,.p^ω J] h=aa (.p s.enc,h):=by
 intro J
 induction J with
 |zero =>
  intro p;refine uxE (BA (drw A (p+2) 4) (gY _ _ ∅) (gZ _ _ ∅)) λx C=>(cX (BB (drw A (p+2) 6) (gY _ _ ∅) (gZ _ _ ∅)) λn hn D=>?_);have O:∀(s:Sm)(m:Nat)(h:HH),(∀rest,evS (φ (m+2)) G smL (aa^.p^.aj^cW A::aa^.p^ω p::rest) h=aa^.rt (.p s.enc) h)->φ (m+0+3) "_law_sum" [.p^.aj^cW A,.p^ω p,.p^ω ((0:Nat):Int)] h=aa (.p s.enc,h):=λs m h q=>by refine rwe (run_eq L.sum rfl) ?_;simp[gX,(λm q B (Y:0<B)=>g7 (G:=G) L m A U q B Y),q,cZ]
  by_cases c:drw A (p+1) 2=0
  exact(eH (.num n) hn (by simp[Sm.size]) (λm h=>O _ m h λrest=>G4 L A U p n m rest h c D));exact(eH (.nam x) trivial (by simp[Sm.size]) (λm h=>O _ m h λrest=>G5 L A U p x m rest h c C))
 |succ J f =>
  intro p;have Z:=λm q B (Y:0<B)=>g7 (G:=G) L m A U q B Y;refine uxE (BA (drw A (p+2) 4) (gY _ _ ∅) (gZ _ _ ∅)) λx C=>(cX (BB (drw A (p+2) 6) (gY _ _ ∅) (gZ _ _ ∅)) λn hn D=>(dU (f (p*2+5)) λs e y W=>(dU (f (p*2+19)) λt l w V=>?_)));have g:∀m,m+(J+1)+2=m+J+3:=λm=>()
  have d:=λm h=>(g m).symm ▸ W m h;have a:¬((J:Int)+1=0):=()
  have i:((J:Int)+1-1)=J:=()
  have k:big 2=ah:=∅
  have v:=gY A p (many:=10) ∅;have u:=gZ A p (many:=10) ∅;have z:2^(J+1+1)=2^(J+1)+2^(J+1):=()
  by_cases b:drw A p 10<4
  ·have O:∀(s:Sm)(m:Nat)(h:HH),(∀rest,evS (φ (m+J+1+2)) G smL (aa^.p^.aj^cW A::aa^.p^ω p::rest) h=aa^.rt (.p s.enc) h)->φ (m+(J+1)+3) "_law_sum" [.p^.aj^cW A,.p^ω p,.p^ω ((J+1:Nat):Int)] h=aa (.p s.enc,h):=λs m h q=>by refine rwe (run_eq L.sum rfl) ?_;have q:∀rest,evS (φ (m+(J+1)+2)) G smL (aa^.p^.aj^cW A::aa^.p^ω p::rest) h=aa^.rt (.p s.enc) h:=q;simp[gX,(Z (m+(J+1))),b,a,q,cZ]
   by_cases c:drw A (p+1) 2=0
   exact(eH (.num n) hn (by simp![Sm.size];lia) (λm h=>O _ m h λrest=>G4 L A U p n (m+J+1) rest h c D));exact(eH (.nam x) trivial (by simp![Sm.size];lia) (λm h=>O _ m h λrest=>G5 L A U p x (m+J+1) rest h c C))
  ·by_cases j:drw A p 10<6
   ·refine(eH (.cell s) e (by simp![Sm.size];lia) (λm h=>(rwe (run_eq L.sum rfl) ?_)));simp[-dS,-l7,gX,smR,Z,b,j,a,i,k,d,cZ,Sm.enc]
   ·refine uxE (PD (drw A p 10-6) () ()) λo r=>((eH (.two o s t) #[e,l] (by simp![Sm.size];lia) (λm h=>(rwe (run_eq L.sum rfl) ?_))));simp[-dS,-l7,gX,smR,Z,b,j,a,i,k,d,(λm h=>(g m).symm ▸ V m h),r,cZ,Sm.enc]
end
def MN:S:=(.ret^.y (.aj ai^cP (.aB^cR (.j^.str "call")^.v 4) (.aB^cR (.j^.str "call")^.v 4) (.aB^cS^.j^.str "back")^.y (.aj ai^cR (.aB^cS^.j^.str "stop")^.aB^cS^.j^.str "back")^.bin .mod (.v 4)^.j^ω 2)^.bin .sub (.v 3)^.j^ω 12)
def rA3:S:=(.ret^.y (.aj ai^cQ (.aB^cR (.j^.str "jump")^.v 4) (.aB^cQ (.j^.str "unless") (.v 6)^.v 4)^.aB^cQ (.j^.str "unless") (.aB^cR (.j^.str "name")^.v 5)^.v 4)^.bin .sub (.v 3)^.j^ω 9)
def G6:S:=(.seq (.v (.z .lt (.v 3)^.j^ω 12) rA3 .nil) MN)
def rA2:S:=(.ret^.y (.aj ai^cR (.aB^cR (.j^.str "ask")^.v 5)^.aB^cR (.j^.str "say")^.v 6)^.bin .sub (.v 3)^.j^ω 7)
def BE:S:=(.seq (.v (.z .lt (.v 3)^.j^ω 9) rA2 .nil) G6)
def rA1:S:=(.ret^.aB^cQ (.j^.str "put") (.call "_law_sum"^cQ (.v 0) (.bin .add (.v 1)^.j^ω 9)^.j^ω 1)^.v 6)
def ye:S:=(.seq (.v (.z .lt (.v 3)^.j^ω 7) rA1 .nil) BE)
def rA0:S:=(.ret^.aB^cQ (.j^.str "set") (.v 5)^.v 6)
def zR:S:=(.seq (.v (.z .lt (.v 3)^.j^ω 5) rA0 .nil) ye)
theorem tS:lH=⟨["_law_script","_law_at","_law_size"],["_law_script","_law_at","_law_size","_law_way","_law_place","_law_name","_law_one"],
 (.seq (.set 3^.call "_law_drawn"^.cons (.v 0)^.cons (.v 1)^.cons (.j^.int 16) .nil)
  (.seq (.set 4^.call "_law_drawn"^.cons (.v 0)^.cons (.bin .add (.v 1)^.j^.int 1)^.cons (.bin .add (.v 2)^.j^.int 1) .nil)
   (.seq (.set 5^.y (.j^.str "abc")^.call "_law_drawn"^.cons (.v 0)^.cons (.bin .add (.v 1)^.j^.int 2)^.cons (.j^.int 3) .nil)
    (.seq (.set 6^.call "_law_sum"^.cons (.v 0)^.cons (.bin .add (.v 1)^.j^.int 3)^.cons (.j^.int 2) .nil)
     zR))))⟩:=rfl
section
def K0(L:Lw T)(C:θ Int)(b:C.length<=1000)(p:Int)(size:Nat):∃r:Rw,r.ok size/\∀(m:Nat)(h:HH),
 runN T G (m+6) "_law_row" [.p^.aj^cW C,.p^ω p,.p^ω size] h=aa (.p r.enc,h):=by
 have f:=λm q D (l:0<D)=>g7 (G:=G) L m C b q D l;let(x,P):=PC (drw C (p+2) 3) (gY _ _ ∅) (gZ _ _ ∅);refine dU (BD (G:=G) L C b 2 (p+3)) λs k y j=>(dU (BD (G:=G) L C b 1 (p+9)) λt i v M=>?_);have o:=gY C p (many:=16) ∅;have n:=gZ C p (many:=16) ∅;have H:(0:Int)<(size:Int)+1:=()
 have B:=gY C (p+1) H;have A:=gZ C (p+1) H;obtain⟨J,I⟩:∃J:Nat,drw C (p+1) ((size:Int)+1)=(J:Int):=#[(drw C (p+1) ((size:Int)+1)).toNat,()];have U:J<=size:=()
 have V:xY s:=#[k,()];have Y:=λm h=>j (m+0) h;have W:=λm h=>M (m+1) h;simp at Y W;have d:=λm h=>f m (p+1) ((size:Int)+1) H h;replace d:=I ▸ d;have O:∀(m:Nat)(h:HH),φ (m+6) "_law_row" [.p^.aj^cW C,.p^ω p,.p^ω size] h =
  jE (evS (φ (m+5)) G zR [aa^.p^.aj^cW C,aa^.p^ω p,aa^.p^ω size,aa^.p^ω^drw C p 16,aa^.p^ω (J:Int),aa^.p^.str x.w,aa^.p s.enc] h)^fin h:=λm h=>by
  refine rwe (run_eq L.row rfl)^rwe tS ?_;simp[-l7,d,f,P,Y]
 by_cases Z:drw C p 16<5
 ·refine(cY (.set x s) V (λm h=>?_));rw[O];simp[-dS,-l7,zR,rA0,Z,cZ,Rw.enc]
 ·by_cases a:drw C p 16<7
  ·refine(cY (.put t s) (#[#[i,()],V]) (λm h=>?_));rw[O];simp[-dS,-l7,zR,ye,rA1,W,Z,a,cZ,Rw.enc]
  ·by_cases e:drw C p 16<9
   ·obtain⟨r,E,F⟩:∃r:Rw,r.ok size/\d7 (.aj [.aB [.str "ask",.str x.w],.aB [.str "say",s.enc]])^.int (drw C p 16-7)=aa r.enc:=by
     have c:drw C p 16=7\/drw C p 16=8:=()
     rcases c with c|c<;>refine rwe c ?_
     exact(cY (.ask x) trivial rfl);exact(cY (.say s) V rfl)
    refine(cY r E (λm h=>?_));rw[O];simp[-dS,zR,ye,BE,rA2,Z,a,e,F,cZ]
   ·by_cases g:drw C p 16<12
    ·obtain⟨r,E,F⟩:∃r:Rw,r.ok size/\d7 (.aj [.aB [.str "jump",.int J],.aB [.str "unless",s.enc,.int J],.aB [.str "unless",.aB [.str "name",.str x.w],.int J]])^.int (drw C p 16-9)=aa r.enc:=by
      have c:drw C p 16=9\/drw C p 16=10\/drw C p 16=11:=()
      rcases c with c|c|c<;>refine rwe c ?_
      exact(cY (.jump J) U rfl);exact(cY (.unless s J) #[V,U] rfl);exact(cY (.unless (.nam x) J) (#[#[trivial,by simp[Sm.size]],U]) rfl)
     refine(cY r E (λm h=>?_));rw[O];simp[-dS,zR,ye,BE,G6,rA3,Z,a,e,g,F,cZ]
    ·obtain⟨u,K,N⟩:∃u:Rw,u.ok size/\d7 (.aj [.aB [.str "stop"],.aB [.str "back"]])^.int ((J:Int)%2)=aa u.enc:=by
      have z:(J:Int)%2=0\/(J:Int)%2=1:=()
      rcases z with z|z<;>refine rwe z ?_
      exact(cY .stop trivial rfl);exact(cY .back trivial rfl)
     obtain⟨r,E,F⟩:∃r:Rw,r.ok size/\d7 (.aj [.aB [.str "call",.int J],.aB [.str "call",.int J],.aB [.str "back"],u.enc])^.int (drw C p 16-12)=aa r.enc:=by
      have c:drw C p 16=12\/drw C p 16=13\/drw C p 16=14\/drw C p 16=15:=()
      rcases c with c|c|c|c<;>refine rwe c ?_
      exact(cY (.call _) U rfl);exact(cY (.call _) U rfl);exact(cY .back trivial rfl);exact(cY u K rfl)
     refine(cY r E (λm h=>?_));rw[O];simp[-dS,zR,ye,BE,G6,MN,Z,a,e,g,N,F,cZ]
def comp_map(f:θ D->HH->ψ (ψ D×HH))(g:D->D):∀(a:θ D)(h:HH),(∀d∈a,∀h,f [d] h=aa (aa^g d,h))->fE f 1 a h=aa (a.map g,h):=by
 intro a
 induction a with
 |nil=>intro h _;rfl
 |cons d r L =>
  intro h J;rw[fE,E3];simp[(J d ZF h),(L h λx O=>J x^Zz _ O)]
def yf(h:d∈upto 0 n):∃k:Nat,k<n/\d=ω k:=by simp[upto]at h;exact cX h λk J e=>((cY k J e.symm))
def yg(n:Nat)(g:D->D):(upto 0 n).map g=(ZG n).map λ(k:Nat)=>g^ω k:=by simp[upto,Function.comp_def]
def K1:E:=.y (.aj ai^cP (.j^ω 0) (.j^ω 1) (.j^ω 5)^.j^ω 10006)^.call "_law_drawn"^cQ (.v 1) (.bin .add (.bin .add (.v 2)^.j^ω 1)^.v 0)^.j^ω 4
theorem qJ:jr=⟨["_law_script","_law_at"],["_law_script","_law_at"],.ret^.comp ai .rng1 (.cons (.call "_law_drawn"^.cons (.v 0)^.cons (.v 1)^.cons (.j^.int 4) .nil) .nil) ["_law_k"] [(0,"_law_script"),(1,"_law_at")] .nil K1⟩:=rfl
def DJ(L:Lw T)(s:θ Int)(Z:s.length<=1000)(p:Int):∃aF:θ Int,Ask aF/\aF.length<=3/\∀(m:Nat)(h:HH),
 runN T G (m+3) "_law_asked" [.p^.aj^cW s,.p^ω p] h=aa (.p^.aj^cW aF,h):=by
 have W:=λm q t (Y:0<t)=>g7 (G:=G) L m s Z q t Y;have O:∀i:Int,0<=i->i<4->∃n:Int,Wth n/\d7 (.aj [ω 0,ω 1,ω 5,ω 10006])^ω i=aa^ω n:=by
  intro i r o;rcases (by lia:i=0\/i=1\/i=2\/i=3)with rfl|rfl|rfl|rfl
  exact(cY 0 #[∅,∅] rfl);exact(cY 1 #[∅,∅] rfl);exact(cY 5 #[∅,∅] rfl);exact(cY 10006 #[∅,∅] rfl)
 have c:∀k:Nat,∃n:Int,Wth n/\d7 (.aj [ω 0,ω 1,ω 5,ω 10006])^ω^drw s (p+1+k) 4=aa^ω n:=λk =>
  O _ (gY _ _ ∅) (gZ _ _ ∅)
 refine uxE (aef c) λg V=>?_;have l:=gY s p (many:=4) ∅;have j:=gZ s p (many:=4) ∅;refine(eH ((ZG (drw s p 4).toNat).map g) ?_ (by simp;lia) (λm h=>?_))
 ·intro x U;simp at U;let(k,_,rfl):=U;exact(V k).1
 ·refine rwe (run_eq L.aF rfl)^rwe qJ ?_;have e:drw s p 4<=100000:=()
  have f:-100000<=drw s p 4:=()
  have a:∀(k:Nat)(h:HH),ev (φ (m+2)) G K1 [aa^.p^ω k,aa^.p^.aj^cW s,aa^.p^ω p] h=aa (.p^ω^g k,h):=λk h=>by simp[-dS,K1,W,((V k).2)]
  have J:=comp_map (fH (λ_ h=>aa ([],h)) (ev (φ (m+2)) G K1) [aa^.p^.aj^cW s,aa^.p^ω p]) (λd=>match d with | .int k=>.int^g k.toNat|_=>.aC) (upto 0 (drw s p 4).toNat) h (by
   intro d b h;refine cX (yf b) ?_
   rintro k u rfl
   simp[eZ,a])
  rw[yg]at J;rw[(by simp[cW,Function.comp_def]:(ZG (drw s p 4).toNat).map (λ(k:Nat)=>match D.int k with|.int k=>D.int^g k.toNat|_=>.aC)=cW^(ZG (drw s p 4).toNat).map g)]at J;simp[W,f,e,J,kT,(by lia:(drw s p 4).toNat<=100000),cZ,jd]
def G7:E:=.call "_law_row"^cQ (.v 1) (.bin .add (.bin .add (.v 2)^.j^ω 10)^.bin .mul (.j^ω 40)^.v 0)^.v 3
structure Drawn(p:Pg):Prop where
 ok:Pg.ok p
 lo:1<=p.length
 hi:p.length<=9
def mO(n:Int)(o:Op):Pg:=[.ask .a,.call 4,.say^.nam .a,.jump 0,.put (.nam .a)^.num n,.call 7,.back,.set .b^.two o (.nam .b)^.nam .a,.back]
def vL(n:Int)(o:Op)(h:Wth n):Drawn^mO n o:=by refine#[?_,by simp[mO],by simp[mO]];intro r J;simp![mO,ab7,aba,or_false]at J;rcases J with rfl|rfl|rfl|rfl|rfl|rfl|rfl|rfl|rfl<;>simp[Rw.ok,mO,xY,Sm.ok,Sm.size,h]
def sI(L:Lw T)
(u:θ Int)(V:u.length<=1000)(p:Int)
(O:∀ (m:Nat) (h:HH) (n:Int) (o:Op),drw u (p+1) 4=0->n=drw u (p+2) 9->d7 (.aj [.str "add",.str "sub"])^ω^drw u (p+3) 2=aa (.str o.w) →
  (∀m q t,0<t->∀h,φ (m+2) "_law_drawn" [.p^.aj^cW u,.p^ω q,.p^ω t] h=aa (.p^ω^drw u q t,h)) →
  runN T G (m+7) "_law_program" [.p^.aj^cW u,.p^ω p] h=aa (.p^fG^mO n o,h))
(J:∀ (m:Nat) (h:HH) (pg:Pg),drw u (p+1) 4≠0->pg.length=(1+drw u p 9).toNat →
  (∀m q t,0<t->∀h,φ (m+2) "_law_drawn" [.p^.aj^cW u,.p^ω q,.p^ω t] h=aa (.p^ω^drw u q t,h)) →
  (∀h,fE (fH (λ_ h=>aa ([],h)) (ev (φ (m+6)) G G7) [aa^.p^.aj^cW u,aa^.p^ω p,aa^.p^ω (1+drw u p 9)]) 1 (upto 0 (1+drw u p 9).toNat) h=aa (pg.map Rw.enc,h)) →
  runN T G (m+7) "_law_program" [.p^.aj^cW u,.p^ω p] h=aa (.p^fG pg,h)):
 ∃pg:Pg,Drawn pg/\∀(m:Nat)(h:HH),φ (m+7) "_law_program" [.p^.aj^cW u,.p^ω p] h=aa (.p^fG pg,h):=by
 have Y:=λm q t (a:0<t)=>g7 (G:=G) L m u V q t a
 by_cases c:drw u (p+1) 4=0
 ·have j:=gY u (p+3) (many:=2) ∅;have i:=gZ u (p+3) (many:=2) ∅;have s:=gY u (p+2) (many:=9) ∅;have e1:=gZ u (p+2) (many:=9) ∅;have z:drw u (p+3) 2=0\/drw u (p+3) 2=1:=()
  let(o,f):=(by
   rcases z with z|z<;>refine rwe z ?_
   exact#[.add,rfl];exact#[.sub,rfl]
  :∃ o:Op,d7 (.aj [.str "add",.str "sub"])^ω^drw u (p+3) 2=aa^.str o.w)
  exact(cY (mO (drw u (p+2) 9) o) (vL _ _ #[(),()]) (λm h=>O m h _ o c rfl f Y))
 ·have j:=gY u p (many:=9) ∅;have i:=gZ u p (many:=9) ∅;obtain⟨v,x⟩:∃v:Nat,1+drw u p 9=(v:Int):=#[(1+drw u p 9).toNat,()];have l:∀k:Nat,∃r:Rw,r.ok v/\∀(m:Nat)(h:HH),φ (m+6) "_law_row" [.p^.aj^cW u,.p^ω (p+10+40*(k:Int)),.p^ω v] h=aa (.p r.enc,h) :=
   λk=>K0 L u V _ v
  refine uxE (aef l) λg W=>((cY ((ZG v).map g) #[?_,by simp;lia,by simp;lia] (λm h=>J m h _ c (by simp;lia) Y λh=>?_)))
  ·intro r U;simp at U;let(k,_,rfl):=U;simpa using (W k).1
  ·refine rwe x ?_;have b:∀(k:Nat)(h:HH),ev (φ (m+6)) G G7 [aa^.p^ω k,aa^.p^.aj^cW u,aa^.p^ω p,aa^.p^ω v] h=aa (.p (g k).enc,h):=λk h=>by simp[G7,((W k).2),(by decide:big 40=ah)]
   have Z:=comp_map (fH (λ_ h=>aa ([],h)) (ev (φ (m+6)) G G7) [aa^.p^.aj^cW u,aa^.p^ω p,aa^.p^ω v]) (λd=>match d with | .int k=>(g k.toNat).enc|_=>.aC) (upto 0 v) h (by
    intro d e h;refine cX (yf e) ?_
    rintro k y rfl
    simp[eZ,b])
   rw[yg]at Z;simp![aaV];refine rwe Z ?_;rfl
end
section
def prA:S:=(.seq (.set 3^.aB^cQ (.j^.str "put") (.aB^cR (.j^.str "name")^.j^.str "a")^.aB^cR (.j^.str "num")^.call "_law_drawn"^cQ (.v 0) (.bin .add (.v 1)^.j^ω 2)^.j^ω 9)^.seq (.set 4^.y (.aj ai^cR (.j^.str "add")^.j^.str "sub")^.call "_law_drawn"^cQ (.v 0) (.bin .add (.v 1)^.j^ω 3)^.j^ω 2)^.seq (.set 5^.aB^cO (.aB^cR (.j^.str "ask")^.j^.str "a") (.aB^cR (.j^.str "call")^.j^ω 4) (.aB^cR (.j^.str "say")^.aB^cR (.j^.str "name")^.j^.str "a") (.aB^cR (.j^.str "jump")^.j^ω 0)^.v 3)^.ret^.bin .add (.v 5)^.aB^cP (.aB^cR (.j^.str "call")^.j^ω 7) (.aB^cS^.j^.str "back") (.aB^cQ (.j^.str "set") (.j^.str "b")^.aB^cQ (.v 4) (.aB^cR (.j^.str "name")^.j^.str "b")^.aB^cR (.j^.str "name")^.j^.str "a")^.aB^cS^.j^.str "back")
def prB:S:=(.ret^.bi .tuple ai^cS^.comp ai .rng1 (cS^.v 2) ["_law_k"] [(0,"_law_script"),(1,"_law_at"),(2,"_law_size")] .nil G7)
theorem ku:gy=⟨["_law_script","_law_at"],["_law_script","_law_at","_law_size","_law_put","_law_sign","_law_rows"],
 (.seq (.set 2^.bin .add (.j^.int 1)^.call "_law_drawn"^.cons (.v 0)^.cons (.v 1)^.cons (.j^.int 9) .nil)
  (.seq (.v (.z .eq (.call "_law_drawn"^.cons (.v 0)^.cons (.bin .add (.v 1)^.j^.int 1)^.cons (.j^.int 4) .nil)^.j^.int 0) prA .nil)
   prB))⟩:=rfl
def yh(L:Lw T)(U:T "_law_program"=aa gy)(e:θ Int)(V:e.length<=1000)(p:Int):
 ∃pg:Pg,Drawn pg/\∀(m:Nat)(h:HH),φ (m+7) "_law_program" [.p^.aj^cW e,.p^ω p] h=aa (.p^fG pg,h):=by
 refine sI L _ V p (λm h n o c f W O=>?_) (λm h pg c Z O Y=>?_)
 ·refine rwe (run_eq U rfl)^rwe ku ?_;simp[-dS,prA,(λq d J h=>O (m+4) q d J h),c,W,cZ,fG,mO,Rw.enc,Sm.enc,←f,Nm.w]
 ·refine rwe (run_eq U rfl) ?_;have b:=gY e p (many:=9) ∅;have a:=gZ e p (many:=9) ∅;refine rwe ku ?_;simp[-fH,prB,(λq d J h=>O (m+4) q d J h),c,(by lia:-100000<=1+drw e p 9),(by lia:1+drw e p 9<=100000),(by lia:pg.length<=100000),(Y h),cZ,fG,jd]
mutual
theorem kU:∀d:D,eqv d d=ah
 |.aC=>rfl
 |.bl b=>by simp
 |.int i=>by simp
 |.str x=>by simp
 |.aB J=>by simp[nk J]
 |.aj J=>by simp[nk J]
theorem nk:∀a:θ D,pW a a=ah
 |[]=>rfl
 |d::r=>by simp[kU d,nk r]
end
def sJ(n:Nat)(a:θ Int):(cW a).all^dok n=ah:=by simp[cW]
def sL(n:Nat)(a:θ Nat):(cU a).all^dok n=ah:=by simp[cU]
def ne_self(h:dok 100 x=ah):iO .ne x x=aa ai:=by rw[qQ,bK^jD h,kU];rfl
abbrev PF(a:θ D):pW a a=ah:=nk a
abbrev Rf(d:D):eqv d d=ah:=kU d
abbrev Rg(x:D)(a:θ Int):fO x^.aB^cW a=ah:=jD^sJ 99 a
abbrev Rh(x:D)(a:θ Nat):fO x^.aB^cU a=ah:=jD^sL 99 a
abbrev UE(x:D)(b a:θ Int):fO x^.aB [.aB^cW b,.aB^cW a]=ah:=jD (by simp[sJ])
end
section
variable{T:FK->ψ Fn}{G:ay->ψ W}
def zS(x:Nm):abt (ZC "abcdef") (ZC x.w) 0 (ZC "abcdef").length 1=[x.ix]:=by cases x<;>decide +kernel
def tT(x:Nm):meD .sindex (.str "abcdef") [.str x.w]=aa^ω x.ix:=by exact rwe EV^rwe ((zS x)) rfl
def ix0(a:D)(r:θ D):d7 (.aB (a::r))^ω 0=aa a:=by simp
def ix1(a b:D)(r:θ D):d7 (.aB (a::b::r))^ω 1=aa b:=by
 have:(1:Int)<(r.length:Int)+1+1:=()
 simp[this]
def ix2(a b c:D)(r:θ D):d7 (.aB (a::b::c::r))^ω 2=aa c:=by
 have:(2:Int)<(r.length:Int)+1+1+1:=()
 simp[this]
abbrev XR(st:St):wV st.enc (aa 1)^aa 3=aa^.aB [.aB^cW st.names,.aB^cW st.cells]:=rfl
end
theorem nq:∀{xs ys:θ Int},pW (cW xs)^cW ys=ah->xs=ys
 |[],[],_=>rfl
 |[],_::_,h=>by simp[cW]at h
 |_::_,[],h=>by simp[cW]at h
 |x::xs,y::ys,h=>by simp[cW]at h;have:=nq (xs:=xs) (ys:=ys) (by simpa [cW]using h.2);rw[h.1,this]
theorem uG:∀{xs ys:θ Nat},pW (cU xs)^cU ys=ah->xs=ys
 |[],[],_=>rfl
 |[],_::_,h=>by simp[cU]at h
 |_::_,[],h=>by simp[cU]at h
 |x::xs,y::ys,h=>by
  simp[cU]at h;have:=uG (xs:=xs) (ys:=ys) (by simpa [cU]using h.2);rw[this];have J:x=y:=by have:=h.1;lia
  rw[J]
def K3{a b:St}(h:eqv a.enc b.enc=ah):a=b:=by
 let(r,n,c,k,q,s):=a;let(J,d,i,e,L,Z):=b;simp![St.enc,eqv,pW,Zp,bU,and_true]at h;let(g,W,V,U,f,O):=h;have e1:r=J:=()
 have Y:q=L:=()
 rw[e1,Y,nq W,nq V,uG U,nq O]
def zT(n:Nat)(st:St):dok (n+2) st.enc=ah:=by simp[St.enc,AD,sJ,sL]
def K4(L:θ St):dok 100^.aj^L.map St.enc=ah:=by rw[AE,ab0];intro d J;simp at J;let(st,_,rfl):=J;exact zT 97 st
abbrev We(x:D)(st:St):fO x st.enc=ah:=jD^zT 98 st
abbrev UF(x:D)(L:θ St):fO x^.aj^L.map St.enc=ah:=jD^K4 L
def itr(a:St)(p:Pg)(aF:θ Int):Nat->St
 |0=>a|n+1=>step p aF^itr a p aF n
structure Run(s0:St)(p:Pg)(aF:θ Int)(most e:Nat):Prop where
 le:e<=most
 on:∀i,i<e->over p^itr s0 p aF i=ai
 last:e=most\/over p^itr s0 p aF e=ah
theorem G8(a:St)(p:Pg)(aF:θ Int):∀(r j:Nat),∃e,e<=r/\sts p aF r^itr a p aF j=(ZG (e+1)).map (λi=>itr a p aF (j+i))/\(∀i,i<e->over p^itr a p aF (j+i)=ai)/\(e=r\/over p^itr a p aF (j+e)=ah)
 |0,j=>(kW 0 (Zw _) rfl (λi J=>bM J^aet _)^.inl rfl)
 |r+1,j=>by
  rw[sts]
  by_cases c:over p^itr a p aF j=ah
  exact rwe (bK c)^(kW 0 (aax _) rfl (λi J=>bM J^aet _)^.inr c)
  ·refine rwe (bL c) ?_;let(e,W,U,O,L):=G8 _ p _ r _;have V:=by simpa using c
   refine(kW (e+1) () ?_ (λi J=>?_) ?_)
   ·show itr _ p _ j::sts p _ r^itr _ p _ (j+1)=_;refine rwe U^rwe (acQ (n:=e+1)) ?_;refine rwe ZY^rwe aaV ?_;congr 1;apply aa6;intro i _;show itr _ p _ _=itr _ p _ (j+(i+1));lia
   ·cases i with
    |zero=>exact V
    |succ i =>
     exact rwe (show j+(i+1)=j+1+i by lia)^(O i ())
   ·rcases L with L|L
    exact .inl ();exact .inr (by exact rwe (show j+(e+1)=j+1+e by lia) L)
def BH(a:St)(p:Pg)(aF:θ Int)(most:Nat):∃e,Run a p aF most e/\sts p aF most a=(ZG (e+1)).map^itr a p aF:=by let(e,V,U,O,L):=G8 _ p _ _ 0;refine(cY e #[V,λi J=>by simpa using (O i J),by simpa using L] ?_);have:sts p aF most a=sts p _ _^itr _ p aF 0:=rfl;refine rwe this (rwe U ?_);apply aa6;intro i _;simp
def At.mono{m n:Nat}{st:St}(a:At m st)(h:m<=n):At n st:=#[a.ok,ZT a.said h,a.calls]
theorem zU{a:St}{p:Pg}{aF:θ Int}{most e:Nat}(b:Pg.ok p)(J:Ask aF)(L:At 1000 a)(R:Run a p aF most e):∀i,i<=e->At (1000+i)^itr a p aF i
 |0,_=>L|i+1,h=>Bw b J (zU b J L R i ()) (R.on i ())
structure Tp where
 p:Pg
 aF:θ Int
 aJ:Nat
 most:Nat
 aG:θ St
 far:Nat
 aH:St
 now:Nat
def Tp.fs(t:Tp)(r:Nat):θ (ay×W):=[("program",.p^fG t.p),("asked",.p^.aj^cW t.aF),("gap",.p^ω t.aJ),("most",.p^ω t.most),("kept",.r r),("farthest",.p^ω t.far),("front",.p t.aH.enc),("now",.p^ω t.now)]
section
variable(t:Tp)(r:Nat)
abbrev PJ:d9 "program"^t.fs r=aa^.p^fG t.p:=by simp[Tp.fs]
abbrev UG:d9 "asked"^t.fs r=aa^.p^.aj^cW t.aF:=by simp[Tp.fs]
abbrev XS:d9 "gap"^t.fs r=aa^.p^ω t.aJ:=by simp[Tp.fs]
abbrev Wg:d9 "most"^t.fs r=aa^.p^ω t.most:=by simp[Tp.fs]
abbrev K5:d9 "kept"^t.fs r=aa^.r r:=by simp[Tp.fs]
abbrev XU:d9 "farthest"^t.fs r=aa^.p^ω t.far:=by simp[Tp.fs]
abbrev UH:d9 "front"^t.fs r=aa^.p t.aH.enc:=by simp[Tp.fs]
abbrev XX:d9 "now"^t.fs r=aa^.p^ω t.now:=by simp[Tp.fs]
abbrev XY:(t.fs r).length=8:=rfl
def K6(v:Nat):fW "gap" (.p^ω v)^t.fs r=({t with aJ:=v}:Tp).fs r:=by simp[Tp.fs]
def G9(J:Nat):fW "kept" (.r J)^t.fs r=t.fs J:=by simp[Tp.fs]
def K7(v:Nat):fW "farthest" (.p^ω v)^t.fs r=({t with far:=v}:Tp).fs r:=by simp[Tp.fs]
def DK(v:St):fW "front" (.p v.enc)^t.fs r=({t with aH:=v}:Tp).fs r:=by simp[Tp.fs]
def kB{m:String}(h:(["program","asked","gap","most","kept","farthest","front","now"]:θ String).contains m=ai):d9 m^t.fs r=af:=by simp![adA,afd,bT]at h;let(Z,Y,W,V,U,O,L,J):=h;simp[Tp.fs,Z,Y,W,V,U,O,L,J]
end
structure TAt(c:ay)(h:HH)(n r:Nat)(t:Tp):Prop where
 ob:oat h n=aa (c,t.fs r)
 li:lat h r=aa^t.aG.map St.enc
def kJ{h:HH}{n:Nat}{q:ay×θ (ay×W)}(e:oat h n=aa q):n<h.length:=by
 unfold oat at e
 grind
def jg{h:HH}{n:Nat}{q:θ D}(e:lat h n=aa q):n<h.length:=by
 unfold lat at e
 grind
def pI{h:HH}{n r:Nat}{q:ay×θ (ay×W)}{b:θ D}(e:oat h n=aa q)(a:lat h r=aa b):n≠r:=by
 rintro rfl
 unfold oat at e;unfold lat at a;cases g:h[n]? with
 |none=>rw[g]at e;exact iy e|some c=>rw[g]at e a;cases c<;>simp at e a
def pJ{h:HH}{n:Nat}(hn:n<h.length)(c:Cl):oat (h.set n c) n=tL c:=by unfold oat;refine rwe (ZZ hn) ?_;rfl
def sM{h:HH}{n i:Nat}(hn:i≠n)(c:Cl):oat (h.set n c) i=oat h i:=by unfold oat;exact rwe (ZD^aan hn) rfl
def yi{h:HH}{n:Nat}(hn:n<h.length)(c:Cl):lat (h.set n c) n=rK c:=by unfold lat;refine rwe (ZZ hn) ?_;rfl
def oi{h:HH}{n i:Nat}(hn:i≠n)(c:Cl):lat (h.set n c) i=lat h i:=by unfold lat;exact rwe (ZD^aan hn) rfl
def sN{h a:HH}{i:Nat}(e:a[i]?=h[i]?):lat a i=lat h i:=by unfold lat;exact rwe e rfl
def qm{h a:HH}{i:Nat}(e:a[i]?=h[i]?):oat a i=oat h i:=by unfold oat;exact rwe e rfl
def BI{h g:HH}{i:Nat}(a:i<h.length):lat (h++g) i=lat h i:=sN^Zs a
def BJ{h g:HH}{i:Nat}(a:i<h.length):oat (h++g) i=oat h i:=qm^Zs a
structure Go(c:ay)(n:Nat)(h:HH)(r:Nat)(t:Tp)(h':HH)(r':Nat)(t':Tp):Prop where
 a:TAt c h n r t
 b:TAt c h' n r' t'
 len:(h'.length=h.length/\r'=r)\/(h.length<=r')
 le:h.length<=h'.length
 fr:∀i,i≠n->i≠r->i<h.length->h'[i]?=h[i]?
def Go.refl{c:ay}{n:Nat}{h:HH}{r:Nat}{t:Tp}(a:TAt c h n r t):Go c n h r t h r t:=#[a,a,.inl #[rfl,rfl],Zw _,λ_ _ _ _=>rfl]
def Go.trans{c:ay}{n:Nat}{h f e:HH}{r O Y:Nat}{t W V:Tp}(x:Go c n h r t f O W)(y:Go c n f O W e Y V):Go c n h r t e Y V:=by
 refine#[x.a,y.b,?_,ZT x.le y.le,λi f e d=>?_]
 ·rcases x.len with⟨L,U⟩|L
  ·rcases y.len with⟨J,Z⟩|J
   exact .inl #[J.trans L,Z.trans U];exact .inr ()
  ·rcases y.len with⟨J,Z⟩|J
   exact .inr ();exact .inr (by have:=x.le;lia)
 ·have:i≠O:=by
   rcases x.len with⟨L,U⟩|L
   rw[U];exact e;lia
  rw[y.fr i f this (by have:=x.le;lia)];exact x.fr i f e d
def Go.other{c:ay}{n m:Nat}{h b:HH}{r J s:Nat}{t d u:Tp}(x:Go c n h r t b J d)(o:TAt c h m s u)(V:m≠n)(L:s≠r):TAt c b m s u/\s≠J:=by
 have U:m≠r:=pI o.ob x.a.li;have O:s≠n:=(pI x.a.ob o.li).symm;refine#[#[(qm^x.fr m V U^kJ o.ob).trans o.ob,(sN^x.fr s O L^jg o.li).trans o.li],?_];rcases x.len with⟨Y,W⟩|Y
 rw[W];exact L;have:=jg o.li;lia
def oj{c:ay}{n:Nat}{h d:HH}{r L:Nat}{t f:Tp}(x:Go c n h r t d L f)(w:W):fin h w d=aa (w,d):=by
 unfold fin
 by_cases c:d.length=h.length
 rw[bK c]
 ·rw[bL c];rw[bL];intro z;rcases x.len with⟨J,U⟩|J
  exact c J
  ·have hn:=kJ x.a.ob;have e:d[n]?=h[n]?:=by have q:=abF (l:=d) hn;rw[z]at q;exact q.symm
   have e2:oat d n=oat h n:=qm e;rw[x.a.ob,x.b.ob]at e2;have O:=bS (λq:ψ (ay×θ (ay×W))=>q.bind λy=>d9 "kept" y.2) e2;simp![Z0,K5,acg,W.r.injEq]at O;have:=jg x.a.li;lia
def i9:Fn:=#[["thing"],["thing"], (.ret^.and (.bi .isInt ai^cS^.v 0)^.not^.bi .isBool ai^cS^.v 0)]
def jt:Fn:=#[["self","program","asked","every","most"],["self","program","asked","every","most"], (.seq (.setf (.v 0) "program"^.v 1)^.seq (.setf (.v 0) "asked"^.bi .list ai^cS^.v 2)^.seq (.setf (.v 0) "gap"^.bi .max2 ai^cR (.v 3)^.j^ω 1)^.seq (.setf (.v 0) "most"^.bi .max2 ai^cR (.v 4)^.j^ω 0)^.seq (.setf (.v 0) "kept"^.aj ah^cS^.call "begun" .nil)^.seq (.setf (.v 0) "farthest"^.j^ω 0)^.seq (.setf (.v 0) "front"^.call "begun" .nil)^.setf (.v 0) "now"^.j^ω 0)]
def lI:Fn:=#[["self","moment"],["self","moment","state","step"], (.seq (.ex^.aE (.v 0) "check"^cS^.v 1)^.seq (.set 2^.y (.i (.v 0) "kept")^.bin .fdiv (.v 1)^.i (.v 0) "gap")^.seq (.for [(3,"step")] .rng1 (cS^.bin .mod (.v 1)^.i (.v 0) "gap")^.set 2^.aE (.v 0) "behind"^cS^.v 2)^.ret^.v 2)]
def kC:Fn:=#[["self"],["self"], (.seq (.ex^.aE (.v 0) "reach"^cS^.i (.v 0) "most")^.ret^.i (.v 0) "farthest")]
def iC:Fn:=#[["self","state"],["self","state"], (.ret^.call "stepped"^cQ (.i (.v 0) "program") (.i (.v 0) "asked")^.v 1)]
def fX:Fn:=#[["self","moment","state"],["self","moment","state"], (.ret^.or (.z .ge (.v 1)^.i (.v 0) "most")^.call "is_over"^cR (.i (.v 0) "program")^.v 2)]
def iE:Fn:=#[["self","state"],["self","state"], (.seq (.ex^.me .append (.i (.v 0) "kept")^cS^.v 1)^.v (.z .gt (.bi .len ai^cS^.i (.v 0) "kept")^.aD "MOST_MARKS") (.seq (.setf (.v 0) "kept"^.stp ah 2^.i (.v 0) "kept")^.augf (.v 0) "gap" .mul^.j^ω 2) .nil)]
def iU:Fn:=#[["self","moment"],["self","moment"], (.j (.and (.z .lt (.i (.v 0) "farthest")^.v 1)^.not^.aE (.v 0) "is_last"^cR (.i (.v 0) "farthest")^.i (.v 0) "front")^.seq (.setf (.v 0) "front"^.aE (.v 0) "behind"^cS^.i (.v 0) "front")^.seq (.augf (.v 0) "farthest" .add^.j^ω 1)^.v (.z .eq (.bin .mod (.i (.v 0) "farthest")^.i (.v 0) "gap")^.j^ω 0) (.ex^.aE (.v 0) "keep"^cS^.i (.v 0) "front") .nil)]
def ja:Fn:=#[["self","moment"],["self","moment"], (.seq (.v (.or (.not^.call "is_whole"^cS^.v 1)^.or (.z .lt (.v 1)^.j^ω 0)^.z .gt (.v 1)^.i (.v 0) "most") (.ret^.j^.bl ai) .nil)^.seq (.ex^.aE (.v 0) "reach"^cS^.v 1)^.ret^.z .le (.v 1)^.i (.v 0) "farthest")]
def iV:Fn:=#[["self","moment"],["self","moment"], (.v (.not^.aE (.v 0) "has"^cS^.v 1) .bad .nil)]
structure TpP(c:ay)(T:FK->ψ Fn)(G:ay->ψ W):Prop where
 prg:Prg T G
 is_whole:T "is_whole"=aa i9
 behind:T^.m c "behind"=aa iC
 is_last:T^.m c "is_last"=aa fX
 keep:T^.m c "keep"=aa iE
 reach:T^.m c "reach"=aa iU
 has:T^.m c "has"=aa ja
 check:T^.m c "check"=aa iV
 at_:T^.m c "at"=aa lI
 MOST_MARKS:G "MOST_MARKS"=aa^.p^ω 8
section
variable{c:ay}{T:FK->ψ Fn}{G:ay->ψ W}
def iF(P:TpP c T G)(k:Nat)(i:Int)(h:HH):φ (k+1) "is_whole" [.p^ω i] h=aa (.p^.bl ah,h):=by refine rwe (run_eq P.is_whole rfl) ?_;simp[i9,cZ]
def sO(P:TpP c T G)(k:Nat){n r:Nat}{t:Tp}{h:HH}(a:TAt c h n r t)(d:Pg.ok t.p){j:Nat}{st:St}(J:j<=5000)(b:At j st)(L:over t.p st=ai):φ (k+7) (.m c "behind") [.o n,.p st.enc] h=aa (.p (step t.p t.aF st).enc,h):=by refine rwe (run_eq P.behind rfl) ?_;simp[iC,a.ob,(yd P.prg k _ d t.aF _ b.ok (b.small J) L),cZ]
def yj(P:TpP c T G)(k:Nat){n r:Nat}{t:Tp}{h:HH}(a:TAt c h n r t)(b:Nat)(st:St):φ (k+2) (.m c "is_last") [.o n,.p^ω b,.p st.enc] h=aa (.p^.bl (decide (t.most<=b)||over t.p st),h):=by
 refine rwe (run_eq P.is_last rfl) ?_
 by_cases J:t.most<=b
 ·have L:t.most<=b:=()
  simp[fX,a.ob,J,cZ]
 ·have L:¬t.most<=b:=()
  simp[fX,a.ob,(yc P.prg k t.p st),J,L,cZ]
def PK(U b a Y O W L V J:D):ur 2 [U,b,a,Y,O,W,L,V,J]=[U,a,O,L,J]:=by show(adx _ (aao _ _ _ 9).2.1 _).filterMap _=_;rfl
def Tp.keep(t:Tp)(st:St):Tp:=if t.aG.length<8 then {t with aG:=t.aG++[st]}else {t with aG:=(ZG 5).filterMap λi=>(t.aG++[st])[2*i]?,aJ:=2*t.aJ}
def Hf(P:TpP c T G)(k:Nat){n r:Nat}{t:Tp}{h:HH}(a:TAt c h n r t)(I:t.aJ<=100000)(H:t.aG.length<=8)(st:St):
 ∃K w,φ (k+1) (.m c "keep") [.o n,.p st.enc] h=aa (.p .aC,K)/\Go c n h r t K w^t.keep st:=by
 have A:=pI a.ob a.li;have hn:=kJ a.ob;have B:=jg a.li;have e1:lat (h.set r^Cl.l (t.aG.map St.enc++[st.enc])) r=aa (t.aG.map St.enc++[st.enc]):=yi B _;have e2:oat (h.set r^Cl.l (t.aG.map St.enc++[st.enc])) n=aa (c,t.fs r):=(sM A _).trans a.ob;have q:t.aG.length<100000:=()
 by_cases d:t.aG.length<8
 ·have j:¬(8:Int)<(t.aG.length:Int)+1:=()
  have J:Go c n h r t (h.set r^Cl.l (t.aG.map St.enc++[st.enc])) r^t.keep st:=by refine#[a,#[?_,?_],.inl #[by simp,rfl],by simp,λi u e s=>ZD^aan e];rw[Tp.keep];exact rwe (bK d) e2;rw[Tp.keep];refine rwe (bK d) ?_;refine rwe e1 ?_;simp
  refine(eW _ r (rwe (run_eq P.keep rfl) ?_) J);simp[iE,a.ob,a.li,e1,e2,P.MOST_MARKS,rd,j,q,(oj J^.p .aC)]
 ·have D:t.aG.length=8:=()
  obtain⟨b,Z,Y,W,V,U,O,L,M⟩:∃b Z Y W V U O L,t.aG=[b,Z,Y,W,V,U,O,L]:=by
   match t.aG,D with
   |[b,Z,Y,W,V,U,O,L],_=>exact#[b,Z,Y,W,V,U,O,L,rfl]
  have ev:ur 2 (t.aG.map St.enc++[st.enc])=((t.keep st).aG).map St.enc:=by rw[Tp.keep];refine rwe (bL d) ?_;exact rwe M^PK _ _ _ _ _ _ _ _ _
  have j:(8:Int)<(t.aG.length:Int)+1:=()
  have C:∀g:HH,oat ((h.set r^Cl.l (t.aG.map St.enc++[st.enc]))++g) n=aa (c,t.fs r):=λg=>(BJ^by simpa using hn).trans e2;have v:(h.set r^Cl.l (t.aG.map St.enc++[st.enc])).length=h.length:=by simp
  have E:big (t.aJ:Int)=ah:=by exact bP ()
  have J:Go c n h r t ((h.set r^Cl.l (t.aG.map St.enc++[st.enc])++[Cl.l^(t.keep st).aG.map St.enc]).set n^.o c^(t.keep st).fs h.length) h.length^t.keep st:=by
   refine#[a,#[pJ (by simp;lia) _,?_],.inr^Zw _,by simp,λi u e s=>?_]
   ·rw[oi^aan^ZS hn];have:=XQ (h.set r^Cl.l (t.aG.map St.enc++[st.enc])) (Cl.l^(t.keep st).aG.map St.enc) [];rw[v]at this;exact this
   refine rwe (ZD^aan u) ?_;refine rwe (Zs^by simpa using s) ?_;exact rwe (ZD^aan e) rfl
  refine(eW _ _ (rwe (run_eq P.keep rfl) ?_) J);have f:=oj J^.p .aC;have k2:(t.keep st).fs h.length=({t with aJ:=2*t.aJ}).fs h.length:=by rw[Tp.keep];refine rwe (bL d) ?_;rfl
  have z:fW "gap" (.p^ω (t.aJ*2))^t.fs h.length=(t.keep st).fs h.length:=by refine rwe k2^rwf (K6 t _ (2*t.aJ)) ?_;congr 3;show t.aJ*2=((2*t.aJ):Int);lia
  have F:∀x y,((h.set r^Cl.l (t.aG.map St.enc++[st.enc])++[Cl.l^(t.keep st).aG.map St.enc]).set n x).set n y=(h.set r^Cl.l (t.aG.map _++[st.enc])++[Cl.l^(t.keep _).aG.map _]).set n y:=λx y=>by rw[List.set_set]
  simp[iE,a.ob,a.li,e1,e2,C,v,P.MOST_MARKS,rd,j,q,ev,G9,(pJ (by simp;lia:n<(h.set r^Cl.l (t.aG.map St.enc++[st.enc])++[Cl.l^(t.keep st).aG.map St.enc]).length)^.o c^t.fs h.length),E,z,f]
end
structure TI(s0:St)(t:Tp)(e gv:Nat):Prop where
 run:Run s0 t.p t.aF t.most e
 ok:Pg.ok t.p
 ask:Ask t.aF
 a0:At 1000 s0
 g0:0<t.aJ
 g1:t.aJ<=1000
 m1:t.most<=1000
 far:t.far<=e
 aH:t.aH=itr s0 t.p t.aF t.far
 len:t.aG.length=t.far/t.aJ+1
 l8:t.aG.length<=8
 aG:∀j,j<t.aG.length->t.aG[j]?=aa^itr s0 t.p t.aF (j*t.aJ)
 now:t.now<=t.far
 pw:∃j,t.aJ=gv*2^j/\(0<j->8<=t.far/(t.aJ/2))
structure Sm8(t t':Tp):Prop where
 p:t'.p=t.p
 aF:t'.aF=t.aF
 most:t'.most=t.most
 now:t'.now=t.now
def Sm8.refl(t:Tp):Sm8 t t:=#[rfl,rfl,rfl,rfl]
def Sm8.trans{t u v:Tp}(x:Sm8 t u)(y:Sm8 u v):Sm8 t v:=#[y.p.trans x.p,y.aF.trans x.aF,y.most.trans x.most,y.now.trans x.now]
def Tp.on(t:Tp):Tp:={t with aH:=step t.p t.aF t.aH,far:=t.far+1}
def Tp.nx(t:Tp):Tp:=if(t.far+1)%t.aJ=0 then t.on.keep t.on.aH else t.on
def Hg{f g:Nat}(J:0<g)(c:¬(f+1)%g=0):(f+1)/g=f/g:=by
 have O:=aeu f g;have L:f%g<g:=adV _ J;have e:f+1=g*(f/g)+(f%g+1):=()
 refine rwe e ?_;rw[Nat.mul_add_div J];refine rwe (Nat.div_eq_of_lt (by
  rcases ZR _ g with z|z
  exact z
  ·exfalso;apply c;refine rwe e^rwe ((by lia:f % g+1=g)) ?_;rw[Nat.mul_add_mod,Nat.mod_self]:f % g+1 < g)) ?_;lia
def Hh{f g:Nat}(J:0<g)(c:(f+1)%g=0):(f+1)/g=f/g+1/\(f/g+1)*g=f+1:=by
 have U:=aeu f g;have O:f%g<g:=adV _ J;have L:f%g+1=g:=by
  rcases ZR _ g with z|z
  ·rw[(by lia:f+1=g*(f/g)+(f%g+1)),Nat.mul_add_mod,Nat.mod_eq_of_lt z]at c;lia
  lia
 have e:f+1=(f/g+1)*g:=()
 exact#[by exact rwe e^rwe (adE _ J) rfl,e.symm]
def TI.nx{r:St}{t:Tp}{e gv:Nat}(I:TI r t e gv)(h:t.far<e):TI r t.nx e gv/\Sm8 t t.nx/\t.nx.far=t.far+1:=by
 have u:=I.g0;have W:step t.p t.aF t.aH=itr r t.p t.aF (t.far+1):=by refine rwe I.aH ?_;rfl
 have s:∀g:Nat,t.far/g<=(t.far+1)/g:=λg=>afm^aal _;unfold Tp.nx
 by_cases c:(t.far+1)%t.aJ=0
 ·refine rwe (bK c) (uxA (Hh u c) λn f=>?_);have U:t.on.aH=itr r t.p t.aF (t.far+1):=W;have b:∀j,j<t.aG.length+1->(t.aG++[itr r t.p t.aF (t.far+1)])[j]?=aa^itr r t.p t.aF (j*t.aJ):=λj J=>by
   rcases ZR j t.aG.length with z|z
   refine rwe (Zs z) ?_;exact I.aG j z
   ·have l:j=t.aG.length:=()
    subst l;refine rwe (aab^Zw _) ?_;rw[Nat.sub_self];refine rwe ((by exact rwe I.len f:t.aG.length*t.aJ=t.far+1)) ?_;rfl
  unfold Tp.keep
  by_cases k:t.aG.length<8
  ·have L:t.on.aG.length<8:=k;refine rwe (bK L)^(f6 #[I.run,I.ok,I.ask,I.a0,u,I.g1,I.m1,h,W,?_,?_,λj J=>?_,?_,?_] #[rfl,rfl,rfl,rfl] rfl);refine rwe n ?_;refine rwe ZX^rwe I.len ?_;rfl
   ·show(t.aG++[t.on.aH]).length<=8;refine rwe ZX ?_;simp;lia
   ·have a:j<t.aG.length+1:=by exact rwf ((by simp:(t.aG++[t.on.aH]).length=t.aG.length+1)) J
    exact rwe U^b j a
   show t.now<=t.far+1;have:=I.now;lia;exact cX I.pw λj V Y=>((cY j V (λJ=>ZT (Y J)^s _)))
  ·have L:¬t.on.aG.length<8:=k;refine rwe (bL L) ?_;have v:t.aG.length=8:=by have:=I.l8;lia
   have d:t.far+1=8*t.aJ:=by refine rwf f ?_;exact rwf I.len^rwe v rfl
   have le:=I.run.le;have w:=I.m1;have O:∀i,i<5->(t.aG++[itr r t.p t.aF (t.far+1)])[2*i]?=aa^itr r t.p t.aF (i*(2*t.aJ)):=λi o=>by refine rwe (b (2*i) ()) ?_;congr 2;refine rwe (abX 2 i) ?_;rw[Nat.mul_assoc]
   have Z:(ZG 5).filterMap (λi=>(t.aG++[t.on.aH])[2*i]?)=(ZG 5).map λi=>itr r t.p t.aF (i*(2*t.aJ)):=by refine rwe U^rwe (show ZG 5=[0,1,2,3,4] from rfl) ?_;simp![Z6,List.filterMap_nil,O 0 ∅,O 1 ∅,O 2 ∅,O 3 ∅,O 4 ∅,ZY,aaH]
   have m:(t.far+1)/(2*t.aJ)=4:=by refine rwe d ?_;exact rwe (show 8*t.aJ=4*(2*t.aJ) by lia) (adE _ ())
   refine(f6 #[I.run,I.ok,I.ask,I.a0,?_,?_,I.m1,h,W,?_,?_,λj J=>?_,?_,?_] #[rfl,rfl,rfl,rfl] rfl);show 0<2*t.aJ;lia;show 2*t.aJ<=1000;lia;refine rwe Z^rwe m ?_;simp;refine rwe Z ?_;simp
   ·refine rwe Z^rwe ZP ?_;refine rwe (abD (by
     have q:j < ((ZG 5).filterMap λi=>(t.aG++[t.on.aH])[2*i]?).length:=J;rw[Z] at q;simpa using q)) ?_;rfl
   show t.now<=t.far+1;have:=I.now;lia
   ·refine cX I.pw λj V Y=>((cY (j+1) ?_ (λ_=>?_)))
    ·show 2*t.aJ=gv*2^(j+1);refine rwe V ?_;rw[Nat.pow_succ];rw[abX 2,Nat.mul_assoc]
    ·show 8<=(t.far+1)/(2*t.aJ/2);refine rwe (Nat.mul_div_cancel_left _ ())^rwe d ?_;exact rwe (adE _ u)^Zw _
 ·refine rwe (bL c)^(f6 #[I.run,I.ok,I.ask,I.a0,u,I.g1,I.m1,h,W,?_,I.l8,I.aG,?_,?_] #[rfl,rfl,rfl,rfl] rfl);exact rwe I.len^rwe (Hg u c) rfl;show t.now<=t.far+1;have:=I.now;lia;exact cX I.pw λj V Y=>((cY j V (λJ=>ZT (Y J)^s _)))
section
variable{c:ay}{s0:St}{T:FK->ψ Fn}{G:ay->ψ W}
def rcC:E:=(.and (.z .lt (.i (.v 0) "farthest")^.v 1)^.not^.aE (.v 0) "is_last"^cR (.i (.v 0) "farthest")^.i (.v 0) "front")
def rcB:S:=(.seq (.setf (.v 0) "front"^.aE (.v 0) "behind"^cS^.i (.v 0) "front")^.seq (.augf (.v 0) "farthest" .add^.j^ω 1)^.v (.z .eq (.bin .mod (.i (.v 0) "farthest")^.i (.v 0) "gap")^.j^ω 0) (.ex^.aE (.v 0) "keep"^cS^.i (.v 0) "front") .nil)
def uH(t:Tp)(r:Nat):d9 "is_last"^t.fs r=af:=kB t r rfl
def yk(t:Tp)(r:Nat):d9 "behind"^t.fs r=af:=kB t r rfl
def PL(t:Tp)(r:Nat):d9 "keep"^t.fs r=af:=kB t r rfl
def BK(t:Tp)(r:Nat):d9 "reach"^t.fs r=af:=kB t r rfl
def Hi(t:Tp)(r:Nat):d9 "has"^t.fs r=af:=kB t r rfl
def K8(t:Tp)(r:Nat):d9 "check"^t.fs r=af:=kB t r rfl
def XZ(t:Tp)(r:Nat):d9 "at"^t.fs r=af:=kB t r rfl
def UI(t:Tp)(r:Nat):d9 "end"^t.fs r=af:=kB t r rfl
def UJ{n r:Nat}{t:Tp}{h:HH}(a:TAt c h n r t)(b:Tp)(k:b.aG=t.aG):Go c n h r t (h.set n^.o c^b.fs r) r b:=by have hn:=kJ a.ob;exact#[a,#[pJ hn _,by rw[oi^aan^pI a.ob a.li];exact rwe k a.li],.inl #[by simp,rfl],by simp,λi J _ _=>ZD^aan J]
def K9(P:TpP c T G)(k:Nat){n r:Nat}{t:Tp}{h:HH}{e:Nat}(a:TAt c h n r t)(I:TI s0 t e gv)(g:t.far<e)(w:W):
 ∃C Y,evS (φ (k+7)) G rcB [aa^.o n,aa w] h=aa^.nx [aa^.o n,aa w] C/\Go c n h r t C Y t.nx:=by
 have hn:=kJ a.ob;have L:=zU I.ok I.ask I.a0 I.run t.far ();have le:=I.run.le;have D:=I.m1;have q:=sO P k a I.ok (j:=1000+t.far) (st:=t.aH) () (by exact rwe I.aH L) (by exact rwe I.aH^I.run.on _ g);have J:=UJ a t.on rfl;have e1:oat (h.set n^.o c^({t with aH:=step t.p t.aF t.aH}:Tp).fs r) n=aa (c,({t with aH:=step t.p t.aF t.aH}:Tp).fs r):=pJ hn _;have Z:=DK t r^step t.p t.aF t.aH;have d:fW "farthest" (.p^ω ((t.far:Int)+1))^({t with aH:=step _ _ _}:Tp).fs r=t.on.fs r:=K7 ({t with aH:=step _ _ _}:Tp) r _;have e2:oat (h.set n^.o c^t.on.fs r) n=aa _:=pJ hn _;have E:0<t.aJ:=by have:=I.g0;lia
 have s:∀x y,(h.set n x).set n y=h.set n y:=λx y=>by rw[List.set_set]
 have B:t.on.far=t.far+1:=rfl;have O:t.on.aJ=t.aJ:=rfl;refine rwe (by
  rw[rcB];simp[a.ob,q,yk,Z,e1,d]:evS (φ (k+7)) G rcB [aa^.o n,aa w] h=evS (φ (k+7)) G (.v (.z .eq (.bin .mod (.i (.v 0) "farthest")^.i (.v 0) "gap")^.j^ω 0) (.ex^.aE (.v 0) "keep"^.cons (.i (.v 0) "front") .nil) .nil) [aa^.o n,aa w]^h.set n^.o c^t.on.fs r) ?_
 unfold Tp.nx;have u:(((t.far+1)%t.aJ):Int)=(t.far+1)%t.aJ:=by simp
 by_cases U:(t.far+1)%t.aJ=0
 ·refine rwe (bK U) ?_;let(l,V,f,k2):=Hf P (k+6) J.b (by show t.aJ<=100000;have:=I.g1;lia) (by exact I.l8) _;refine(eW l V ?_^J.trans k2);simp[e2,B,O,I.g0,(by lia:((t.far:Int)+1)%t.aJ=0),PL,f]
 ·refine rwe (bL U) ?_;have m:¬((t.far:Int)+1)%t.aJ=0:=()
  refine(eW _ r ?_ J);simp[e2,B,O,I.g0,(by simpa using m)]
def vM(P:TpP c T G)(k:Nat){n r:Nat}{t:Tp}{h:HH}{e:Nat}(a:TAt c h n r t)(I:TI s0 t e gv)(m:Nat):
 aK (φ (k+7)) G rcC [aa^.o n,aa^.p^ω m] h=aa (.p^.bl (decide (t.far<min m e)),h):=by
 have J:=yj P (k+5) a t.far t.aH;have le:=I.run.le
 by_cases V:t.far<m
 ·have L:(t.far:Int)<m:=()
  by_cases U:t.far<e
  ·have o:over t.p t.aH=ai:=by exact rwe I.aH^I.run.on _ U
   have q:(decide (t.most<=t.far)||over t.p t.aH)=ai:=by refine rwe o ?_;rw[ab9];exact bO ()
   rw[q]at J;have d:decide (t.far<min m e)=ah:=bP ();refine rwe d ?_;simp[rcC,a.ob,L,uH,J]
  ·have O:t.far=e:=by have:=I.far;lia
   have q:(decide (t.most<=t.far)||over t.p t.aH)=ah:=by
    rcases I.run.last with z|z
    refine rwe (bP ()) ?_;rfl;refine rwe I.aH ?_;rw[O,z,Bool.or_true]
   rw[q]at J;have d:decide (t.far<min m e)=ai:=bO ();refine rwe d ?_;simp[rcC,a.ob,L,uH,J]
 ·have L:¬(t.far:Int)<m:=()
  have d:decide (t.far<min m e)=ai:=bO ();refine rwe d ?_;simp[rcC,a.ob,L]
def La(P:TpP c T G)(k:Nat)(n:Nat)(e gv m:Nat):∀(d f:Nat)(h:HH)(r:Nat)(t:Tp),TAt c h n r t->TI s0 t e gv->min m e-t.far<=d->d<=f →
 ∃C Y B,fT (aK (φ (k+7)) G rcC) (evS (φ (k+7)) G rcB) (f+1) [aa^.o n,aa^.p^ω m] h=aa^.nx [aa^.o n,aa^.p^ω m] C/\Go c n h r t C Y B/\TI s0 B e gv/\Sm8 t B/\B.far=max t.far^min m e:=by
 intro d
 induction d with
 |zero =>
  intro f h r t a I i g;have q:=vM P k a I m;rw[bO ()]at q;refine(fL h r t ?_ (.refl a) I (.refl t) ());rw[fT,q,kG,rR]
 |succ d Z =>
  intro f h r t a I i g
  by_cases L:t.far<min m e
  ·have q:=vM P k a I m;replace q:=(bP L) ▸ q;refine fz (K9 P k a I ()^.p^ω m) λy x u J=>(jk (I.nx ()) λw V A=>?_);cases f with
   |zero=>lia
   |succ f =>
    refine jz (Z f _ _ _ J.b w () ()) λj W O s l v U z=>((fL j W O ?_ (J.trans l) v (V.trans U) ()));rw[fT,q,kG,pZ,u,gn,s]
  ·have q:=vM P k a I m;replace q:=(bO L) ▸ q;refine(fL h r t ?_ (.refl a) I (.refl t) ());rw[fT,q,kG,rR]
theorem yl:iU=⟨["self","moment"],["self","moment"],.j rcC rcB⟩:=rfl
inductive DL{α:Type}(c:ay)(s0:St)(x:ψ (α×HH))(y:α)(n:Nat)(h:HH)(r:Nat)(t:Tp)(e gv f:Nat):Prop
 |mk(h':HH)(J:Nat)(t':Tp)(q:x=aa (y,h'))(g:Go c n h r t h' J t')(i:TI s0 t' e gv)(m:Sm8 t t')(a:t'.far=f):DL c s0 x y n h r t e gv f
def uI(P:TpP c T G)(k:Nat){n r:Nat}{t:Tp}{h:HH}{e:Nat}(a:TAt c h n r t)(I:TI s0 t e gv)(m:Nat):
 DL c s0 (φ (k+8) (.m c "reach") [.o n,.p^ω m] h) (.p .aC) n h r t e gv^max t.far^min m e:=by
 have le:=I.run.le;have d:=I.m1;refine jz (La P k n e _ m 99999 _ h r t a I ()^Zw _) λO L J b g U s f=>#[O,L,J,?_,g,U,s,f];refine rwe (run_eq P.reach rfl)^rwe yl ?_;simp[turns,b,(oj g^.p .aC)]
def vN(P:TpP c T G)(k:Nat){n r:Nat}{t:Tp}{h:HH}{e:Nat}(a:TAt c h n r t)(I:TI s0 t e gv)(m:Nat)(Z:m<=t.most):
 DL c s0 (φ (k+9) (.m c "has") [.o n,.p^ω m] h) (.p^.bl (decide (m<=e))) n h r t e gv^max t.far^min m e:=by
 let(U,O,J,b,g,Y,s,f):=uI P k a I m;refine#[U,O,J,(rwe (run_eq P.has rfl) ?_),g,Y,s,f];have w:=iF P (k+7) m;have W:¬((m:Int)<0):=()
 have V:¬(t.most<m):=()
 have d:=I.far;simp[ja,w,W,a.ob,V,BK,b,g.b.ob,(oj g)];simpa using (by
  by_cases L:m<=e
  refine rwe (bP L) ?_;exact bP ();refine rwe (bO L) ?_;exact bO ()
 :decide (m<=J.far)=decide (m<=e))
def DM(P:TpP c T G)(k:Nat){n r:Nat}{t:Tp}{h:HH}{e:Nat}(a:TAt c h n r t)(I:TI s0 t e gv)(m:Nat)(J:m<=e):
 DL c s0 (φ (k+10) (.m c "check") [.o n,.p^ω m] h) (.p .aC) n h r t e gv^max t.far m:=by
 let(U,O,L,b,g,V,s,f):=vN P k a I m^ZT J I.run.le;rw[bP J]at b;refine#[U,O,L,(rwe (run_eq P.check rfl) ?_),g,V,s,()];simp[iV,a.ob,Hi,b,(oj g^.p .aC)]
def atB:S:=(.set 2^.aE (.v 0) "behind"^cS^.v 2)
theorem BN(P:TpP c T G)(k:Nat){n r:Nat}{t:Tp}{h:HH}{e gv:Nat}(a:TAt c h n r t)(I:TI s0 t e gv)(J:W):∀(q j:Nat)(x:ψ W)(lo:Int),j+q<=e →
 ∃L,fC (evS (φ (k+7)) G atB) [(3,"step")] (upto lo q) [aa^.o n,aa J,aa^.p (itr s0 t.p t.aF j).enc,x] h=aa^.nx [aa^.o n,aa J,aa^.p (itr s0 t.p t.aF (j+q)).enc,L] h
 |0,j,x,lo,_=>#[x,rfl]
 |q+1,j,x,lo,f=>by
  have le:=I.run.le;have d:=I.m1;let(L,b):=BN P k a I J q (j+1) (aa^.p^ω lo) (lo+1) ();refine#[L,?_];have O:=sO P k a I.ok (st:=itr _ _ _ j) () (zU I.ok I.ask I.a0 I.run j ()) (I.run.on j ());have U:upto lo (q+1)=ω lo::upto (lo+1) q:=by unfold upto;refine rwe acQ ?_;refine rwe ZY^rwe aaV ?_;simp![Int.natCast_zero,Int.add_zero,abY,true_and];apply aa6;intro i _;simp;lia
  refine rwe U ?_;have V:step t.p t.aF^itr s0 _ _ j=itr _ _ _ (j+1):=rfl;rw[V] at O;rw[(by lia:j+1+q=j+(q+1))] at b;simp[(by
   simp[atB,a.ob,yk,O]:evS (φ (k+7)) G atB [aa^.o n,aa J,aa^.p (itr s0 t.p t.aF j).enc,aa^.p^ω lo] h=aa^.nx [aa^.o n,aa J,aa^.p (itr s0 t.p t.aF (j+1)).enc,aa^.p^ω lo] h),b]
theorem Hj:lI=⟨["self","moment"],["self","moment","state","step"],(.seq (.ex^.aE (.v 0) "check"^.cons (.v 1) .nil)
 (.seq (.set 2^.y (.i (.v 0) "kept")^.bin .fdiv (.v 1)^.i (.v 0) "gap")
  (.seq (.for [(3,"step")] .rng1 (.cons (.bin .mod (.v 1)^.i (.v 0) "gap") .nil) atB)
   (.ret^.v 2))))⟩:=rfl
def PM(P:TpP c T G)(k:Nat){n r:Nat}{t:Tp}{h:HH}{e:Nat}(a:TAt c h n r t)(I:TI s0 t e gv)(m:Nat)(Y:m<=e):
 DL c s0 (φ (k+11) (.m c "at") [.o n,.p^ω m] h) (.p (itr s0 t.p t.aF m).enc) n h r t e gv^max t.far m:=by
 let(Z,V,J,b,g,L,s,f):=DM P k a I m Y;refine#[Z,V,J,?_,g,L,s,f];refine rwe (run_eq P.at_ rfl)^rwe Hj ?_;have w:=oj g;have u:=L.g0;have x:=L.g1;have dm:=aeu m J.aJ;have q:=adV m u;have W:m/J.aJ<J.aG.length:=by refine rwe L.len ?_;have:m/J.aJ<=J.far/J.aJ:=afm ();lia
 have U:=L.aG _ W;rw[s.p,s.aF]at U;have d:0<J.aJ:=()
 have i:(J.aJ:Int)<1073741824:=()
 have e1:(m:Int)/J.aJ=((m/J.aJ:Nat)):=by simp
 have e2:(m:Int)%J.aJ=((m%J.aJ:Nat)):=by simp
 have v:d7 (.aj^J.aG.map St.enc)^ω^(m/J.aJ:Nat)=aa (itr s0 t.p t.aF (m/J.aJ*J.aJ)).enc:=by show atP _ _=_;rw[iB];refine rwe ZP ?_;refine rwe U ?_;rfl
 refine uxE (BN P (k+3) g.b L (.p^ω m) (m%J.aJ) (m/J.aJ*J.aJ) af 0^by rw[abX];lia) λl O=>?_;rw[s.p,s.aF]at O;have j:m/J.aJ*J.aJ+m%J.aJ=m:=by rw[abX];exact dm
 rw[j] at O;simp[-dS,-fY,-Int.natCast_ediv,-Int.natCast_emod,a.ob,K8,b,g.b.ob,g.b.li,rd,d,u,i,e1,e2,v,(by
  rw[fY];refine rwe (bK (by
   simp![Zp,bN];lia)) ?_;rfl:gh .rng1 [ω^(m % J.aJ:Nat)]=aa^upto 0 (m % J.aJ)),jd,O,w]
structure TpM(c:ay)(T:FK->ψ Fn):Prop where
 end_:T^.m c "end"=aa kC
def Lb(P:TpP c T G)(M:TpM c T)(k:Nat){n r:Nat}{t:Tp}{h:HH}{e:Nat}(a:TAt c h n r t)(I:TI s0 t e gv):
 DL c s0 (φ (k+9) (.m c "end") [.o n] h) (.p^ω e) n h r t e gv e:=by
 let(U,O,J,b,g,V,s,f):=uI P k a I t.most;have le:=I.run.le;have W:=I.far;have L:J.far=e:=()
 refine#[U,O,J,(rwe (run_eq M.end_ rfl) ?_),g,V,s,L];simp[kC,a.ob,BK,b,g.b.ob,L,(oj g)]
def pK{h a:HH}(i:Nat)(b:i<h.length)(J:a[i]?≠h[i]?)(w:W):fin h w a=aa (w,a):=by
 unfold fin
 by_cases c:a.length=h.length
 rw[bK c]
 ·rw[bL c,bL];intro z;apply J;have q:=abF (l:=a) b;rw[z]at q;exact q.symm
end
def jP:Fn:=#[["thing"],["thing"], (.ret^.and (.call "is_whole"^cS^.v 0)^.chain .le .lt (.j^ω 0) (.v 0)^.aD "CELL_COUNT")]
def gA:Fn:=#[["thing"],["thing"], (.v (.and (.not^.call "is_name"^cS^.v 0)^.not^.call "is_cell"^cS^.v 0) .bad .nil)]
structure ThP(T:FK->ψ Fn):Prop where
 is_cell:T "is_cell"=aa jP
 check:T "check_thing"=aa gA
inductive Th
 |nm(x:Nm)|cl(i:Nat)(h:i<4)
def Th.enc:Th->D
 |.nm x=>.str x.w|.cl i _=>ω i
def Th.val(st:St):Th->Int
 |.nm x=>st.names.getD x.ix 0|.cl i _=>st.cells.getD i 0
def gP:Fn:=#[["state","thing","worth"],["state","thing","worth"], (.seq (.v (.call "is_name"^cS^.v 1) (.ret^.bin .add (.bin .add (.n (.v 0) .nil^cS^.aD "NAMES")^.aB^cS^.call "with_name"^cQ (.v 0) (.v 1)^.v 2)^.n (.v 0) (cS^.bin .add (.aD "NAMES")^.j^ω 1) .nil) .nil)^.ret^.bin .add (.bin .add (.n (.v 0) .nil^cS^.aD "CELLS")^.aB^cS^.call "with_worth"^cQ (.y (.v 0)^.aD "CELLS") (.v 1)^.v 2)^.n (.v 0) (cS^.bin .add (.aD "CELLS")^.j^ω 1) .nil)]
structure LdP(T:FK->ψ Fn)(G:ay->ψ W):Prop where
 with_thing:T "with_thing"=aa gP
def Th.put(st:St)(v:Int):Th->St
 |.nm x=>{st with names:=st.names.set x.ix v}|.cl i _=>{st with cells:=st.cells.set i v}
structure Szd(st:St):Prop where
 n:st.names.length=6
 c:st.cells.length=4
def Szd.put{st:St}(z:Szd st)(v:Int)(th:Th):Szd^th.put st v:=by
 cases th with
 |nm x=>exact#[by exact rwe ZV z.n,z.c]|cl i h=>exact#[z.n,by exact rwe ZV z.c]
def Th.PN{st:St}(J:st.ok){v:Int}(O:Wth v)(th:Th):(th.put st v).ok:=by
 have z:=Szd.put #[J.nlen,J.clen] v th;cases th with
 |nm x=>exact#[z.n,z.c,λy L=>(abu L).elim (J.nw y) λe=>e ▸ O,J.cw]|cl i h=>exact#[z.n,z.c,J.nw,λy L=>(abu L).elim (J.cw y) λe=>e ▸ O]
def ju{F:FK->θ W->HH->ψ (W×HH)}{G:ay->ψ W}{L:Sr}{O:Es}{c:θ ay}{U:θ (Nat×ay)}{cond:Es}{J:E}{s:Sl}{h h1 d:HH}{ws:θ W}{e b:θ D}{fs:Sl}(e1:evs F G O s h=aa (ws,h1))(e2:(rds ws h1).bind^gh L=aa e)(a:frees s U=aa fs)(Z:jd ws=ah)(Y:fE (fH (evs F G cond) (aK F G J) fs) c.length e h1=aa (b,d))(V:b.length<=100000):aK F G (.comp ai L O c U cond J) s h=aa (.p^.aj b,d):=by show bnd _ _=_;refine rwe e1 ?_;rw[gM];unfold oR;refine rwe e2^rwe a ?_;dsimp only;refine rwe (bK Z)^rwe Y ?_;rw[gM];unfold kM;refine rwe (bK^V) ?_;rfl
def zV{J:Type}(f:θ D->HH->ψ (ψ D×HH))(mk:J->D)(g:J->ψ D)(h:HH):∀(l:θ J),(∀x∈l,f [mk x] h=aa (g x,h))->fE f 1 (l.map mk) h=aa (l.filterMap g,h):=by
 intro l
 induction l with
 |nil=>intro _;rfl
 |cons x r O =>
  intro L;show bnd _ _=_;rw[L x ZF,gM,AI,O λy U=>L y^Zz _ U,gM,w5,Z6];cases g x<;>rfl
def Hl{L:Type}(f:θ D->HH->ψ (ψ D×HH))(mk:L->D)(g:L->ψ D)(J:HH->Prop):∀(l:θ L),(∀x∈l,∀h,J h->∃c,f [mk x] h=aa (g x,c)/\J c)->∀h,J h->∃c,fE f 1 (l.map mk) h=aa (l.filterMap g,c)/\J c:=by
 intro l
 induction l with
 |nil=>intro _ h O;exact(cY h rfl O)
 |cons x r V =>
  intro U h O;refine cX (U x ZF h O) λb e1 Y=>?_;refine cX (V (λy Z=>U y^Zz _ Z) _ Y) λa e2 W=>((cY a ?_ W));show bnd (f _ h)^Jl^fE f 1^r.map _=_;rw[e1,gM,AI,e2,gM,w5,Z6];cases g x<;>rfl
def gF:Fn:=#[["_law_script","_law_at"],["_law_script","_law_at"], (.ret^.y (.aj ai^cL (.j^.str "a") (.j^.str "b") (.j^.str "c") (.j^.str "f") (.j^ω 0) (.j^ω 1) (.j^ω 2)^.j^ω 3)^.call "_law_drawn"^cQ (.v 0) (.v 1)^.j^ω 8)]
def nu:Fn:=#[["_law_state","_law_thing_here"],["_law_state","_law_thing_here"], (.seq (.v (.bi .isStr ai^cS^.v 1) (.ret^.y (.y (.v 0)^.j^ω 1)^.me .sindex (.j^.str "abcdef")^cS^.v 1) .nil)^.ret^.y (.y (.v 0)^.j^ω 2)^.v 1)]
section
variable{c:ay}{T:FK->ψ Fn}{G:ay->ψ W}
def kK(P:Prg T G)(k:Nat)(i:Int)(h:HH):φ (k+1) "is_name" [.p^ω i] h=aa (.p^.bl ai,h):=by refine rwe (run_eq P.is_name rfl) ?_;simp[iQ,P.LETTERS,cZ]
def ym(P:TpP c T G)(C:ThP T)(k:Nat){i:Nat}(a:i<4)(h:HH):φ (k+2) "is_cell" [.p^ω i] h=aa (.p^.bl ah,h):=by
 refine rwe (run_eq C.is_cell rfl) ?_;have J:(0:Int)<=i:=()
 simp[jP,(iF P k i h),P.prg.CELL_COUNT,(by lia:(i:Int)<4),cZ]
def lP(P:TpP c T G)(C:ThP T)(k:Nat)(th:Th)(h:HH):φ (k+3) "check_thing" [.p th.enc] h=aa (.p .aC,h):=by
 refine rwe (run_eq C.check rfl) ?_;cases th with
 |nm x =>
  simp[gA,Th.enc,(mK P.prg (k+1) x h),cZ]
 |cl i J =>
  simp[gA,Th.enc,(kK P.prg (k+1) i h),(ym P C k J h),cZ]
def tU(P:TpP c T G)(C:ThP T)(k:Nat){st:St}(J:st.ok)(th:Th)(h:HH):φ (k+4) "worth_in" [.p st.enc,.p th.enc] h=aa (.p^ω^th.val st,h):=by
 cases th with
 |nm x=>exact pH P.prg _ _ J x h
 |cl i L =>
  refine rwe (run_eq P.prg.worth_in rfl) ?_;have n:=kK P.prg (k+2) i h;have O:=lP P C k (.cl i L) h;have a:d7 (.aB^cW st.cells)^ω i=aa^ω^st.cells.getD i 0:=by show atP _ _=_;rw[iB];simp[cW,Zu^by exact rwe J.clen L]
  simp![Th.enc]at O;simp[-iP,i7,Th.enc,Th.val,n,O,P.prg.CELLS,(rfl:d7 st.enc^ω 2=aa^.aB^cW _),a,cZ]
def sP(P:TpP c T G)(L:LdP T G)(k:Nat){st:St}(J:st.ok)(th:Th)(v:Int)(h:HH):φ (k+3) "with_thing" [.p st.enc,.p th.enc,.p^ω v] h=aa (.p (th.put st v).enc,h):=by
 refine rwe (run_eq L.with_thing rfl) ?_;cases th with
 |nm x =>
  have w:=kI P.prg k _ J x v h;have i:=mK P.prg (k+1) x h;rw[St.enc]at w;simp[gP,Th.enc,i,P.prg.NAMES,w,cZ,St.enc,Th.put]
 |cl j O =>
  have w:=jO P.prg (k+1) (cW _) j (by rw[kT];refine rwe J.clen ?_;exact O) (by rw[kT,J.clen];lia) (ω v) h;simp[gP,Th.enc,(kK P.prg (k+1) j h),P.prg.CELLS,w,cZ,St.enc,Th.put];exact(ae4).symm
def Ho{st:St}(J:st.ok)(x:Nm):d7 (.aB^cW st.names)^ω x.ix=aa^ω^st.names.getD x.ix 0:=by rw[iP,iB];simp[cW,(by exact rwe J.nlen x.GU:x.ix<st.names.length)]
def gG(L:Lw T)(b:θ Int)(O:b.length<=1000)(q a:Int)(J:0<a):∃z:Nat,(z:Int)<a/\∀k h,φ (k+2) "_law_drawn" [.p^.aj^cW b,.p^ω q,.p^ω a] h=aa (.p^ω (z:Int),h):=by
 have V:=gY b q J;have U:=gZ b q J;refine(cY ((drw b q a).toNat) (by omega) (λk h=>(rwe ((g7 (G:=G) L k _ O q _ J h)) ?_)));congr 4
 omega
def uJ(L:Lw T)(U:T "_law_thing"=aa gF)(d:θ Int)(O:d.length<=1000)(p:Int):∃th:Th,∀k h,φ (k+3) "_law_thing" [.p^.aj^cW d,.p^ω p] h=aa (.p th.enc,h):=by
 refine cX (gG (G:=G) L _ O p 8 ∅) λz W V=>?_;have J:∃th:Th,d7 (.aj [.str "a",.str "b",.str "c",.str "f",ω 0,ω 1,ω 2,ω 3])^ω z=aa th.enc:=by
  rcases (by omega:z=0\/z=1\/z=2\/z=3\/z=4\/z=5\/z=6\/z=7)with rfl|rfl|rfl|rfl|rfl|rfl|rfl|rfl
  exact#[.nm .a,rfl];exact#[.nm .b,rfl];exact#[.nm .c,rfl];exact#[.nm .f,rfl];exact#[.cl 0 ∅,rfl];exact#[.cl 1 ∅,rfl];exact#[.cl 2 ∅,rfl];exact#[.cl 3 ∅,rfl]
 let(th,e):=J;refine#[th,λk h=>(rwe (run_eq U rfl) ?_)];simp[-dS,gF,(V k h),e,cZ]
def Hq(L:T "_law_of"=aa nu){st:St}(J:st.ok)(th:Th)(k:Nat)(h:HH):φ (k+1) "_law_of" [.p st.enc,.p th.enc] h=aa (.p^ω^th.val st,h):=by
 cases th with
 |nm x =>
  refine GY L rfl^Pp rfl ?_;simp[-iP,-aaS,Th.enc,(tT x),(Ho J x),Th.val,ix0,ix1]
 |cl i U =>
  have O:i<st.cells.length:=by exact rwe J.clen U
  exact GY L rfl^(GX rfl).trans^jN^UD (d:=.aB^cW _) rfl rfl (by
   rw[iP,iB];simp[cW,O]:d7 (.aB^cW st.cells)^ω i=aa^ω^st.cells.getD i 0)
end
section
variable{T:FK->ψ Fn}{G:ay->ψ W}
def Rw.told(aF:θ Int)(st:St):Rw->D
 |.set x s=>.aB [.str x.w,ω^s.val st]|.put s t=>.aB [ω (s.val st%4),ω^t.val st]|.ask x=>.aB [.str x.w,ω^aF.getD st.aF 0]|_=>.aC
abbrev X0(st:St):wV st.enc (aa 3) af=aa^.aB [.aB^cU st.calls,ω st.aF,.aB^cW st.said]:=rfl
section
variable{F:FK->θ W->HH->ψ (W×HH)}
end
end
def iG:Fn:=#[["self","program","asked","most","state"],["self","program","asked","most","state"], (.seq (.ex^.sup "Tape"^cO (.v 0) (.v 1) (.v 2) (.j^ω 1)^.v 3)^.seq (.setf (.v 0) "kept"^.aj ah^cS^.v 4)^.setf (.v 0) "front"^.v 4)]
def jv:Fn:=#[["self","program","asked","most"],["self","program","asked","most"], (.seq (.setf (.v 0) "program"^.v 1)^.seq (.setf (.v 0) "asked"^.bi .list ai^cS^.v 2)^.seq (.setf (.v 0) "most"^.v 3)^.seq (.setf (.v 0) "origins"^.aj ah^cS^.j .aC)^.setf (.v 0) "branches"^.obl^.make "Branch"^cP (.v 1) (.v 2) (.v 3)^.call "begun" .nil)]
def jw:Fn:=#[["self","run","moment","thing","worth"],["self","run","moment","thing","worth","state"], (.seq (.set 5^.aE (.v 0) "at"^cR (.v 1)^.v 2)^.seq (.ex^.call "check_thing"^cS^.v 3)^.seq (.ex^.me .append (.i (.v 0) "origins")^cS^.aB^cR (.v 1)^.v 2)^.seq (.ex^.oba (.i (.v 0) "branches")^.make "Branch"^cP (.i (.v 0) "program") (.i (.v 0) "asked") (.bin .sub (.i (.v 0) "most")^.v 2)^.call "with_thing"^cQ (.v 5) (.v 3)^.v 4)^.ret^.bin .sub (.obn^.i (.v 0) "branches")^.j^ω 1)]
def lJ:Fn:=#[["self","run","moment"],["self","run","moment","holder","branch","number"], (.seq (.ex^.aE (.v 0) "check_run"^cS^.v 1)^.seq (.set 3^.aE (.v 0) "holder"^cR (.v 1)^.v 2)^.seq (.set 4^.obi (.i (.v 0) "branches")^.v 3)^.seq (.set 5^.bin .sub (.v 2)^.aE (.v 0) "first"^cS^.v 3)^.seq (.v (.not^.aE (.v 4) "has"^cS^.v 5) .bad .nil)^.ret^.aE (.v 4) "at"^cS^.v 5)]
def fU:Fn:=#[["self","run"],["self","run"], (.seq (.ex^.aE (.v 0) "check_run"^cS^.v 1)^.ret^.bin .add (.aE (.v 0) "first"^cS^.v 1)^.aE (.obi (.i (.v 0) "branches")^.v 1) "end" .nil)]
def fk:Fn:=#[["self","run"],["self","run"], (.seq (.ex^.aE (.v 0) "check_run"^cS^.v 1)^.ret^.y (.i (.v 0) "origins")^.v 1)]
def ptC:E:=(.z .ne (.y (.v 2)^.neg^.j^ω 1)^.j^ω 0)
def ptB:S:=(.ex^.me .append (.v 2)^cS^.y (.y (.i (.v 0) "origins")^.y (.v 2)^.neg^.j^ω 1)^.j^ω 0)
def fB:Fn:=#[["self","run"],["self","run","runs"], (.seq (.ex^.aE (.v 0) "check_run"^cS^.v 1)^.seq (.set 2^.aj ah^cS^.v 1)^.seq (.j ptC ptB)^.ret^.stp ai (-1)^.v 2)]
def cnC:E:=(.z .eq (.y (.y (.i (.v 1) "origins")^.v 0)^.j^ω 0)^.v 2)
def fc:Fn:=#[["self","run"],["self","run"], (.seq (.ex^.aE (.v 0) "check_run"^cS^.v 1)^.ret^.comp ai .rng2 (cR (.j^ω 1)^.bi .len ai^cS^.i (.v 0) "origins") ["child"] [(0,"self"),(1,"run")] (cS cnC)^.v 0)]
def gf:Fn:=#[["self","run"],["self","run"], (.v (.or (.not^.call "is_whole"^cS^.v 1)^.or (.z .lt (.v 1)^.j^ω 0)^.z .ge (.v 1)^.obn^.i (.v 0) "branches") .bad .nil)]
def gQ:Fn:=#[["self","run"],["self","run"], (.ret^.ite (.z .eq (.v 1)^.j^ω 0) (.j^ω 0)^.y (.y (.i (.v 0) "origins")^.v 1)^.j^ω 1)]
def hdC:E:=(.and (.z .ne (.v 1)^.j^ω 0)^.z .lt (.v 2)^.aE (.v 0) "first"^cS^.v 1)
def hdB:S:=(.set 1^.y (.y (.i (.v 0) "origins")^.v 1)^.j^ω 0)
def gB:Fn:=#[["self","run","moment"],["self","run","moment"], (.seq (.j hdC hdB)^.ret^.v 1)]
structure TrP(T:FK->ψ Fn)(G:ay->ψ W):Prop where
 tp:TpP "Branch" T G
 en:TpM "Branch" T
 tin:T^.m "Tape" "__init__"=aa jt
 bin:T^.m "Branch" "__init__"=aa iG
 init:T^.m "Tree" "__init__"=aa jv
 part:T^.m "Tree" "part"=aa jw
 at_:T^.m "Tree" "at"=aa lJ
 end_:T^.m "Tree" "end"=aa fU
 check_run:T^.m "Tree" "check_run"=aa gf
 first:T^.m "Tree" "first"=aa gQ
 holder:T^.m "Tree" "holder"=aa gB
 th:ThP T
 ld:LdP T G
structure Nd where
 par:Nat
 fi:Nat
 s0:St
 e:Nat
 f:Nat->St
def Nd.en(d:Nd):Nat:=d.fi+d.e
structure Tr where
 p:Pg
 aF:θ Int
 most:Nat
 ds:θ Nd
def Nd.org(d:Nd):D:=.aB [ω d.par,ω d.fi]
def jb(a:θ Nd):θ D:=.aC::a.tail.map Nd.org
def Hr{a:θ Nd}{i:Nat}{d:Nd}(h:a[i]?=aa d)(b:0<i):(jb a)[i]?=aa d.org:=by
 cases i with
 |zero=>exact bM b^aas _
 |succ i =>
  cases a with
  |nil=>simp at h
  |cons x r =>
   simp![aeJ]at h;simp[jb,h]
def pL{a:θ Nd}(h:a≠[]):(jb a).length=a.length:=by
 cases a with
 |nil=>exact bM rfl h|cons x r=>simp[jb]
def Hs{a:θ Nd}(h:a≠[])(d:Nd):jb (a++[d])=jb a++[d.org]:=by
 cases a with
 |nil=>exact bM rfl h|cons x r=>simp[jb]
structure Own(t:Tr)(i:Nat)(d:Nd):Prop where
 run:Run d.s0 t.p t.aF (t.most-d.fi) d.e
 at0:At d.fi d.s0
 le:d.fi<=t.most
 own:∀k,k<=d.e->d.f (d.fi+k)=itr d.s0 t.p t.aF k
 zero:i=0->d.fi=0/\d.s0=St.zero
 par:0<i->∃q,t.ds[d.par]?=aa q/\d.par<i/\d.fi<=q.en/\∀m,m<d.fi->d.f m=q.f m
 put:0<i->∀q,t.ds[d.par]?=aa q->∃(th:Th) (v:Int),d.s0=th.put (q.f d.fi) v
structure Wf(t:Tr):Prop where
 ok:Pg.ok t.p
 ask:Ask t.aF
 m1:t.most<=100
 l1:t.ds.length<=100
 l0:t.ds≠[]
 each:∀i d,t.ds[i]?=aa d->Own t i d
theorem BO{a:St}{p:Pg}{aF:θ Int}{most e j:Nat}(b:Pg.ok p)(J:Ask aF)(L:At j a)(R:Run a p aF most e):∀i,i<=e->At (j+i)^itr a p aF i
 |0,_=>L|i+1,h=>Bw b J (BO b J L R i ()) (R.on i ())
theorem Wf.hold{t:Tr}(W:Wf t){m:Nat}:∀(n i:Nat)(d:Nd),i<=n->t.ds[i]?=aa d->m<=d.en->∃(j:Nat) (q:Nd),t.ds[j]?=aa q/\q.fi<=m/\m<=q.en/\d.f m=itr q.s0 t.p t.aF (m-q.fi)/\At m^d.f m
 |n,i,d,hn,h,l=>by
  have O:=W.each i d h
  by_cases c:d.fi<=m
  ·have e1:=O.own (m-d.fi) (by unfold Nd.en at l;lia);rw[show d.fi+(m-d.fi)=m by lia]at e1;refine#[i,d,h,c,l,e1,?_];rw[e1];have:=BO W.ok W.ask O.at0 O.run (m-d.fi) (by unfold Nd.en at l;lia);rw[show d.fi+(m-d.fi)=m by lia]at this;exact this
  ·have L:0<i:=by
    rcases aaX i with z|z
    have:=(O.zero z).1;lia;exact z
   let(q,V,k,g,U):=O.par L;cases n with
   |zero=>lia
   |succ n =>
    let(j,J,e,b,a,Z,Y):=W.hold (m:=m) n d.par q () V ();rw[U m ()];exact#[j,J,e,b,a,Z,Y]
def Wf.at_{t:Tr}(W:Wf t){m i:Nat}{d:Nd}(h:t.ds[i]?=aa d)(J:m<=d.en):At m^d.f m:=by exact qY (W.hold i i d (Zw _) h J) λ_ _ _ _ _ _ a=>a
def Wf.yo{t:Tr}(W:Wf t){i:Nat}{d:Nd}(h:t.ds[i]?=aa d):d.en<=t.most:=by have O:=W.each i d h;have:=O.run.le;have:=O.le;unfold Nd.en;lia
def tfs(t:Tr)(a b:Nat):θ (ay×W):=[("program",.p^fG t.p),("asked",.p^.aj^cW t.aF),("most",.p^ω t.most),("origins",.r a),("branches",.r b)]
section
variable(t:Tr)(ro rb:Nat)
abbrev PP:d9 "program"^tfs t ro rb=aa^.p^fG t.p:=by simp[tfs]
abbrev UK:d9 "asked"^tfs t ro rb=aa^.p^.aj^cW t.aF:=by simp[tfs]
abbrev Wh:d9 "most"^tfs t ro rb=aa^.p^ω t.most:=by simp[tfs]
abbrev PR:d9 "origins"^tfs t ro rb=aa^.r ro:=by simp[tfs]
abbrev MO:d9 "branches"^tfs t ro rb=aa^.r rb:=by simp[tfs]
def gH{m:String}(h:(["program","asked","most","origins","branches"]:θ String).contains m=ai):d9 m^tfs t ro rb=af:=by simp![adA,List.contains_nil,ab9,afd,bT]at h;refine nM h λV U O L J=>?_;simp[tfs,V,U,O,L,J]
abbrev pM:d9 "check_run"^tfs t ro rb=af:=gH t _ _ rfl
abbrev UL:d9 "first"^tfs t ro rb=af:=gH t _ _ rfl
abbrev Rj:d9 "holder"^tfs t ro rb=af:=gH t _ _ rfl
abbrev Zc:d9 "at"^tfs t ro rb=af:=gH t _ _ rfl
abbrev X3:d9 "end"^tfs t ro rb=af:=gH t _ _ rfl
abbrev Wi:d9 "part"^tfs t ro rb=af:=gH t _ _ rfl
abbrev Rk:d9 "parent"^tfs t ro rb=af:=gH t _ _ rfl
abbrev nv:d9 "path"^tfs t ro rb=af:=gH t _ _ rfl
abbrev MP:d9 "children"^tfs t ro rb=af:=gH t _ _ rfl
end
@[reducible]noncomputable def Bx:=Nat×Nat×Tp
@[reducible]noncomputable def Pts:=Nat->ψ Cl
structure g8(Pt:Pts)(h:HH)(n:Nat)(t:Tr)(ro rb:Nat)(bs:θ Bx):Prop where
 ob:oat h n=aa (ZC "Tree",tfs t ro rb)
 og:lat h ro=aa^jb t.ds
 br:bat h rb=aa (bs.map (·.1))
 len:bs.length=t.ds.length
 tp:∀(i:Nat)(b:Bx)(d:Nd),bs[i]?=aa b->t.ds[i]?=aa d->TAt "Branch" h b.1 b.2.1 b.2.2/\TI d.s0 b.2.2 d.e 1/\b.2.2.p=t.p/\b.2.2.aF=t.aF
 nd1:(bs.map (·.1)).Nodup
 nd2:(ro::bs.map (·.2.1)).Nodup
 pt:∀i c,Pt i=aa c->h[i]?=aa c/\i≠n/\i≠ro/\i≠rb/\∀b∈bs,i≠b.1/\i≠b.2.1
inductive fy(Pt:Pts)(h:HH)(n:Nat)(t:Tr)(ro rb:Nat):Prop
 |mk(bs:θ Bx)(a:g8 Pt h n t ro rb bs)
def zW{h:HH}{n:Nat}{q:θ Nat}(e:bat h n=aa q):n<h.length:=by
 unfold bat at e;rcases ZR n _ with z|z
 exact z;rw[ZM z]at e;exact iy e
def Hu{h a:HH}{i:Nat}(e:a[i]?=h[i]?):bat a i=bat h i:=by unfold bat;exact rwe e rfl
def BP{h:HH}{n r:Nat}{q:ay×θ (ay×W)}{b:θ Nat}(e:oat h n=aa q)(a:bat h r=aa b):r≠n:=by
 rintro rfl
 unfold oat at e;unfold bat at a;cases g:h[r]? with
 |none=>rw[g]at e;exact iy e|some c=>rw[g]at e a;cases c<;>simp[qx]at e a
def BQ{h:HH}{n r:Nat}{q:θ D}{b:θ Nat}(e:lat h n=aa q)(a:bat h r=aa b):r≠n:=by
 rintro rfl
 unfold lat at e;unfold bat at a;cases g:h[r]? with
 |none=>rw[g]at e;exact iy e|some c=>rw[g]at e a;cases c<;>simp[qx]at e a
def Lc{h:HH}{n:Nat}(hn:n<h.length)(c:Cl):bat (h.set n c) n=qx c:=by unfold bat;refine rwe (ZZ hn) ?_;rfl
def zX{h:HH}{n i:Nat}(hn:i≠n)(c:Cl):bat (h.set n c) i=bat h i:=by unfold bat;exact rwe (ZD^aan hn) rfl
def Ld{h g:HH}{i:Nat}(a:i<h.length):bat (h++g) i=bat h i:=Hu^Zs a
def fK{J:Type}{l:θ J}{i:Nat}(h:i<l.length):∃x,l[i]?=aa x:=#[_,Zu h]
def dB{J:Type}{l:θ J}{i:Nat}{x:J}(h:l[i]?=aa x):i<l.length:=by
 rcases ZR i _ with z|z
 exact z;rw[ZM z]at h;exact iy h
def sR{J:Type}{l:θ J}(L:l.Nodup){i j:Nat}{x:J}(a:l[i]?=aa x)(b:l[j]?=aa x):i=j:=by rw[Zu^dB a]at a;rw[Zu^dB b]at b;exact(ad1 L).mp^(Zv a).trans (Zv b).symm
def DN{J:Type}{l:θ J}(W:l.Nodup)(i:Nat){y:J}(U:∀(j:Nat)(x:J),l[j]?=aa x->j≠i->x≠y):(l.set i y).Nodup:=by
 refine List.pairwise_iff_getElem.mpr λa b Z Y L=>?_;rw[List.getElem_set,List.getElem_set]
 by_cases O:i=a
 refine rwe (bK O) ?_;exact rwe (bL ())^aan (U b _ (Zu _) ())
 ·refine rwe (bL O) ?_
  by_cases V:i=b
  ·refine rwe (bK V) ?_;exact U a _ (Zu _)^aan O
  ·refine rwe (bL V) ?_;exact List.pairwise_iff_getElem.mp W a b _ _ L
def g8.step{Pt:Pts}{h:HH}{n:Nat}{t:Tr}{ro rb:Nat}{bs:θ Bx}(A:g8 Pt h n t ro rb bs){i:Nat}{b:Bx}{d:Nd}(L:bs[i]?=aa b)(B:t.ds[i]?=aa d){h':HH}{O:Nat}{t':Tp}(g:Go "Branch" b.1 h b.2.1 b.2.2 h' O t')(I:TI d.s0 t' d.e 1)(s:Sm8 b.2.2 t'):
 g8 Pt h' n t ro rb^bs.set i (b.1,O,t'):=by
 have T:=dB L;refine oq (A.tp i b d L B) λZ a2 a3 a4=>?_;have Q:n≠b.1:=by intro z;have:=A.ob;rw[z,Z.ob]at this;have:=bS (λq:ψ (ay×θ (ay×W))=>q.map (·.1)) this;simp at this
 have P:n≠b.2.1:=pI A.ob Z.li;have hn:=kJ A.ob;have e1:h'[n]?=h[n]?:=g.fr n Q P hn;have ob:ro≠b.1:=(pI Z.ob A.og).symm;have R:b.2.1∈bs.map (·.2.1):=List.mem_map.mpr^cY b (ZJ L) rfl;have V:ro≠b.2.1:=λz=>(List.nodup_cons.mp A.nd2).1 (by exact rwe z R);have e2:h'[ro]?=h[ro]?:=g.fr ro ob V^jg A.og;have X:h'[rb]?=h[rb]?:=g.fr rb (BP Z.ob A.br) (BQ Z.li A.br)^zW A.br;have w:∀(f:Bx->Nat)(x:Bx),f x=f b->(bs.set i x).map f=bs.map f:=λf x J=>by
  refine rwe ae4^rwe J ?_;have:(bs.map f)[i]?=aa^f b:=by refine rwe ZP ?_;refine rwe L ?_;rfl
  have Y:=dB this;rw[Zu Y]at this;exact rwf (Zv this)^List.set_getElem_self Y
 have m:∀(j:Nat)(x:Bx),bs[j]?=aa x->x.2.1<h.length:=λj x J=>by refine uxE (fK (l:=t.ds)^by exact rwf A.len^dB J) λy U=>?_;exact jg (A.tp j x y J U).1.li
 refine#[(qm e1).trans A.ob,(sN e2).trans A.og,?_,by exact rwe ZV A.len,λj x y J U=>?_,?_,?_,λj c r=>?_];refine rwe (Hu X) ?_;exact rwe A.br (rwe (w (·.1) (b.1,O,t') rfl) rfl)
 ·by_cases c:j=i
  ·subst c;replace J:=(ZZ T) ▸ J;cases J;replace U:=B ▸ U;cases U;exact(nE g.b I (s.p.trans a3)^s.aF.trans a4)
  ·replace J:=(ZD^aan c) ▸ J;refine oq (A.tp j x y J U) λH G F E=>?_;have D:x.1≠b.1:=λz=>c (sR A.nd1 (i:=j) (j:=i) (x:=b.1) (by refine rwe ZP ?_;exact rwe J^bS aa z)^by refine rwe ZP ?_;refine rwe L ?_;rfl);exact(nE ((g.other H D (λz=>c (sR (List.nodup_cons.mp A.nd2).2 (by refine rwe ZP ?_;exact rwe J^bS _ z)^by refine rwe ZP ?_;refine rwe L ?_;rfl))).1) G F E)
 exact rwe (w _ (b.1,O,t') rfl) A.nd1
 ·have o:∀(j:Nat)(x:Nat),(ro::bs.map (·.2.1))[j]?=aa x->j≠i+1->x≠O:=λj x J r=>by
   have C:x<h.length/\x≠b.2.1:=by
    cases j with
    |zero=>cases J;exact#[jg A.og,V]
    |succ j =>
     replace J:=ZP ▸ aeJ ▸ J;cases k:bs[j]? with
     |none=>replace J:=k ▸ J;exact iy J
     |some y =>
      replace J:=k ▸ J;cases J;exact#[m j y k,λz=>r^by exact rwe (sR (List.nodup_cons.mp A.nd2).2 (i:=j) (by refine rwe ZP ?_;exact rwe k^bS _ z)^by rw[ZP];refine rwe L ?_;rfl) rfl]
   rcases g.len with⟨_,z⟩|z
   exact rwe z C.2;lia
  exact rwe ae4^(DN A.nd2 _ o)
 ·refine nM (A.pt j c r) λv N M K u=>?_;have a:=u b^ZJ L;have S:=dB v;refine(pR ((g.fr j a.1 a.2 S).trans v) N M K (λx J=>?_));rcases abu J with q|q
  exact u x q
  ·subst q;refine#[a.1,?_];rcases g.len with⟨_,z⟩|z
   exact rwe z a.2;show j≠O;lia
def jQ(h:HH)(d:D)(a:HH):∃b,fin h (.p d) a=aa (.p d,b)/\(b=a\/b=h):=by
 unfold fin
 by_cases c:a.length=h.length
 rw[bK c];exact#[a,rfl,.inl rfl]
 ·rw[bL c]
  by_cases J:a.take h.length=h
  rw[bK J];exact#[h,rfl,.inr rfl];rw[bL J];exact#[a,rfl,.inl rfl]
section
variable{T:FK->ψ Fn}{G:ay->ψ W}{Pt:Pts}{h:HH}{n:Nat}{t:Tr}{ro rb:Nat}{bs:θ Bx}
def fP(P:TrP T G)(W:Wf t)(A:g8 Pt h n t ro rb bs)(k:Nat){i:Nat}(b:i<t.ds.length):φ (k+2) (.m "Tree" "check_run") [.o n,.p^ω i] h=aa (.p .aC,h):=by
 refine rwe (run_eq P.check_run rfl) ?_;have w:=iF P.tp k i h;have J:¬((i:Int)<0):=()
 have a:=W.l1;have l:=A.len;simp[gf,w,J,A.ob,A.br,(by lia:¬(bs.length<=i)),(by lia:bs.length<=100000),cZ]
def iR(P:TrP T G)(W:Wf t)(A:g8 Pt h n t ro rb bs)(k:Nat){i:Nat}{d:Nd}(J:t.ds[i]?=aa d):φ (k+1) (.m "Tree" "first") [.o n,.p^ω i] h=aa (.p^ω d.fi,h):=by
 refine rwe (run_eq P.first rfl) ?_;rcases aaX i with z|z
 ·subst z;have:=((W.each 0 d J).zero rfl).1;simp[gQ,this,cZ]
 ·have c:¬(i=0):=()
  have ix2:d7 d.org^ω 1=aa^ω _:=rfl;simp[-dS,-iP,gQ,c,(by lia:¬ i=0),A.ob,A.og,rd,(by
   rw[dS,iB];exact Hr J z:d7 (.aj^jb t.ds)^ω i=aa d.org),ix2,cZ]
end
inductive lR(Pt:Pts)(x:ψ (W×HH))(y:W)(n:Nat)(t:Tr)(ro rb:Nat):Prop
 |mk(h':HH)(q:x=aa (y,h'))(a:fy Pt h' n t ro rb)
section
variable{T:FK->ψ Fn}{G:ay->ψ W}{Pt:Pts}{h:HH}{n:Nat}{t:Tr}{ro rb:Nat}{bs:θ Bx}
def vO{i:Nat}{d:Nd}(J:t.ds[i]?=aa d)(z:0<i):d7 (.aj^jb t.ds)^ω i=aa d.org:=by rw[dS,iB];exact Hr J z
def vP(P:TrP T G)(W:Wf t)(A:g8 Pt h n t ro rb bs)(k:Nat){i m:Nat}{d:Nd}(J:t.ds[i]?=aa d):
 aK (φ (k+1)) G hdC [aa^.o n,aa^.p^ω i,aa^.p^ω m] h=aa (.p^.bl (decide (m<d.fi)),h):=by
 rcases aaX i with z|z
 ·subst z;have:=((W.each 0 d J).zero rfl).1;simp[hdC,this]
 ·have c:¬(i=0):=()
  have L:¬i=0:=()
  simp[hdC,L,A.ob,(iR P W A k J)]
def Lf(P:TrP T G)(W:Wf t)(A:g8 Pt h n t ro rb bs)(k m:Nat):∀(f i:Nat)(d:Nd),t.ds[i]?=aa d->m<=d.en->i<=f →
 ∃(j:Nat) (q:Nd),fT (aK (φ (k+1)) G hdC) (evS (φ (k+1)) G hdB) (f+1) [aa^.o n,aa^.p^ω i,aa^.p^ω m] h=aa^.nx [aa^.o n,aa^.p^ω j,aa^.p^ω m] h/\t.ds[j]?=aa q/\q.fi<=m/\m<=q.en/\d.f m=q.f m:=by
 intro f
 induction f with
 |zero =>
  intro i d J L U;have z:i=0:=()
  subst z;have l:=((W.each 0 d J).zero rfl).1;have q:=vP P W A k (m:=m) J;rw[bO ()]at q;refine#[0,d,?_,J,(),L,rfl];rw[fT,q,kG,rR]
 |succ f O =>
  intro i d J L U;have q:=vP P W A k (m:=m) J
  by_cases c:m<d.fi
  ·have z:0<i:=by
    rcases aaX i with z|z
    have:=((W.each i d J).zero z).1;lia;exact z
   let(p,Y,g,e,V):=(W.each i d J).par z;refine qY (O _ p Y () ()) λj r e1 e2 b a Z=>(#[j,r,?_,e2,b,a,(V m c).trans Z]);rw[bP c] at q;rw[fT,q,kG,pZ,(by
    have ix2:d7 d.org^ω 0=aa^ω _:=rfl;simp[-dS,-iP,hdB,A.ob,A.og,rd,vO J z,ix2]:evS (φ (k+1)) G hdB [aa^.o n,aa^.p^ω i,aa^.p^ω m] h=aa^.nx [aa^.o n,aa^.p^ω d.par,aa^.p^ω m] h),gn,e1]
  ·replace q:=(bO c) ▸ q;refine#[i,d,?_,J,(),L,rfl];rw[fT,q,kG,rR]
def zY(P:TrP T G)(W:Wf t)(A:g8 Pt h n t ro rb bs)(k m:Nat){i:Nat}{d:Nd}(J:t.ds[i]?=aa d)(L:m<=d.en):
 ∃(j:Nat) (q:Nd),φ (k+2) (.m "Tree" "holder") [.o n,.p^ω i,.p^ω m] h=aa (.p^ω j,h)/\t.ds[j]?=aa q/\q.fi<=m/\m<=q.en/\d.f m=q.f m:=by
 have a:=W.l1;have:=dB J;refine fz (Lf P W A k m 99999 i d J L ()) λj q e1 e2=>?_;refine(eW j q (rwe (run_eq P.holder rfl) ?_) e2);simp[gB,turns,e1,cZ]
def vQ(A:g8 Pt h n t ro rb bs){j:Nat}{b:Bx}(J:bs[j]?=aa b):atP (bs.map (·.1)) (j:Int)=aa b.1:=by rw[iB];refine rwe ZP ?_;refine rwe J ?_;rfl
def ny(P:TrP T G)(W:Wf t)(A:g8 Pt h n t ro rb bs)(k:Nat){i m:Nat}{d:Nd}(c:t.ds[i]?=aa d)(w:m<=d.en):
 lR Pt (φ (k+12) (.m "Tree" "at") [.o n,.p^ω i,.p^ω m] h) (.p (d.f m).enc) n t ro rb:=by
 have v:=dB c;refine qY (zY P W A (k+9) m c w) λj q e1 L e3 H F=>?_;have K:=fP P W A (k+9) v;have u:=dB L;let(b,U):=fK (by exact rwe A.len u);refine oq (A.tp j b q U L) λZ Y tp r=>?_;have E:=iR P W A (k+10) L;have J:m-q.fi<=q.e:=by unfold Nd.en at H;lia
 let(h1,X,a,l,V,N,O,_):=vN P.tp (k+2) Z Y _^ZT J Y.run.le;rw[bP J]at l;let(y,S,R,g,B,M,s,_):=PM P.tp k V.b N _ J;have Q:=A.step U L (V.trans B) M^O.trans s;have en:d.f m=itr q.s0 a.p a.aF (m-q.fi):=by have:=(W.each j q L).own _ J;rw[show q.fi+(m-q.fi)=m by lia]at this;refine rwe F (rwe this ?_);refine rwe O.p^rwe O.aF ?_;exact rwe tp^rwe r rfl
 rw[←en]at g;have I:(m:Int)-q.fi=((m-q.fi:Nat)):=()
 refine cX (jQ h (d.f m).enc y) λx D C=>#[x,?_,?_]
 ·refine rwe (run_eq P.at_ rfl) ?_;rw[lJ];simp![dM,ZY,aaH,ZQ,aam];simp[-atP,A.ob,K,e1,A.br,(vQ A U),E,I,Z.ob,Hi,l,V.b.ob,XZ,g,D]
 ·rcases C with z|z
  exact rwe z #[_,Q];exact rwe z #[_,A]
def jR(P:TrP T G)(W:Wf t)(A:g8 Pt h n t ro rb bs)(k:Nat){i:Nat}{d:Nd}(J:t.ds[i]?=aa d):
 lR Pt (φ (k+10) (.m "Tree" "end") [.o n,.p^ω i] h) (.p^ω d.en) n t ro rb:=by
 have U:=dB J;have l:=fP P W A (k+7) U;refine uxE (fK^by exact rwe A.len U) λb L=>?_;refine oq (A.tp i b d L J) λO V y u=>?_;have j:=iR P W A (k+8) J;let(a,w,v,q,c,r,Y,_):=Lb P.tp P.en k O V;have s:=A.step L J c r Y;refine cX (jQ h (ω d.en) a) λZ g f=>?_;have x:=vQ A L;refine#[Z,?_,?_]
 ·refine rwe (run_eq P.end_ rfl) ?_;rw[fU];simp![dM,aaH,ZQ,aam];simp[-atP,A.ob,l,j,A.br,x,O.ob,UI,q,(by unfold Nd.en;lia:(d.fi:Int)+d.e=d.en),g]
 ·rcases f with z|z
  exact rwe z #[_,s];exact rwe z #[_,A]
end
def Tp.new(p:Pg)(aF:θ Int)(a:St)(most:Nat):Tp:=#[p,aF,1,most,[a],0,a,0]
def Hv{a:St}{p:Pg}{e:Nat}(b:Pg.ok p)(L:Ask aF)(U:At 1000 a)(R:Run a p aF most e)(O:most<=1000):TI a (Tp.new p aF a most) e 1 :=
 #[R,b,L,U,Zw 1,by show 1<=1000;decide,O,aax _,rfl,by simp[Tp.new],by simp[Tp.new],λj J=>by
  have:=by simpa [Tp.new]using J
  subst this;simp[Tp.new,itr],aax _,(cY 0 (by simp[Tp.new]) (λz=>bM z^aas _))]
section
variable{T:FK->ψ Fn}{G:ay->ψ W}
def DO(P:TrP T G)(k:Nat)(J:ay)(p:Pg)(aF:θ Int)(most:Nat)(h:HH):
 runN T G (k+2) (.m "Tape" "__init__") [.o h.length,.p^fG p,.p^.aj^cW aF,.p^ω 1,.p^ω most] (h++[.o J []])=aa (.p .aC,h++[.o J^(Tp.new p aF St.zero most).fs (h.length+1),.l [St.zero.enc]]):=by
 refine rwe (run_eq P.tin rfl) ?_;have b:=uE P.tp.prg k;have O:(if(0:Int)>(most:Int)then(0:Int)else(most:Int))=(most:Int):=bL ();have L:=(λc g w a=>by refine pK h.length (by simp) ?_ w;simp;exact a:∀(c:Cl)(g:HH)(w:W),c≠.o J []->fin (h++[.o J []]) w (h++c::g)=aa (w,h++c::g)) (.o J^(Tp.new p aF St.zero most).fs (h.length+1)) [.l [St.zero.enc]] (.p .aC) (by simp[Tp.fs])
 rw[(by simp[Tp.fs,Tp.new]:(Tp.new p aF St.zero most).fs (h.length+1)=([("program",.p^fG p),("asked",.p^.aj^cW aF),("gap",.p^ω 1),("most",.p^ω most),("kept",.r (h.length+1)),("farthest",.p^ω 0),("front",.p St.zero.enc),("now",.p^ω 0)]:θ (ay×W)))]at L⊢;rw[jt];simp![dM,ZY,aaH,ZQ,aam];simp[O,b,L]
def sU(P:TrP T G)(k:Nat)(p:Pg)(aF:θ Int)(most:Nat)(a:St)(h:HH):
 runN T G (k+3) (.m "Branch" "__init__") [.o h.length,.p^fG p,.p^.aj^cW aF,.p^ω most,.p a.enc] (h++[.o "Branch" []])=aa (.p .aC,h++[.o "Branch"^(Tp.new p aF a most).fs (h.length+2),.l [St.zero.enc],.l [a.enc]]):=by
 refine rwe (run_eq P.bin rfl) ?_;have b:=DO P k "Branch" p aF most h;have J:fin (h++[.o "Branch" []]) (.p .aC) (h++[.o "Branch"^(Tp.new p aF a most).fs (h.length+2),.l [St.zero.enc],.l [a.enc]])=aa (.p .aC,h++[.o "Branch"^(Tp.new p aF a most).fs (h.length+2),.l [St.zero.enc],.l [a.enc]]):=by refine pK h.length (by simp) ?_ _;simp[Tp.fs]
 have c:∀(s:St)(r:Nat),(Tp.new p aF s most).fs r=([("program",.p^fG p),("asked",.p^.aj^cW aF),("gap",.p^ω 1),("most",.p^ω most),("kept",.r r),("farthest",.p^ω 0),("front",.p s.enc),("now",.p^ω 0)]:θ (ay×W)):=λs r=>by simp[Tp.fs,Tp.new]
 rw[c]at J⊢;rw[c]at b;rw[iG];simp![dM,ZY,aaH,ZQ,aam];simp[b,J]
end
def Tr.new(p:Pg)(aF:θ Int)(most e:Nat):Tr:=#[p,aF,most,[#[0,0,St.zero,e,itr St.zero p aF]]]
def Nd.of(t:Tr)(i m:Nat)(d:Nd)(a:St)(e:Nat):Nd:=#[i,m,a,e,λj=>if j<m then d.f j else itr a t.p t.aF (j-m)]
def Tr.add(t:Tr)(x:Nd):Tr:={t with ds:=t.ds++[x]}
def PU{p:Pg}{e:Nat}(a:Pg.ok p)(O:Ask aF)(L:most<=100)(R:Run St.zero p aF most e):Wf^Tr.new p aF most e:=by
 refine#[a,O,L,by simp[Tr.new],by simp[Tr.new],λi d J=>?_];have z:i=0/\#[0,0,St.zero,e,itr St.zero p aF]=d:=by
  cases i with
  |zero=>exact#[rfl,by simpa [Tr.new]using J]|succ i=>simp[Tr.new]at J
 let(rfl,rfl):=z;exact#[R,Bv,aax _,λk _=>by rw[Nat.zero_add];rfl,λ_=>#[rfl,rfl],λz=>bM z^aas _,λz=>bM z^aas _]
def Own.mono{t:Tr}{x:Nd}{i:Nat}{d:Nd}(O:Own t i d):Own (t.add x) i d :=
 #[O.run,O.at0,O.le,O.own,O.zero,λz=>by
  exact cX (O.par z) λq J U=>(cY q (by refine rwe (Zs^dB J) ?_;exact J) U),λz q L=>by
  refine cX (O.par z) λV J _=>?_;have e:(t.ds++[x])[d.par]?=aa q:=L;rw[Zs^dB J] at e;exact O.put z q e]
def PV{t:Tr}(W:Wf t){i m e:Nat}{d:Nd}{l:St}(O:t.ds[i]?=aa d)(U:m<=d.en)(b:At m l)(R:Run l t.p t.aF (t.most-m) e)(g:t.ds.length<100){th:Th}{v:Int}(a:l=th.put (d.f m) v):Wf^t.add^Nd.of t i m d l e:=by
 refine#[W.ok,W.ask,W.m1,by simp[Tr.add];lia,by simp[Tr.add],λj q L=>?_];rcases ZR j _ with c|c
 ·exact (W.each j q (by
   have:(t.ds++[Nd.of t i m d _ e])[j]?=aa q:=L;rw[Zs c] at this;exact this)).mono
 ·have J:(t.ds++[Nd.of t i m d _ e])[j]?=aa q:=L;have V:=dB J;have Y:j=t.ds.length:=by simp at V;lia
  subst Y;simp at J;subst J;refine#[R,b,ZT U^W.yo O,λk h=>?_,λz=>(bM (List.length_eq_zero_iff.mp z) W.l0),λ_=>(kW d ?_ (dB O) U (λx Z=>bK Z)),λ_ q L=>?_]
  ·show(if m+k<m then d.f _ else itr _ _ _ (m+k-m))=_;refine rwe (bL ())^rwe (show m+k-m=k by lia) ?_;rfl
  refine rwe (Zs^dB O) ?_;exact O
  ·replace L:=O ▸ (Zs^dB O) ▸ L;cases L;exact(uS th v a)
section
variable{T:FK->ψ Fn}{G:ay->ψ W}{Pt:Pts}
def Hw(P:TrP T G)(k:Nat)(p:Pg)(aF:θ Int)(most e:Nat)(h:HH):
 runN T G (k+4) (.m "Tree" "__init__") [.o h.length,.p^fG p,.p^.aj^cW aF,.p^ω most] (h++[.o "Tree" []])=aa (.p .aC,h++[.o "Tree"^tfs (Tr.new p aF most e) (h.length+1) (h.length+5),.l [.aC],.o "Branch"^(Tp.new p aF St.zero most).fs (h.length+4),.l [St.zero.enc],.l [St.zero.enc],.b [h.length+2]]):=by
 refine rwe (run_eq P.init rfl) ?_;have L:=sU P k p aF most St.zero (h++[.o "Tree" [("program",.p^fG p),("asked",.p^.aj^cW aF),("most",.p^ω most),("origins",.r (h.length+1))],.l [.aC]]);have J:fin (h++[.o "Tree" []]) (.p .aC) (h++[.o "Tree"^tfs (Tr.new p aF most e) (h.length+1) (h.length+5),.l [.aC],.o "Branch"^(Tp.new p aF St.zero most).fs (h.length+4),.l [St.zero.enc],.l [St.zero.enc],.b [h.length+2]])=aa (.p .aC,h++[.o "Tree"^tfs (Tr.new p aF most e) (h.length+1) (h.length+5),.l [.aC],.o "Branch"^(Tp.new p aF St.zero most).fs (h.length+4),.l [St.zero.enc],.l [St.zero.enc],.b [h.length+2]]):=by refine pK h.length (by simp) ?_ _;simp[tfs]
 have a:tfs (Tr.new p aF most e) (h.length+1) (h.length+5)=([("program",.p^fG p),("asked",.p^.aj^cW aF),("most",.p^ω most),("origins",.r (h.length+1)),("branches",.r (h.length+5))]:θ (ay×W)):=rfl;rw[a]at J⊢;rw[jv];simp![dM,ZY,aaH,ZQ,aam];simp![ZX,ZQ,aam,aay,List.cons_append,ac1]at L;simp[(uE P.tp.prg (k+2)),L,J]
def Hx{p:Pg}{e:Nat}{h:HH}(a:Pg.ok p)(V:Ask aF)(Y:most<=100)(R:Run St.zero p aF most e)(W:∀i c,Pt i=aa c->h[i]?=aa c):
 fy Pt (h++[.o "Tree"^tfs (Tr.new p aF most e) (h.length+1) (h.length+5),.l [.aC],.o "Branch"^(Tp.new p aF St.zero most).fs (h.length+4),.l [St.zero.enc],.l [St.zero.enc],.b [h.length+2]]) h.length (Tr.new p aF most e) (h.length+1) (h.length+5):=by
 refine#[[(h.length+2,h.length+4,Tp.new p aF St.zero most)],#[by simp[oat],by simp[lat,jb,Tr.new],by simp[bat],by simp[Tr.new],λi b d J L=>?_,by simp,by simp,λi c U=>?_]]
 ·have z:i=0:=by
   cases i with
   |zero=>rfl|succ i=>simp at J
  subst z;simp at J;subst J;simp[Tr.new]at L;subst L;exact(nE #[by simp[oat],by simp[lat,Tp.new]] (Hv a V (Bv.mono ∅) R ()) rfl rfl)
 ·have e:=W i c U;have O:=dB e;refine(pR (by refine rwe (Zs O) ?_;exact e) () () () (λb J=>?_));simp at J;subst J;exact#[by show i≠h.length+2;lia,by show i≠h.length+4;lia]
end
section
variable{T:FK->ψ Fn}{G:ay->ψ W}{Pt:Pts}{h:HH}{n:Nat}{t:Tr}{ro rb:Nat}{bs:θ Bx}
def At.put{m:Nat}{st:St}(a:At m st){v:Int}(J:Wth v)(th:Th):At m^th.put st v:=by refine#[Th.PN a.ok J _,?_,?_];cases th<;>exact a.said;cases th<;>exact a.calls
def ptH(a:HH)(t:Tr)(ro rb:Nat)(bs:θ Bx)(x:Nd)(c:Nat):HH :=
 (a.set ro^Cl.l (jb t.ds++[x.org])++[Cl.o "Branch"^(Tp.new t.p t.aF x.s0 c).fs (a.length+2),Cl.l [St.zero.enc],Cl.l [x.s0.enc]]).set rb^Cl.b (bs.map (λb=>b.1)++[a.length])
def UM{h1:HH}(W:Wf t)(A:g8 Pt h1 n t ro rb bs){x:Nd}{mo:Nat}(I:TI x.s0 (Tp.new t.p t.aF x.s0 mo) x.e 1):
 g8 Pt (ptH h1 t ro rb bs x mo) n (t.add x) ro rb (bs++[(h1.length,h1.length+2,Tp.new t.p t.aF x.s0 mo)]):=by
 have hn:=kJ A.ob;have Z:=jg A.og;have hrb:=zW A.br;have T:n≠ro:=pI A.ob A.og;have S:rb≠n:=BP A.ob A.br;have R:rb≠ro:=BQ A.og A.br;have U:∀i,i<h1.length->i≠ro->i≠rb->(ptH h1 t ro rb bs x mo)[i]?=h1[i]?:=λi hi c1 c2=>by unfold ptH;rw[ZD^aan c2,Zs^by rw[ZV];exact hi,ZD^aan c1]
 have u:∀k,k<3->(ptH h1 t ro rb bs x mo)[h1.length+k]?=[Cl.o "Branch"^(Tp.new t.p t.aF x.s0 mo).fs (h1.length+2),.l [St.zero.enc],.l [x.s0.enc]][k]?:=λk hk=>by unfold ptH;rw[ZD (),aab^by rw[ZV];lia,ZV];congr 1;lia
 have L:∀(j:Nat)(b:Bx),bs[j]?=aa b->b.1<h1.length/\b.2.1<h1.length/\b.1≠ro/\b.1≠rb/\b.2.1≠ro/\b.2.1≠rb:=λj b J=>by let(y,Y):=fK (l:=t.ds) (by rw[←A.len];exact dB J);have V:=(A.tp j b y J Y).1;exact#[kJ V.ob,jg V.li,pI V.ob A.og,(BP V.ob A.br).symm,λz=>(List.nodup_cons.mp A.nd2).1^by rw[←z];exact List.mem_map.mpr #[b,ZJ J,rfl],(BQ V.li A.br).symm]
 refine#[(qm^U n hn T^aan S).trans A.ob,?_,?_,by simp[Tr.add,A.len],λj b d J v=>?_,?_,?_,λj c f=>?_]
 ·unfold ptH;rw[oi^aan R,BI^by rw[ZV];exact Z,yi Z,NR];show aa (jb t.ds++[x.org])=aa^jb (t.ds++[x]);rw[Hs W.l0]
 ·unfold ptH;rw[Lc^by simp;lia];simp
 ·rcases ZR j bs.length with c|c
  ·rw[Zs c]at J;have O:t.ds[j]?=aa d:=by have:(t.ds++[x])[j]?=aa d:=v;rw[Zs^by rw[←A.len];exact c]at this;exact this
   let(h,E,D,C):=A.tp j b d J O;let(Q,P,N,M,K,H):=L j b J;exact#[#[(qm^U _ Q N M).trans h.ob,(sN^U _ P K H).trans h.li],E,D,C]
  ·have je:j=bs.length:=by have:=dB J;simp at this;lia
   subst je;simp at J;have O:(t.ds++[x])[bs.length]?=aa d:=v;rw[A.len]at O;simp at O;subst J O;have B:=u 0 ∅;have w:=u 2 ∅;exact#[#[by unfold oat;rw[show h1.length=h1.length+0 from rfl,B];rfl,by unfold lat;rw[w];rfl],I,rfl,rfl]
 ·rw[abh];refine List.nodup_append.mpr #[A.nd1,by simp,λa g b J=>?_];simp at J;subst J;let(y,Y,rfl):=List.mem_map.mp g;let(j,f):=abn Y;have:=(L j y f).1;lia
 ·rw[abh,←List.cons_append];refine List.nodup_append.mpr #[A.nd2,by simp,λa g b J=>?_];simp at J;subst J;rcases List.mem_cons.mp g with z|z
  lia
  ·let(y,Y,rfl):=List.mem_map.mp z;let(j,f):=abn Y;have:=(L j y f).2.1;lia
 ·let(s,G,r,m,F):=A.pt j c f;have X:=dB s;refine#[(U j X r m).trans s,G,r,m,λb J=>?_];rcases List.mem_append.mp J with q|q
  exact F b q
  ·simp at q;subst q;exact#[by show j≠h1.length;lia,by show j≠h1.length+2;lia]
def Hy(P:TrP T G)(W:Wf t)(A:g8 Pt h n t ro rb bs)(k:Nat){i m:Nat}{d:Nd}(Z:t.ds[i]?=aa d)(Y:m<=d.en)(th:Th){v:Int}(F:Wth v){e:Nat}(R:Run (th.put (d.f m) v) t.p t.aF (t.most-m) e):
 lR Pt (φ (k+13) (.m "Tree" "part") [.o n,.p^ω i,.p^ω m,.p th.enc,.p^ω v] h) (.p^ω t.ds.length) n (t.add^Nd.of t i m d (th.put (d.f m) v) e) ro rb:=by
 let(O,Q,(J,L)):=ny P W A k Z Y;have s:At m^d.f m:=W.at_ Z Y;have X:=ZT Y^W.yo Z;have m1:=W.m1;have l1:=W.l1;have lb:=L.len;have I:TI (th.put (d.f m) v) (Tp.new t.p t.aF (th.put (d.f m) v) (t.most-m)) e 1:=Hv W.ok W.ask ((s.put F th).mono ()) R ();have U:=UM W L (x:=Nd.of t i m d (th.put (d.f m) v) e) (mo:=t.most-m) I;refine#[_,?_,#[_,U]];have hn:=kJ L.ob;have H:=jg L.og;have V:=zW L.br;have E:n≠ro:=pI L.ob L.og;have S:rb≠n:=BP L.ob L.br;have D:rb≠ro:=BQ L.og L.br;have M:=lP P.tp P.th (k+9) th O;have B:(jb t.ds).length<100000:=by refine rwe (pL W.l0) ?_;lia
 have C:oat (O.set ro^.l (jb t.ds++[.aB [ω i,ω m]])) n=aa (ZC "Tree",tfs t ro rb):=(sM E _).trans L.ob;have c:bat (O.set ro^.l (jb t.ds++[.aB [ω i,ω m]])) rb=aa (J.map (·.1)):=(zX D _).trans L.br;have K:(t.most:Int)-(m:Int)=((t.most-m:Nat):Int):=()
 have u:=sP P.tp P.ld (k+9) s.ok th v^O.set ro^.l (jb t.ds++[.aB [ω i,ω m]]);have br:=sU P (k+9) t.p t.aF (t.most-m) (th.put (d.f m) v)^O.set ro^.l (jb t.ds++[.aB [ω i,ω m]]);rw[ZV]at br;have y:∀g:HH,bat (O.set ro^.l (jb t.ds++[.aB [ω i,ω m]])++g) rb=aa (J.map (·.1)):=λg=>(Ld^by exact rwe ZV V).trans c;have bl:J.length<100000:=()
 have j:=U.ob;have r:=U.br;unfold ptH Nd.org Nd.of at j r;have q:∀w,fin h w^ptH O t ro rb J (Nd.of t i m d (th.put (d.f m) v) e) (t.most-m)=aa (w,ptH O t ro rb J (Nd.of t i m d (th.put (d.f m) v) e) (t.most-m)):=λw=>by refine pK ro (jg A.og) (λz=>?_) w;have b:=sN z;rw[A.og,U.og]at b;have a:=bS aej^Zv b;rw[pL W.l0,pL^by simp[Tr.add]]at a;simp[Tr.add]at a
 unfold ptH Nd.org Nd.of at q;unfold ptH Nd.org Nd.of;have lc:((J.map (·.1)++[O.length]).length:Int)-1=(t.ds.length:Int):=by simp;lia
 refine rwe (run_eq P.part rfl) ?_;rw[jw];simp![dM,ZY,aaH,ZQ,aam];have N:¬(100000<=J.length):=()
 simp[A.ob,Q,M,L.ob,L.og,B,C,c,K,u,br,y,bl,(by lia:J.length+1<=100000),j,r,(by lia:(J.length:Int)=t.ds.length),q]
end
structure TrQ(T:FK->ψ Fn):Prop where
 parent:T^.m "Tree" "parent"=aa fk
 path:T^.m "Tree" "path"=aa fB
 children:T^.m "Tree" "children"=aa fc
inductive Pth(t:Tr):Nat->θ Nat->Prop
 |zero:Pth t 0 [0]
 |step{i:Nat}{d:Nd}{l:θ Nat}(J:t.ds[i]?=aa d)(hi:0<i)(r:Pth t d.par l):Pth t i (i::l)
def Pth.len{t:Tr}(W:Wf t){i:Nat}{l:θ Nat}(a:Pth t i l):l.length<=i+1:=by
 induction a with
 |zero=>exact Zw _
 |step L J r O =>
  refine dU ((W.each _ _ L).par J) λ_ _ U _=>(rwe ZQ ?_);lia
theorem Wf.pth{t:Tr}(W:Wf t):∀(n i:Nat)(d:Nd),i<=n->t.ds[i]?=aa d->∃l,Pth t i l
 |n,i,d,hn,a=>by
  rcases aaX i with z|z
  subst z;exact#[_,.zero]
  ·refine dU ((W.each i d a).par z) λq L O _=>?_;cases n with
   |zero=>lia
   |succ n =>
    exact uxE (W.pth n _ q () L) λl J=>#[_,.step a z J]
def kids(t:Tr)(i:Nat):θ Nat:=((ZG (t.ds.length-1)).map (·+1)).filter λj=>decide ((t.ds[j]?).map Nd.par=aa i)
def vR{t:Tr}(W:Wf t){i c:Nat}(h:c∈kids t i):i<c/\∃d,t.ds[c]?=aa d/\d.par=i:=by refine uxA (List.mem_filter.mp h) λO L=>(cX (List.mem_map.mp O) ?_);rintro j a rfl;have U:=List.mem_range.mp a;refine uxE (fK (l:=t.ds) (i:=j+1) ()) λd J=>?_;have e:=bQ L;rw[J]at e;have e2:=Zv e;exact dU ((W.each _ _ J).par^adY _) λ_ _ V _=>((lU () d J e2))
section
variable{T:FK->ψ Fn}{G:ay->ψ W}{Pt:Pts}{h:HH}{n:Nat}{t:Tr}{ro rb:Nat}{bs:θ Bx}
def Hz(i:Nat)(d:Nd):D:=if i=0 then .aC else d.org
def Lg{i:Nat}{d:Nd}(J:t.ds[i]?=aa d):d7 (.aj^jb t.ds)^ω i=aa^Hz i d:=by
 unfold Hz;rcases aaX i with z|z
 subst z;refine rwe (bK rfl) ?_;rw[dS,iB];rfl;exact rwe (bL ())^vO J z
def zZ(P:TrP T G)(Q:TrQ T)(W:Wf t)(A:g8 Pt h n t ro rb bs)(k:Nat){i:Nat}{d:Nd}(J:t.ds[i]?=aa d):φ (k+3) (.m "Tree" "parent") [.o n,.p^ω i] h=aa (.p^Hz i d,h):=by refine rwe (run_eq Q.parent rfl) ?_;simp[-dS,fk,A.ob,(fP P W A k^dB J),A.og,rd,Lg J,cZ]
def sV(h:HH)(a:θ D):lat (h++[.l a]) h.length=aa a:=by simp[lat]
def PY(h:HH)(c a:Cl):(h++[c]).set h.length a=h++[a]:=by simp
def qV(a:θ D)(d:D):d7 (.aj (a++[d]))^ω (-1)=aa d:=by
 show ((place _ _).bind _)=aa d;refine rwe ((by
  unfold place;refine rwe (bL ∅)^rwe (bK^by simp;lia) ?_;simp;lia:place (a++[d]).length (-1)=aa a.length)) ?_
 simp
def Lh(P:TrP T G)(c:Wf t)(A:g8 Pt h n t ro rb bs)(F:FK->θ W->HH->ψ (W×HH))(J:W){i:Nat}{l:θ Nat}(w:Pth t i l):∀(s:θ Nat)(f:Nat),s.length+i+1<=1000->i<=f →
 fT (aK F G ptC) (evS F G ptB) (f+1) [aa^.o n,aa J,aa^.r h.length] (h++[.l^cU (s++[i])])=aa^.nx [aa^.o n,aa J,aa^.r h.length] (h++[.l^cU (s++l)]):=by
 have v:∀g,oat (h++g) n=aa (ZC "Tree",tfs t ro rb):=λg=>(BJ^kJ A.ob).trans A.ob;have u:∀g,lat (h++g) ro=aa^jb t.ds:=λg=>(BI^jg A.og).trans A.og;have tst:∀(s:θ Nat)(i:Nat),aK F G ptC [aa^.o n,aa J,aa^.r h.length] (h++[.l^cU (s++[i])])=aa (.p^.bl (!decide (i=0)),h++[.l^cU (s++[i])]):=λs i=>by
  have e:cU (s++[i])=cU s++[ω i]:=by simp[cU]
  rw[e]
  by_cases z:i=0
  ·subst z;simp[-dS,ptC,rd,sV,qV]
  ·have V:¬(i:Int)=0:=()
   simp[-dS,ptC,rd,sV,qV,z,V]
 induction w with
 |zero =>
  intro s f _ _;rw[fT,tst];rfl
 |@step i d l U O r a =>
  intro s f j k;refine dU ((c.each _ _ U).par O) λ_ _ m _=>?_;have q:=tst s i;rw[show(!decide (i=0))=ah by simp;lia]at q;have e:cU (s++[i])=cU s++[ω i]:=by simp[cU]
  have b:evS F G ptB [aa^.o n,aa J,aa^.r h.length] (h++[.l^cU (s++[i])])=aa^.nx [aa^.o n,aa J,aa^.r h.length] (h++[.l^cU ((s++[i])++[d.par])]):=by
   have e2:cU ((s++[i])++[d.par])=cU s++[ω i]++[ω d.par]:=by simp[cU]
   have ix2:d7 d.org^ω 0=aa^ω d.par:=rfl;have Y:(cU s++[D.int i]).length<100000:=by simp[cU];lia
   have L:d7 (.aj^jb t.ds)^ω i=aa d.org:=vO U O;have Z:nV (.r h.length) (h++[.l (cU s++[ω i])])=ah:=by simp[nV,sV]
   refine rwe e^rwe e2 ?_;simp[-dS,-iP,-nS,ptB,v,u,rd,sV,qV,L,ix2,kMe,Z,(by
    rw[nS,sV];show (if (cU s++[D.int i]).length < lim then _ else af)=_;refine rwe (bK^Y) ?_;rw[PY]:meW .append (.r h.length) [.p^ω d.par] (h++[.l (cU s++[ω i])])=aa (.p .aC,h++[.l (cU s++[ω i]++[ω d.par])]))]
  cases f with
  |zero=>lia
  |succ f =>
   rw[fT,q,kG,pZ,b,gn,(a (s++[i]) f (by simp;lia) ())];simp
def DP(a:θ D):ur (-1) a=a.reverse:=by show(adx (a.length-1) (-1) (-1)).filterMap _=_;rw[PySem.W.krv_sliceRange,PySem.W.krv_range];refine rwe List.filterMap_reverse ?_;have:=PySem.W.krv_all a.toArray;simp![Zx,ae5]at this;exact rwe this rfl
def uK(P:TrP T G)(O:T^.m "Tree" "path"=aa fB)(J:Wf t)(A:g8 Pt h n t ro rb bs)(k:Nat){i:Nat}{l:θ Nat}(b:i<t.ds.length)(a:Pth t i l):φ (k+3) (.m "Tree" "path") [.o n,.p^ω i] h=aa (.p^.aj^cU l.reverse,h):=by refine rwe (run_eq O rfl) ?_;have U:=fP P J A k b;have c:=J.l1;have L:=Lh P J A (φ (k+2)) (.p^ω i) a [] 99999 (by simp;lia) ();have e1:cU ([]++[i])=[ω i]:=rfl;rw[e1,ac1]at L;rw[fB];simp![dM,aaH,ZQ,aam];simp[A.ob,U,turns,L,rd,(by rw[DP];simp[cU]:ur (-1)^cU l=cU l.reverse),(pG h [.l^cU l]^.aj^cU l.reverse)]
def pN(P:TrP T G)(Q:TrQ T)(J:Wf t)(A:g8 Pt h n t ro rb bs)(k:Nat){i:Nat}{l:θ Nat}(b:i<t.ds.length)(a:Pth t i l):φ (k+3) (.m "Tree" "path") [.o n,.p^ω i] h=aa (.p^.aj^cU l.reverse,h):=uK P Q.path J A k b a
def vS(P:TrP T G)(Q:TrQ T)(L:Wf t)(A:g8 Pt h n t ro rb bs)(k:Nat){i:Nat}(g:i<t.ds.length):φ (k+3) (.m "Tree" "children") [.o n,.p^ω i] h=aa (.p^.aj^cU^kids t i,h):=by
 rw[run_eq Q.children rfl];have b:=fP P L A k g;have x:=L.l1;have O:=pL L.l0;have W:gh .rng2 [ω 1,ω ((jb t.ds).length:Int)]=aa^upto 1 (t.ds.length-1):=by
  rw[uq,O];have c:((-100000<=(1:Int):Bool)&&((1:Int)<=100000:Bool)&&((-100000<=(t.ds.length:Int):Bool))&&(((t.ds.length:Int)<=100000:Bool)))=ah:=by simp![Zp,bN];lia
  rw[bK c];congr 2;lia
 have s:∀(j:Nat)(d:Nd),t.ds[j+1]?=aa d->aK (φ (k+2)) G cnC [aa^.p^ω ((1:Int)+(j:Int)),aa^.o n,aa^.p^ω i] h=aa (.p^.bl (decide (d.par=i)),h):=λj d J=>by
  have f:=vO J^adY _;rw[show((j+1:Nat):Int)=1+(j:Int) by lia]at f;have ix2:d7 d.org^ω 0=aa^ω d.par:=rfl;have q:((d.par:Int)==(i:Int))=decide (d.par=i):=by
   by_cases z:d.par=i
   rw[z];simp
   ·have:¬(d.par:Int)=(i:Int):=()
    simp[z,this]
  simp[-dS,-iP,cnC,A.ob,A.og,rd,f,ix2,q]
 have Z:fE (fH (evs (φ (k+2)) G^.cons cnC .nil) (aK (φ (k+2)) G^.v 0) [aa^.o n,aa^.p^ω i]) 1 (upto 1 (t.ds.length-1)) h=aa (cU^kids t i,h):=by
  rw[(by
   unfold kids cU
   induction ZG (t.ds.length-1)with
   |nil=>rfl
   |cons a r U =>
    rw[ZY,List.filter_cons,Z6]
    by_cases z:(t.ds[a+1]?).map Nd.par=aa i
    ·simp![z,decide_true,if_true,ZY];rw[U]
    ·simp![z,decide_false,if_false,afE];rw[U]:cU^kids t i=(ZG (t.ds.length - 1)).filterMap λj=>if decide ((t.ds[j+1]?).map Nd.par=aa i)=ah then aa^D.int^((j+1:Nat):Int) else af)]
  refine zV _ (λ(k:Nat)=>D.int (1+(k:Int))) _ h (ZG (t.ds.length-1)) λj Y=>?_;have e:=List.mem_range.mp Y;let(d,J):=fK (l:=t.ds) (i:=j+1) ();have c:=s j d J;have V:([D.int ((1:Int)+(j:Int))].map eZ++[aa^.o n,aa^.p^ω i]:Sl)=[aa^.p^ω ((1:Int)+(j:Int)),aa^.o n,aa^.p^ω i]:=rfl;unfold fH;rw[V,J,show((j+1:Nat):Int)=1+(j:Int) by lia]
  by_cases q:d.par=i
  ·rw[bP q]at c;simp[evs,c,q]
  ·rw[bO q]at c;simp[evs,c,q]
 have u:(cU^kids t i).length<=100000:=by unfold kids cU;rw[ZA];have:=aaj (λj=>decide ((t.ds[j]?).map Nd.par=aa i)) ((ZG (t.ds.length-1)).map (·+1));rw[ZA,aar]at this;lia
 have ce:aK (φ (k+2)) G (.comp ai .rng2 (.cons (.j^ω 1)^.cons (.bi .len ai^.cons (.i (.v 0) "origins") .nil) .nil) ["child"] [(0,"self"),(1,"run")] (.cons cnC .nil)^.v 0) [aa^.o n,aa^.p^ω i] h=aa (.p^.aj^cU^kids t i,h):=by
  refine ju (ws:=[.p^ω 1,.p^ω ((jb t.ds).length:Int)]) (h1:=h) ?_ ?_ rfl rfl Z u
  ·have:(jb t.ds).length<=100000:=by refine rwe O ?_;lia
   simp[A.ob,A.og,rd]
  simp[-uq,rds,rd,W]
 show jE (evS (φ _) G (.seq _ _) [aa _,aa^.p _] h) _=_;refine rwe (((nJ^by simp[A.ob,b]).trans^jN ce)) ?_;rw[jn,cZ]
end
def shC:E:=(.z .eq (.me .count (.v 2)^cS^.v 0)^.j^ω 1)
def shE:E:=(.aE (.v 1) "first"^cS^.v 0)
def shM:E:=(.comp ai .seq (cS^.v 3) ["run"] [(0,"self"),(3,"runs")] (cS shC) shE)
def shR:E:=(.bi .min1 ai^cS^.bin .add (.aj ai^cR (.bin .add (.aE (.v 0) "end"^cS^.v 1)^.j^ω 1)^.bin .add (.aE (.v 0) "end"^cS^.v 2)^.j^ω 1)^.v 4)
def jS:Fn:=#[["self","one","other"],["self","one","other","runs","moments"], (.seq (.set 3^.bin .add (.aE (.v 0) "path"^cS^.v 1)^.aE (.v 0) "path"^cS^.v 2)^.seq (.set 4 shM)^.ret shR)]
def ewC:E:=(.z .eq (.call "worth_in"^cR (.aE (.v 1) "at"^cR (.v 0)^.aE (.v 1) "end"^cS^.v 0)^.v 2)^.v 3)
def ewM:E:=(.comp ai .rng1 (cS^.obn^.i (.v 0) "branches") ["run"] [(0,"self"),(1,"thing"),(2,"worth")] (cS ewC)^.v 0)
def eV:Fn:=#[["self","thing","worth"],["self","thing","worth"], (.ret ewM)]
def sW(t:Tr)(th:Th)(i:Nat):Int:=match t.ds[i]? with
 |some d=>th.val^d.f d.en|none=>0
def yp{t:Tr}{i:Nat}{d:Nd}(J:t.ds[i]?=aa d)(th:Th):sW t th i=th.val^d.f d.en:=by unfold sW;exact rwe J rfl
def nK(t:Tr)(th:Th)(v:Int):θ Nat:=(ZG t.ds.length).filter λi=>decide (sW t th i=v)
def fiN(t:Tr)(i:Nat):Nat:=match t.ds[i]? with
 |some d=>d.fi|none=>0
def qo{t:Tr}{i:Nat}{d:Nd}(J:t.ds[i]?=aa d):fiN t i=d.fi:=by unfold fiN;exact rwe J rfl
def alone(t:Tr)(rs:θ Nat):θ Nat:=(rs.filter λr=>decide (rs.count r=1)).map^fiN t
def shN(t:Tr)(rs:θ Nat)(a b:Nat):Nat:=(alone t rs).foldl min^min (a+1) (b+1)
theorem jT:∀(l:θ Nat)(a:Nat),(l.map λ(x:Nat)=>(x:Int)).foldl min (a:Int)=((l.foldl min a:Nat):Int)
 |[],_=>rfl
 |b::l,a=>by refine rwe ZY ?_;refine rwe aa2^rwe aa2 ?_;exact rwe (show min (a:Int) _=((min a b:Nat)) by lia)^jT l _
def Pth.mem{t:Tr}(W:Wf t){i:Nat}{l:θ Nat}(b:i<t.ds.length)(a:Pth t i l):∀x∈l,x<t.ds.length:=by
 induction a with
 |zero=>intro x J;simp at J;subst J;exact b
 |step L V r O =>
  refine dU ((W.each _ _ L).par V) λq U Y _=>?_;intro x J;rcases List.mem_cons.mp J with z|z
  subst z;exact dB L;exact O (dB U) x z
structure TrS(T:FK->ψ Fn):Prop where
 shared:T^.m "Tree" "shared"=aa jS
structure TrE(T:FK->ψ Fn):Prop where
 ends:T^.m "Tree" "ends_with"=aa eV
section
variable{T:FK->ψ Fn}{G:ay->ψ W}{Pt:Pts}{h:HH}{n:Nat}{t:Tr}{ro rb:Nat}
abbrev uL(t:Tr)(ro rb:Nat):d9 "shared"^tfs t ro rb=af:=gH t _ _ rfl
abbrev BU(t:Tr)(ro rb:Nat):d9 "ends_with"^tfs t ro rb=af:=gH t _ _ rfl
def vU{J:Type}(f:θ D->HH->ψ (ψ D×HH))(mk:J->D)(g:J->Bool)(o:J->D)(L:HH->Prop)(l:θ J)(O:∀x∈l,∀h,L h->∃b,f [mk x] h=aa (if g x then aa^o x else af,b)/\L b)(h:HH)(c:L h):∃b,fE f 1 (l.map mk) h=aa ((l.filter g).map o,b)/\L b:=by
 refine cX (Hl f _ (λx=>if g x then aa _ else af) _ l O h c) λb e i=>?_;refine(cY b (rwe e ?_) i);congr 2;clear e O
 induction l with
 |nil=>rfl
 |cons a r U =>
  refine rwe Z6^rwe List.filter_cons ?_;cases g a with
  |_=>simp[U]
def tV(P:TrP T G)(Q:TrE T)(L:Wf t)(A:fy Pt h n t ro rb)(k:Nat)(th:Th)(v:Int):
 lR Pt (φ (k+13) (.m "Tree" "ends_with") [.o n,.p th.enc,.p^ω v] h) (.p^.aj^cU^nK t th v) n t ro rb:=by
 let(B,U):=id A;have H:=L.l1;have x:=U.len;have Y:gh .rng1 [ω (B.length:Int)]=aa^upto 0 t.ds.length:=by
  rw[fY];refine rwe (bK (by
   simp![Zp,bN];lia)) ?_;congr 2
 refine cX (vU (fH (evs (φ (k+12)) G^.cons ewC .nil) (aK (φ (k+12)) G^.v 0) [aa^.o n,aa^.p th.enc,aa^.p^ω v]) (λ(i:Nat)=>D.int (0+(i:Int))) (λi=>decide (sW t th i=v)) (λi=>D.int (i:Int)) (λh=>fy Pt h n t ro rb) (ZG t.ds.length) (λi C g ⟨E,Ag⟩=>by
  let(d,J):=fK (l:=t.ds)^List.mem_range.mp C;let(y,a,(s,V)):=jR P L Ag (k+2) J;let(O,Z,w):=ny P L V k J^Zw _;refine(cY O ?_ w);rw[yp J];have c:aK (φ (k+12)) G ewC [aa^.p^ω (i:Int),aa^.o n,aa^.p th.enc,aa^.p^ω v] g=aa (.p^.bl (th.val^d.f d.en==v),O):=by simp[ewC,Ag.ob,a,V.ob,Z,(tU P.tp P.th (k+8) (L.at_ J^Zw _).ok th O),rd]
  unfold fH;refine rwe ((by rw[afc];rfl:([D.int ((0:Int)+(i:Int))].map eZ++[aa^.o n,aa^.p th.enc,aa^.p^ω v]:Sl)=[aa^.p^ω (i:Int),aa^.o n,aa^.p th.enc,aa^.p^ω v])) ?_
  by_cases z:th.val^d.f d.en=v
  ·rw[z,beq_self_eq_true]at c;simp[evs,c,z]
  ·rw[beq_eq_false_iff_ne.mpr z] at c;simp[evs,c,z]) h A) λe r u=>?_
 have ce:aK (φ (k+12)) G ewM [aa^.o n,aa^.p th.enc,aa^.p^ω v] h=aa (.p^.aj^cU^nK t th v,e):=by
  refine ju (ws:=[.p^ω B.length]) ?_ ?_ rfl rfl r ?_;simp[U.ob,U.br,(by lia:B.length<=100000)];refine rwe (show rds [W.p^D.int _] h=aa [D.int _] from rfl) ?_;rw[Z0];refine rwe Y ?_;rfl
  ·unfold cU nK;rw[ZA];have:=aaj (λi=>decide (sW t th i=v))^ZG t.ds.length;rw[aar]at this;lia
 let(b,q,j):=jQ h (.aj^cU^nK t _ v) _;refine#[b,?_,?_]
 ·refine rwe (run_eq Q.ends rfl) ?_;refine rwe (jN ce) ?_;rw[jn,q]
 ·rcases j with z|z
  exact rwe z u;exact rwe z A
def PZ(rs:θ Nat)(r:Nat):meD .count (.aj^cU rs) [ω (r:Int)]=aa^ω ((rs.count r:Nat):Int):=by refine rwe yT^rwe (bK^by simp) ?_;congr 3;refine rwe List.countP_map ?_;rw[List.count];apply List.countP_congr;intro x _;simp;lia
def Aa(P:TrP T G)(Q:TrQ T)(S:TrS T)(O:Wf t)(A:fy Pt h n t ro rb)(k:Nat){i j:Nat}{L J:Nd}(hi:t.ds[i]?=aa L)(b:t.ds[j]?=aa J)(Z:Pth t i li)(Y:Pth t j lj):
 lR Pt (φ (k+11) (.m "Tree" "shared") [.o n,.p^ω i,.p^ω j] h) (.p^ω^shN t (li.reverse++lj.reverse) L.en J.en) n t ro rb:=by
 let(bs,V):=id A;have l1:=O.l1;have H:=pN P Q O V (k+7) (dB hi) Z;have F:=pN P Q O V (k+7) (dB b) Y;let(h1,e1,(bs1,y)):=jR P O V k hi;let(w,e2,A2):=jR P O y k b;have M:=Z.len O;have K:=Y.len O;have R:=dB hi;have N:=dB b;have ad:jX .add (.aj^cU li.reverse)^.aj^cU lj.reverse=aa^.aj^cU (li.reverse++lj.reverse):=by rw[dP];refine rwe (bK^by simp[cU];lia) ?_;simp[cU]
 generalize W:li.reverse++lj.reverse=rs at ad;have rl:rs.length<=1000:=by refine rwf W ?_;simp;lia
 have E:∀x∈rs,x<t.ds.length:=λx s=>by
  rw[←W]at s;rcases List.mem_append.mp s with z|z
  exact Z.mem O R x (by simpa using z);exact Y.mem O N x (by simpa using z)
 let(U,c1,A3):=vU (fH (evs (φ (k+10)) G^.cons shC .nil) (aK (φ (k+10)) G shE) [aa^.o n,aa^.p^.aj^cU rs]) (λ(r:Nat)=>D.int (r:Int)) (λr=>decide (rs.count r=1)) (λr=>D.int (fiN t r:Int)) (λg=>g=h) rs (λr hr g hg=>by
  subst hg;let(d,u):=fK (l:=t.ds)^E r hr;have f:=iR P O V (k+9) u;refine(cY g (rwe (qo u) ?_) rfl);have C:([D.int (r:Int)].map eZ++[aa^.o n,aa^.p^.aj^cU rs]:Sl)=[aa^.p^ω (r:Int),aa^.o n,aa^.p^.aj^cU rs]:=rfl;have c:aK (φ (k+10)) G shC [aa^.p^ω (r:Int),aa^.o n,aa^.p^.aj^cU rs] g=aa (.p^.bl (decide (rs.count r=1)),g):=by
   have cn:=PZ rs r;simp[shC,kMe,nV,eU,cn,rd,(by
    by_cases z:rs.count r=1
    refine rwe z ?_;rfl;simp[z,(by lia:¬((rs.count r:Nat):Int)=1)]
   :(((rs.count r:Nat):Int)==1)=decide (rs.count r=1))]
  unfold fH;refine rwe C ?_;cases z:decide (rs.count r=1)with
  |true=>rw[z]at c;simp[evs,c,shE,V.ob,f]|false=>rw[z]at c;simp[evs,c]
  ) h rfl
 subst A3;have q:cU rs=rs.map λ(r:Nat)=>D.int (r:Int):=rfl;have ce:aK (φ (k+10)) G shM [aa^.o n,aa^.p^ω i,aa^.p^ω j,aa^.p^.aj^cU rs,af] U=aa (.p^.aj^cU^alone t rs,U):=by
  refine rwe ((by
   unfold cU alone;refine rwe aaV ?_;rfl:cU^alone t rs=(rs.filter λr=>decide (rs.count r=1)).map λr=>D.int (fiN t r:Int))) ?_
  refine ju (ws:=[.p^.aj^cU rs]) (h1:=U) rfl rfl rfl rfl c1 ?_;rw[ZA];have:=aaj (λr=>decide (rs.count r=1)) rs;lia
 have al:(alone t rs).length<=1000:=by unfold alone;rw[ZA];have:=aaj (λr=>decide (rs.count r=1)) rs;lia
 have I:biD .min1 [.aj (ω ((L.en:Int)+1)::ω ((J.en:Int)+1)::cU^alone t rs)]=aa^ω^shN t rs L.en J.en:=by
  rw[wZ,(by
   rw[intsOf,intsOf,(λl=>by
    induction l with
    |nil=>rfl
    |cons a r X =>
     have e:cU (a::r)=ω (a:Int)::cU r:=rfl;refine rwe e ?_;rw[intsOf];refine rwe X ?_;rfl:∀ l:θ Nat,intsOf^cU l=aa (l.map λ(x:Nat)=>(x:Int)))];rfl:intsOf (ω ((L.en:Int)+1)::ω ((J.en:Int)+1)::cU^alone t rs)=aa (((L.en:Int)+1)::((J.en:Int)+1)::(alone t rs).map λ(x:Nat)=>(x:Int))),Z0]
  show(aa^adb min ((L.en:Int)+1) (((J.en:Int)+1)::_)).map D.int=_;refine rwe aa2 ?_;refine rwe (show min ((L.en:Int)+1) ((J.en:Int)+1)=((min (L.en+1) (J.en+1):Nat):Int) by lia) ?_;rw[jT];rfl
 refine cX (jQ U (ω^shN t rs L.en J.en) w) λh4 f1 f2=>#[h4,?_,?_]
 ·refine rwe (run_eq S.shared rfl) ?_;have B:aK (φ (k+10)) G (.bin .add (.aE (.v 0) "path"^.cons (.v 1) .nil)^.aE (.v 0) "path"^.cons (.v 2) .nil) [aa^.o n,aa^.p^ω i,aa^.p^ω j,af,af] U=aa (.p^.aj^cU rs,U):=by simp[-dP,V.ob,H,F,rd,ad]
  refine rwe ((fu B).trans^(fu ce).trans^jN (by
   simp[-dP,shR,V.ob,e1,y.ob,e2,rd,rds,eU,(by
    rw[dP];refine rwe (bK^by simp[cU];lia) ?_;rfl:jX .add (.aj [ω (L.en+1),ω (J.en+1)])^.aj^cU^alone t rs=aa^.aj (ω (L.en+1)::ω (J.en+1)::cU^alone t rs)),I]:aK (φ (k+10)) G shR [aa^.o n,aa^.p^ω i,aa^.p^ω j,aa^.p^.aj^cU rs,aa^.p^.aj^cU^alone t rs] U=aa (.p^ω^shN t rs L.en J.en,w))) ?_;rw[jn,f1]
 ·rcases f2 with z|z
  exact rwe z A2;exact rwe z A
end
def trB:S:=(.seq (.set 7^.call "_law_drawn"^cQ (.v 0) (.bin .add (.bin .add (.v 1)^.j^ω 1)^.bin .mul (.j^ω 5)^.v 6)^.bin .add (.v 6)^.j^ω 1)^.seq (.set 8^.call "_law_drawn"^cQ (.v 0) (.bin .add (.bin .add (.v 1)^.j^ω 2)^.bin .mul (.j^ω 5)^.v 6)^.bin .add (.aE (.v 5) "end"^cS^.v 7)^.j^ω 1)^.seq (.set 9^.y (.aj ai^cP (.j^ω 0) (.j^ω 1) (.j^ω 7)^.j^ω 10006)^.call "_law_drawn"^cQ (.v 0) (.bin .add (.bin .add (.v 1)^.j^ω 3)^.bin .mul (.j^ω 5)^.v 6)^.j^ω 4)^.ex^.aE (.v 5) "part"^cP (.v 7) (.v 8) (.call "_law_thing"^cR (.v 0)^.bin .add (.bin .add (.v 1)^.j^ω 4)^.bin .mul (.j^ω 5)^.v 6)^.v 9)
def kD:Fn:=#[["_law_script","_law_at","_law_program_here","_law_asked_here","_law_most"],["_law_script","_law_at","_law_program_here","_law_asked_here","_law_most","_law_tree_here","_law_k","_law_run","_law_moment","_law_worth"], (.seq (.set 5^.make "Tree"^cQ (.v 2) (.v 3)^.v 4)^.seq (.for [(6,"_law_k")] .rng1 (cS^.call "_law_drawn"^cQ (.v 0) (.v 1)^.j^ω 5) trB)^.ret^.v 5)]
def alE:E:=(.aE (.v 1) "at"^cR (.v 2)^.v 0)
def alC:E:=(.comp ai .rng1 (cS^.bin .add (.aE (.v 0) "end"^cS^.v 1)^.j^ω 1) ["_law_moment"] [(0,"_law_tree_here"),(1,"_law_run")] .nil alE)
def lK:Fn:=#[["_law_tree_here","_law_run"],["_law_tree_here","_law_run"], (.ret alC)]
def qK(d:Nd):θ St:=(ZG (d.en+1)).map d.f
def iS(d:Nd):D:=.aj^(qK d).map St.enc
structure LwT(T:FK->ψ Fn):Prop where
 lw:Lw T
 thing:T "_law_thing"=aa gF
 tree:T "_law_tree"=aa kD
 all:T "_law_all"=aa lK
section
variable{T:FK->ψ Fn}{G:ay->ψ W}{Pt:Pts}{h:HH}{n:Nat}{t:Tr}{ro rb:Nat}
def nA(d:Nd):(qK d).length=d.en+1:=by simp[qK]
def P0(d:Nd){m:Nat}(h:m<=d.en):(qK d)[m]?=aa^d.f m:=by rw[qK];refine rwe ZP ?_;refine rwe (abD ()) ?_;rfl
def BV(P:TrP T G)(c:T "_law_all"=aa lK)(J:Wf t)(A:fy Pt h n t ro rb)(k:Nat){i:Nat}{d:Nd}(L:t.ds[i]?=aa d):
 lR Pt (φ (k+13) "_law_all" [.o n,.p^ω i] h) (.p^iS d) n t ro rb:=by
 let(K,U):=id A;let(B,v,x):=jR P J U (k+2) L;have I:=J.yo L;have H:=J.m1;have V:gh .rng1 [ω ((d.en:Int)+1)]=aa^upto 0 (d.en+1):=by
  rw[fY];refine rwe (bK (by
   simp![Zp,bN];lia)) ?_;congr 2
 have u:(qK d).map St.enc=(ZG (d.en+1)).filterMap λm=>aa (d.f m).enc:=by
  unfold qK
  induction ZG (d.en+1)with
  |nil=>rfl|cons a r b=>rw[ZY,ZY,Z6,b]
 refine cX (Hl (fH (evs (φ (k+12)) G .nil) (aK (φ (k+12)) G alE) [aa _,aa^.p _]) (λ(m:Nat)=>D.int (0+m)) (λm=>aa (d.f m).enc) (λh=>fy _ h n t _ _) (ZG (d.en+1)) (λm C g ⟨E,Ag⟩=>by have y:=List.mem_range.mp C;let(l,Z,Y):=ny P J Ag k L (m:=m) ();refine(cY l ?_ Y);unfold fH;refine rwe ((by rw[afc];rfl:([D.int (0+m)].map eZ++[aa^.o n,aa^.p^ω i]:Sl)=[aa^.p^ω m,aa^.o n,aa^.p^ω i])) ?_;simp[alE,Ag.ob,Z]) _ x) λj O w=>?_
 rw[←u]at O;let(e,s,q):=jQ h _ _;refine#[e,?_,?_]
 ·refine rwe (run_eq c rfl) ?_;show jE (evS (φ _) G (.ret _) [aa _,aa^.p _] h) _=_;rw[jN (by
   refine ju (ws:=[.p^ω (d.en+1)]) ?_ ?_ rfl rfl O ?_;simp[U.ob,v];refine rwe (show rds [W.p^D.int (d.en+1)] _=aa [D.int (d.en+1)] from rfl) ?_;rw[Z0];refine rwe V ?_;rfl;rw[ZA,nA];lia
   :aK (φ (k+12)) G alC [aa^.o n,aa^.p^ω i] h=aa (.p^iS d,j)),jn,s]
 ·rcases q with z|z
  exact rwe z w;exact rwe z A
end
structure SmT(t t':Tr):Prop where
 p:t'.p=t.p
 aF:t'.aF=t.aF
 most:t'.most=t.most
def SmT.refl(t:Tr):SmT t t:=#[rfl,rfl,rfl]
def SmT.trans{t u v:Tr}(x:SmT t u)(y:SmT u v):SmT t v:=#[y.p.trans x.p,y.aF.trans x.aF,y.most.trans x.most]
def DQ(z:Nat)(h:z<4):∃v:Int,Wth v/\d7 (.aj [ω 0,ω 1,ω 7,ω 10006])^ω (z:Int)=aa^ω v:=by
 rcases (by omega:z=0\/z=1\/z=2\/z=3)with rfl|rfl|rfl|rfl
 exact(cY 0 (by simp[Wth]) rfl);exact(cY 1 (by simp[Wth]) rfl);exact(cY 7 (by simp[Wth]) rfl);exact(cY 10006 (by simp[Wth]) rfl)
def X4:big 5=ah:=by unfold big;decide
section
variable{T:FK->ψ Fn}{G:ay->ψ W}{Pt:Pts}{n:Nat}{ro rb:Nat}
def slT(a:θ Int)(q:Int)(Z Y V:W)(n:Nat)(U O L J:ψ W):Sl:=[aa^.p^.aj^cW a,aa^.p^ω q,aa Z,aa Y,aa V,aa^.o n,U,O,L,J]
def Li(P:TrP T G)(L:LwT T)(S:θ Int)(O:S.length<=1000)(q:Int)(a Z Y:W)(k:Nat){h:HH}{t:Tr}(V:Wf t)(A:fy Pt h n t ro rb)(j:Nat)(K:t.ds.length=j+1)(N:j<5)(w u s:ψ W):
 ∃h' X r o g,evS (φ (k+13)) G trB (slT S q a Z Y n (aa^.p^ω (j:Int)) w u s) h=aa^.nx (slT S q a Z Y n (aa^.p^ω (j:Int)) r o g) h'/\Wf X/\fy Pt h' n X ro rb/\SmT t X/\X.ds.length=j+2:=by
 refine cX (gG (G:=G) L.lw S O (q+1+5*(j:Int)) ((j:Int)+1) ()) λi M B=>(uxE (fK (l:=t.ds) (i:=i) ()) λd U=>?_);let(bs,f):=A;let(Q,E,(C,c)):=jR P V f (k+3) U;refine cX (gG (G:=G) L.lw S O (q+2+5*j) (d.en+1) ()) λm I dm=>(cX (gG (G:=G) L.lw _ O (q+3+5*j) 4 ()) λz H y=>?_);refine cX (DQ z ()) λv b ev=>(uxE (uJ (G:=G) L.lw L.thing _ O (q+4+5*j)) λth rt=>?_);let(e,R,_):=BH (th.put _ v) _ _ _;have J:m<=d.en:=()
 let(x,D,F):=Hy P V c k U J _ b R;refine#[x,_,aa^.p^ω i,aa^.p^ω m,aa^.p^ω v,?_,(PV V U J ((V.at_ U J).put b th) R () rfl),F,#[rfl,rfl,rfl],by simp[Tr.add];lia];rw[trB,slT,slT];simp[-dS,X4,B,f.ob,E,dm,y,ev,c.ob,rt,D]
def BW(j r:Nat):upto (j:Int) (r+1)=ω (j:Int)::upto ((j+1:Nat):Int) r:=by unfold upto;refine rwe acQ ?_;refine rwe ZY^rwe aaV ?_;simp![Int.natCast_zero,Int.add_zero,abY,true_and];apply aa6;intro i _;simp;lia
theorem BY(P:TrP T G)(L:LwT T)(M:θ Int)(e:M.length<=1000)(q:Int)(a Z Y:W)(k:Nat):∀(r j:Nat)(h:HH)(t:Tr)(V U O J:ψ W),Wf t->fy Pt h n t ro rb->t.ds.length=j+1->j+r<=5 →
 ∃R K o d c b,fC (evS (φ (k+13)) G trB) [(6,"_law_k")] (upto (j:Int) r) (slT M q a Z Y n V U O J) h=aa^.nx (slT M q a Z Y n o d c b) R/\Wf K/\fy Pt R n K ro rb/\SmT t K/\K.ds.length=j+r+1
 |0,j,h,t,V,U,O,J,Q,A,N,_=>#[h,t,V,U,O,J,rfl,Q,A,.refl t,N]
 |r+1,j,h,t,V,U,O,J,Q,A,N,S=>by let(I,F,d,c,b,z,C,E,v,w):=Li P L _ e q _ _ _ k Q A j N () _ _ _;let(x,s,m,i,g,f,y,B,D,u,H):=BY P L _ e q _ _ _ k r _ _ _ (aa^.p^ω _) _ _ _ C E w ();refine#[x,s,m,i,g,f,?_,B,D,v.trans u,()];rw[BW];have st:∀l,fC (evS (φ (k+13)) G trB) [(6,"_law_k")] (ω j::l) (slT M q a Z Y n V U O J) h=j6 (evS (φ _) G _ (slT _ q _ _ _ n (aa^.p^ω _) _ _ _) h)^fC (evS (φ _) G _) _ l:=λl=>rfl;rw[st,z,gn,y]
def vV(P:TrP T G)(L:LwT T)(K:θ Int)(Y:K.length<=1000)(q:Int)(k:Nat){p:Pg}(M:Pg.ok p)(Z:Ask aF)(W:most<=100)(h:HH)(y:∀i c,Pt i=aa c->h[i]?=aa c):
 ∃N t,φ (k+14) "_law_tree" [.p^.aj^cW K,.p^ω q,.p^fG p,.p^.aj^cW aF,.p^ω most] h=aa (.o h.length,N)/\Wf t/\fy Pt N h.length t (h.length+1) (h.length+5)/\t.p=p/\t.aF=aF/\t.most=most/\t.ds.length<=5:=by
 refine cX (BH St.zero p aF most) λe R _=>?_;have B:=Hw P (k+9) p aF most e h;have E:=Hx M Z W R y;have D:=PU M Z W R;refine cX (gG (G:=G) L.lw K Y q 5 ()) λz H U=>?_;refine kY (BY P L K Y q (.p^fG p) (.p^.aj^cW aF) (.p^ω most) k z 0 _ _ af af af af D E rfl ()) λJ u r n m g V C d O F=>(#[J,u,?_,C,d,O.p,O.aF,O.most,()]);let(A,I):=id d;have f:fin h (.o h.length) J=aa (.o h.length,J):=by
  unfold fin
  by_cases c:J.length=h.length
  exact rwe (bK c) rfl
  ·refine rwe (bL c) ?_
   by_cases a:J.take h.length=h
   exact rwe (bK a)^bL^aas _;exact rwe (bL a) rfl
 have U:=U (k+11);have x:gh .rng1 [ω (z:Int)]=aa^upto 0 z:=by
  rw[fY];refine rwe (bK (by
   simp![Zp,bN];lia)) ?_;congr 2
 rw[slT]at V
 change fC _ _ (upto 0 z) _ _=_ at V
 refine rwe (run_eq L.tree rfl) ?_;rw[kD];have s:aK (φ (k+13)) G (.make "Tree"^.cons (.v 2)^.cons (.v 3)^.cons (.v 4) .nil) [aa^.p^.aj^cW K,aa^.p^ω q,aa^.p^fG p,aa^.p^.aj^cW aF,aa^.p^ω most,af,af,af,af,af] h=aa (.o h.length,h++[.o "Tree"^tfs (Tr.new p aF most e) (h.length+1) (h.length+5),.l [.aC],.o "Branch"^(Tp.new p aF St.zero most).fs (h.length+4),.l [St.zero.enc],.l [St.zero.enc],.b [h.length+2]]):=by simp[B]
 refine rwe (fu s) ?_;refine rwe ((nJ (b:=.ret^.v 5) (by
  simp[-fY,-fC,U,rds,rd,x,jd,V]:evS (φ (k+13)) G (.for [(6,"_law_k")] .rng1 (.cons (.call "_law_drawn"^.cons (.v 0)^.cons (.v 1)^.cons (.j^ω 5) .nil) .nil) trB) [aa^.p^.aj^cW K,aa^.p^ω q,aa^.p^fG p,aa^.p^.aj^cW aF,aa^.p^ω most,aa^.o h.length,af,af,af,af] (h++[.o "Tree"^tfs (Tr.new p aF most e) (h.length+1) (h.length+5),.l [.aC],.o "Branch"^(Tp.new p aF St.zero most).fs (h.length+4),.l [St.zero.enc],.l [St.zero.enc],.b [h.length+2]])=aa^.nx (slT K q (.p^fG p) (.p^.aj^cW aF) (.p^ω most) h.length r n m g) J))) ?_;refine rwe (jN (w:=.o _) rfl) ?_;rw[jn,f]
end
section
variable{T:FK->ψ Fn}{G:ay->ψ W}{Pt:Pts}{n:Nat}{ro rb:Nat}
def qD{F:FK->θ W->HH->ψ (W×HH)}{c:E}{a:S}{s:Sl}{h g:HH}(b:aK F G c s h=aa (.p^.bl ai,g)):evS F G (.v c a .nil) s h=aa^.nx s g:=by simp[b]
def HA{F:FK->θ W->HH->ψ (W×HH)}{c:E}{a b:S}{s:Sl}{h g:HH}(d:aK F G c s h=aa (.p^.bl ah,g)):evS F G (.v c a b) s h=evS F G a s g:=by simp[d]
end
section
variable{T:FK->ψ Fn}{G:ay->ψ W}{Pt:Pts}{n:Nat}{ro rb:Nat}{t:Tr}
end
structure Bf(t:Tr)(a:Nat)(rs:θ Nat):Prop where
 nd:rs.Nodup
 lt:∀x∈rs,x<t.ds.length
 z:rs[0]?=aa 0
 le:a<=rs.length
 up:∀x∈rs,x=0\/∃d,t.ds[x]?=aa d/\d.par∈rs.take a
 dn:∀x∈rs.take a,∀c∈kids t x,c∈rs
def Lj(t:Tr)(i:Nat):(kids t i).Nodup:=by exact List.Nodup.sublist List.filter_sublist^aew _ (λa b h=>λz=>h ()) List.nodup_range
def Lk{t:Tr}{c:Nat}{d:Nd}(J:t.ds[c]?=aa d)(L:0<c):c∈kids t d.par:=by refine List.mem_filter.mpr #[List.mem_map.mpr (cY (c-1) (List.mem_range.mpr^by have:=dB J;lia) ()),?_];simp[J]
def Bf.zero{t:Tr}(L:Wf t):Bf t 0 [0] :=
 #[by simp,λx J=>by simp at J;subst J;exact List.length_pos_iff.mpr L.l0,rfl,aax _,λx J=>by simp at J;exact .inl J,λx J=>by simp at J]
def Bf.len{t:Tr}{a:Nat}(B:Bf t a rs):rs.length<=t.ds.length:=by
 have:=List.Nodup.length_le_of_subset B.nd (l₂:=ZG _) λx J=>List.mem_range.mpr^B.lt x J
 rwa [aar]at this
def BZ{J:Type}{rs:θ J}{a:Nat}{x:J}(h:rs[a]?=aa x):rs.take (a+1)=rs.take a++[x]:=by refine rwe List.take_succ^rwe h ?_;rfl
def Bf.step{t:Tr}(U:Wf t){a x:Nat}{rs:θ Nat}(B:Bf t a rs)(h:rs[a]?=aa x):Bf t (a+1) (rs++kids t x):=by
 have Z:=dB h;have V:(rs++kids t x).take (a+1)=rs.take a++[x]:=by exact rwe (List.take_append_of_le_length ())^rwe (BZ h) rfl
 have g:=λz=>by have n:=B.nd;rw[←ae3 _ rs,BZ h]at n;exact((List.nodup_append.mp (List.nodup_append.mp n).1).2.2 x z x^by simp) rfl
 refine#[List.nodup_append.mpr^f6 B.nd (Lj t x) (λp J q W e=>?_),λp J=>?_,?_,by simp;lia,λp J=>?_,λp J c f=>?_]
 ·subst e;refine jB (vR U W) λY d L O=>?_;rcases B.up p J with z|⟨i,b,z⟩
  lia
  ·replace b:=L ▸ b;cases b;rw[O]at z;exact g z
 ·rcases List.mem_append.mp J with z|z
  exact B.lt p z;exact jB (vR U z) λ_ d L _=>(dB L)
 refine rwe (Zs^by exact(dB B.z)) ?_;exact B.z
 ·refine rwe V ?_;rcases List.mem_append.mp J with z|z
  ·rcases B.up p z with q|⟨d,L,q⟩
   exact .inl q;exact .inr #[d,L,List.mem_append.mpr^.inl q]
  exact jB (vR U z) λ_ d L O=>(.inr #[d,L,List.mem_append.mpr (.inr^by refine rwe O ?_;simp)])
 ·replace J:=V ▸ J;rcases List.mem_append.mp J with z|z
  exact List.mem_append.mpr^.inl^B.dn p z c f
  ·simp at z;subst z;exact List.mem_append.mpr^.inr f
theorem Bf.all{t:Tr}(L:Wf t){rs:θ Nat}(B:Bf t rs.length rs):∀(n i:Nat),i<=n->i<t.ds.length->i∈rs
 |n,i,hn,a=>by
  rcases aaX i with z|z
  subst z;exact ZJ B.z
  ·refine uxE (fK a) λd J=>(dU ((L.each i d J).par z) λq O U _=>?_);cases n with
   |zero=>lia
   |succ n =>
    exact B.dn _ (by exact rwe List.take_length^(Bf.all L B n _ ()^dB O)) i^Lk J z
def Bf.perm{t:Tr}(J:Wf t)(B:Bf t rs.length rs):rs.Perm^ZG t.ds.length :=
 (List.perm_ext_iff_of_nodup B.nd List.nodup_range).mpr λa=>#[λh=>List.mem_range.mpr^B.lt a h,λh=>B.all J a a (Zw _)^List.mem_range.mp h]
def om(a:θ Nat):θ Int:=a.map λ(n:Nat)=>(n:Int)
def pO(a:θ Nat):cU a=cW^om a:=by unfold cU cW om;refine rwe aaV ?_;rfl
def Ll{c:θ Nat}(h:c.Pairwise (·<=·)):(om c).Pairwise (·<=·):=aew _ (λa b h=>()) h
def DR{b a:θ Nat}(h:b.Perm a)(J:a.Pairwise (·<=·)):sortI^om b=om a:=adC ((sortI_perm _).trans^h.map _) (oQ _)^Ll J
theorem qp:∀(a:θ Int),intsOf^cW a=aa a
 |[]=>rfl
 |x::a=>by show(intsOf^cW _).map _=_;refine rwe (qp _) ?_;rfl
def Lm{b a:θ Nat}(h:b.Perm a)(J:a.Pairwise (·<=·))(L:b.length<64):biD .sorted [.aj^cU b]=aa^.aj^cU a:=by rw[pO,zb,qp,Z0,bK^by unfold om;rw[ZA];exact L,DR h J,pO];rfl
def Pth.last{t:Tr}{i:Nat}{l:θ Nat}(a:Pth t i l):l.getLast?=aa 0:=by
 induction a with
 |zero=>rfl|step O L r J=>refine rwe List.getLast?_cons ?_;refine rwe J ?_;rfl
def HB(a:θ Int)(v:Int):ded (a++[v])=if(ded a).any (·==v)then ded a else ded a++[v]:=by unfold ded;refine rwe List.foldl_append ?_;rfl
def P4(d:θ Int):(ded d).Nodup/\∀x,x∈ded d↔x∈d:=by
 suffices h:∀(n:Nat)(d:θ _),d.length=n->(ded d).Nodup/\∀x,x∈ded d↔x∈d from h _ _ rfl
 intro n
 induction n with
 |zero =>
  intro d J;have:=List.length_eq_zero_iff.mp J;subst this;exact#[adi,λx=>Iff.rfl]
 |succ n V =>
  intro d J;rcases List.eq_nil_or_concat d with z|⟨f,v,z⟩
  rw[z]at J;simp at J
  ·have U:=by simpa using z
   subst U;refine uxA (V _^by simp at J;exact J) λa b=>?_;rw[HB]
   by_cases c:(ded f).any (·==v)=ah
   ·refine rwe (bK c) ?_;have L:=by simpa using c
    refine#[a,λx=>?_];rw[b x,aei];exact#[.inl,λq=>q.elim id λq=>by simp at q;subst q;exact(b _).mp L]
   ·refine rwe (bL c) ?_;have L:=by simpa using c
    refine#[List.nodup_append.mpr #[a,by simp,λp W q O e=>?_],λx=>?_];simp at O;subst O;subst e;exact L W;rw[aei,aei,b x]
def pt0:Pts:=λ_=>af
def apE:E:=(.aE (.v 1) "first"^cS^.v 0)
def apM:E:=(.comp ai .seq (cS^.bin .add (.aE (.v 0) "path"^cS^.v 1)^.aE (.v 0) "path"^cS^.v 2) ["run"] [(0,"self")] .nil apE)
def apC:E:=(.z .ne (.aE (.v 0) "found"^cR (.v 1)^.v 4)^.aE (.v 0) "found"^cR (.v 2)^.v 4)
def apB:S:=(.v apC (.ret^.v 4) .nil)
def gR:Fn:=#[["self","one","other"],["self","one","other","partings","moment"], (.seq (.set 3 apM)^.seq (.for [(4,"moment")] .seq (cS^.bi .sset ai^cS^.v 3) apB)^.ret^.j .aC)]
def dN:Fn:=#[["self","run","moment"],["self","run","moment"], (.ret^.aE (.v 0) "at"^cR (.v 1)^.v 2)]
def fnd(d:Nd)(m:Nat):D:=if m<=d.en then(d.f m).enc else .aC
def B0(d:Nd)(m:Nat):dok 100^fnd d m=ah:=by unfold fnd;split;exact zT _ _;rfl
def dfr(a b:Nd)(m:Nat):Bool:=!eqv (fnd a m)^fnd b m
def apD:ψ Nat->D
 |some m=>ω (m:Int)|none=>.aC
def Ln(l:θ Nat)(c:l.length<64):∃L:θ Nat,biD .sset [.aj^cU l]=aa^.aj^cU L/\(∀x,x∈L↔x∈l)/\L.Pairwise (· < ·):=by
 let(Y,Z):=P4 _;have U:=sortI_perm^ded^om l;have W:=oQ^ded^om l;have V:=U.nodup_iff.mpr Y;have g:∀x,x∈sortI^ded _↔x∈om l:=λx=>(U.mem_iff).trans^Z x;have J:∀x∈sortI^ded _,(x.toNat:Int)=x:=λx O=>by refine cX (List.mem_map.mp^(g x).mp O) ?_;rintro a _ rfl;rfl
 have e:om^(sortI^ded^om l).map Int.toNat=sortI^ded^om l:=by
  generalize sortI^ded _=q at J;unfold om;refine rwe aaV ?_
  conv=>rhs;rw[←List.map_id q]
  exact aa6 λx O=>J x O
 refine(eH ((sortI^ded^om l).map Int.toNat) ?_ (λx=>?_) ?_)
 ·rw[pO,pO,e,wY,qp,Z0,bK^by unfold om;rw[ZA];exact c];rfl
 ·constructor
  ·intro h;refine cX (List.mem_map.mp h) ?_;rintro a j rfl;refine cX (List.mem_map.mp^(g a).mp j) ?_;rintro b i rfl;exact i
  ·intro h;exact List.mem_map.mpr^cY _ ((g _).mpr^List.mem_map.mpr^cY x h rfl) rfl
 ·rw[List.pairwise_map];refine List.Pairwise.imp_of_mem (λ{a b} j i h=>?_) (by
   exact List.Pairwise.imp₂ (λa b f d=>(Int.lt_iff_le_and_ne.mpr #[f,d])) W V)
  have:=J a j;have:=J b i;lia
section
variable{T:FK->ψ Fn}{G:ay->ψ W}{Pt:Pts}{n:Nat}{t:Tr}{ro rb:Nat}
abbrev yq(t:Tr)(ro rb:Nat):d9 "apart"^tfs t ro rb=af:=gH t _ _ rfl
abbrev UN(t:Tr)(ro rb:Nat):d9 "found"^tfs t ro rb=af:=gH t _ _ rfl
def Fnd(Pt:Pts)(F:FK->θ W->HH->ψ (W×HH))(n:Nat)(t:Tr)(ro rb:Nat)(M:Nat->Nd->Prop):Prop :=
 ∀(i:Nat)(d:Nd)(m:Nat)(g:HH),t.ds[i]?=aa d->M m d->fy Pt g n t ro rb->lR Pt (F (.m "Tree" "found") [.o n,.p^ω i,.p^ω m] g) (.p^fnd d m) n t ro rb
def Lo{F:FK->θ W->HH->ψ (W×HH)}{M:Nat->Nd->Prop}(U:Fnd Pt F n t ro rb M){i j m:Nat}{L J:Nd}(q:t.ds[i]?=aa L)(b:t.ds[j]?=aa J)(a:M m L)(Z:M m J)(Y:ψ W){h:HH}(A:fy Pt h n t ro rb):
 ∃g,aK F G apC [aa^.o n,aa^.p^ω i,aa^.p^ω j,Y,aa^.p^ω m] h=aa (.p^.bl^dfr L J m,g)/\fy Pt g n t ro rb:=by
 let(l,e,V):=U i _ m h q a A;let(c,d,f):=U j _ m _ b Z V;let(_,k):=A;let(_,O):=V;refine (cY c ?_ f);simp[-qQ,apC,k.ob,e,O.ob,d,rd,(by
  rw[qQ];refine rwe (bK^jD^B0 _ m) ?_;rfl:iO .ne (fnd L m)^fnd J m=aa^dfr L J m)]
inductive ApL(Pt:Pts)(n:Nat)(t:Tr)(ro rb:Nat)(x:ψ Fl)(i j:Nat)(x3:ψ W):ψ Nat->Prop
 |rt(m:Nat)(g:HH)(e:x=aa^.rt (.p^ω (m:Int)) g)(A:fy Pt g n t ro rb):ApL Pt n t ro rb x i j x3^aa m
 |nx(J:ψ W)(g:HH)(e:x=aa^.nx [aa^.o n,aa^.p^ω i,aa^.p^ω j,x3,J] g)(A:fy Pt g n t ro rb):ApL Pt n t ro rb x i j x3 af
theorem B3{F:FK->θ W->HH->ψ (W×HH)}{M:Nat->Nd->Prop}(a:Fnd Pt F n t ro rb M){i j:Nat}{Y V:Nd}(k:t.ds[i]?=aa Y)(Z:t.ds[j]?=aa V)(O:ψ W):∀(J:θ Nat)(L:ψ W)(h:HH),(∀m∈J,M m Y/\M m V)->fy Pt h n t ro rb →
 ApL Pt n t ro rb (fC (evS F G apB) [(4,"moment")] (cU J) [aa^.o n,aa^.p^ω i,aa^.p^ω j,O,L] h) i j O^J.find?^dfr Y V
 |[],L,h,_,A=>.nx _ h rfl A
 |m::J,L,h,g,A=>by
  let(f,U,b):=Lo a k Z (g m (ZF ..)).1 (g m (ZF ..)).2 _ A;have e:fC (evS F G apB) [(4,"moment")] (cU (m::J)) [aa^.o n,aa^.p^ω i,aa^.p^ω j,O,L] h=j6 (evS F G _ [aa _,aa^.p _,aa^.p _,O,aa^.p^ω m] h)^fC (evS F G _) _^cU _:=rfl;refine rwe e^rwe List.find?_cons ?_;cases c:dfr _ _ m with
  |true =>
   rw[c]at U;refine .rt m _ (rwe ((HA U).trans^jN rfl) ?_) b;rfl
  |false =>
   rw[c]at U;refine rwe (qD U) ?_;rw[gn];exact B3 a k Z _ _ _ _ (λz d=>g z^Zz _ d) b
def Lp(q:Wf t){h:HH}(A:fy Pt h n t ro rb){F:FK->θ W->HH->ψ (W×HH)}(C:∀{i:Nat}{l:θ Nat},i<t.ds.length->Pth t i l->F (.m "Tree" "path") [.o n,.p^ω i] h=aa (.p^.aj^cU l.reverse,h))(hF:∀{i:Nat}{d:Nd},t.ds[i]?=aa d->F (.m "Tree" "first") [.o n,.p^ω i] h=aa (.p^ω d.fi,h)){M:Nat->Nd->Prop}(hf:Fnd Pt F n t ro rb M){i j:Nat}{k f:Nd}(hi:t.ds[i]?=aa k)(Y:t.ds[j]?=aa f)(w:Pth t i li)(u:Pth t j lj)(T:li.length+lj.length<64)
(hM:∀x∈li++lj,M (fiN t x) k/\M (fiN t x) f):
 ∃J:θ Nat,(∀m,m∈J↔m∈(li++lj).map^fiN t)/\J.Pairwise (· < ·)/\lR Pt (jE (evS F G gR.body [aa^.o n,aa^.p^ω i,aa^.p^ω j,af,af] h)^fin h) (.p^apD^J.find?^dfr k f) n t ro rb:=by
 let(bs,E):=id A;have l1:=q.l1;have S:=C (dB hi) w;have R:=C (dB Y) u;have il:=dB hi;have X:=dB Y;have ad:jX .add (.aj^cU li.reverse)^.aj^cU lj.reverse=aa^.aj^cU (li.reverse++lj.reverse):=by rw[dP];refine rwe (bK^by simp[cU];lia) ?_;simp[cU]
 generalize O:li.reverse++lj.reverse=rs at ad;have Q:rs.length<64:=by refine rwf O ?_;simp;lia
 have U:∀x,x∈rs↔x∈li++lj:=λx=>by refine rwf O ?_;simp
 have P:∀x∈rs,x<t.ds.length:=λx hx=>by
  rcases List.mem_append.mp^(U x).mp hx with z|z
  exact w.mem q il x z;exact u.mem q X x z
 refine dU (Ln (rs.map^fiN t)^by rw[ZA];exact Q) λJ N K I=>?_;have L:∀m,m∈J↔m∈(li++lj).map^fiN t:=λm=>by rw[K m,List.mem_map,List.mem_map];exact#[λ⟨a,h1,h2⟩=>(cY a ((U a).mp h1) h2),λ⟨a,h1,h2⟩=>(cY a ((U a).mpr h1) h2)]
 refine(eH J L I ?_);have cm:fE (fH (evs (F) G .nil) (aK (F) G apE) [aa^.o n]) 1 (cU rs) h=aa (cU^rs.map^fiN t,h):=by
  have e0:cU^rs.map^fiN t=rs.filterMap λr=>aa^D.int (fiN t r:Int):=by unfold cU;refine rwe aaV^rwe aeX ?_;rfl
  refine rwe e0 ?_;refine zV _ (λ(r:Nat)=>D.int (r:Int)) _ h rs λr hr=>(uxE (fK (l:=t.ds)^P r hr) λd B=>?_);have H:([D.int (r:Int)].map eZ++[aa^.o n]:Sl)=[aa^.p^ω (r:Int),aa^.o n]:=rfl;unfold fH;refine rwe H^rwe (qo B) ?_;simp[evs,apE,E.ob,(hF B)]
 have ce:aK (F) G apM [aa^.o n,aa^.p^ω i,aa^.p^ω j,af,af] h=aa (.p^.aj^cU^rs.map^fiN t,h):=by refine ju (ws:=[.p^.aj^cU rs]) (h1:=h) ?_ rfl rfl rfl cm ?_;simp[-dP,evs,E.ob,S,R,rd,ad];simp[cU];lia
 have V:=B3 (G:=G) hf hi Y (aa^.p^.aj^cU^rs.map^fiN t) J af h (λm hm=>by refine cX (List.mem_map.mp^(L m).mp hm) ?_;rintro a h1 rfl;exact hM a h1) A
 have top:∀y,evS _ G (.seq (.for _ _ (.cons (.bi _ _^.cons _ _) _) _)^.ret^.j _) [aa _,aa^.p _,aa^.p _,aa^.p^.aj^cU^rs.map _,af] h=y →
  jE (evS F G gR.body [aa _,aa^.p _,aa^.p _,af,af] h)^fin h=jE y _:=λy hy=>by
  refine rwe (fu ce)^rwf hy ?_;rfl
 revert V
 refine rwf ((by
  have ap:jd [W.p^D.aj^cU J]=ah:=rfl;simp[N,ap]:evS (F) G (.for [(4,"moment")] .seq (.cons (.bi .sset ai^.cons (.v 3) .nil) .nil) apB) [aa^.o n,aa^.p^ω i,aa^.p^ω j,aa^.p^.aj^cU^rs.map^fiN t,af] h=fC (evS (F) G apB) [(4,"moment")] (cU J) [aa^.o n,aa^.p^ω i,aa^.p^ω j,aa^.p^.aj^cU^rs.map^fiN t,af] h)) ?_
 generalize J.find?^dfr _ _=o;intro V;cases V with
 |rt m g e s =>
  let(Z,c,b):=jQ h (ω _) g;refine#[Z,?_,?_];rw[top (aa^.rt (.p _) g)^by show kN _ _=_;refine rwe e ?_;rfl,jn];refine rwe c ?_;rfl
  ·rcases b with z|z
   rw[z];exact s;rw[z];exact A
 |nx y4 g e s =>
  let(Z,c,b):=jQ h _ g;refine#[Z,?_,?_];refine rwe (top (aa^.rt (.p _) g)^(nJ e).trans^jN rfl) ?_;rw[jn];refine rwe c ?_;rfl
  ·rcases b with z|z
   rw[z];exact s;rw[z];exact A
end
def fo(d:Nd)(m:Nat):ψ St:=if m<=d.en then aa^d.f m else af
def uM{d:Nd}{m:Nat}(h:m<=d.en):fo d m=aa^d.f m:=bK h
def uN{d:Nd}{m:Nat}(h:d.en<m):fo d m=af:=bL ()
def qq(a b:Nd)(m:Nat):dfr a b m=ai↔fo a m=fo b m:=by
 unfold dfr fnd fo
 by_cases L:m<=a.en<;>by_cases J:m<=b.en
 ·rw[bK L,bK J];refine rwe (bK L) ?_;refine rwe (bK J) ?_;constructor
  ·intro h;have h:=by simpa using h
   exact rwe (K3 h) rfl
  ·intro h;refine rwe (Zv h) ?_;rw[kU];rfl
 ·rw[bK L,bL J,bK L];refine rwe (bL J) ?_;constructor;intro h;exact eS h.symm;intro h;exact iy h.symm
 ·rw[bL L,bK J,bL L];refine rwe (bK J) ?_;constructor;intro h;exact eS h.symm;intro h;exact iy h
 ·rw[bL L,bL J,bL L];refine rwe (bL J) ?_;exact#[λ_=>rfl,λ_=>rfl]
section
variable{t:Tr}
def Wf.goes(W:Wf t){i:Nat}{l:θ Nat}(p:Pth t i l):∀(d:Nd),t.ds[i]?=aa d->∀q,q+1<=d.en->(∀x∈l,fiN t x≠q+1)->d.f (q+1)=step t.p t.aF^d.f q/\over t.p^d.f q=ai/\q<t.most:=by
 have k:∀(i:Nat)(d:Nd),t.ds[i]?=aa d->∀q,q+1<=d.en->d.fi<=q->d.f (q+1)=step t.p t.aF^d.f q/\over t.p^d.f q=ai/\q<t.most:=λi d L q U c=>by have O:=W.each i d L;unfold Nd.en at U;have e1:=O.own (q-d.fi) ();have e2:=O.own (q-d.fi+1) ();rw[show d.fi+(q-d.fi)=q by lia]at e1;rw[show d.fi+(q-d.fi+1)=q+1 by lia]at e2;have o:=O.run.on (q-d.fi) ();have:=O.run.le;have:=O.le;refine#[?_,?_,()];rw[e2,e1];rfl;rw[e1];exact o
 induction p with
 |zero =>
  intro d L q U _;exact k 0 d L q U (by have:=((W.each 0 d L).zero rfl).1;lia)
 |@step i V l J e r Z =>
  intro d L q U hn;rw[J]at L;cases L;have g:V.fi≠q+1:=by have:=hn i (ZF ..);rw[qo J]at this;exact this
  by_cases c:V.fi<=q
  exact k i V J q U c
  ·let(u,b,j,h,Y):=(W.each i V J).par e;rw[Y q (),Y (q+1) ()];exact Z u b q () λx a=>hn x^Zz _ a
def Wf.ends(W:Wf t){i:Nat}{d:Nd}(J:t.ds[i]?=aa d):d.en=t.most\/over t.p^d.f d.en=ah:=by
 have O:=W.each i d J;have:=O.le;rcases O.run.last with z|z
 left;unfold Nd.en;lia
 ·right;refine rwe (show d.f d.en=d.f (d.fi+d.e) from rfl) ?_;exact rwe ((O.own _^Zw _)) z
def Wf.Lq(W:Wf t){i j:Nat}{L J:Nd}(o:t.ds[i]?=aa L)(V:t.ds[j]?=aa J)(g:Pth t i li)(Y:Pth t j lj){q:Nat}(e:fo L q=fo J q)(hn:∀x∈li++lj,fiN t x≠q+1):fo L (q+1)=fo J (q+1):=by
 have Z:=λx U=>hn x^List.mem_append.mpr^.inr U
 by_cases c:q<=L.en
 ·have b:q<=J.en:=by
   rcases ZR _ q with z|z
   rw[uM c,uN z]at e;exact iy e.symm;exact z
  rw[uM c,uM b]at e;have e:=Zv e
  by_cases a:q+1<=L.en
  ·refine jk (W.goes g _ o q a (λx U=>hn x^List.mem_append.mpr^.inl U)) λl k m=>?_
   by_cases O:q+1<=J.en
   refine jk (W.goes Y _ V q O Z) λf d h=>(rwe (uM a) ?_);refine rwe (uM O)^rwe l ?_;exact rwe f^rwe e rfl
   ·have n:q=J.en:=()
    rcases W.ends V with z|z
    lia;rw[←n,←e,k]at z;exact eS z
  ·have n:q=L.en:=()
   by_cases O:q+1<=J.en
   ·refine jk (W.goes Y _ V q O Z) λf d h=>?_;rcases W.ends o with z|z
    lia;rw[←n,e,d]at z;exact eS z
   exact rwe (uN ())^rwe (uN ()) rfl
 ·have b:¬q<=J.en:=λz=>by rw[uN (),uM z]at e;exact iy e
  exact rwe (uN ())^rwe (uN ()) rfl
def Pth.UO{i:Nat}{l:θ Nat}(p:Pth t i l):0∈l:=by
 induction p with
 |zero=>simp|step _ _ _ J=>exact Zz _ J
def Wf.fi0(W:Wf t):fiN t 0=0:=by refine uxE (fK^List.length_pos_iff.mpr W.l0) λd J=>?_;exact rwe (qo J)^((W.each 0 d J).zero rfl).1
theorem Wf.Ab(W:Wf t){i j:Nat}{U O:Nd}(a:t.ds[i]?=aa U)(Y:t.ds[j]?=aa O){li lj:θ Nat}(L:Pth t i li)(V:Pth t j lj):∀q,(∀x∈li++lj,fiN t x<=q->fo U^fiN t x=fo O^fiN t x)->fo U q=fo O q
 |0,h=>by have:=h 0 (List.mem_append.mpr^.inl L.UO) (by rw[W.fi0];exact Zw _);rw[W.fi0]at this;exact this
 |q+1,h=>by
  by_cases c:∃x∈li++lj,fiN t x=q+1
  ·let(x,J,e):=c;have:=h x J ();rw[e]at this;exact this
  exact W.Lq a Y L V (W.Ab a Y L V q λx J Z=>h x J ()) λx J e=>c #[x,J,e]
inductive vW(di dj:Nd):ψ Nat->Prop
 |no(h:∀m,fo di m=fo dj m):vW di dj af
 |at_(p:Nat)(h:fo di p≠fo dj p)(b:∀m,m<p->fo di m=fo dj m):vW di dj^aa p
def Wf.first(W:Wf t){i j:Nat}{L J:Nd}(q:t.ds[i]?=aa L)(d:t.ds[j]?=aa J)(Y:Pth t i li)(V:Pth t j lj){O:θ Nat}(b:∀m,m∈O↔m∈(li++lj).map^fiN t)(a:O.Pairwise (· < ·)):vW L J^O.find?^dfr L J:=by
 have Z:∀m,dfr _ _ m=ah↔fo L m≠fo J m:=λm=>by
  cases c:dfr _ _ m with
  |false=>simp[(qq L J m).mp c]
  |true =>
   simp![true_iff];intro z;rw[(qq L J m).mpr z]at c;exact eS c
 cases o:O.find?^dfr _ _ with
 |none =>
  refine .no λm=>W.Ab q d Y V m λx U _=>?_;have:=List.find?_eq_none.mp o _^(b _).mpr^List.mem_map.mpr^cY x U rfl;rw[Z]at this;exact Classical.byContradiction this
 |some p =>
  have f:=List.find?_some o;refine .at_ p ((Z p).mp f) λm g=>W.Ab q d Y V m λx U k=>?_;have n:=(b _).mpr^List.mem_map.mpr^cY x U rfl;refine nN (List.find?_eq_some_iff_append.mp o) λ_ l r e h=>?_;rw[e]at n a;rcases List.mem_append.mp n with z|z
  exact(qq _ _ _).mp (by simpa using (h _ z))
  ·rcases List.mem_cons.mp z with z|z
   lia
   ·have:=(List.pairwise_cons.mp (List.pairwise_append.mp a).2.1).1 _ z;lia
end
def Lr:S:=(.rai2 "NoMoment" (.v 1)^.v 2)
def sX:E:=(.aE (.v 4) "has"^cS^.v 5)
def gC:Fn:=#[["self","run","moment"],["self","run","moment","holder","branch","number"], (.seq (.ex^.aE (.v 0) "check_run"^cS^.v 1)^.seq (.set 3^.aE (.v 0) "holder"^cR (.v 1)^.v 2)^.seq (.set 4^.obi (.i (.v 0) "branches")^.v 3)^.seq (.set 5^.bin .sub (.v 2)^.aE (.v 0) "first"^cS^.v 3)^.seq (.v (.not sX) Lr .nil) .bad)]
section
variable{T TX:FK->ψ Fn}{G:ay->ψ W}{Pt:Pts}{h:HH}{n:Nat}{t:Tr}{ro rb:Nat}{bs:θ Bx}
def Ac{c:ay}{s0:St}(P:TpP c T G)(k:Nat){n r:Nat}{t:Tp}{h:HH}(a:TAt c h n r t)(m:Nat)(J:t.most<m):
 runN T G (k+9) (.m c "has") [.o n,.p^ω m] h=aa (.p^.bl ai,h):=by
 refine rwe (run_eq P.has rfl) ?_;have w:=iF P (k+7) m;simp[ja,w,(by lia:¬(m<0)),a.ob,(by lia:t.most<m),cZ]
def lQ(P:TrP T G)(W:Wf t)(A:g8 Pt h n t ro rb bs)(k m:Nat){i:Nat}{d:Nd}(J:t.ds[i]?=aa d)(L:d.fi<=m):
 runN T G (k+2) (.m "Tree" "holder") [.o n,.p^ω i,.p^ω m] h=aa (.p^ω i,h):=by
 have q:=vP P W A k (m:=m) J;rw[bO ()] at q;refine rwe (run_eq P.holder rfl) ?_;simp[gB,turns,(by
  rw[fT,q,kG,rR]:fT (aK (φ (k+1)) G hdC) (evS (φ (k+1)) G hdB) (99999+1) [aa^.o n,aa^.p^ω i,aa^.p^ω m] h=aa^.nx [aa^.o n,aa^.p^ω i,aa^.p^ω m] h),cZ]
def HC(P:TrP T G)(W:Wf t)(A:g8 Pt h n t ro rb bs)(k:Nat){i m:Nat}{d:Nd}(J:t.ds[i]?=aa d)(Z:d.en<m):
 ∃(b:Bx) (I:HH),bs[i]?=aa b/\fy Pt I n t ro rb ∧
  aK (φ (k+11)) G sX [aa^.o n,aa^.p^ω i,aa^.p^ω m,aa^.p^ω i,aa^.o b.1,aa^.p^ω ((m-d.fi:Nat):Int)] h=aa (.p^.bl ai,I) ∧
  ∀ x:S,evS (φ (k+11)) G (.seq (.ex^.aE (.v 0) "check_run"^.cons (.v 1) .nil)
   (.seq (.set 3^.aE (.v 0) "holder"^.cons (.v 1)^.cons (.v 2) .nil)
    (.seq (.set 4^.obi (.i (.v 0) "branches")^.v 3)
     (.seq (.set 5^.bin .sub (.v 2)^.aE (.v 0) "first"^.cons (.v 3) .nil) x)))) [aa^.o n,aa^.p^ω i,aa^.p^ω m,af,af,af] h=evS (φ (k+11)) G x [aa^.o n,aa^.p^ω i,aa^.p^ω m,aa^.p^ω i,aa^.o b.1,aa^.p^ω ((m - d.fi:Nat):Int)] h:=by
 have Y:=dB J;have w:d.fi<=m:=by unfold Nd.en at Z;lia
 have e1:=lQ P W A (k+9) m J w;have B:=fP P W A (k+9) Y;let(b,L):=fK (l:=bs) (by rw[A.len];exact Y);let(U,q,M,E):=A.tp i b d L J;have y:=iR P W A (k+10) J;have s:d.e<m-d.fi:=by unfold Nd.en at Z;lia
 have V:∃I,φ (k+11) (.m "Branch" "has") [.o b.1,.p^ω ((m-d.fi:Nat):Int)] h=aa (.p^.bl ai,I)/\fy Pt I n t ro rb:=by
  by_cases c:m-d.fi<=b.2.2.most
  ·let(I,H,F,O,u,C,r,_):=vN P.tp (k+2) U q (m-d.fi) c;rw[bO ()]at O;exact#[I,O,_,A.step L J u C r]
  exact#[h,Ac (s0:=d.s0) P.tp (k+2) U (m-d.fi) (),_,A]
 let(I,O,D):=V;have z:(m:Int)-(d.fi:Int)=((m-d.fi:Nat):Int):=()
 have K:=vQ A L;refine#[b,I,L,D,?_,λx=>?_];simp[sX,U.ob,Hi,O]
 ·have j:evS (φ (k+11)) G (.ex^.aE (.v 0) "check_run"^.cons (.v 1) .nil) [aa^.o n,aa^.p^ω i,aa^.p^ω m,af,af,af] h=aa^.nx [aa^.o n,aa^.p^ω i,aa^.p^ω m,af,af,af] h:=by simp[A.ob,B]
  have g:aK (φ (k+11)) G (.aE (.v 0) "holder"^.cons (.v 1)^.cons (.v 2) .nil) [aa^.o n,aa^.p^ω i,aa^.p^ω m,af,af,af] h=aa (.p^ω i,h):=by simp[A.ob,e1]
  have f:aK (φ (k+11)) G (.obi (.i (.v 0) "branches")^.v 3) [aa^.o n,aa^.p^ω i,aa^.p^ω m,aa^.p^ω i,af,af] h=aa (.o b.1,h):=by simp[-atP,A.ob,A.br,K]
  have a:aK (φ (k+11)) G (.bin .sub (.v 2)^.aE (.v 0) "first"^.cons (.v 3) .nil) [aa^.o n,aa^.p^ω i,aa^.p^ω m,aa^.p^ω i,aa^.o b.1,af] h=aa (.p^ω ((m-d.fi:Nat):Int),h):=by simp[A.ob,y,rd,z]
  exact(nJ j).trans^(fu g).trans^(fu f).trans^fu a
def Ls(P:TrP T G)(W:Wf t)(A:g8 Pt h n t ro rb bs)(k:Nat){i m:Nat}{d:Nd}(L:t.ds[i]?=aa d)(J:d.en<m):
 runN T G (k+12) (.m "Tree" "at") [.o n,.p^ω i,.p^ω m] h=af:=by
 refine mV (HC P W A k L J) λb U O V e1 e2=>(rwe (run_eq P.at_ rfl) ?_);refine(bS (λx=>jE x _)^e2^.seq (.v (.not sX) .bad .nil)^.ret^.aE (.v 4) "at"^.cons (.v 5) .nil).trans ?_;simp[e1]
def vX{F:FK->θ W->HH->ψ (W×HH)}{R:XF}{D:ay->Bool}{a b:S}{s c:Sl}{h g:HH}(e:evS F G a s h=aa^.nx c g):rsS F R D G (.seq a b) s h=rsS F R D G b c g:=by exact rwe xs2^rwe e rfl
def Ad{F:FK->θ W->HH->ψ (W×HH)}{R:XF}{D:ay->Bool}{e:E}{b:S}{i:Nat}{s:Sl}{h g:HH}{w:W}(e1:aK F G e s h=aa (w,g)):rsS F R D G (.seq (.set i e) b) s h=rsS F R D G b (s.set i^aa w) g:=vX (by simp[e1])
def HD(P:TrP T G)(j:TX^.m "Tree" "at"=aa gC)(W:Wf t)(A:g8 Pt h n t ro rb bs)(k:Nat){i m:Nat}{d:Nd}(J:t.ds[i]?=aa d)(O:d.en<m)(C:m<=1000):
 ∃E,fJ T TX G (k+12) (.m "Tree" "at") [.o n,.p^ω i,.p^ω m] h=aa (ZC "NoMoment",E)/\fy Pt E n t ro rb:=by
 have g:=dB J;have I:=W.l1;have l:d.fi<=m:=by unfold Nd.en at O;lia
 have e1:=lQ P W A (k+9) m J l;have s:=fP P W A (k+9) g;refine mV (HC P W A k J O) λb E L x e2 _=>(oq (A.tp i b d L J) λB z H y=>?_);have q:=iR P W A (k+10) J;have r:(m:Int)-(d.fi:Int)=((m-d.fi:Nat):Int):=()
 have F:=vQ A L;refine(cY E (rwe (kj j rfl) ?_) x);have e:evS (φ (k+11)) G (.ex^.aE (.v 0) "check_run"^.cons (.v 1) .nil) [aa^.o n,aa^.p^ω i,aa^.p^ω m,af,af,af] h=aa^.nx [aa^.o n,aa^.p^ω i,aa^.p^ω m,af,af,af] h:=by simp[A.ob,s]
 have c:aK (φ (k+11)) G (.aE (.v 0) "holder"^.cons (.v 1)^.cons (.v 2) .nil) [aa^.o n,aa^.p^ω i,aa^.p^ω m,af,af,af] h=aa (.p^ω i,h):=by simp[A.ob,e1]
 have Z:aK (φ (k+11)) G (.obi (.i (.v 0) "branches")^.v 3) [aa^.o n,aa^.p^ω i,aa^.p^ω m,aa^.p^ω i,af,af] h=aa (.o b.1,h):=by simp[-atP,A.ob,A.br,F]
 have Y:aK (φ (k+11)) G (.bin .sub (.v 2)^.aE (.v 0) "first"^.cons (.v 3) .nil) [aa^.o n,aa^.p^ω i,aa^.p^ω m,aa^.p^ω i,aa^.o b.1,af] h=aa (.p^ω ((m-d.fi:Nat):Int),h):=by simp[A.ob,q,rd,r]
 have w:big (i:Int)=ah:=by exact bP ()
 have u:big (m:Int)=ah:=by exact bP ()
 have V:aK (φ (k+11)) G (.not sX) [aa^.o n,aa^.p^ω i,aa^.p^ω m,aa^.p^ω i,aa^.o b.1,aa^.p^ω^(m-d.fi:Nat)] h=aa (.p^.bl ah,E):=by simp[e2]
 have U:rsS (φ (k+11)) (fJ T TX G (k+11)) (dk T) G (.v (.not sX) Lr .nil) [aa^.o n,aa^.p^ω i,aa^.p^ω m,aa^.p^ω i,aa^.o b.1,aa^.p^ω^(m-d.fi:Nat)] h=aa (ZC "NoMoment",E):=by have f:∀a b,rsI (aa (aM.p^D.bl ah,E)) a b=a _:=λ_ _=>rfl;refine rwe xs3 ?_;refine rwe V ?_;rw[f];refine rwe xsR ?_;simp[w,u]
 refine rwe (vX e)^rwe (Ad c) ?_;refine rwe (Ad Z) ?_;refine rwe (Ad Y) ?_;refine rwe xs2 ?_;exact rwe ((by
  simp[e2,Lr]:evS (φ (k+11)) G (.v (.not sX) Lr .nil) [aa^.o n,aa^.p^ω i,aa^.p^ω m,aa^.p^ω i,aa^.o b.1,aa^.p^ω^(m - d.fi:Nat)] h=af)) U
def Ae(P:TrP T G)(q:TX^.m "Tree" "at"=aa gC)(a:Wf t)(k:Nat){F:FK->θ W->HH->ψ (W×HH)}(r:F^.m "Tree" "found"=BS.qC (φ (k+12)) (fJ T TX G (k+12)) (dk T) G dN "NoMoment"):Fnd Pt F n t ro rb (λm _=>m<=1000):=by
 intro i d m g O l ⟨bs,A⟩;rw[r]
 by_cases c:m<=d.en
 ·let(J,Z,b):=ny P a A k O c;let(U,Y,V):=jQ g (d.f m).enc J;refine#[U,?_,?_]
  ·have x:aK (φ (k+12)) G (.aE (.v 0) "at"^.cons (.v 1)^.cons (.v 2) .nil) [aa^.o n,aa^.p^ω i,aa^.p^ω m] g=aa (.p (d.f m).enc,J):=by simp[A.ob,Z]
   have L:evS (φ (k+12)) G dN.body (dM dN.ns.length [.o n,.p^ω i,.p^ω m]) g=aa^.rt (.p (d.f m).enc) J:=jN x;unfold BS.qC;rw[bK (show [W.o n,W.p^D.int (i:Int),W.p^D.int (m:Int)].length=dN.ps.length from rfl),L];unfold fnd;rw[bK c];exact Y
  ·rcases V with z|z
   rw[z];exact b;rw[z];exact#[_,A]
 ·have h:=Ls P a A k O (m:=m) ();let(J,Z,b):=HD P q a A k O (m:=m) () l;let(U,Y,V):=jQ g .aC J;refine#[U,?_,?_]
  ·have x:aK (φ (k+12)) G (.aE (.v 0) "at"^.cons (.v 1)^.cons (.v 2) .nil) [aa^.o n,aa^.p^ω i,aa^.p^ω m] g=af:=by simp[A.ob,h]
   have L:evS (φ (k+12)) G dN.body (dM dN.ns.length [.o n,.p^ω i,.p^ω m]) g=af:=by show evS (φ (k+12)) G (.ret _) [aa^.o n,aa^.p^ω i,aa^.p^ω m] g=af;generalize E.aE _ _ _=e at x;simp[x]
   have j:rsS (φ (k+12)) (fJ T TX G (k+12)) (dk T) G dN.body (dM dN.ns.length [.o n,.p^ω i,.p^ω m]) g=aa (ZC "NoMoment",J):=by show rsS _ _ _ G (.ret _) [aa^.o n,aa^.p^ω i,aa^.p^ω m] g=_;rw[xs5,xe1];simp[rsM,A.ob,Z]
   unfold BS.qC;rw[bK (show [W.o n,W.p^D.int (i:Int),W.p^D.int (m:Int)].length=dN.ps.length from rfl),L];show(match rsS _ _ _ G _ _ g with|some (c,s)=>if c=ZC "NoMoment" then fin g (.p .aC) s else af|none=>af)=_;rw[j];show(if(ZC "NoMoment")=ZC "NoMoment" then fin g (.p .aC) J else af)=_;rw[bK rfl,Y];unfold fnd;rw[bL c]
  ·rcases V with z|z
   rw[z];exact b;rw[z];exact#[_,A]
end
section
variable{T:FK->ψ Fn}{G:ay->ψ W}{Pt:Pts}{n:Nat}{ro rb:Nat}{t:Tr}
def iH{F:FK->θ W->HH->ψ (W×HH)}{o:Cm}{a b:E}{s:Sl}{h g:HH}{x y:D}{v:Bool}(e:aK F G a s h=aa (.p x,g))(d:aK F G b s g=aa (.p y,g2))(c:iO o x y=aa v):aK F G (.z o a b) s h=aa (.p^.bl v,g2):=by simp[e,d,c]
def MQ(m:Nat):upto 0 m=cU^ZG m:=by apply aa6;intro i _;rw[afc]
def HE{a x:Nat}(h:rs[a]?=aa x):d7 (.aj^cU rs)^ω (a:Int)=aa^ω (x:Int):=by rw[dS,iB,cU];refine rwe ZP ?_;refine rwe h ?_;rfl
def HF(rs:θ Nat):dok 100^.aj^cU rs=ah:=sL _ _
end
def MR(a b:Nat):eqv (ω (a:Int))^ω (b:Int)=decide (a=b):=by
 by_cases z:a=b
 subst z;rw[kU];simp;simp[z,(by lia:¬(a:Int)=b)]
def P5(x:Nat)(a:θ Nat):(cU a).any (λy=>eqv y^ω (x:Int))=decide (x∈a):=by
 refine rwe List.any_map ?_
 by_cases z:x∈a
 ·refine rwe (bP z) ?_;exact List.any_eq_true.mpr (cY x z^by simp)
 ·refine rwe (bO z) ?_;refine List.any_eq_false.mpr λy J=>?_;show ¬eqv _ _=ah;rw[MR];intro e;exact z (by exact rwf (bQ e) J)
def UP(x:Nat)(a:θ Nat):((cU a).all λy=>fO y^ω (x:Int))=ah:=List.all_eq_true.mpr λy _=>jD^qP _ _
def UQ(x:Nat)(a:θ Nat):iO .nmem (ω (x:Int))^.aj^cU a=aa (!decide (x∈a)):=by rw[qy,bK^UP x _,P5]
section
variable{T:FK->ψ Fn}{G:ay->ψ W}{Pt:Pts}{n:Nat}{ro rb:Nat}{t:Tr}
def HG{F:FK->θ W->HH->ψ (W×HH)}{a b:E}{s:Sl}{h g:HH}{v:Bool}(d:aK F G a s h=aa (.p^.bl ai,g))(c:aK F G b s g=aa (.p^.bl v,g2)):aK F G (.or a b) s h=aa (.p^.bl v,g2):=by simp[d,c]
def pP{F:FK->θ W->HH->ψ (W×HH)}{a b:E}{s:Sl}{h g:HH}{x y z:D}(e:aK F G a s h=aa (.p x,g))(d:aK F G b s g=aa (.p y,g2))(c:d7 x y=aa z):aK F G (.y a b) s h=aa (.p z,g2):=by simp[-dS,-iP,e,d,rd,c]
end
section
variable{t:Tr}
def Pth.gt(W:Wf t){i:Nat}{l:θ Nat}(a:Pth t i l):l.Pairwise (λx y=>y<x)/\∀x∈l,x<=i:=by
 induction a with
 |zero=>exact#[by simp,by simp]
 |step O U r J =>
  refine dU ((W.each _ _ O).par U) λq V Y _=>(#[List.pairwise_cons.mpr #[λx L=>by have:=J.2 x L;lia,J.1],λx L=>?_]);rcases List.mem_cons.mp L with z|z
  lia;have:=J.2 x z;lia
end
section
variable{G:ay->ψ W}{F:FK->θ W->HH->ψ (W×HH)}{s:Sl}{h g:HH}
def vr{i:Nat}{w:W}(a:s[i]?=aa^aa w):aK F G (.v i) s h=aa (w,h):=by simp[a]
end
structure Lu(T TX:FK->ψ Fn):Prop where
 lt:LwT T
 program:T "_law_program"=aa gy
 q:TrQ T
 s:TrS T
 x:TX^.m "Tree" "at"=aa gC
def fR(T TX:FK->ψ Fn)(G:ay->ψ W)(k:Nat):θ W->HH->ψ (W×HH):=BS.qC (φ (k+12)) (fJ T TX G (k+12)) (dk T) G dN "NoMoment"
def aR(T TX:FK->ψ Fn)(G:ay->ψ W)(k:Nat):θ W->HH->ψ (W×HH):=BS.lE (BS.i6 "Tree" "found" (fR T TX G k)^φ (k+13)) G gR
structure F63(T TX:FK->ψ Fn)(G:ay->ψ W)(k:Nat)(F:FK->θ W->HH->ψ (W×HH)):Prop where
 fn:∀x:ay,F^.f x=φ (k+14)^.f x
 me:∀m:ay,¬m="apart"->F^.m "Tree" m=φ (k+14)^.m "Tree" m
 ap:F^.m "Tree" "apart"=aR T TX G k
def P6(o:ψ Nat):dok 100^apD o=ah:=by cases o<;>rfl
def Pth.rev{t:Tr}{i:Nat}{l:θ Nat}(W:Wf t)(p:Pth t i l):∃r,l.reverse=0::r/\(∀x∈r,x∈l/\0<x)/\∀x∈l,x=0\/x∈r:=by
 have b:=p.last;have c:=(p.gt W).1;replace b:=List.head?_reverse ▸ b;cases e:l.reverse with
 |nil=>replace b:=e ▸ b;exact iy b
 |cons a r =>
  replace b:=e ▸ b;have:=by simpa using b
  subst this;have L:(0::r).Pairwise (· < ·):=by exact rwf e^List.pairwise_reverse.mpr c
  refine(eH r rfl (λx J=>#[?_,(List.pairwise_cons.mp L).1 x J]) (λx J=>?_));simpa using (by exact rwe e^Zz _ J:x∈l.reverse)
  ·have:x∈l.reverse:=by simpa using J
   rw[e]at this;exact List.mem_cons.mp this
section
variable{T TX:FK->ψ Fn}{G:ay->ψ W}{Pt:Pts}{n:Nat}{ro rb:Nat}{t:Tr}{F:FK->θ W->HH->ψ (W×HH)}{s:Sl}{h g:HH}
def P7(k:Wf t)(c:Sl->HH->ψ (W×HH))(b:Sl->HH->ψ Fl)(m:θ Nat->Nat->Sl)(h:HH)(tst:∀a rs,c (m rs a) h=aa (.p^.bl (decide (a<rs.length)),h))
(i:∀(a x:Nat)(rs:θ Nat),rs[a]?=aa x->x<t.ds.length->rs.length+(kids t x).length<=t.ds.length->b (m rs a) h=aa^.nx (m (rs++kids t x) (a+1)) h):∀(f a:Nat)(rs:θ Nat),Bf t a rs->t.ds.length-a<=f →
 ∃J:θ Nat,fT c b (f+1) (m rs a) h=aa^.nx (m J J.length) h/\Bf t J.length J:=by
 intro f
 induction f with
 |zero =>
  intro a rs B g;have q:=tst a rs;have d:=B.len;have le:=B.le;have L:a=rs.length:=()
  rw[bO ()]at q;refine#[rs,?_,by rw[←L];exact B];rw[fT,q,L];rfl
 |succ f e =>
  intro a rs B g;have q:=tst a rs;have d:=B.len;have le:=B.le
  by_cases U:a<rs.length
  ·let(x,O):=fK U;have Z:=B.lt x^ZJ O;have Y:=B.step k O;let(J,j,l):=e (a+1) (rs++kids t x) Y ();refine#[J,?_,l];rw[bP U]at q;have V:=Y.len;rw[ZX]at V;rw[fT,q,kG,pZ,i a x rs O Z V,gn,j]
  ·have L:a=rs.length:=()
   rw[bO U]at q;refine#[rs,?_,by rw[←L];exact B];rw[fT,q,L];rfl
def Pth.Lv(L:Wf t)(O:t.ds.length<=5){i:Nat}{l:θ Nat}{d:Nd}(p:Pth t i l)(J:t.ds[i]?=aa d):l.length<=5:=by have:=p.len L;have:=dB J;lia
def X5(P:TrP T G)(L:Lu T TX){k:Nat}(Y:F63 T TX G k F)(J:Wf t)(b:t.ds.length<=5)(A:fy Pt h n t ro rb){i j:Nat}{a Z:Nd}(D:t.ds[i]?=aa a)(U:t.ds[j]?=aa Z):
 ∃o,vW a Z o/\lR Pt (F (.m "Tree" "apart") [.o n,.p^ω i,.p^ω j] h) (.p^apD o) n t ro rb:=by
 let(y,O):=J.pth i i a (Zw _) D;let(w,V):=J.pth j j Z (Zw _) U;have C:=O.Lv J b D;have B:=V.Lv J b U;let(H,e):=id A;have u:BS.i6 "Tree" "found" (fR T TX G k) (φ (k+13))^.m "Tree" "found"=fR T TX G k:=BS.qk;have c:∀ m:ay,¬ m="found"->BS.i6 "Tree" "found" (fR T TX G k) (φ (k+13))^.m "Tree" m=φ (k+13)^.m "Tree" m:=λm s=>BS.mJ λz=>s z.2;let(v,E,l,g):=Lp (G:=G) (F:=BS.i6 "Tree" "found" (fR T TX G k)^φ (k+13)) J A (λD O=>by rw[c _ ∅];exact uK P L.q.path J e (k+10) D O) (λW=>by rw[c _ ∅];exact iR P J e (k+12) W) (Ae P L.x J k u) D U O V () (λx r=>by
  have f:x<t.ds.length:=by
   rcases List.mem_append.mp r with z|z
   exact O.mem J (dB D) x z;exact V.mem J (dB U) x z
  let(d,W):=fK f;have:=(J.each x d W).le;have:=J.m1;rw[qo W];exact #[(),()])
 refine#[_,J.first D U O V E l,?_];rw[Y.ap];exact g
def X6(P:TrP T G)(L:Lu T TX){k:Nat}(Y:F63 T TX G k F)(Z:Wf t)(A:fy Pt h n t ro rb){i j:Nat}{O J:Nd}(a:t.ds[i]?=aa O)(W:t.ds[j]?=aa J)(V:Pth t i li)(U:Pth t j lj):
 lR Pt (F (.m "Tree" "shared") [.o n,.p^ω i,.p^ω j] h) (.p^ω^shN t (li.reverse++lj.reverse) O.en J.en) n t ro rb:=by
 exact rwe (Y.me _ ∅)^Aa P L.q L.s Z A _ a W V U
def HJ(d:Nd):biD .len [iS d]=aa^ω ((d.en+1:Nat):Int):=by unfold iS;rw[CK,ZA,nA]
end
def crC:E:=(.or (.not^.call "is_whole"^cS^.v 1)^.or (.z .lt (.v 1)^.j^ω 0)^.z .ge (.v 1)^.obn^.i (.v 0) "branches")
def jx:Fn:=#[["self","run"],["self","run"],(.v crC (.rai "NoRun"^.v 1) .nil)]
def crX:S:=.ex^.aE (.v 0) "check_run"^cS^.v 1
def fxc(a:Fn):Fn:=#[a.ps,a.ns,.seq crX .bad]
def X7:E:=(.aE (.v 0) "at"^cR (.v 1)^.v 2)
def jy:Fn:=#[["self","run","moment","thing","worth"],["self","run","moment","thing","worth","state"], (.seq (.set 5 X7)^.seq (.ex^.call "check_thing"^cS^.v 3) .bad)]
def ctC:E:=(.and (.not^.call "is_name"^cS^.v 0)^.not^.call "is_cell"^cS^.v 0)
def iI:Fn:=#[["thing"],["thing"],(.v ctC (.rai "NoThing"^.v 0) .nil)]
structure TrX(TX:FK->ψ Fn):Prop where
 cr:TX^.m "Tree" "check_run"=aa jx
 at_:TX^.m "Tree" "at"=aa gC
 end_:TX^.m "Tree" "end"=aa^fxc fU
 parent:TX^.m "Tree" "parent"=aa^fxc fk
 path:TX^.m "Tree" "path"=aa^fxc fB
 children:TX^.m "Tree" "children"=aa^fxc fc
 part:TX^.m "Tree" "part"=aa jy
 thing:TX "check_thing"=aa iI
structure Ny(T TX:FK->ψ Fn)(G:ay->ψ W)(k:Nat)(f:FK)(ws:θ W)(h:HH)(c:ay)(g:HH):Prop where
 no:φ k f ws h=af
 rs:fJ T TX G k f ws h=aa (c,g)
section
variable{T TX:FK->ψ Fn}{G:ay->ψ W}{Pt:Pts}{h:HH}{n:Nat}{t:Tr}{ro rb:Nat}{bs:θ Bx}
def P8{z:Int}(b:-1000<=z)(a:z<=1000):big z=ah:=by exact bP ()
def UR(P:TrP T G)(X:TrX TX)(W:Wf t)(A:g8 Pt h n t ro rb bs)(k:Nat){z:Int}(f:-1000<=z)(e:z<=1000)(d:z<0\/(t.ds.length:Int)<=z):Ny T TX G (k+2) (.m "Tree" "check_run") [.o n,.p^ω z] h "NoRun" h:=by
 have g:=W.l1;have l:=A.len;have w:=iF P.tp k z h;have c:aK (φ (k+1)) G crC [aa^.o n,aa^.p^ω z] h=aa (.p^.bl ah,h):=by
  have O:bs.length<=100000:=()
  rcases d with q|q
  simp[crC,w,q]
  ·by_cases J:z<0
   simp[crC,w,J];simp[crC,w,J,A.ob,A.br,O,(by lia:bs.length<=z)]
 constructor
 ·refine rwe (run_eq P.check_run rfl) ?_;refine rwe (HA c) ?_;rfl
 ·refine rwe (kj X.cr rfl) ?_;show rsS _ _ _ G (.v _ (.rai _ _) _) [aa _,aa^.p _] h=_;have L:∀a b,rsI (aa (aM.p^D.bl ah,h)) a b=a h:=λ_ _=>rfl;refine rwe xs3 ?_;rw[c,L];refine rwe xs1 ?_;simp[(P8 f e)]
def MS{F:FK->θ W->HH->ψ (W×HH)}{R:XF}{D:ay->Bool}{a b:S}{s:Sl}{h:HH}{r:ay×HH}(e:evS F G a s h=af)(e2:rsS F R D G a s h=aa r):rsS F R D G (.seq a b) s h=aa r:=by refine rwe xs2 ?_;exact rwe e e2
def B4{F:FK->θ W->HH->ψ (W×HH)}{e:E}{s:Sl}{h:HH}(z:aK F G e s h=af):evS F G (.ex e) s h=af:=by simp[z]
def uO{F:FK->θ W->HH->ψ (W×HH)}{m:ay}{s:Sl}{b:Es}{a:θ W}(O:s[0]?=aa^aa^.o n)(c:oat h n=aa (ZC "Tree",tfs t ro rb))(J:d9 m^tfs t ro rb=af)(L:evs F G b s h=aa (a,h)):aK F G (.aE (.v 0) m b) s h=F (.m "Tree" m) (.o n::a) h:=by simp[O,c,J,L]
def uP{F:FK->θ W->HH->ψ (W×HH)}{R:XF}{D:ay->Bool}{m:ay}{s:Sl}{b:Es}{a:θ W}(O:s[0]?=aa^aa^.o n)(c:oat h n=aa (ZC "Tree",tfs t ro rb))(J:d9 m^tfs t ro rb=af)(L:evs F G b s h=aa (a,h)):rsE F R D G (.aE (.v 0) m b) s h=R (.m "Tree" m) (.o n::a) h:=by refine rwe xe1 ?_;simp[rsM,O,c,J,L]
def HK(P:TrP T G)(X:TrX TX)(W:Wf t)(A:g8 Pt h n t ro rb bs)(k:Nat){z:Int}(e:-1000<=z)(d:z<=1000)(c:z<0\/(t.ds.length:Int)<=z)(b:S)(s:Sl)(a:s[0]?=aa^aa^.o n)(O:s[1]?=aa^aa^.p^ω z):
 evS (φ (k+2)) G (.seq crX b) s h=af/\rsS (φ (k+2)) (fJ T TX G (k+2)) (dk T) G (.seq crX b) s h=aa (ZC "NoRun",h):=by
 let(V,U):=UR (G:=G) P X W A k e d c;have L:evs (φ (k+2)) G (.cons (.v 1) .nil) s h=aa ([.p^ω z],h):=by simp[O]
 have e1:aK (φ (k+2)) G (.aE (.v 0) "check_run"^.cons (.v 1) .nil) s h=af:=(uO a A.ob (pM t ro rb) L).trans V;have e2:rsE (φ (k+2)) (fJ T TX G (k+2)) (dk T) G (.aE (.v 0) "check_run"^.cons (.v 1) .nil) s h=aa (ZC "NoRun",h):=(uP a A.ob (pM t ro rb) L).trans U;have J:evS (φ (k+2)) G crX s h=af:=B4 e1;constructor
 ·show kN (evS _ G crX s h) _=af;rw[J];rfl
 exact MS J (by unfold crX;rw[xs4];exact e2)
def X8(P:TrP T G)(X:TrX TX)(W:Wf t)(A:g8 Pt h n t ro rb bs)(k:Nat){z:Int}(e:-1000<=z)(d:z<=1000)(c:z<0\/(t.ds.length:Int)<=z){m:ay}{a J:Fn}{b V:S}(O:T^.m "Tree" m=aa a)(L:TX^.m "Tree" m=aa J)(U:a.body=.seq crX b)(i:J.body=.seq crX V){ws:θ aM}(g:(aM.o n::.p^ω z::ws).length=a.ps.length)(f:(aM.o n::.p^ω z::ws).length=J.ps.length):
 Ny T TX G (k+3) (.m "Tree" m) (.o n::.p^ω z::ws) h "NoRun" h:=by
 constructor;refine rwe (run_eq O g) ?_;refine rwe U^rwe ((HK P X W A k e d c b (dM _ (.o n::.p _::ws)) rfl rfl).1) ?_;rfl;refine rwe (kj L f) ?_;exact rwe i^(HK P X W A k e d c _ (dM _ (.o n::.p _::ws)) rfl rfl).2
end
def twA:E:=(.aE (.v 0) "path"^cS^.v 1)
def twB:E:=(.aE (.v 0) "path"^cS^.v 2)
def twP:E:=(.aj ai^cR twA twB)
def iJ:Fn:=#[["self","one","other"],["self","one","other","runs","moments"],.set 3 twP]
def iW:Fn:=#[["self","one","other"],["self","one","other","partings","moment"],.set 3 twP]
def wiS:S:=(.v (.call "is_name"^cS^.v 1) (.ret^.y (.y (.v 0)^.aD "NAMES")^.me .tindex (.aD "LETTERS")^cS^.v 1) .nil)
def wiC:E:=(.call "check_thing"^cS^.v 1)
def kE:Fn:=#[["state","thing"],["state","thing"],.seq wiS^.seq (.ex wiC) .bad]
structure DS(TX:FK->ψ Fn):Prop where
 x:TrX TX
 shared:TX^.m "Tree" "shared"=aa iJ
 apart:TX^.m "Tree" "apart"=aa iW
 ends:TX^.m "Tree" "ends_with"=aa eV
 worth:TX "worth_in"=aa kE
section
variable{T TX:FK->ψ Fn}{G:ay->ψ W}{Pt:Pts}{h:HH}{n:Nat}{t:Tr}{ro rb:Nat}{bs:θ Bx}{F:FK->θ W->HH->ψ (W×HH)}{R:XF}{D0:ay->Bool}{s:Sl}
def yr(P:TrP T G)(X:TrX TX)(k:Nat)(h:HH):φ (k+2) "is_name" [.p^.str "x"] h=aa (.p^.bl ai,h)/\Ny T TX G (k+3) "check_thing" [.p^.str "x"] h "NoThing" h:=by
 have d:φ (k+2) "is_name" [.p^.str "x"] h=aa (.p^.bl ai,h):=by refine rwe (run_eq P.tp.prg.is_name rfl) ?_;simp[iQ,P.tp.prg.LETTERS,cZ]
 have c:aK (φ (k+2)) G ctC [aa^.p^.str "x"] h=aa (.p^.bl ah,h):=by
  simp[ctC,d,(by
   refine rwe (run_eq P.th.is_cell rfl) ?_;simp[jP,(by
    refine rwe (run_eq P.tp.is_whole rfl) ?_;simp[i9,cZ]:φ (k+1) "is_whole" [.p^.str "x"] h=aa (.p^.bl ai,h)),cZ]:φ (k+2) "is_cell" [.p^.str "x"] h=aa (.p^.bl ai,h))]
 refine#[d,?_,?_]
 ·refine rwe (run_eq P.th.check rfl) ?_;refine rwe (HA c) ?_;rfl
 ·refine rwe (kj X.thing rfl) ?_;show rsS _ _ _ G (.v _ (.rai _ _) _) [aa^.p^.str _] h=_;have J:∀a b,rsI (aa (aM.p^D.bl ah,h)) a b=a h:=λ_ _=>rfl;refine rwe xs3 ?_;rw[c,J];refine rwe xs1 ?_;simp[(by decide +kernel:(reprText "x").length<=50000)]
def HL(P:TrP T G)(X:DS TX)(k:Nat)(d:D)(h:HH):Ny T TX G (k+4) "worth_in" [.p d,.p^.str "x"] h "NoThing" h:=by
 let(_,O,L):=yr P X.x k h;refine uxA (yr P X.x (k+1) h) λa _=>?_;have J:aK (φ (k+3)) G (.call "is_name"^.cons (.v 1) .nil) [aa^.p d,aa^.p^.str "x"] h=aa (.p^.bl ai,h):=by simp[a]
 have e1:evS (φ (k+3)) G (.ex wiC) [aa^.p d,aa^.p^.str _] h=af:=B4 (by
  exact O)
 constructor
 ·refine rwe (run_eq P.tp.prg.worth_in rfl) ?_;refine rwe (nJ^qD J) ?_;show jE (kN (evS (φ _) G (.ex _) [aa _,aa^.p^.str _] h) _) _=af;refine rwe e1 ?_;rfl
 ·refine rwe (kj X.worth rfl) ?_;exact rwe (vX^qD J)^MS (s:=[aa _,aa^.p^.str _]) e1 (by exact (by
   exact L))
structure Two(F:FK->θ W->HH->ψ (W×HH))(R:XF)(n:Nat)(a b:D)(h:HH):Prop where
 ex:(F (.m "Tree" "path") [.o n,.p a] h=af/\R (.m "Tree" "path") [.o n,.p a] h=aa (ZC "NoRun",h)) ∨
  ((∃l,F (.m "Tree" "path") [.o n,.p a] h=aa (.p^.aj l,h))/\F (.m "Tree" "path") [.o n,.p b] h=af/\R (.m "Tree" "path") [.o n,.p b] h=aa (ZC "NoRun",h))
def Af{a b:D}(Y:Two F R n a b h)(c:s[0]?=aa^aa^.o n)(Z:s[1]?=aa^aa^.p a)(g:s[2]?=aa^aa^.p b)(d:oat h n=aa (ZC "Tree",tfs t ro rb)):
 aK F G (.bin .add twA twB) s h=af/\rsE F R D0 G twP s h=aa (ZC "NoRun",h):=by
 have W:evs F G (.cons (.v 1) .nil) s h=aa ([.p a],h):=by simp[Z]
 have bs:evs F G (.cons (.v 2) .nil) s h=aa ([.p b],h):=by simp[g]
 have J:aK F G twA s h=_:=uO c d (nv t ro _) W;have V:aK F G twB s h=_:=uO c d (nv t _ _) bs;have e:rsE F R D0 G twA s h=_:=uP c d (nv t _ _) W;have L:rsE F R D0 G twB s h=_:=uP c d (nv t _ _) bs;refine rwe xe9^rwe xa1 ?_;rcases Y.ex with⟨U,O⟩|⟨⟨l,f⟩,U,O⟩
 ·rw[U]at J;rw[O]at e;refine rwe J ?_;exact rwe e #[by show bnd (aK F G _ s h) _=af;refine rwe J ?_;rfl,rfl]
 ·rw[f]at J;rw[U]at V;rw[O]at L;refine rwe J #[by show bnd (aK F G _ s h) _=af;refine rwe J ?_;show bnd (aK F G _ s h) _=af;refine rwe V ?_;rfl,?_];show rsA (aK F G _ s h) _ _=_;refine rwe V^rwe L ?_;rfl
def P9(P:TrP T G)(Q:TrQ T)(X:TrX TX)(J:Wf t)(A:g8 Pt h n t ro rb bs)(k:Nat){z:Int}(c:-1000<=z)(b:z<=1000)(a:z<0\/(t.ds.length:Int)<=z){i:Nat}{d:Nd}(L:t.ds[i]?=aa d):
 Two (φ (k+3)) (fJ T TX G (k+3)) n (ω z) (ω i) h/\Two (φ (k+3)) (fJ T TX G (k+3)) n (ω i) (ω z) h:=by
 refine uxE (J.pth i i d (Zw _) L) λl O=>?_;have q:=X8 P X J A k c b a Q.path X.path rfl rfl (ws:=[]) rfl rfl;exact#[#[.inl #[q.no,q.rs]],#[.inr #[#[_,pN P Q J A k (dB L) O],q.no,q.rs]]]
def uQ(Q:TrS T)(X:DS TX)(A:g8 Pt h n t ro rb bs)(k:Nat){a b:D}(Y:Two (φ k) (fJ T TX G k) n a b h):Ny T TX G (k+1) (.m "Tree" "shared") [.o n,.p a,.p b] h "NoRun" h:=by
 let(e1,e2):=Af (s:=[aa _,aa _,aa _,af,af]) Y rfl rfl rfl A.ob;constructor
 ·refine rwe (run_eq Q.shared rfl) ?_;show jE (kN (evS _ G (.set 3^.bin _ twA twB) [aa _,aa _,aa _,af,af] h) _) _=af;refine rwe ((by
   show bnd _ _=af;refine rwe e1 ?_;rfl:evS (φ k) G (.set 3^.bin .add twA twB) [aa^.o n,aa^.p a,aa^.p b,af,af] h=af)) ?_;rfl
 exact rwe (kj X.shared rfl) e2
def yt{k:Nat}(X:DS TX)(A:g8 Pt h n t ro rb bs){a b:D}(Y:Two (φ k) (fJ T TX G k) n a b h)(J:F^.m "Tree" "path"=φ k^.m "Tree" "path"):
 BS.lE F G gR [.o n,.p a,.p b] h=af/\fJ T TX G (k+1) (.m "Tree" "apart") [.o n,.p a,.p b] h=aa (ZC "NoRun",h):=by
 let(e1,_):=Af (F:=F) (R:=fJ T _ G k) (D0:=dk T) (s:=[aa _,aa _,aa _,af,af]) #[by exact rwe J Y.ex] rfl rfl rfl A.ob;let(_,e2):=Af (s:=[aa _,aa _,aa _,af,af]) Y rfl rfl rfl A.ob;constructor
 ·show jE (kN (bnd (aK F G _ [aa _,aa _,aa _,af,af] h) _) _) _=af;refine rwe (by
   show bnd (evs F G (.cons (.bin _ twA twB) _) _ h) _=af;refine rwe ((by
    show bnd (aK F G (.bin _ _ _) _ h) _=af;refine rwe e1 ?_;rfl:evs F G (.cons (.bin .add twA twB) .nil) [aa^.o n,aa^.p a,aa^.p b,af,af] h=af)) ?_;rfl:aK F G apM [aa^.o n,aa^.p a,aa^.p b,af,af] h=af) ?_;rfl
 exact rwe (kj X.apart rfl) e2
def X9(P:TrP T G)(X:DS TX)(U:Wf t)(A:fy Pt h n t ro rb)(k:Nat)(v:Int){i:Nat}{d:Nd}(J:t.ds[i]?=aa d):∃ g,(aK (φ (k+12)) G ewC [aa^.p^ω (i:Int),aa^.o n,aa^.p^.str "x",aa^.p^ω v] h=af ∧
 rsE (φ (k+12)) (fJ T TX G (k+12)) (dk T) G ewC [aa^.p^ω (i:Int),aa^.o n,aa^.p^.str "x",aa^.p^ω v] h=aa (ZC "NoThing",g))/\fy Pt g n t ro rb:=by
 let(bs,V):=id A;let(j,a,(b,e)):=jR P U V (k+2) J;let(L,Z,c):=ny P U e k J^Zw _;let(Y,W):=HL P X _ (d.f _).enc _;have O:evs (φ (k+12)) G (.cons (.aE (.v 1) "at"^.cons (.v 0)^.cons (.aE (.v 1) "end"^.cons (.v 0) .nil) .nil)^.cons (.v 2) .nil) [aa^.p^ω i,aa^.o n,aa^.p^.str "x",aa^.p^ω v] h=aa ([.p (d.f d.en).enc,.p^.str "x"],L):=by simp[V.ob,a,Z]
 refine(cY L #[?_,?_] c)
 ·show bnd (bnd (evs (φ _) G _ _ h) _) _=af;refine rwe O ?_;show bnd (φ _ _ _ _) _=af;refine rwe (Y) ?_;rfl
 refine rwe xe7^rwe xe4 ?_;exact rwe O W
def Lx(P:TrP T G)(Q:TrE T)(X:DS TX)(J:Wf t)(A:fy Pt h n t ro rb)(k:Nat)(v:Int):∃g,Ny T TX G (k+13) (.m "Tree" "ends_with") [.o n,.p^.str "x",.p^ω v] h "NoThing" g/\fy Pt g n t ro rb:=by
 let(bs,L):=id A;have u:=J.l1;have e:=L.len;have Z:0<t.ds.length:=List.length_pos_iff.mpr J.l0;refine uxE (fK (l:=t.ds) Z) λd b=>(cX (X9 P X J A k v b) ?_);rintro g2 ⟨c,j⟩ r;have V:gh .rng1 [ω (bs.length:Int)]=aa^upto 0 t.ds.length:=by
  rw[fY];refine rwe (bK (by
   simp![Zp,bN];lia)) ?_;congr 2
 obtain⟨q,f⟩:∃q,t.ds.length=q+1:=#[t.ds.length-1,()];have U:(rds [W.p^D.int (bs.length:Int)] h).bind^gh .rng1=aa (ω ((0:Nat):Int)::upto ((0+1:Nat):Int) q):=by rw[show rds [W.p^D.int _] h=aa [D.int _] from rfl,Z0];refine rwe V ?_;exact rwe f^bS _^BW 0 q
 have O:evs (φ (k+12)) G (.cons (.obn^.i (.v 0) "branches") .nil) [aa^.o n,aa^.p^.str "x",aa^.p^ω v] h=aa ([.p^ω bs.length],h):=by simp[L.ob,L.br,(by lia:bs.length<=100000)]
 refine(cY g2 #[?_,?_] r)
 ·refine rwe (run_eq Q.ends rfl) ?_;show jE (bnd (aK (φ _) G _ [aa _,aa^.p^.str _,aa^.p _] h) _) _=af;refine rwe ((by
   show bnd (evs (φ _) G _ _ h)^oR _ _ 1 _ _ _=af;refine rwe O ?_;rw[gM];unfold oR;refine rwe U ?_;show bnd _ _=af;rw[show fE (fH (evs (φ _) G^.cons _ _) (aK (φ _) G _) [aa _,aa^.p^.str _,aa^.p _]) 1 (D.int _::upto _ q) h=af from ?_];rfl
   ·show bnd (bnd (bnd (aK (φ _) G _ [aa^.p^ω _,aa _,aa^.p^.str _,aa^.p _] h) _) _) _=af;refine rwe c ?_;rfl:aK (φ (k+12)) G ewM [aa^.o n,aa^.p^.str "x",aa^.p^ω v] h=af)) ?_;rfl
 ·refine rwe (kj X.ends rfl) ?_;show rsE _ _ _ G _ [aa _,aa^.p^.str _,aa^.p _] h=_;refine rwe xeG^rwe O ?_;have Y:∀(a:θ _->HH->ψ _),rsC (aa ([aM.p^D.int bs.length],h)) _ af=a [aM.p^D.int _] h:=λ_=>rfl;rw[Y];unfold sA;refine rwe U ?_;show(match aK (φ _) G _ [aa^.p^ω _,aa _,aa^.p^.str _,aa^.p _] h with|none=>rsE (φ _) (fJ T _ G _) _ G _ [aa^.p^.int _,aa _,aa^.p^.str _,aa^.p _] h|some _=>af)=_;exact rwe c j
end
def fm:Fn:=#[["_law_e"],["_law_e","_law_flags"], (.seq (.set 1^.aj ai^cQ (.isx "NoMoment"^.v 0) (.isx "NoRun"^.v 0)^.isx "NoThing"^.v 0)^.seq (.set 1^.bin .add (.v 1)^.aj ai^cS^.isx "NoText"^.v 0)^.seq (.v (.or (.z .ne (.me .count (.v 1)^cS^.j^.bl ah)^.j^ω 1)^.not^.isx "ValueError"^.v 0) (.ret^.aB^cR (.j^.str "refused")^.neg^.j^ω 1) .nil)^.ret^.aB^cR (.j^.str "refused")^.me .lindex (.v 1)^cS^.j^.bl ah)]
def tW(i:Int):D:=.aB [.str "refused",ω i]
def nB(h:HH):BS.sC fm [.x "NoRun"] h=aa (.p^tW 1,h):=by unfold BS.sC BS.lE;simp[fm,pY,w6,cZ,yT,yU,tW]
def DT(h:HH):BS.sC fm [.x "NoThing"] h=aa (.p^tW 2,h):=by unfold BS.sC BS.lE;simp[fm,pY,w6,cZ,yT,yU,tW]
def w60(i:Int):E:=(.z .eq (.v 1)^.j^ω i)
section
variable{T TX:FK->ψ Fn}{G:ay->ψ W}{Pt:Pts}{n:Nat}{ro rb:Nat}{t:Tr}{F:FK->θ W->HH->ψ (W×HH)}{R:XF}{D0:ay->Bool}{s:Sl}{h g:HH}
def Qa{c e:E}{b:S}(a:aK F G c s h=aa (.p^.bl ah,h)):evS F G (.seq (.v c (.ret e) .nil) b) s h=evS F G (.ret e) s h:=by
 cases z:aK F G e s h with
 |none=>simp[a,z]|some q=>let(w,g):=q;simp[a,z]
def Qc{c e:E}{b:S}(d:aK F G c s h=aa (.p^.bl ah,h))(z:aK F G e s h=af):rsS F R D0 G (.seq (.v c (.ret e) .nil) b) s h=rsE F R D0 G e s h:=by have J:∀a b,rsI (aa (aM.p^D.bl ah,h)) a b=a h:=λ_ _=>rfl;refine rwe xs2^rwe ((by simp[d,z]:evS F G (.v c (.ret e) .nil) s h=af)) ?_;show rsS F R _ G (.v c _ _) s h=_;refine rwe xs3 ?_;refine rwe d ?_;rw[J,xs5]
def MT{c e:E}{b:S}(a:aK F G c s h=aa (.p^.bl ai,h)):rsS F R D0 G (.seq (.v c (.ret e) .nil) b) s h=rsS F R D0 G b s h:=vX^qD a
def c60{w:Nat}(J:s[1]?=aa^aa^.p^ω (w:Int))(i:Nat):aK F G (w60 (i:Int)) s h=aa (.p^.bl (decide (w=i)),h):=by refine iH (vr J) rfl ?_;rw[AF,bK^jD^qP _ _,MR]
def Ly{w:Nat}(J:s[1]?=aa^aa^.p^ω (w:Int)):aK F G (w60 (w:Int)) s h=aa (.p^.bl ah,h):=by
 have:=c60 (F:=F) (G:=G) (h:=h) J w
 rwa [bP rfl]at this
def DU{w i:Nat}(J:s[1]?=aa^aa^.p^ω (w:Int))(a:¬w=i):aK F G (w60 (i:Int)) s h=aa (.p^.bl ai,h):=by exact(bO a) ▸ (c60 (F:=F) (G:=G) (h:=h) J i)
end
def Lz:E:=(.z .lt (.v 6)^.bi .len ai^cS^.v 5)
def LD:S:=(.seq (.set 5^.bin .add (.v 5)^.aE (.v 4) "children"^cS^.y (.v 5)^.v 6)^.set 6^.bin .add (.v 6)^.j^ω 1)
def Qd:E:=(.y (.v 5)^.call "_law_drawn"^cQ (.v 0) (.j^ω 700)^.bi .len ai^cS^.v 5)
def Qe:E:=(.y (.v 5)^.call "_law_drawn"^cQ (.v 0) (.j^ω 701)^.bi .len ai^cS^.v 5)
def LF:E:=(.z .nmem (.v 0)^.aE (.v 1) "path"^cS^.v 2)
def US:E:=(.comp ai .seq (cS^.aE (.v 4) "path"^cS^.v 7) ["_law_run"] [(4,"_law_tree_here"),(8,"_law_other")] (cS LF)^.v 0)
def Qf:E:=(.bin .add (.v 11)^.comp ai .seq (cS^.aE (.v 4) "path"^cS^.v 8) ["_law_run"] [(4,"_law_tree_here"),(7,"_law_one")] (cS LF)^.v 0)
def Qg:E:=(.y (.aE (.v 1) "parent"^cS^.v 0)^.j^ω 1)
def Qh:E:=(.comp ai .seq (cS^.v 11) ["_law_run"] [(4,"_law_tree_here")] .nil Qg)
def Qi:E:=(.bi .min1 ai^cS^.bin .add (.aj ai^cR (.bi .len ai^cS^.v 9)^.bi .len ai^cS^.v 10) Qh)
def UT:E:=(.or (.z .ne (.call "_law_told"^cP (.v 4) (.j^ω 0) (.v 7)^.v 8)^.v 12)^.z .ne (.call "_law_told"^cP (.v 4) (.j^ω 0) (.v 8)^.v 7)^.v 12)
def Qj:E:=(.bi .max2 ai^cR (.bi .len ai^cS^.v 9)^.bi .len ai^cS^.v 10)
def UU:E:=(.z .ne (.y (.bin .add (.v 1)^.bin .mul (.aj ai^cS^.j .aC)^.v 3)^.v 0)^.y (.bin .add (.v 2)^.bin .mul (.aj ai^cS^.j .aC)^.v 3)^.v 0)
def UV:E:=(.comp ai .rng1 (cS^.v 13) ["_law_k"] [(9,"_law_mine"),(10,"_law_yours"),(13,"_law_size")] (cS UU)^.v 0)
def UW:E:=(.z .ne (.call "_law_told"^cP (.v 4) (.j^ω 1) (.v 7)^.v 8)^.y (.bin .add (.v 14)^.aj ai^cS^.j .aC)^.j^ω 0)
def Qk:E:=(.y (.aj ai^cP (.j^ω 0) (.j^ω 1) (.j^ω 7)^.call "_law_of"^cR (.y (.v 9)^.neg^.j^ω 1)^.v 15)^.call "_law_drawn"^cQ (.v 0) (.j^ω 703)^.j^ω 4)
def LG:E:=(.z .eq (.call "_law_of"^cR (.aE (.v 1) "at"^cR (.v 0)^.aE (.v 1) "end"^cS^.v 0)^.v 2)^.v 3)
def UX:E:=(.comp ai .seq (cS^.bi .sorted ai^cS^.v 5) ["_law_run"] [(4,"_law_tree_here"),(15,"_law_thing_here"),(16,"_law_worth")] (cS LG)^.v 0)
def UY:E:=(.or (.z .ne (.call "_law_told"^cP (.v 4) (.j^ω 2) (.v 15)^.v 16)^.v 17)^.z .ne (.call "_law_told"^cP (.v 4) (.j^ω 2) (.j^.str "x")^.v 16)^.aB^cR (.j^.str "refused")^.j^ω 2)
def Ql:E:=(.or (.z .ne (.call "_law_told"^cP (.v 4) (.v 19) (.v 18)^.v 7)^.aB^cR (.j^.str "refused")^.j^ω 1)^.z .ne (.call "_law_told"^cP (.v 4) (.v 19) (.v 7)^.v 18)^.aB^cR (.j^.str "refused")^.j^ω 1)
def sY:S:=(.for [(19,"_law_way")] .rng1 (cS^.j^ω 2)^.v Ql (.ret^.j^.bl ai) .nil)
def UZ:E:=(.z .eq (.bi .sorted ai^cS^.v 5)^.lsr ai .rng1^cS^.bi .len ai^cS^.v 5)
def jU:Fn:=#[["_law_script"],["_law_script","_law_program_here","_law_asked_here","_law_most","_law_tree_here","_law_runs","_law_at","_law_one","_law_other","_law_mine","_law_yours","_law_alone","_law_due","_law_size","_law_apart","_law_thing_here","_law_worth","_law_ends","_law_bad","_law_way"], (.seq (.set 1^.call "_law_program"^cR (.v 0)^.j^ω 20)^.seq (.set 2^.call "_law_asked"^cR (.v 0)^.j^ω 450)^.seq (.set 3^.call "_law_drawn"^cQ (.v 0) (.j^ω 440)^.j^ω 17)^.seq (.set 4^.call "_law_tree"^cO (.v 0) (.j^ω 600) (.v 1) (.v 2)^.v 3)^.seq (.set 5^.aj ai^cS^.j^ω 0)^.seq (.set 6^.j^ω 0)^.seq (.j Lz LD)^.seq (.set 7 Qd)^.seq (.set 8 Qe)^.seq (.set 9^.call "_law_all"^cR (.v 4)^.v 7)^.seq (.set 10^.call "_law_all"^cR (.v 4)^.v 8)^.seq (.set 11 US)^.seq (.set 11 Qf)^.seq (.set 12 Qi)^.seq (.v UT (.ret^.j^.bl ai) .nil)^.seq (.set 13 Qj)^.seq (.set 14 UV)^.seq (.v UW (.ret^.j^.bl ai) .nil)^.seq (.set 15^.call "_law_thing"^cR (.v 0)^.j^ω 702)^.seq (.set 16 Qk)^.seq (.set 17 UX)^.seq (.v UY (.ret^.j^.bl ai) .nil)^.seq (.for [(18,"_law_bad")] .seq (cS^.aB^cR (.neg^.j^ω 1)^.bi .len ai^cS^.v 5) sY)^.ret UZ)]
def e62:Nat->E
 |0=>(.aE (.v 0) "shared"^.cons (.v 2)^.cons (.v 3) .nil)|1=>(.aE (.v 0) "apart"^.cons (.v 2)^.cons (.v 3) .nil)|_=>(.aE (.v 0) "ends_with"^.cons (.v 2)^.cons (.v 3) .nil)
def n62:Nat->ay
 |0=>"shared" |1=>"apart" |_=>"ends_with"
def fj:Fn:=#[["_law_tree_here","_law_way","_law_one","_law_other"],["_law_tree_here","_law_way","_law_one","_law_other","_law_e"], (.seq (.v (w60 0) (.ret^e62 0) .nil)^.ret^.ite (w60 1) (e62 1)^e62 2)]
def tF(T TX:FK->ψ Fn)(G:ay->ψ W)(k:Nat):FK->θ W->HH->ψ (W×HH):=BS.i6 "Tree" "apart" (aR T TX G k)^φ (k+14)
def mP(T TX:FK->ψ Fn)(G:ay->ψ W)(k:Nat):θ W->HH->ψ (W×HH):=BS.sD (tF T TX G k) (fJ T TX G (k+14)) (dk T) G fj fm
structure lT(T TX:FK->ψ Fn):Prop where
 w3:Lu T TX
 thing:T "_law_thing"=aa gF
 of:T "_law_of"=aa nu
 e:TrE T
 x:DS TX
structure F62(T TX:FK->ψ Fn)(G:ay->ψ W)(k:Nat)(F:FK->θ W->HH->ψ (W×HH)):Prop where
 me:∀c m,F^.m c m=φ (k+15)^.m c m
 fn:∀y:ay,¬y="_law_told"->F^.f y=φ (k+15)^.f y
 told:F^.f "_law_told"=mP T TX G k
section
variable{T TX:FK->ψ Fn}{G:ay->ψ W}{Pt:Pts}{n:Nat}{ro rb:Nat}{t:Tr}{F:FK->θ W->HH->ψ (W×HH)}{R:XF}{D0:ay->Bool}{s:Sl}{h g:HH}
def lt3{w:Nat}(h:w<3):w=0\/w=1\/w=2:=()
def B5{w:Nat}(hw:w<3)(J:s[1]?=aa^aa^.p^ω (w:Int)):evS F G fj.body s h=evS F G (.ret^e62 w) s h:=by
 rcases lt3 hw with rfl|rfl|rfl
 exact Qa^Ly J
 ·refine(GX (DU (i:=0) J ∅)).trans ?_;have:=Ly (F:=F) (G:=G) (h:=h) J;show bnd (aK F G (.ite (w60^(1:Nat)) _ _) s h) _=bnd (aK F G _ s h) _;congr 1;show bnd (aK F G (w60 _) s h) _=_;refine rwe this ?_;rfl
 ·refine(GX (DU (i:=0) J ∅)).trans ?_;have:=DU (F:=F) (G:=G) (h:=h) (i:=1) J ∅;show bnd (aK F G (.ite (w60^(1:Nat)) _ _) s h) _=bnd (aK F G _ s h) _;congr 1;show bnd (aK F G (w60 _) s h) _=_;refine rwe this ?_;rfl
def LH{w:Nat}(hw:w<3)(J:s[1]?=aa^aa^.p^ω (w:Int))(z:aK F G (e62 w) s h=af):rsS F R D0 G fj.body s h=rsE F R D0 G (e62 w) s h:=by
 have L:∀a b,rsI (aa (aM.p^D.bl ah,h)) a b=a h:=λ_ _=>rfl;have O:∀a b,rsI (aa (aM.p^D.bl ai,h)) a b=b h:=λ_ _=>rfl;rcases lt3 hw with rfl|rfl|rfl
 exact Qc (Ly J) z
 ·refine(MT (DU (i:=0) J ∅)).trans ?_;rw[xs5,xe8,show aK F G (w60 1) s h=_ from Ly J,L]
 ·refine(MT (DU (i:=0) J ∅)).trans ?_;rw[xs5,xe8,show aK F G (w60 1) s h=_ from DU J ∅,O]
def U0{w:Nat}(hw:w<3)(a:oat h n=aa (ZC "Tree",tfs t ro rb))(r m:D):aK F G (e62 w) [aa^.o n,aa^.p^ω (w:Int),aa^.p r,aa^.p m,af] h=F (.m "Tree"^n62 w) [.o n,.p r,.p m] h:=by
 rcases lt3 hw with rfl|rfl|rfl
 exact uO rfl a (uL t _ _) rfl;exact uO rfl a (yq t _ _) rfl;exact uO rfl a (BU t _ _) rfl
def Yb{w:Nat}(hw:w<3)(a:oat h n=aa (ZC "Tree",tfs t ro rb))(r m:D):rsE F R D0 G (e62 w) [aa^.o n,aa^.p^ω (w:Int),aa^.p r,aa^.p m,af] h=R (.m "Tree"^n62 w) [.o n,.p r,.p m] h:=by
 rcases lt3 hw with rfl|rfl|rfl
 exact uP rfl a (uL t _ _) rfl;exact uP rfl a (yq t _ _) rfl;exact uP rfl a (BU t _ _) rfl
def sZ{w:Nat}(hw:w<3)(a:oat h n=aa (ZC "Tree",tfs t ro rb)){r m d:D}{k:Nat}(b:tF T TX G k (.m "Tree"^n62 w) [.o n,.p r,.p m] h=aa (.p d,g)):∃g2,mP T TX G k [.o n,.p^ω (w:Int),.p r,.p m] h=aa (.p d,g2)/\(g2=g\/g2=h):=by refine cX (jQ h d g) λg2 L J=>((cY g2 ?_ J));unfold mP BS.sD;refine rwe (bK^rfl) ?_;refine rwe (((B5 hw rfl).trans^jN^(U0 (F:=tF T _ G k) (G:=G) hw a r m).trans b:evS (tF T _ G k) G _ (dM fj.ns.length [.o n,.p^ω _,.p r,.p m]) h=aa^.rt _ g)) ?_;rw[jn,L]
def mQ{w:Nat}(hw:w<3)(a:oat h n=aa (ZC "Tree",tfs t ro rb)){r m:D}{k:Nat}{c:ay}(U:tF T TX G k (.m "Tree"^n62 w) [.o n,.p r,.p m] h=af)(O:fJ T TX G (k+14) (.m "Tree"^n62 w) [.o n,.p r,.p m] h=aa (c,g))(J:BS.nI c=ah){y:aM×HH}(L:BS.sC fm [.x c] g=aa y):mP T TX G k [.o n,.p^ω (w:Int),.p r,.p m] h=aa y:=by
 have e1:=(U0 (F:=tF T _ G k) (G:=G) hw a r m).trans U;have V:rsS (tF T _ G k) (fJ T _ G _) (dk T) G _ (dM fj.ns.length [.o n,.p^ω _,.p r,.p m]) h=aa _:=(LH hw rfl e1).trans^(Yb hw a r m).trans O;unfold mP BS.sD;refine rwe (bK^rfl) ?_;rw[(by
  refine (B5 hw rfl).trans ?_;show bnd (aK _ G _ _ h) _=af;refine rwe e1 ?_;rfl:evS (tF T TX G k) G fj.body (dM fj.ns.length [.o n,.p^ω w,.p r,.p m]) h=af),CZ]
 refine rwe V ?_;show(if BS.nI c then BS.sC _ _ g else af)=aa y;exact rwe (bK J)^rwe L rfl
def U1{k:Nat}{m:ay}(J:¬m="apart"):tF T TX G k^.m "Tree" m=φ (k+14)^.m "Tree" m:=BS.mJ λz=>J z.2
def U3{k:Nat}:tF T TX G k^.m "Tree" "apart"=aR T TX G k:=BS.qk
def MU(k:Nat):F63 T TX G k^tF T TX G k:=#[λx=>rfl,λm J=>U1 J,U3]
def lR.pick{y:ψ (aM×HH)}{d:D}(A:fy Pt h n t ro rb)(J:fy Pt g n t ro rb)(f:g2=g\/g2=h):fy Pt g2 n t ro rb:=by
 rcases f with rfl|rfl
 exact J;exact A
def B6(P:TrP T G)(L:lT T TX){k:Nat}(Y:F62 T TX G k F)(e:Wf t)(A:fy Pt h n t ro rb){i j:Nat}{O J:Nd}(m:t.ds[i]?=aa O)(W:t.ds[j]?=aa J)(V:Pth t i li)(U:Pth t j lj):
 lR Pt (F "_law_told" [.o n,.p^ω ((0:Nat):Int),.p^ω i,.p^ω j] h) (.p^ω^shN t (li.reverse++lj.reverse) O.en J.en) n t ro rb:=by
 let(g,b,f):=X6 P L.w3 (MU k) e A m W V U;let(_,l):=id A;let(Z,c,a):=sZ (w:=0) ∅ l.ob b;rw[Y.told];exact#[Z,c,lR.pick (y:=af) (d:=.aC) A f a]
def LJ(P:TrP T G)(L:lT T TX){k:Nat}(Y:F62 T TX G k F)(c:Wf t)(U:t.ds.length<=5)(A:fy Pt h n t ro rb){i j:Nat}{O J:Nd}(l:t.ds[i]?=aa O)(V:t.ds[j]?=aa J):
 ∃o,vW O J o/\lR Pt (F "_law_told" [.o n,.p^ω ((1:Nat):Int),.p^ω i,.p^ω j] h) (.p^apD o) n t ro rb:=by
 let(o,fo,g,b,e):=X5 P L.w3 (MU k) c U A l V;let(_,f):=id A;refine cX (sZ (w:=1) ∅ f.ob b) λW a Z=>?_;exact rwe Y.told #[o,fo,W,a,lR.pick (y:=af) (d:=.aC) A e Z]
def LK(P:TrP T G)(L:lT T TX){k:Nat}(Y:F62 T TX G k F)(V:Wf t)(A:fy Pt h n t ro rb)(th:Th)(v:Int):
 lR Pt (F "_law_told" [.o n,.p^ω ((2:Nat):Int),.p th.enc,.p^ω v] h) (.p^.aj^cU^nK t th v) n t ro rb:=by
 let(g,b,W):=tV P L.e V A _ _ v;let(_,Z):=id A;let(J,U,O):=sZ (w:=2) ∅ Z.ob (by exact b);exact rwe Y.told #[J,U,lR.pick (y:=af) (d:=.aC) A W O]
def HM(P:TrP T G)(L:lT T TX){k:Nat}(Y:F62 T TX G k F)(J:Wf t)(A:fy Pt h n t ro rb)(v:Int):
 lR Pt (F "_law_told" [.o n,.p^ω ((2:Nat):Int),.p^.str "x",.p^ω v] h) (.p^tW 2) n t ro rb:=by
 let(g,q,O):=Lx P L.e L.x J A _ v;let(_,U):=id A;exact rwe Y.told #[g,mQ ∅ U.ob (by exact q.no) q.rs rfl^DT g,O]
def HN(P:TrP T G)(L:lT T TX){k:Nat}(Y:F62 T TX G k F)(e:Wf t)(A:fy Pt h n t ro rb){z:Int}(l:-1000<=z)(j:z<=1000)(f:z<0\/(t.ds.length:Int)<=z){i:Nat}{d:Nd}(a:t.ds[i]?=aa d){w:Nat}(hw:w<2):
 F "_law_told" [.o n,.p^ω (w:Int),.p^ω z,.p^ω i] h=aa (.p^tW 1,h)/\F "_law_told" [.o n,.p^ω (w:Int),.p^ω i,.p^ω z] h=aa (.p^tW 1,h):=by
 let(_,J):=id A;let(W,V):=P9 P L.w3.q L.x.x e J (k+10) l j f a;have Z:BS.i6 "Tree" "found" (fR T TX G k) (φ (k+13))^.m "Tree" "path"=φ _^.m _ _:=BS.mJ λz=>by exact bM z.2 ∅
 refine rwe Y.told ?_;rcases (by lia:w=0\/w=1)with rfl|rfl
 ·have U:=uQ L.w3.s L.x J _ W;have O:=uQ L.w3.s L.x J _ V;exact#[mQ ∅ J.ob (by exact U.no) U.rs rfl^nB h,mQ ∅ J.ob (by exact O.no) O.rs rfl^nB h]
 ·let(U,O):=yt L.x J W Z;exact uxA (yt L.x J V Z) λc b=>#[mQ ∅ J.ob (by exact U) O rfl^nB h,mQ ∅ J.ob (by exact c) b rfl^nB h]
end
theorem yu:∀(l:θ Nat)(x:Nat),l.foldl min x<=x/\∀y∈l,l.foldl min x<=y
 |[],x=>#[Zw _,λy J=>by simp at J]
 |a::l,x=>by
  refine rwe aa2 ?_;refine uxA (yu l^min x a) λO L=>#[(),λy J=>?_];rcases List.mem_cons.mp J with z|z
  lia;exact L y z
theorem HP:∀(l:θ Nat)(x m:Nat),m<=x->(∀y∈l,m<=y)->m<=l.foldl min x
 |[],x,m,h,_=>h
 |a::l,x,m,h,b=>by exact HP l _ m (by have:=b a (ZF ..);lia) λy J=>b y^Zz _ J
def LM(x:Nat)(a b:θ Nat):(a++b).foldl min x=(b++a).foldl min x:=by apply Nat.le_antisymm;exact HP _ _ _ (yu _ _).1 λy J=>(yu _ _).2 y^List.mem_append.mpr (List.mem_append.mp J).symm;exact HP _ _ _ (yu _ _).1 λy J=>(yu _ _).2 y^List.mem_append.mpr (List.mem_append.mp J).symm
def U4{a:θ Nat}(J:a.Nodup){x:Nat}(L:x∈a):a.count x=1:=by have U:=List.nodup_iff_count.mp J x;have O:=List.count_pos_iff.mpr L;lia
def gD(a b:θ Nat):θ Nat:=a.filter λx=>!decide (x∈b)
def HQ(t:Tr){a b:θ Nat}(O:a.Nodup)(L:b.Nodup):alone t (a++b)=(gD a b++gD b a).map^fiN t:=by
 unfold alone gD;rw[List.filter_append];congr 2
 ·refine List.filter_congr λx J=>?_;refine rwe List.count_append^rwe (U4 O J) ?_
  by_cases c:x∈b
  ·have:=List.count_pos_iff.mpr c;refine rwe (bO ())^rwe (bP c) ?_;rfl
  refine rwe (ad3 c)^rwe (bO c) ?_;rfl
 ·refine List.filter_congr λx J=>?_;refine rwe List.count_append^rwe (U4 L J) ?_
  by_cases c:x∈a
  ·have:=List.count_pos_iff.mpr c;refine rwe (bO ())^rwe (bP c) ?_;rfl
  refine rwe (ad3 c)^rwe (bO c) ?_;rfl
def LN(t:Tr){a b:θ Nat}(L:a.Nodup)(J:b.Nodup)(x y:Nat):shN t (b++a) y x=shN t (a++b) x y:=by unfold shN;refine rwe (HQ t J L) ?_;refine rwe (HQ t L J) ?_;rw[abh,abh,LM,Nat.min_comm]
def Pth.ndr{t:Tr}(W:Wf t){i:Nat}{l:θ Nat}(p:Pth t i l):l.reverse.Nodup:=List.pairwise_reverse.mpr ((p.gt W).1.imp λh=>())
theorem uR:∀l:θ Nat,intsOf^cU l=aa (l.map λ(x:Nat)=>(x:Int))
 |[]=>rfl
 |a::r=>by have e:cU (a::r)=ω _::cU r:=rfl;refine rwe e ?_;rw[intsOf];refine rwe (uR r) ?_;rfl
def Yc(a b:Nat)(l:θ Nat):biD .min1 [.aj (ω ((a+1:Nat):Int)::ω ((b+1:Nat):Int)::cU l)]=aa^ω ((l.foldl min^min (a+1) (b+1):Nat):Int):=by
 rw[wZ,(by
  rw[intsOf,intsOf,uR];rfl:intsOf (ω^(a+1:Nat)::ω^(b+1:Nat)::cU l)=aa (((a+1:Nat):Int)::((b+1:Nat))::l.map λ(x:Nat)=>x)),Z0]
 show(aa^adb _ _ (((b+1):Int)::_)).map _=_;refine rwe aa2 ?_;refine rwe (show min ((a+1:Nat):Int) _=((min (a+1) (b+1):Nat)) by lia) ?_;rw[jT];rfl
def U5(f:θ D->HH->ψ (ψ D×HH))(p:Nat->Bool)(h:HH)(l:θ Nat)(O:∀i∈l,f [ω (i:Int)] h=aa (if p i then aa^ω (i:Int) else af,h)):fE f 1 (cU l) h=aa (cU^l.filter p,h):=by refine cX (vU f (λi=>D.int _) p (λi=>D.int _) (λg=>g=h) l (λx J g L=>(cY h (by subst L;exact O x J) rfl)) h rfl) λU e z=>?_;replace e:=z ▸ e;exact e
def vW.lt{L J:Nd}{p:Nat}(f:vW L J^aa p):p<max (L.en+1) (J.en+1):=by
 cases f with
 |at_ _ h _ =>
  by_cases c:p<max (L.en+1) (J.en+1)
  exact c
  ·exfalso;apply h;unfold fo;rw[bL (),bL ()]
def Yd{L J:Nd}{o:ψ Nat}(f:vW L J o):((cU^(ZG^max (L.en+1) (J.en+1)).filter^dfr L J++[.aC]:θ D))[0]?=aa^apD o:=by
 have O:((ZG^max (L.en+1) (J.en+1)).filter^dfr L J).head?=o:=by
  refine rwe List.head?_filter ?_;cases f with
  |no h =>
   rw[List.find?_eq_none];intro x _;refine rwe ((qq _ _ x).mpr^h x) ?_
   decide
  |at_ p h b =>
   rw[List.find?_range_eq_some];refine(f6 ?_ (List.mem_range.mpr^vW.lt^.at_ p h b) (λj U=>?_))
   ·cases c:dfr _ _ p with
    |true=>rfl|false=>exact bM ((qq _ _ p).mp c) h
   refine rwe ((qq _ _ j).mpr^b j U) ?_;rfl
 cases e:(ZG^max _ _).filter^dfr _ _ with
 |_=>rw[e]at O;subst O;rfl
def Qm(d:Nd){m q:Nat}(b:m<q)(a:d.en+1<=q):((qK d).map St.enc++ZN q D.aC)[m]?=aa^fnd d m:=by
 unfold fnd
 by_cases c:m<=d.en
 ·refine rwe (bK c)^rwe (Zs^by rw[ZA,nA];lia) ?_;refine rwe ZP ?_;refine rwe (P0 d c) ?_;rfl
 refine rwe (bL c) ?_;rw[aab^by rw[ZA,nA];lia,ZA,nA,aaK,bK ()]
def LP(q:Nat):rep q [D.aC]=ZN q D.aC:=by
 unfold rep
 induction q with
 |zero=>rfl|succ q J=>refine rwe abB^rwe adK ?_;refine rwe J^rwe abB ?_;rfl
section
variable{T TX:FK->ψ Fn}{G:ay->ψ W}{Pt:Pts}{n:Nat}{ro rb:Nat}{t:Tr}{F:FK->θ W->HH->ψ (W×HH)}{s:Sl}{h g:HH}
structure S62(s:Sl)(ns:θ Int)(n i j:Nat)(di dj:Nd)(rs:θ Nat):Prop where
 h0:s[0]?=aa^aa^.p^.aj^cW ns
 h4:s[4]?=aa^aa^.o n
 h5:s[5]?=aa^aa^.p^.aj^cU rs
 h7:s[7]?=aa^aa^.p^ω i
 h8:s[8]?=aa^aa^.p^ω j
 h9:s[9]?=aa^aa^.p^iS di
 h10:s[10]?=aa^aa^.p^iS dj
def S62.set{a:θ Int}{i j:Nat}{L J:Nd}(S:S62 s a n i j L J rs)(q:Nat)(w:ψ W)(O:10<q):S62 (s.set q w) a n i j L J rs :=
 #[by refine rwe (ZD ()) ?_;exact S.h0,by refine rwe (ZD ()) ?_;exact S.h4,by refine rwe (ZD ()) ?_;exact S.h5,by refine rwe (ZD ()) ?_;exact S.h7,by refine rwe (ZD ()) ?_;exact S.h8,by refine rwe (ZD ()) ?_;exact S.h9,by refine rwe (ZD ()) ?_;exact S.h10]
def me4{q:Nat}(U:s[q]?=aa^aa^.o n)(b:oat h n=aa (ZC "Tree",tfs t ro rb)){m:ay}(J:d9 m^tfs t ro rb=af){a:E}{x y:W}(L:aK F G a s h=aa (x,h))(O:F (.m "Tree" m) [.o n,x] h=aa (y,g)):aK F G (.aE (.v q) m^.cons a .nil) s h=aa (y,g):=by simp[U,b,J,L,O]
def HR(P:TrP T G)(L:lT T TX){k:Nat}(Y:F62 T TX G k F)(U:Wf t)(A:fy Pt h n t ro rb){i:Nat}{O:Nd}(a:t.ds[i]?=aa O)(J:Pth t i li):F (.m "Tree" "path") [.o n,.p^ω i] h=aa (.p^.aj^cU li.reverse,h):=by let(_,V):=id A;rw[Y.me];exact pN P L.w3.q U V _ (dB a) J
def A62(P:TrP T G)(L:lT T TX){k:Nat}(Y:F62 T TX G k F)(U:Wf t)(A:fy Pt h n t ro rb){i j:Nat}{r q:Nd}(y:t.ds[i]?=aa r)(m:t.ds[j]?=aa q)(g:Pth t i li)(f:Pth t j lj)(u:li.length<=5){a b:Nat}{x1 x2:ay}(J:s[4]?=aa^aa^.o n)(d:s[a]?=aa^aa^.p^ω i)(Z:s[b]?=aa^aa^.p^ω j):
 aK F G (.comp ai .seq (.cons (.aE (.v 4) "path"^.cons (.v a) .nil) .nil) ["_law_run"] [(4,x1),(b,x2)] (.cons LF .nil)^.v 0) s h=aa (.p^.aj^cU^gD li.reverse lj.reverse,h):=by
 let(_,V):=id A;have l:=HR P L Y U A y g;refine ju (ws:=[.p^.aj^cU _]) (fs:=[aa _,aa^.p _]) ?_ rfl ?_ rfl (by
  refine U5 _ _ h _ λx w=>?_;have W:([D.int x].map eZ++[aa^.o n,aa^.p^ω j]:Sl)=[aa^.p^ω _,aa _,aa^.p _]:=rfl;have O:aK F G LF [aa^.p^ω _,aa _,aa^.p _] h=aa (.p^.bl (!decide _),h) :=
   iH (vr rfl) (me4 rfl V.ob (nv t _ _) (vr rfl)^HR P L Y U A m f)^UQ x _
  unfold fH;refine rwe W ?_;cases c:decide (x∈lj.reverse)with
  |_=>rw[c]at O;simp[-List.mem_reverse,evs,O]
  ) ?_
 ·have e:=me4 (G:=G) J V.ob (nv t _ _) (vr d) l;generalize E.aE _ _ _=e0 at e;simp[e]
 simp[J,Z]
 ·have:=aaj (λx=>!decide (x∈lj.reverse)) li.reverse;rw[adj]at this;unfold cU;rw[ZA];exact ZT this ()
def l62(P:TrP T G)(L:lT T TX){k:Nat}(Y:F62 T TX G k F)(e:Wf t)(A:fy Pt h n t ro rb){i:θ Nat}(a:∀r∈i,r<t.ds.length/\0<r)(g:i.length<=50)(W:s[4]?=aa^aa^.o n)(J:s[11]?=aa^aa^.p^.aj^cU i):
 aK F G Qh s h=aa (.p^.aj^cU^i.map^fiN t,h):=by
 let(_,U):=id A;have c:fE (fH (evs F G .nil) (aK F G Qg) [aa^.o n]) 1 (cU i) h=aa (cU^i.map^fiN t,h):=by
  refine rwe ((by
   unfold cU;refine rwe aaV^rwe aeX ?_;rfl:cU^i.map^fiN t=i.filterMap λr=>aa^D.int^fiN t r)) ?_
  refine zV _ (λr=>D.int _) _ h _ λr b=>?_;have Z:=a r b;refine uxE (fK Z.1) λd O=>?_;have f:F (.m "Tree" "parent") [.o n,.p^ω r] h=aa (.p^Hz r d,h):=by rw[Y.me];exact zZ P L.w3.q e U _ O
  unfold Hz at f;rw[bL ()]at f;have V:([D.int r].map eZ++[aa^.o n]:Sl)=[aa^.p^ω _,aa _]:=rfl;have j:d7 d.org^ω 1=aa^ω _:=rfl;unfold fH;refine rwe V^rwe (qo O) ?_;simp[-iP,evs,Qg,U.ob,f,rd,j]
 refine ju (ws:=[.p^.aj^cU _]) (fs:=[aa _]) ?_ rfl ?_ rfl c ?_;simp[J];simp[W];simp[cU];lia
def vY{q:Nat}{d:Nd}(J:s[q]?=aa^aa^.p^iS d):aK F G (.bi .len ai^.cons (.v q) .nil) s h=aa (.p^ω ((d.en+1:Nat):Int),h):=by simp[J,(HJ d)]
def u62(P:TrP T G)(L:lT T TX){k:Nat}(Y:F62 T TX G k F)(b:Wf t)(A:fy Pt h n t ro rb){c:θ Int}{i j:Nat}{O J:Nd}(S:S62 s c n i j O J rs){xs:θ Nat}(a:∀r∈xs,r<t.ds.length/\0<r)(Z:xs.length<=50)(U:s[11]?=aa^aa^.p^.aj^cU xs):
 aK F G Qi s h=aa (.p^ω (((xs.map^fiN t).foldl min^min (O.en+1) (J.en+1):Nat):Int),h):=by
 have e1:=l62 P L Y b A a Z S.h4 U;have e2:=vY (F:=F) (G:=G) (h:=h) S.h9;have W:=vY (F:=F) (G:=G) (h:=h) S.h10;have ad:jX .add (.aj [ω ((O.en+1:Nat):Int),ω ((J.en+1:Nat):Int)])^.aj^cU^xs.map^fiN t=aa^.aj (ω ((O.en+1:Nat):Int)::ω ((J.en+1:Nat):Int)::cU^xs.map^fiN t):=by rw[dP,bK^by show _<=100000;simp[cU];lia];rfl
 have V:=Yc O.en J.en^xs.map^fiN t;generalize ((O.en+1:Nat):Int)=u at e2 ad V;generalize ((J.en+1:Nat):Int)=v at W ad V;unfold Qi;generalize Qh=a1 at e1;generalize E.bi .len ai^.cons (.v 9) .nil=a2 at e2;generalize E.bi .len ai^.cons (.v 10) .nil=a3 at W;simp[-dP,e1,e2,W,rd,rds,ad,V]
def qL{a:E}{r:Es}{w:W}{b:θ W}(d:aK F G a s h=aa (w,h))(c:evs F G r s h=aa (b,h)):evs F G (.cons a r) s h=aa (w::b,h):=by simp[d,c]
theorem HS:evs F G .nil s h=aa ([],h):=rfl
def vZ{f:ay}{b:Es}{a:θ W}(c:evs F G b s h=aa (a,h)):aK F G (.call f b) s h=F (.f f) a h:=by simp[c]
def lM{w:D}{a b c:E}{x y z:D}(J:s[4]?=aa^aa^.o n)(d:aK F G c s h=aa (.p w,h))(U:aK F G a s h=aa (.p x,h))(O:aK F G b s h=aa (.p y,h))(L:F "_law_told" [.o n,.p w,.p x,.p y] h=aa (.p z,g)):aK F G (.call "_law_told"^.cons (.v 4)^.cons c^.cons a^.cons b .nil) s h=aa (.p z,g) :=
 (vZ^qL (vr J)^qL d^qL U^qL O HS).trans L
def a62(P:TrP T G)(L:lT T TX){k:Nat}(Y:F62 T TX G k F)(O:Wf t)(A:fy Pt h n t ro rb){o:θ Int}{i j:Nat}{Z W:Nd}(m:t.ds[i]?=aa Z)(a:t.ds[j]?=aa W)(V:Pth t i li)(U:Pth t j lj)(S:S62 s o n i j Z W rs)(J:s[12]?=aa^aa^.p^ω (shN t (li.reverse++lj.reverse) Z.en W.en:Nat)):
 ∃g,aK F G UT s h=aa (.p^.bl ai,g)/\fy Pt g n t ro rb:=by
 let(d,e,l):=B6 P L Y O A m a V U;let(c,b,f):=B6 P L Y O l a m U V;rw[LN t (V.ndr O)^U.ndr O]at b;exact#[c,HG (g:=d) (iH (lM S.h4 rfl (vr S.h7) (vr S.h8) e) (vr J)^ne_self^qP _ _)^iH (lM S.h4 rfl (vr S.h8) (vr S.h7) b) (vr J)^ne_self^qP _ _,f]
end
section
variable{T TX:FK->ψ Fn}{G:ay->ψ W}{Pt:Pts}{n:Nat}{ro rb:Nat}{t:Tr}{F:FK->θ W->HH->ψ (W×HH)}{s:Sl}{h g:HH}
def x62(d:Nd){a m q:Nat}(L:s[a]?=aa^aa^.p^iS d)(J:s[3]?=aa^aa^.p^ω q)(O:s[0]?=aa^aa^.p^ω m)(c:m<q)(b:d.en+1<=q)(V:q<=1000):
 aK F G (.y (.bin .add (.v a)^.bin .mul (.aj ai^.cons (.j .aC) .nil)^.v 3)^.v 0) s h=aa (.p^fnd d m,h):=by
 have U:jX .mul (.aj [.aC])^ω q=aa^.aj^ZN q D.aC:=by
  rw[nU,bK (by
   have:lim=100000:=rfl;simp![Zp,bN,abV];lia),aa5,LP]
 simp[-nU,-dP,-dS,L,J,O,rd,U,(by
  unfold iS;rw[dP,bK^by show _<=100000;rw[ZA,nA];refine rwe abi ?_;lia]:jX .add (iS d)^.aj^ZN q D.aC=aa^.aj ((qK d).map St.enc++ZN q D.aC)),(by
   rw[dS,iB,Qm d c b]:d7 (.aj ((qK d).map St.enc++ZN q D.aC))^ω m=aa^fnd d m)]
def Ye{a:θ Int}{i j:Nat}{L J:Nd}(S:S62 s a n i j L J rs):aK F G Qj s h=aa (.p^ω ((max (L.en+1) (J.en+1):Nat):Int),h):=by
 have e2:=vY (F:=F) (G:=G) (h:=h) S.h9;have U:=vY (F:=F) (G:=G) (h:=h) S.h10;have O:biD .max2 [ω^(L.en+1:Nat),ω^(J.en+1:Nat)]=aa^ω^(max (L.en+1) (J.en+1):Nat):=by rw[AG,(by split<;>lia:(if((J.en+1:Nat):Int)>((L.en+1:Nat))then((J.en+1:Nat):Int)else((L.en+1:Nat)))=((max (L.en+1) (J.en+1):Nat)))]
 generalize ((L.en+1:Nat))=u at e2 O;generalize ((J.en+1:Nat))=v at U O;unfold Qj;generalize E.bi _ _^.cons _ _=a2 at e2;generalize E.bi _ _^.cons (.v _) _=a3 at U;simp[-AG,e2,U,rd,rds,O]
def c62{e:θ Int}{i j:Nat}{L J:Nd}(S:S62 s e n i j L J rs)(d:L.en<=900)(b:J.en<=900)(O:s[13]?=aa^aa^.p^ω (max (L.en+1) (J.en+1):Nat)):
 aK F G UV s h=aa (.p^.aj^cU^(ZG^max (L.en+1) (J.en+1)).filter^dfr L J,h):=by
 generalize a:max (L.en+1) (J.en+1)=q at *;have Z:gh .rng1 [ω (q:Int)]=aa^cU^ZG q:=by
  rw[fY];refine rwe (bK (by
   simp![Zp,bN];lia)) ?_;rw[← MQ];congr 2
 refine ju (ws:=[.p^ω q]) (fs:=[aa^.p^iS _,aa^.p^iS _,aa^.p^ω _]) ?_ ?_ ?_ rfl (by
  refine U5 _ _ h _ λm U=>?_;have Y:([D.int (m:Int)].map eZ++[aa^.p^iS L,aa^.p^iS J,aa^.p^ω (q:Int)]:Sl)=[aa^.p^ω (m:Int),aa^.p^iS L,aa^.p^iS J,aa^.p^ω (q:Int)]:=rfl;have c:iO .ne (fnd L m)^fnd J m=aa^dfr L J m:=by rw[qQ];refine rwe (bK^jD^B0 J m) ?_;rfl
  have V:aK F G UU [aa^.p^ω _,aa^.p^iS _,aa^.p^iS _,aa^.p^ω _] h=aa (.p^.bl^dfr _ _ m,h) :=
   iH (x62 _ rfl rfl rfl (List.mem_range.mp U) () ()) (x62 _ rfl rfl rfl (List.mem_range.mp U) () ()) c
  unfold fH;refine rwe Y ?_;cases c:dfr _ _ m with
  |_=>rw[c]at V;simp[V]
  ) ?_
 simp[O];refine rwe (show rds [W.p^D.int _] h=aa [D.int _] from rfl) ?_;rw[Z0,Z];simp[S.h9,S.h10,O]
 ·have:=aaj (dfr L J)^ZG q;rw[aar]at this;unfold cU;rw[ZA];lia
def b62(P:TrP T G)(L:lT T TX){k:Nat}(Y:F62 T TX G k F)(c:Wf t)(Z:t.ds.length<=5)(A:fy Pt h n t ro rb){m:θ Int}{i j:Nat}{O J:Nd}(q:t.ds[i]?=aa O)(a:t.ds[j]?=aa J)(l:O.en<=900)(e:J.en<=900)(S:S62 s m n i j O J rs)(U:s[14]?=aa^aa^.p^.aj^cU^(ZG^max (O.en+1) (J.en+1)).filter^dfr O J):
 ∃g,aK F G UW s h=aa (.p^.bl ai,g)/\fy Pt g n t ro rb:=by
 let(o,f,g,b,d):=LJ P L Y c Z A q a;have V:=Yd f;have W:((ZG^max (O.en+1) (J.en+1)).filter^dfr O J).length<=1000:=by have:=aaj (dfr O J)^ZG^max (O.en+1) (J.en+1);rw[aar]at this;lia
 generalize (ZG^max _ _).filter^dfr _ _=xs at U V W;refine (cY g (iH (lM S.h4 rfl (vr S.h7) (vr S.h8) b) ?_^ne_self^P6 _) d);simp[-dP,-dS,U,rd,(by
  rw[dP,bK^by simp[cU];lia]:jX .add (.aj^cU xs)^.aj [.aC]=aa^.aj (cU xs++[.aC])),(by
   rw[dS,show (0:Int)=((0:Nat)) from rfl,iB];exact V:d7 (.aj (cU xs++[.aC]))^ω 0=aa^apD o)]
def HU(d:Nd):d7 (iS d)^ω (-1)=aa (d.f d.en).enc:=by
 unfold iS;refine rwe ((by
  unfold qK;refine rwe List.range_succ ?_;refine rwe abh^rwe abh ?_;rfl:(qK d).map St.enc=((ZG d.en).map d.f).map St.enc++[(d.f d.en).enc])) ?_;exact qV _ _
def w62(P:TrP T G)(L:lT T TX){k:Nat}(Y:F62 T TX G k F)(b:Wf t){d:θ Int}(W:d.length<=1000){i j:Nat}{J a:Nd}(e:t.ds[i]?=aa J)(S:S62 s d n i j J a rs){th:Th}(V:s[15]?=aa^aa^.p th.enc):∃v:Int,aK F G Qk s h=aa (.p^ω v,h):=by
 let(z,c,Z):=gG (G:=G) L.w3.lt.lw d W _ 4 ∅;have o:=Hq (G:=G) L.of (b.at_ e^Zw _).ok th (k+14) h;have e1:aK F G (.y _^.neg^.j^ω 1) s h=aa (.p (J.f _).enc,h):=pP (y:=ω _) (vr S.h9) rfl^HU _;have e2:aK F G (.call "_law_of"^.cons (.y (.v 9)^.neg^.j^ω 1)^.cons (.v 15) .nil) s h=aa (.p^ω^th.val^J.f J.en,h):=by refine(vZ^qL e1^qL (vr V) HS).trans ?_;exact rwe (Y.fn _ ∅) o
 have O:aK F G (.call "_law_drawn"^.cons (.v 0)^.cons (.j^ω 703)^.cons (.j^ω 4) .nil) s h=aa (.p^ω z,h):=by refine(vZ^qL (vr S.h0)^qL rfl^qL rfl HS).trans ?_;exact rwe (Y.fn _ ∅)^Z _ h
 unfold Qk;generalize E.call _ _=a1 at e2;generalize E.call _ _=a2 at O;have U:aK F G (.aj ai^.cons (.j^ω 0)^.cons (.j^ω 1)^.cons (.j^ω 7)^.cons a1 .nil) s h=aa (.p^.aj [ω 0,ω 1,ω 7,ω^th.val^J.f J.en],h):=by simp[e2]
 rcases (by lia:z=0\/z=1\/z=2\/z=3)with rfl|rfl|rfl|rfl
 exact#[_,pP U O rfl];exact#[_,pP U O rfl];exact#[_,pP U O rfl];exact#[_,pP U O rfl]
def MV(J:rs.Perm^ZG t.ds.length)(O:t.ds.length<=5)(a:s[5]?=aa^aa^.p^.aj^cU rs):aK F G (.bi .sorted ai^.cons (.v 5) .nil) s h=aa (.p^.aj^cU^ZG t.ds.length,h):=by have L:=J.length_eq;rw[aar]at L;simp[a,(Lm J (List.pairwise_lt_range.imp aaL) ())]
def Yg(P:TrP T G)(L:lT T TX){k:Nat}(Y:F62 T TX G k F)(a:Wf t)(y:t.ds.length<=5)(A:fy Pt h n t ro rb){N:θ Int}{i j:Nat}{E C:Nd}(x:rs.Perm^ZG t.ds.length)(S:S62 s N n i j E C rs){th:Th}{v:Int}(V:s[15]?=aa^aa^.p th.enc)(U:s[16]?=aa^aa^.p^ω v):
 ∃g,aK F G UX s h=aa (.p^.aj^cU^nK t th v,g)/\fy Pt g n t ro rb:=by
 refine cX (vU (fH (evs F G^.cons LG .nil) (aK F G^.v 0) [aa^.o n,aa^.p th.enc,aa^.p^ω v]) (λ(i:Nat)=>D.int (i:Int)) (λi=>decide (sW t th i=v)) (λi=>D.int (i:Int)) (λh=>fy Pt h n t ro rb) (ZG t.ds.length) (λi Q g ⟨R,Ag⟩=>by
  let(d,O):=fK (l:=t.ds)^List.mem_range.mp Q;let(b,w,(I,e)):=jR P a Ag (k+5) O;let(J,u,M):=ny P a e (k+3) O^Zw _;have r:=Hq (G:=G) L.of (a.at_ O^Zw _).ok th (k+14) J;refine(cY J ?_ M);rw[yp O];have Z:F (.m "Tree" "end") [.o n,.p^ω i] g=aa (.p^ω d.en,b):=by rw[Y.me];exact w
  have W:F (.m "Tree" "at") [.o n,.p^ω i,.p^ω d.en] b=aa (.p (d.f d.en).enc,J):=by rw[Y.me];exact u
  have q:([D.int (i:Int)].map eZ++[aa^.o n,aa^.p th.enc,aa^.p^ω v]:Sl)=[aa^.p^ω (i:Int),aa^.o n,aa^.p th.enc,aa^.p^ω v]:=rfl;have c:aK F G LG [aa^.p^ω (i:Int),aa^.o n,aa^.p th.enc,aa^.p^ω v] g=aa (.p^.bl (th.val^d.f d.en==v),J):=by simp[LG,Ag.ob,Z,e.ob,W,(by exact rwe (Y.fn _ ∅) r:F "_law_of" [.p (d.f d.en).enc,.p th.enc] J=aa (.p^ω^th.val^d.f d.en,J)),rd]
  unfold fH;refine rwe q ?_
  by_cases z:th.val^d.f d.en=v
  ·rw[z,beq_self_eq_true]at c;simp[c,z]
  ·rw[beq_eq_false_iff_ne.mpr z] at c;simp[c,z]) h A) λB H K=>?_
 refine(cY B (ju (ws:=[.p^.aj^cU^ZG _]) (fs:=[aa _,aa^.p _,aa^.p _]) (qL (MV x y S.h5) HS) rfl ?_ rfl H ?_) K);simp[S.h4,V,U]
 ·unfold cU nK;rw[ZA];have:=aaj (λi=>decide (sW t th i=v))^ZG t.ds.length;rw[aar]at this;lia
def d62(P:TrP T G)(L:lT T TX){k:Nat}(Y:F62 T TX G k F)(V:Wf t)(A:fy Pt h n t ro rb)(f:t.ds.length<=5){m:θ Int}{i j:Nat}{a Z:Nd}(S:S62 s m n i j a Z rs){th:Th}{v:Int}(U:s[15]?=aa^aa^.p th.enc)(J:s[16]?=aa^aa^.p^ω v)(O:s[17]?=aa^aa^.p^.aj^cU^nK t th v):
 ∃g,aK F G UY s h=aa (.p^.bl ai,g)/\fy Pt g n t ro rb:=by
 let(l,c,e):=LK P L Y V A _ v;let(W,b,d):=HM P L Y V e v;exact(cY W (HG (iH (lM S.h4 rfl (vr U) (vr J) c) (vr O)^ne_self^HF _)^iH (lM S.h4 rfl rfl (vr J) b) (y:=tW 2) rfl^ne_self rfl) d)
def q62(P:TrP T G)(L:lT T TX){k:Nat}(Y:F62 T TX G k F)(a:Wf t)(A:fy Pt h n t ro rb){b:θ Int}{i j:Nat}{U V:Nd}(d:t.ds[i]?=aa U)(S:S62 s b n i j U V rs){z:Int}(f:-1000<=z)(e:z<=1000)(c:z<0\/(t.ds.length:Int)<=z){w:Nat}(hw:w<2)(O:s[18]?=aa^aa^.p^ω z)(J:s[19]?=aa^aa^.p^ω (w:Int)):aK F G Ql s h=aa (.p^.bl ai,h):=by exact uxA (HN P L Y a A f e c d hw) λZ W=>(HG (iH (lM S.h4 (vr J) (vr O) (vr S.h7) Z) (y:=tW 1) rfl^ne_self rfl)^iH (lM S.h4 (vr J) (vr S.h7) (vr O) W) (y:=tW 1) rfl^ne_self rfl)
def D62(P:TrP T G)(L:lT T TX){k:Nat}(Y:F62 T TX G k F)(a:Wf t)(A:fy Pt h n t ro rb){e:θ Int}{i j:Nat}{J U:Nd}(m:t.ds[i]?=aa J)(S:S62 s e n i j J U rs)(f:s.length=20){z:Int}(q:-1000<=z)(o:z<=1000)(l:z<0\/(t.ds.length:Int)<=z):
 ∃d,evS F G sY (s.set 18^aa^.p^ω z) h=aa^.nx d h/\S62 d e n i j J U rs/\d.length=20:=by
 have V:=S.set 18 (aa^.p^ω z) ∅;have st:∀(d:Sl)(w:Nat),w<2->S62 d e n i j J U rs->d.length=20->d[18]?=aa^aa^.p^ω z->evS F G (.v Ql (.ret^.j^.bl ai) .nil) (d.set 19^aa^.p^ω (w:Int)) h=aa^.nx (d.set 19^aa^.p^ω (w:Int)) h:=λd w hw b c v=>by refine qD^q62 P L Y a A m (b.set 19 _ ∅) q o l hw ?_^rwe (ZZ ()) rfl;refine rwe (ZD ∅) ?_;exact v
 have O:(s.set 18^aa^.p^ω z).length=20:=by exact rwe ZV^rwe f rfl
 have W:(s.set 18^aa^.p^ω z)[18]?=aa^aa^.p^ω z:=ZZ ();refine(eH _ ?_ ((V.set 19 (aa^.p^ω^(0:Nat)) ∅).set 19 (aa^.p^ω^(1:Nat)) ∅)^by refine rwe ZV ?_;rw[ZV,O]);show fC (evS F G^.v _ (.ret^.j^.bl _) _) [(19,"_law_way")] [ω^(0:Nat),ω^(1:Nat)] (s.set _^aa^.p _) h=_;refine rwe (show fC (evS F G^.v _ (.ret^.j^.bl _) _) _ [ω _,ω _] (s.set _^aa^.p _) h=j6 (evS F G (.v _ (.ret^.j^.bl _) _) ((s.set _^aa^.p _).set _^aa^.p^ω _) h)^fC (evS F G^.v _ (.ret^.j^.bl _) _) _ [ω _] from rfl) ?_;refine rwe ((st _ 0 ∅ V O W)) ?_;rw[gn];rw[show ∀Z,fC (evS F G^.v _ (.ret^.j^.bl _) _) _ [ω _] Z h=j6 (evS F G (.v _ (.ret^.j^.bl _) _) (Z.set _^aa^.p^ω _) h)^fC (evS F G^.v _ (.ret^.j^.bl _) _) _ _ from λ_=>rfl,(st ((s.set _^aa^.p _).set 19^aa^.p^ω^(0:Nat)) 1 ∅ (V.set _ _ ∅) (by rw[ZV,O])^by refine rwe (ZD ∅) ?_;exact W),gn];rfl
def z62{b:θ Int}{i j:Nat}{a Z:Nd}(L:rs.Perm^ZG t.ds.length)(Y:t.ds.length<=5)(S:S62 s b n i j a Z rs):aK F G UZ s h=aa (.p^.bl ah,h):=by
 have J:=L.length_eq;replace J:=aar ▸ J;have e1:=MV (F:=F) (G:=G) (h:=h) L Y S.h5;rw[←J]at e1;have O:gh .rng1 [ω rs.length]=aa^cU^ZG rs.length:=by
  rw[fY];refine rwe (bK (by
   simp![Zp,bN];lia)) ?_;rw[← MQ];congr 2
 have V:(cU rs).length=rs.length:=by simp[cU]
 have U:(cU^ZG rs.length).length<=lim:=by simp[cU];lia
 exact iH e1 (by
  show bnd (bnd (aK F G (.bi _ _^.cons _ _) _ h) _)^kLs _ _=_;refine rwe ((by
   simp[S.h5,V]:aK F G (.bi .len ai^.cons (.v 5) .nil) s h=aa (.p^ω rs.length,h))) ?_
  show kLs _ _ [.p^ω _] h=_;unfold kLs;refine rwe (show rds [W.p^D.int _] h=aa [D.int _] from rfl) ?_;rw[Z0];refine rwe O ?_;show (if (cU^ZG _).length<=lim then _ else af)=_;refine rwe (bK U) ?_;rfl) (by rw[AF,bK^jD^HF _,kU])
end
section
variable{T TX:FK->ψ Fn}{G:ay->ψ W}{Pt:Pts}{n:Nat}{ro rb:Nat}{t:Tr}{F:FK->θ W->HH->ψ (W×HH)}{s:Sl}{h g:HH}
def yv{q:Nat}{w:ψ W}(h:q<s.length):(s.set q w)[q]?=aa w:=ZZ h
def DV(P:TrP T G)(L:lT T TX){k:Nat}(Y:F62 T TX G k F)(ns:θ Int)(w:ns.length<=1000):∃h',BS.lE F G jU [.p^.aj^cW ns] []=aa (.p^.bl ah,h'):=by
 have Lw:=L.w3.lt.lw;let(pg,dp,rp):=yh (G:=G) Lw L.w3.program ns w 20;let(aF,ha,_,ra):=DJ (G:=G) Lw ns w 450;let(most,hm,dm):=gG (G:=G) Lw ns w 440 17 ();let(f,t,b1,O,A1,rfl,rfl,rfl,R):=vV (Pt:=pt0) P L.w3.lt ns w 600 (k+1) dp.ok ha (most:=most) () [] (λi c z=>iy z);let(_,A10):=id A1;have l1:=O.l1;let(J,b2,B):=P7 O (aK F G Lz) (evS F G LD) (λJ a=>[aa^.p^.aj^cW ns,aa^.p^fG t.p,aa^.p^.aj^cW t.aF,aa^.p^ω t.most,aa^.o 0,aa^.p^.aj^cU J,aa^.p^ω (a:Int),af,af,af,af,af,af,af,af,af,af,af,af,af]) f (λa J=>by
  have:(cU J).length=J.length:=by simp[cU]
  simp[Lz,rd,rds,this]) (λa x J S xl hle=>by
   have ch':F (.m "Tree" "children") [.o 0,.p^ω x] f=aa (.p^.aj^cU^kids t x,f):=by rw[Y.me];exact vS P L.w3.q O A10 (k+12) xl
   have ad:jX .add (.aj^cU J)^.aj^cU^kids t x=aa^.aj^cU (J++kids t x):=by rw[dP,bK^by show _<=100000;simp[cU];lia];simp[cU]
   have ix:=HE S;have ob:oat f 0=aa (ZC "Tree",tfs t 1 5):=A10.ob;simp[-dS,-dP,LD,ob,ix,ch',rd,ad]) 99999 0 [0] (Bf.zero O) ()
 have pm:=B.perm O;have rl:=pm.length_eq;rw[aar]at rl;have rpos:0<J.length:=by rw[rl];exact List.length_pos_iff.mpr O.l0
 let(zi,hzi,dzi):=gG (G:=G) Lw ns w 700 (J.length:Int) ();let(zj,hzj,dzj):=gG (G:=G) Lw ns w 701 (J.length:Int) ();let(i,hri):=fK (l:=J) (i:=zi) ();let(j,hrj):=fK (l:=J) (i:=zj) ();let(Z,n):=fK^B.lt i^ZJ hri;let(d,u):=fK^B.lt j^ZJ hrj;let(V,I):=O.pth i i Z (Zw _) n;let(U,H):=O.pth j j d (Zw _) u;have f1:=I.Lv O R n;have f2:=H.Lv O R u;have m1:=O.m1;have eni:=O.yo n;have enj:=O.yo u;let(h2,b3,A2):=BV P L.w3.lt.all O A1 (k+2) n;let(X,b4,A3):=BV P L.w3.lt.all O A2 (k+2) u;have ln:(cU J).length=J.length:=by simp[cU]
 have z1:∀x,aK F G (.call "_law_program"^.cons (.v 0)^.cons (.j^ω 20) .nil) (aa^.p^.aj^cW ns::x) []=aa (.p^fG t.p,[]):=λx=>by
  have:F "_law_program" [.p^.aj^cW ns,.p^ω 20] []=aa (.p^fG t.p,[]):=by rw[Y.fn _ ∅];exact rp (k+8) []
  simp[this]
 have z2:∀x,aK F G (.call "_law_asked"^.cons (.v 0)^.cons (.j^ω 450) .nil) (aa^.p^.aj^cW ns::x) []=aa (.p^.aj^cW t.aF,[]):=λx=>by
  have:F "_law_asked" [.p^.aj^cW ns,.p^ω 450] []=aa (.p^.aj^cW t.aF,[]):=by rw[Y.fn _ ∅];exact ra (k+12) []
  simp[this]
 have z3:∀x,aK F G (.call "_law_drawn"^.cons (.v 0)^.cons (.j^ω 440)^.cons (.j^ω 17) .nil) (aa^.p^.aj^cW ns::x) []=aa (.p^ω t.most,[]):=λx=>by
  have:F "_law_drawn" [.p^.aj^cW ns,.p^ω 440,.p^ω 17] []=aa (.p^ω t.most,[]):=by rw[Y.fn _ ∅];exact dm (k+13) []
  simp[this]
 have z4:∀x,aK F G (.call "_law_tree"^.cons (.v 0)^.cons (.j^ω 600)^.cons (.v 1)^.cons (.v 2)^.cons (.v 3) .nil) (aa^.p^.aj^cW ns::aa^.p^fG t.p::aa^.p^.aj^cW t.aF::aa^.p^ω t.most::x) []=aa (.o 0,f):=λx=>by
  have b1':F "_law_tree" [.p^.aj^cW ns,.p^ω 600,.p^fG t.p,.p^.aj^cW t.aF,.p^ω t.most] []=aa (.o 0,f):=by rw[Y.fn _ ∅];exact b1
  simp[b1']
 have z5:evS F G (.j Lz LD) [aa^.p^.aj^cW ns,aa^.p^fG t.p,aa^.p^.aj^cW t.aF,aa^.p^ω t.most,aa^.o 0,aa^.p^.aj^cU [0],aa^.p^ω 0,af,af,af,af,af,af,af,af,af,af,af,af,af] f=aa^.nx [aa^.p^.aj^cW ns,aa^.p^fG t.p,aa^.p^.aj^cW t.aF,aa^.p^ω t.most,aa^.o 0,aa^.p^.aj^cU J,aa^.p^ω J.length,af,af,af,af,af,af,af,af,af,af,af,af,af] f:=b2;have z6:aK F G Qd [aa^.p^.aj^cW ns,aa^.p^fG t.p,aa^.p^.aj^cW t.aF,aa^.p^ω t.most,aa^.o 0,aa^.p^.aj^cU J,aa^.p^ω J.length,af,af,af,af,af,af,af,af,af,af,af,af,af] f=aa (.p^ω i,f):=by
  have d1:F "_law_drawn" [.p^.aj^cW ns,.p^ω 700,.p^ω J.length] f=aa (.p^ω zi,f):=by rw[Y.fn _ ∅];exact dzi (k+13) f
  have ix:=HE hri;simp[-dS,Qd,rds,rd,ln,d1,ix]
 have z7:aK F G Qe [aa^.p^.aj^cW ns,aa^.p^fG t.p,aa^.p^.aj^cW t.aF,aa^.p^ω t.most,aa^.o 0,aa^.p^.aj^cU J,aa^.p^ω J.length,aa^.p^ω i,af,af,af,af,af,af,af,af,af,af,af,af] f=aa (.p^ω j,f):=by
  have d1:F "_law_drawn" [.p^.aj^cW ns,.p^ω 701,.p^ω J.length] f=aa (.p^ω zj,f):=by rw[Y.fn _ ∅];exact dzj (k+13) f
  have ix:=HE hrj;simp[-dS,Qe,rds,rd,ln,d1,ix]
 have z8:aK F G (.call "_law_all"^.cons (.v 4)^.cons (.v 7) .nil) [aa^.p^.aj^cW ns,aa^.p^fG t.p,aa^.p^.aj^cW t.aF,aa^.p^ω t.most,aa^.o 0,aa^.p^.aj^cU J,aa^.p^ω J.length,aa^.p^ω i,aa^.p^ω j,af,af,af,af,af,af,af,af,af,af,af] f=aa (.p^iS Z,h2):=by
  have b3':F "_law_all" [.o 0,.p^ω i] f=aa (.p^iS Z,h2):=by rw[Y.fn _ ∅];exact b3
  simp[b3']
 have z9:aK F G (.call "_law_all"^.cons (.v 4)^.cons (.v 8) .nil) [aa^.p^.aj^cW ns,aa^.p^fG t.p,aa^.p^.aj^cW t.aF,aa^.p^ω t.most,aa^.o 0,aa^.p^.aj^cU J,aa^.p^ω J.length,aa^.p^ω i,aa^.p^ω j,aa^.p^iS Z,af,af,af,af,af,af,af,af,af,af] h2=aa (.p^iS d,X):=by
  have b4':F "_law_all" [.o 0,.p^ω j] h2=aa (.p^iS d,X):=by rw[Y.fn _ ∅];exact b4
  simp[b4']
 obtain⟨Q,es0⟩:∃Q:Sl,Q=[aa^.p^.aj^cW ns,aa^.p^fG t.p,aa^.p^.aj^cW t.aF,aa^.p^.int t.most,aa^.o 0,aa^.p^.aj^cU J,aa^.p^.int J.length,aa^.p^.int i,aa^.p^.int j,aa^.p^iS Z,aa^.p^iS d,af,af,af,af,af,af,af,af,af]:=#[_,rfl];have S0:S62 Q ns 0 i j Z d J:=by subst es0;exact#[rfl,rfl,rfl,rfl,rfl,rfl,rfl]
 have L0:Q.length=20:=by subst es0;rfl
 have y1:aK F G US Q X=aa (.p^.aj^cU^gD V.reverse U.reverse,X):=A62 P L Y O A3 n u I H f1 S0.h4 S0.h7 S0.h8;obtain⟨C,es1⟩:∃C,C=Q.set 11^aa^.p^.aj^cU^gD V.reverse U.reverse:=#[_,rfl];have S1:S62 C ns 0 i j Z d J:=by subst es1;exact S0.set 11 _ ∅
 have L1:C.length=20:=by subst es1;rw[ZV,L0]
 have v1:C[11]?=aa^aa^.p^.aj^cU^gD V.reverse U.reverse:=by subst es1;exact yv ()
 have o1:(gD V.reverse U.reverse).length<=5:=by have:=aaj (λx=>!decide (x∈U.reverse)) V.reverse;rw[adj]at this;exact ZT this f1
 have o2:(gD U.reverse V.reverse).length<=5:=by have:=aaj (λx=>!decide (x∈V.reverse)) U.reverse;rw[adj]at this;exact ZT this f2
 have y2:aK F G Qf C X=aa (.p^.aj^cU (gD V.reverse U.reverse++gD U.reverse V.reverse),X):=by
  have e:=A62 (x1:="_law_tree_here") (x2:="_law_one") P L Y O A3 u n H I f2 S1.h4 S1.h8 S1.h7;unfold Qf;generalize E.comp _ _ _ _ _ _ _=c at e;simp[-dP,v1,e,rd,(by
   rw[dP,bK^by show _<=100000;simp[cU];lia];simp[cU]:jX .add (.aj^cU^gD V.reverse U.reverse)^.aj^cU^gD U.reverse V.reverse=aa^.aj^cU (gD V.reverse U.reverse++gD U.reverse V.reverse))]
 obtain⟨s,es2⟩:∃s,s=C.set 11^aa^.p^.aj^cU (gD V.reverse U.reverse++gD U.reverse V.reverse):=#[_,rfl];have S2:S62 s ns 0 i j Z d J:=by subst es2;exact S1.set 11 _ ∅
 have L2:s.length=20:=by subst es2;rw[ZV,L1]
 have v2:s[11]?=aa^aa^.p^.aj^cU (gD V.reverse U.reverse++gD U.reverse V.reverse):=by subst es2;exact yv ()
 have z0i:0∈V.reverse:=by let(r,e,_):=I.rev O;rw[e];exact ZF ..
 have z0j:0∈U.reverse:=by let(r,e,_):=H.rev O;rw[e];exact ZF ..
 have on:∀{a b:θ Nat}{x:Nat},x∈gD a b->x∈a/\x∉b:=λ{a b x} S=>by unfold gD at S;rw[List.mem_filter]at S;exact#[S.1,by simpa using S.2]
 have y3:=u62 P L Y O A3 S2 (xs:=gD V.reverse U.reverse++gD U.reverse V.reverse) (λr hr=>by
  rcases List.mem_append.mp hr with q|q
  ·let(q1,q2):=on q;exact#[I.mem O (dB n) r^by simpa using q1,Nat.pos_of_ne_zero λz=>q2^by rw[z];exact z0j]
  ·let(q1,q2):=on q;exact #[H.mem O (dB u) r^by simpa using q1,Nat.pos_of_ne_zero λz=>q2^by rw[z];exact z0i]) (by rw[ZX];lia) v2
 rw[←HQ t (I.ndr O)^H.ndr O,show(alone t (V.reverse++U.reverse)).foldl min^min (Z.en+1) (d.en+1)=shN t (V.reverse++U.reverse) Z.en d.en from rfl]at y3;obtain⟨N,es3⟩:∃N,N=s.set 12^aa^.p^.int ((shN t (V.reverse++U.reverse) Z.en d.en:Nat):Int):=#[_,rfl];have S3:S62 N ns 0 i j Z d J:=by subst es3;exact S2.set 12 _ ∅
 have L3:N.length=20:=by subst es3;rw[ZV,L2]
 have v3:N[12]?=aa^aa^.p^ω ((shN t (V.reverse++U.reverse) Z.en d.en:Nat):Int):=by subst es3;exact yv ()
 let(h4,y4,A4):=a62 P L Y O A3 n u I H S3 v3;have y5:=Ye (F:=F) (G:=G) (h:=h4) S3;obtain⟨M,es4⟩:∃M,M=N.set 13^aa^.p^.int ((max (Z.en+1) (d.en+1):Nat):Int):=#[_,rfl];have S4:S62 M ns 0 i j Z d J:=by subst es4;exact S3.set 13 _ ∅
 have L4:M.length=20:=by subst es4;rw[ZV,L3]
 have v4:M[13]?=aa^aa^.p^ω ((max (Z.en+1) (d.en+1):Nat):Int):=by subst es4;exact yv ()
 have y6:=c62 (F:=F) (G:=G) (h:=h4) S4 () () v4;obtain⟨A,es5⟩:∃A,A=M.set 14^aa^.p^.aj^cU^(ZG^max (Z.en+1) (d.en+1)).filter^dfr Z d:=#[_,rfl];have S5:S62 A ns 0 i j Z d J:=by subst es5;exact S4.set 14 _ ∅
 have L5:A.length=20:=by subst es5;rw[ZV,L4]
 have v5:A[14]?=aa^aa^.p^.aj^cU^(ZG^max (Z.en+1) (d.en+1)).filter^dfr Z d:=by subst es5;exact yv ()
 let(h5,y7,A5):=b62 P L Y O R A4 n u () () S5 v5;let(th,rt):=uJ (G:=G) Lw L.thing ns w 702;have y8:aK F G (.call "_law_thing"^.cons (.v 0)^.cons (.j^ω 702) .nil) A h5=aa (.p th.enc,h5):=by refine(vZ^qL (vr S5.h0)^qL rfl HS).trans ?_;rw[Y.fn _ ∅];exact rt (k+12) h5
 obtain⟨K,es6⟩:∃K,K=A.set 15^aa^.p th.enc:=#[_,rfl];have S6:S62 K ns 0 i j Z d J:=by subst es6;exact S5.set 15 _ ∅
 have L6:K.length=20:=by subst es6;rw[ZV,L5]
 have v6:K[15]?=aa^aa^.p th.enc:=by subst es6;exact yv ()
 let(v,y9):=w62 (h:=h5) P L Y O w n S6 v6;obtain⟨y,es7⟩:∃y,y=K.set 16^aa^.p^.int v:=#[_,rfl];have S7:S62 y ns 0 i j Z d J:=by subst es7;exact S6.set 16 _ ∅
 have L7:y.length=20:=by subst es7;rw[ZV,L6]
 have v7:y[16]?=aa^aa^.p^ω v:=by subst es7;exact yv ()
 have v7':y[15]?=aa^aa^.p th.enc:=by subst es7;rw[ZD ∅];exact v6
 let(h6,y10,A6):=Yg P L Y O R A5 pm S7 v7' v7;obtain⟨g,es8⟩:∃g,g=y.set 17^aa^.p^.aj^cU^nK t th v:=#[_,rfl];have S8:S62 g ns 0 i j Z d J:=by subst es8;exact S7.set 17 _ ∅
 have L8:g.length=20:=by subst es8;rw[ZV,L7]
 have v8:g[17]?=aa^aa^.p^.aj^cU^nK t th v:=by subst es8;exact yv ()
 have v8':g[15]?=aa^aa^.p th.enc:=by subst es8;rw[ZD ∅];exact v7'
 have v8'':g[16]?=aa^aa^.p^ω v:=by subst es8;rw[ZD ∅];exact v7
 let(h7,y11,A7):=d62 P L Y O A6 R S8 v8' v8'' v8;let(s9,y12,S9,L9):=D62 P L Y O A7 n S8 L8 (z:=-1) ∅ ∅ (.inl ∅);let(s10,y13,S10,L10):=D62 P L Y O A7 n S9 L9 (z:=(J.length:Int)) () () (.inr ());have y14:evS F G (.for [(18,"_law_bad")] .seq (.cons (.aB^.cons (.neg^.j^ω 1)^.cons (.bi .len ai^.cons (.v 5) .nil) .nil) .nil) sY) g h7=aa^.nx s10 h7:=by
  have e3:aK F G (.bi .len ai^.cons (.v 5) .nil) g h7=aa (.p^ω J.length,h7):=by simp[S8.h5,rd,rds,ln]
  rw[(by
   generalize E.bi .len ai^.cons (.v 5) .nil=a at e3;have e5:aK F G (.aB^.cons (.neg^.j^ω 1)^.cons a .nil) g h7=aa (.p^.aB [ω (-1),ω (J.length:Int)],h7):=by simp[e3]
   generalize E.aB _=b at e5;have ap:jd [W.p^D.aB [ω (-1),ω (J.length:Int)]]=ah:=rfl;simp[e5,rd,rds,ap]:evS F G (.for [(18,"_law_bad")] .seq (.cons (.aB^.cons (.neg^.j^ω 1)^.cons (.bi .len ai^.cons (.v 5) .nil) .nil) .nil) sY) g h7=fC (evS F G sY) [(18,"_law_bad")] [ω (-1),ω (J.length:Int)] g h7)]
  rw[show fC (evS F G sY) [(18,"_law_bad")] [ω (-1),ω (J.length:Int)] g h7=j6 (evS F G sY (g.set 18^aa^.p^ω (-1)) h7)^fC (evS F G sY) [(18,"_law_bad")] [ω (J.length:Int)] from rfl,y12,gn];rw[show ∀s,fC (evS F G sY) [(18,"_law_bad")] [ω (J.length:Int)] s h7=j6 (evS F G sY (s.set 18^aa^.p^ω (J.length:Int)) h7)^fC (evS F G sY) [(18,"_law_bad")] [] from λ_=>rfl,y13,gn];rfl
 have y15:=z62 (F:=F) (G:=G) (h:=h7) pm R S10;rw[es0]at y1 es1;rw[es1]at y2 es2;have bd:evS F G jU.body (dM jU.ns.length [.p^.aj^cW ns]) []=aa^.rt (.p^.bl ah) h7:=by refine(fu^z1 _).trans^(fu^z2 _).trans^(fu^z3 _).trans^(fu^z4 _).trans^(fu rfl).trans^(fu rfl).trans^(nJ z5).trans^(fu z6).trans^(fu z7).trans^(fu z8).trans^(fu z9).trans^(fu y1).trans^(fu y2).trans ?_;rw[←es2];refine(fu y3).trans ?_;rw[←es3];refine(nJ^qD y4).trans^(fu y5).trans ?_;rw[←es4];refine(fu y6).trans ?_;rw[←es5];refine(nJ^qD y7).trans^(fu y8).trans ?_;rw[←es6];refine(fu y9).trans ?_;rw[←es7];refine(fu y10).trans ?_;exact rwf es8^(nJ^qD y11).trans^(nJ y14).trans^jN y15
 let(h9,f9,_):=jQ _ (.bl _) _;refine#[h9,?_];unfold BS.lE;refine rwe (bK^rfl) ?_;rw[bd,jn,f9]
end
end BT
end
section
namespace BF
open PySem PySem.Spec PyProof.Rows L2 BS
variable{K:Zm}
def Ah(P:ZE)(w:ZW)(K:Zm)(a:ay->ψ aA)(x:ay)(z:aM):Prop:=∃u v,a x=aa u/\RelV v u/\∀m H,RW P w K m H v z
def HV(X:K.In h)(G:h.Ns ZL mg)(a:aag K ZL x=aa^aa^ω n t):Ah P w K mg x^.p^ω n :=
 (dO _ (ω n) (aai X G a) #[t,rfl] (λ_ _=>.p^ω n))
inductive iK:θ ay->θ aA->Prop
 |nil:iK [] []
 |cons{x:ay}{xs:θ ay}{t:Tok}{vs:θ aA}(h:PyData.strOk x=ah)(r:iK xs vs):iK (x::xs) (.str x t::vs)
theorem iK.vals:∀{a:θ ay}{b:θ aA},iK a b->dw (a.map V.str) b
 |_,_,.nil=>.nil|_,_,.cons _ r=>.cons #[_,rfl] r.vals
theorem iK.rds{K:Zm}:∀{a:θ ay}{b:θ aA},iK a b->RDs K m H (a.map V.str)^a.map aN.str
 |_,_,.nil=>.nil|_,_,.cons h r=>.cons (.str _ h) r.rds
theorem iK.len:∀{a:θ ay}{b:θ aA},iK a b->b.length=a.length
 |_,_,.nil=>rfl
 |_,_,.cons _ r=>by simp[r.len]
def HW(X:K.In h)(G:h.Ns ZL mg)(a:aag K ZL x=aa^aa^.ref f)
(l:K.lookup f=aa #[.type "tuple",af,.seq its n,sl])(J:u.length<=1000)(r:iK u its.toList):Ah P w K mg x^.p^.aB^u.map aN.str:=by
 refine#[_,.ref f,aai X G a,rfl,λm H=>.p^.aB (.inr #[_,its,n,(pR l rfl rfl ?_ r.vals),rfl]) r.rds];refine rwe ((by refine rwf r.len ?_;simp:its.size=u.length)) ?_;exact aaL^Cz J
inductive kF(w:ZW):θ (ay×Int)->θ aee->Prop
 |nil:kF w [] []
 |cons{x:ay}{n:Int}{kvs:θ (ay×Int)}{t u:Tok}{es:θ aee}(r:kF w kvs es):kF w ((x,n)::kvs) (#[PyData.keyHash w.params x,.str x t,ω n u]::es)
theorem kF.ex:∀{a:θ (ay×Int)}{es:θ aee},kF w a es->∃vs:θ (Key×aA),KV ((a.map λq=>(q.1,V.int q.2)).map λq=>((aaM q.1:Key),q.2)) vs/\Pairs (eN P w) es vs/\vs.map (·.1)=a.map (λq=>(aaM q.1:Key))/\(∀e∈es,∃k,(eN P w).is k e.key=ah/\e.hash=(eN P w).hash k)
 |_,_,.nil=>(kW ([]) .nil .nil rfl (λe J=>nomatch J))
 |_,_,@kF.cons _ x n _ t u _ r=>by
  let(vs,W,U,O,L):=r.ex;have b:=by show ads x^.str x t=ah;simp[ads]
  refine(kW ((aaM x,ω n u)::vs) (.cons #[rfl,u,rfl] W) (.cons b rfl U) (by simp[O]) (λe J=>?_));rcases List.mem_cons.mp J with rfl|J
  exact(cY (aaM x) b rfl);exact L e J
def DW{P:ZE}{w:ZW}{h:au}{o:ay->ψ aA}(X:K.In h)(G:h.Ns ZL o){x:ay}{f:az}{j:Array aee}{n:Nat}{i:θ (ay×Int)}(a:aag K ZL x=aa^aa^.ref f)
(l:K.lookup f=aa {cls:=.type "dict",data:=.dict j n})(b:(f==ab3)=ai)(r:kF w i j.toList)(J:(i.map (·.1)).Nodup):Ah P w K o x^.k^.t (i.map λq=>(q.1,aN.int q.2)):=by
 let(Y,W,U,O,L):=r.ex (P:=P);refine#[_,.ref f,aai X G a,rfl,λm H=>.k (es:=i.map λq=>(q.1,V.int q.2)) #[b,Y,W,λg d=>#[_,j,n,d _ _ l,(f6 rfl rfl rfl),rfl,λe c=>L e^by simpa using c,U,?_]] ?_]
 ·refine rwe O ?_;have e:(i.map λq=>(aaM q.1:Key))=(i.map (·.1)).map aaM:=by simp
  refine rwe e ?_;exact List.pairwise_map.mpr (J.imp λh z=>h^ac7 z)
 ·clear r J W U O L l
  induction i with
  |nil=>exact .nil|cons q i Z=>exact .cons (λ_ _=>ω _) Z
def look{κ J:Type}[DecidableEq κ](l:θ (κ×J))(x:κ):ψ J:=match l with
 |[]=>af
 |(y,a)::r=>if y=x then aa a else look r x
theorem jV{κ J:Type}[DecidableEq κ]{Q:κ->J->Prop}:∀{l:θ (κ×J)} (_:∀p∈l,Q p.1 p.2) {x:κ}{a:J},look l x=aa a->Q x a
 |[],_,_,_,e=>bH e
 |(y,b)::r,h,x,a,e=>by
  rw[look]at e;split at e
  ·rename_i z;cases e;subst z;exact h _ ZF
  exact jV (λp L=>h p^Zz _ L) e
theorem iZ{K:Zm}:∀a:θ Int,RDs K m H (a.map V.int)^BT.cW a
 |[]=>.nil|n::r=>.cons (ω n)^iZ r
def HY(c:TB K H)(J:LL K H a^m.map V.int)(e:∃b,g [.p^.aj^BT.cW m] []=aa (.p^.bl ah,b)):spF P w K g [.ref a] H (λv _=>v=.bl ah) λ_ _ _=>False:=by let(b,e):=e;refine#[[],_,[],_,b,#[adi,rfl,λi a L z=>by simp at z,c],.cons (.p^.aj (J.elim (λq=>.inl #[q,by simp]) .inr)^iZ m) .nil,e,λv U O _ _ r=>qb r]
end BF
end
section
namespace BG
open PySem PySem.Spec PySem.Calls PyProof.Rows L2 BS BF
variable{K:Zm}{st:ade}
def v9(H:∀p∈K,h.get? p.1=aa p.2):K.In h:=by
 intro a o e;obtain⟨p,L,J⟩:∃p∈K,p.1=a/\p.2=o:=by
  clear H
  induction K with
  |nil=>exact bH e
  |cons q r O =>
   rw[abA]at e;split at e
   ·rename_i c;cases e;exact(eH q ZF ((bR c).symm) rfl)
   exact cX (O e) λp L J=>((cY p (Zz _ L) J))
 exact rwf J.1^rwf J.2^H p L
inductive U6(K:Zm)(x qual:ay)(st:ade)(f:az):Prop
 |mk(fd:aap)(F:Fun K x qual st f fd)(kV L U:aA)(O:ψ az)(J ct:aA)(e:fd=aaF x qual (g9 st) (dg st) (cV st) .none kV L U O J ct):U6 K x qual st f
def mR(e:Iu K f=aa^Al x qual st):U6 K x qual st f:=by
 unfold Iu at e;split at e
 ·rename_i g d U Z l;have J:=Zv e;unfold Al at J;let(o,b,c,k,a,h,p,i,O,V,L,Y,W,n,j):=U;simp![FS.mk.injEq]at J;let(rfl,rfl,rfl,rfl,rfl,rfl,rfl,rfl,rfl,m):=J;exact#[_,(NK l m^by simp![Z2,l]),O,V,L,Y,W,n,rfl]
 exact bH e
def nth{J:Type}{l:θ J}{a:J}(i:Nat)(h:l[i]?=aa a):a∈l:=ZJ h
def nL(a:θ ay):Bool:=a.all λn=>!(n.cps[0]?==aa 60)
def U7(y:ay):(BT.jF y).cps[0]?=aa 60:=by show(((#v[60])++y.cps)++#v[62])[0]?=aa _;refine rwf aeY ?_;simp
def pQ(h:nL ns=ah)(y:ay):ns.contains^BT.jF y=ai:=by
 cases e:ns.contains _ with
 |false=>rfl
 |true =>
  have:=List.all_eq_true.mp h _^List.contains_iff_mem.mp e;rw[U7]at this;exact aP this
def qt(h:nL fn.ns=ah):kg K q m fn:=λy J=>by rw[pQ h y]at J;exact aP J
section
variable{K:Zm}
def mS(e:refOf o=aa f):o=aa^aa^.ref f:=by unfold refOf at e;split at e;cases e;rfl;exact bH e
def Qn(X:K.In h)(G:h.Ns ZL mg)(e:eX K^.fn x f st=eY w^.fn x f st)
(j:dY fn.ns fn.ps^cV st)(Z:∀(kV J O:aA)(U:ψ az)(L d:aA)(b:θ aA),b.length=fn.ps.length->afu (aaF x x (g9 st) (dg st) (cV st) .none kV J O U L d) #[b,[]]=pure^fn.ps.zip b)
(a:CSs (cV st) fn.ns fn.body^dg st)(g:∀c,aag K ZL x=aa^aa^.ref f->(∃W V i,K.lookup f=aa #[W,V,.func c,i])->kg K x c fn):Def K mg x fn:=by
 simp![eX,eY,Ov.fn.injEq]at e;let(c,F,kV,J,O,U,L,d,rfl):=mR e.2;refine#[f,_,st,aai X G^mS e.1,F,j,F.binds Z,a,g _ (mS e.1) ?_];let(W,V,kV,J,O,U,L,d,osl,e1,Y,_):=F.ex;exact(qW _ _ _ Y)
def mT(e:eX K^.cls c C=eY w^.cls c C):l9 K c C:=by simp![eX,eY,Ov.b.injEq,Rn,Zp,bN]at e;let((((((Z,Y),W),V),U),O),L):=e;exact#[Z,#[Y,W,V,U],λf J=>(bQ (p:=Z3 K _ f=aa _)^List.all_eq_true.mp O f^List.contains_iff_mem.mp J),L]
def LQ(X:K.In h)(G:h.Ns ZL mg)(W:eX K^.cls c C=eY w^.cls c C)(U:eX K^.mk C=eY w^.mk C)(e:eX K^.me C m x qual f st=eY w^.me C m x qual f st)
(k:dY fn.ns fn.ps^cV st)(Z:∀(kV L V:aA)(Y:ψ az)(O i:aA)(g:θ aA),g.length=fn.ps.length->afu (aaF x qual (g9 st) (dg st) (cV st) .none kV L V Y O i) #[g,[]]=pure^fn.ps.zip g)
(a:CSs (cV st) fn.ns fn.body^dg st)(j:nL fn.ns=ah):GG K mg c m fn:=by
 simp![eX,eY,Ov.fn.injEq]at e;let(e1,e2):=e;let(d,F,kV,L,V,Y,O,i,rfl):=mR e2;have J:meB K C m f=ah:=by
  cases q:meB K C m f with
  |true=>rfl|false=>replace e1:=q ▸ e1;exact bH e1
 simp![meB,Zp,bN]at J;simp![eX,eY,Ov.b.injEq,mkB,Zp]at U;refine#[C,f,_,x,qual,st,(mT W),aai X G (mT W).cn,#[J.1,J.2,F.kp],λz=>?_,F,k,F.binds Z,a,qt j];subst z;exact#[U.1,J.1,J.2,U.2]
def none_of(X:K.In h)(G:h.Ns ZL mg)(e:eX K^.no x=eY w^.no x):mg x=af:=by simp![eX,eY,Ov.b.injEq,bN]at e;exact PySem.W.mg_none_of X G e
def HZ(h:intOf v=aa x):∃t,v=ω x t:=by cases v<;>simp[intOf]at h;exact#[_,rwe h rfl]
def Ia(h:strOf v=aa x):∃t,v=.str x t:=by cases v<;>simp[strOf]at h;exact#[_,rwe h rfl]
def gS(X:K.In h)(G:h.Ns ZL mg)(e:eX K^ω x n=eY w^ω x n):Ah P w K mg x^.p^ω n:=by
 simp![eX,eY,Ov.int.injEq]at e;split at e
 ·rename_i v J;refine uxE (HZ e) ?_
  rintro t rfl
  exact HV X G J
 exact bH e
theorem B7:∀{a:θ ay}{b:θ aA},a.all PyData.strOk=ah->b.map strOf=a.map aa->iK a b
 |[],[],_,_=>.nil
 |[],_::_,_,h=>by simp at h
 |_::_,[],_,h=>by simp at h
 |x::a,v::b,k,h=>by
  simp![ZY,abY]at h;simp![List.all_cons,Zp]at k;refine uxE (Ia h.1) ?_
  rintro t rfl
  exact .cons k.1^B7 k.2 h.2
theorem B8:∀{a:θ (ay×Int)}{b:θ aee},b.map (λe=>(e.hash,strOf e.key,intOf e.val))=a.map (λq=>(PyData.keyHash w.params q.1,aa q.1,aa q.2))->kF w a b
 |[],[],_=>.nil
 |[],_::_,h=>by simp at h
 |_::_,[],h=>by simp at h
 |(x,n)::a,⟨c,k,v⟩::b,h=>by simp![ZY,abY,aes]at h;let((rfl,O,L),J):=h;let(t,rfl):=Ia O;let(u,rfl):=HZ L;exact .cons^B8 J
def Ib(X:K.In h)(G:h.Ns ZL mg)(e:eX K^.aB x f m=eY w^.aB x f m)(U:m.length<=1000)(O:m.all PyData.strOk=ah):Ah P w K mg x^.p^.aB^m.map aN.str:=by simp![eX,eY,Ov.seq.injEq]at e;refine jk e λe1 e2 J=>(cX (Option.map_eq_some_iff.mp e2) λo l L=>?_);rw[l]at J;let(a,Z,V,W):=o;simp![shp,aes]at L;let(rfl,rfl,Y):=L;simp![Z0,D7]at J;cases V<;>simp![acg,reduceCtorEq]at J;exact HW X G (mS e1) l U^B7 O J
def Ic(X:K.In h)(G:h.Ns ZL mg){x:ay}{f:az}{a:θ (ay×Int)}(e:eX K^.dct x f a=eY w^.dct x f a)(U:(f==ab3)=ai)(O:(a.map (·.1)).Nodup):Ah P w K mg x^.k^.t (a.map λq=>(q.1,aN.int q.2)):=by simp![eX,eY,Ov.dct.injEq]at e;refine jk e λe1 e2 J=>(cX (Option.map_eq_some_iff.mp e2) λo l L=>?_);rw[l]at J;let(b,Z,W,Y):=o;simp![shp,aes]at L;let(rfl,rfl,V):=L;have:=Array.eq_empty_of_size_eq_zero V;subst this;simp![Z0,Mi]at J;cases W<;>simp![acg,reduceCtorEq]at J;exact DW X G (mS e1) l U (B8 J) O
end
def Ai{J:Type}{b:θ J}{n:Nat}(h:b.length=n+1):∃a r,b=a::r/\r.length=n:=by
 cases b with
 |nil=>simp at h|cons a r=>exact(eW a r rfl^by simpa using h)
def len0{J:Type}{a:θ J}(h:a.length=0):a=[]:=ad2 h
def Qo{L:Type}{a:θ L}(h:a.length=1):∃J,a=[J]:=by
 refine fz (Ai h) ?_
 rintro J r rfl g
 exact#[J,rwe (len0 g) rfl]
def Ie{O:Type}{a:θ O}(h:a.length=2):∃L J,a=[L,J]:=by
 refine fz (Ai h) ?_
 rintro L r rfl g
 let(J,rfl):=Qo g;exact(uS _ _ rfl)
def Ig{U:Type}{a:θ U}(h:a.length=3):∃O L J,a=[O,L,J]:=by
 refine fz (Ai h) ?_
 rintro O r rfl g
 refine qE (Ie g) ?_
 rintro L J rfl
 exact(qW _ _ _ rfl)
def Ih{V:Type}{a:θ V}(h:a.length=4):∃U O L J,a=[U,O,L,J]:=by
 refine fz (Ai h) ?_
 rintro U r rfl g
 refine D5 (Ig g) ?_;rintro O L J rfl;exact#[U,O,L,J,rfl]
def LR{W:Type}{a:θ W}(h:a.length=5):∃V U O L J,a=[V,U,O,L,J]:=by
 refine fz (Ai h) ?_
 rintro V r rfl g
 let(U,O,L,J,rfl):=Ih g;exact#[V,U,O,L,J,rfl]
def U8{Y:Type}{a:θ Y}(h:a.length=6):∃W V U O L J,a=[W,V,U,O,L,J]:=by let(W,r,rfl,g):=Ai h;let(V,U,O,L,J,rfl):=LR g;exact#[W,V,U,O,L,J,rfl]
def Yh{Z:Type}{a:θ Z}(h:a.length=7):∃Y W V U O L J,a=[Y,W,V,U,O,L,J]:=by let(Y,r,rfl,g):=Ai h;let(W,V,U,O,L,J,rfl):=U8 g;exact#[Y,W,V,U,O,L,J,rfl]
@[reducible]noncomputable def BdT(x qual:ay)(st:ade)(fn:aQ):Prop:=∀(kV L U:aA)(V:ψ az)(O ct:aA)(J:θ aA),J.length=fn.ps.length->afu (aaF x qual (g9 st) (dg st) (cV st) .none kV L U V O ct) #[J,[]]=pure^fn.ps.zip J
structure CkB(x qual:ay)(s:ade)(f:aQ):Prop where
 ck:CSs (cV s) f.ns f.body^dg s:=by repeat' (first|rfl|constructor|decide +kernel)
 sc:dY f.ns f.ps^cV s:=by constructor<;>first|rfl|decide +kernel
 bd:BdT x qual s f:=by intro _ _ _ _ _ _ us hl;first|(let(a0,a1,rfl):=Ie hl;rfl)|(let(a0,rfl):=Qo hl;rfl)|(let(a0,a1,a2,rfl):=Ig hl;rfl)|(let(a0,a1,a2,a3,rfl):=Ih hl;rfl)|(obtain rfl:=len0 hl;rfl)|(let(a0,a1,a2,a3,a4,rfl):=LR hl;rfl)|(let(a0,a1,a2,a3,a4,a5,rfl):=U8 hl;rfl)|(let(a0,a1,a2,a3,a4,a5,a6,rfl):=Yh hl;rfl)
def ce{p:Prop}(h:p:=by repeat' (first|rfl|constructor|decide +kernel)):p:=h
def dk{p:Prop}(h:p:=by decide +kernel):p:=h
def hn{w:ZW}{J:θ Qy}(L:∀q∈J,eX K q=eY w q)(i:Nat){a:Qy}(h:J[i]?=aa a):eX K a=eY w a:=L _^nth i h
def yw(K:Zm)(a:ay->ψ aA)(p:bq×aQ):Prop:=(∀x,p.1=.f x->Def K a x p.2)/\(∀c m,p.1=.m c m->GG K a c m p.2)/\∀L,p.1=.l L->False
def dd(d:Def K mg x fn):yw K mg (.f x,fn):=(f6 (λy e=>by cases e;exact d) (λc m e=>(by cases e)) (λL e=>by cases e))
def dm(d:GG K mg c m fn):yw K mg (.m c m,fn):=(f6 (λy e=>(by cases e)) (λc m e=>by cases e;exact d) (λL e=>by cases e))
def c6{J:Type}{Q:J->Prop}{a:J}{l:θ J}(h:Q a)(t:∀p∈l,Q p):∀p∈a::l,Q p:=List.forall_mem_cons.mpr #[h,t]
def B9{J:Type}{Q:J->Prop}:∀p∈([]:θ J),Q p:=λ_ h=>bM h aba
section
variable{K:Zm}
def dd0(X:K.In h)(G:h.Ns ZL mg)(e:eX K^.fn x f st=eY w^.fn x f st)(c:CkB x x st fn)(a:nL fn.ns=ah:=by decide +kernel):yw K mg (.f x,fn) :=
 dd (Qn X G e c.sc c.bd c.ck λ_ _ _=>qt a)
def dm0(X:K.In h)(G:h.Ns ZL mg)(L:eX K^.cls c C=eY w^.cls c C)(J:eX K^.mk C=eY w^.mk C)(e:eX K^.me C m x qual f st=eY w^.me C m x qual f st)(k:CkB x qual st fn)(a:nL fn.ns=ah:=by decide +kernel):yw K mg (.m c m,fn) :=
 dm^LQ X G L J e k.sc k.bd k.ck a
end
structure Qp(K:Zm)(tl:θ (ay×az×az)):Prop where
 all:∀z∈BT.j7,(∃c P,(z,c,P)∈tl/\aaQ K z=aa (c,P))\/aaQ K z=af
 hd:∀q∈tl,adD K q.2.1 q.2.2=ah
def fF(e:eX K^.no x=eY w^.no x):aaQ K x=af:=by simp![eX,eY,Ov.b.injEq,bN]at e;unfold aaQ;exact rwe e rfl
def Aj(e:K.lookup b=aa o):b∈K.map (·.1):=List.mem_map.mpr^cY _ (PySem.W.mem_of_lookupK e) rfl
def DX 
(D:K.In s₁.heap)(M:s₁.heap.Ns ZL mg)(R:s₁.heap.Ns abK mb)(Q:∀x:ay,x≠"__name__"->mb x=acf x)(j:s₁.heap.NoLimit)(hg:s₁.gens=#v[])
(l:s₁.heap.get? a=aa {cls:=.type "list",data:=.seq vs.toArray})(hi:acy vs ns)(hl:ns.length<=ak)(hr:fQ k aft)
(hT:Qp K tl)(W:∀p∈tl,s₁.heap.get? p.2.2=aa (acX #v[]))(S:∀p∈tl,K.lookup p.2.2=af)
(F:∀base:au,gi P w K mg base CX0 k fa fd [x] sp)(f:∀(s:Zo)(u:aA),K.In s.heap->BindsTo s fd #[[u],[]] [(x,u)])
(I:∀H:Hp,TB K H->LL K H a^ns.map V.int->sp [.ref a] H (λv _=>v=.bl ah) λ_ _ _=>False):
 ao (ZI P w) aft (.call (.ref fa) #[[.ref a],[]]) (λr s'=>r=.ok^.ret^.bool ah/\OldK s₁.heap s'.heap/\s'.os=s₁.os/\adW s'.gens) s₁:=by
 have rv:=mZ hi;have i:=hi.length;have E:∀p∈tl,p.2.2≠a:=λp L z=>by have:=W p L;rw[z,l]at this;cases this
 let B:HO:=.frz {cls:=.type "list",data:=.seq vs.toArray}^.aj^ns.map V.int
 let H:Hp:=λb=>if ∃p∈tl,p.2.2=b then aa (.tbl #v[])else if b=a/\K.lookup a=af then aa B else af
 have Ht:∀p∈tl,H p.2.2=aa (.tbl #v[]):=λp L=>bK #[p,L,rfl];have O:∀b u,H b=aa u->(∃p∈tl,p.2.2=b/\u=.tbl #v[])\/(b=a/\K.lookup a=af/\u=B):=λb u e=>by
  by_cases X:∃p∈tl,p.2.2=b
  ·have g:aa (HO.tbl #v[])=aa u:=(bK X).symm.trans e;let(p,L,U):=X;exact .inl #[p,L,U,(Zv g).symm]
  ·have g:(if b=a/\K.lookup a=af then aa B else af)=aa u:=(bL X).symm.trans e
   by_cases C:b=a/\K.lookup a=af
   rw[bK C]at g;exact .inr #[C.1,C.2,(Zv g).symm];rw[bL C]at g;exact bH g
 have G:∀{b:az}{o:aq}{n:Array aee}{t:Nat},s₁.heap.get? b=aa o->o.data=.dict n t->H b=af:=λ{b o n t} e d=>by
  cases q:H b with
  |none=>rfl
  |some u =>
   rcases O b u q with⟨p,L,U,_⟩|⟨U,_⟩
   ·have z:=W p L;rw[U,e]at z;cases z;cases d
   ·rw[U,l]at e;cases e;have d':Data.seq vs.toArray _=Data.dict n t:=d;cases d'
 have Z:∀ {b:az}{m:ay->ψ aA},s₁.heap.Ns b m->(wo s₁.heap H).Ns b m:=λ{b m} ⟨o,n,t,e,d,r⟩=>#[o,n,t,wu e^G e d,d,r];have T:K.In^wo s₁.heap H:=λb o e=>wu (D b o e) (by
  cases q:H b with
  |none=>rfl
  |some u =>
   rcases O b u q with⟨p,L,U,_⟩|⟨U,h3,_⟩
   rw[←U,S p L]at e;exact bH e;rw[U,h3]at e;exact bH e
  )
 have hM:Mod K mg^wo s₁.heap H:=#[T,Z M,#[mb,Z R,Q],let ⟨mc,h1,U⟩:=j;#[mc,Z h1,U]];have aI:HOk P w H s₁.heap:=λb u e=>by
  rcases O b u e with⟨p,L,U,rfl⟩|⟨U,_,rfl⟩
  subst U;exact W p L;subst U;exact#[l,by rw[ZA];exact hl,vs,_,rv,l]
 have e0:qF P w K mg (wo s₁.heap H) aft [] s₁ H:=#[rfl,hM,λb o e=>Iz e,Nat.le_of_eq^Cg _ _,trivial,λb R=>bM (show b∈([]:θ az) from R)^by simp,aI,.of_eq hg];have tb:TB K H:=λz hz c Pt e=>by
  rcases hT.all z hz with⟨c3,P3,m3,y⟩|y
  rw[e]at y;cases y;exact#[#v[],Ht _ m3,trivial,λpos v q=>by cases q];rw[e]at y;cases y
 have hS:LL K H a^ns.map V.int:=by
  cases N:K.lookup a with
  |some o =>
   have e:=D a o N;rw[l]at e;cases e;exact .inr #[vs,_,N,by rw[i];exact hl,rv]
  |none =>
   refine .inl^.inr #[{cls:=.type "list",data:=.seq vs.toArray},?_];have e1:H a=(if a=a/\K.lookup a=af then aa B else af):=bL λ⟨p,L,z⟩=>E p L z;rw[e1,bK #[rfl,N]]
 refine codeAny_mono ((F _).run aft [] s₁ H #[[.ref a],[]] [.ref a] [.ref a] _ _ hr e0 (f s₁ (.ref a) D) (.cons rfl .nil)^I H tb hS) λr s' h=>?_;cases r with
 |error e=>exact aat h
 |ok fl =>
  cases fl with
  |ret u =>
   let(v,H',os,A,un,Y,r',q):=h;have q':v=.bl ah:=q;subst q';obtain rfl:u=Value.bool ah:=r';have kp:∀b o,s₁.heap.get? b=aa o->(s'.heap.get? b=aa o)\/∃p∈tl,p.2.2=b/\∃J,s'.heap.get? b=aa^acX (#v[]++J):=λb o e=>by
    cases q:H b with
    |none=>exact .inl (un.keep b o e q (by intro z;exact bM (show b∈([]:θ az) from z)^by simp)^by simp)
    |some u =>
     rcases O b u q with⟨p,L,U,rfl⟩|⟨U,h3,rfl⟩
     ·let(J,z):=un.tbls b _ q;exact .inr #[p,L,U,J,Y b _ z]
     ·have z2:=un.frzs b _ _ q;let(e1,_):=aI b _ q;let(e2,_):=Y b _ z2;rw[e]at e1;cases e1;exact .inl e2
   refine#[rfl,#[λb o e=>?_,λb o e=>?_],os,A]
   ·rcases kp b o e with z|⟨p,L,rfl,J,z⟩
    exact .inl z
    ·have e2:=W p L;rw[e]at e2;cases e2;have tA:=(abr D^hT.hd p L).tab e;exact .inr^.inl #[tA.isCodeTable,rfl,#v[],J,rfl,z]
   ·rcases kp b o e with z|⟨p,L,rfl,J,z⟩
    exact#[o,z];exact#[_,z]
  |_=>exact aat h
def tw:θ ay:=["NoMoment","NoRun","NoThing","NoText"]
def Ii(h:nI c=ah):c∈tw:=by have:=List.contains_iff_mem.mp h;simp![ab7,aba,or_false]at this;simp![tw,ab7,aba,or_false];rcases this with h|h|h|h<;>simp[h]
def Ij(h:nI cn=ah):BT.pY c cn=(cn==c):=by have:=List.contains_iff_mem.mp h;simp![ab7,aba,or_false]at this;unfold BT.pY;refine rwe (by rcases this with rfl|rfl|rfl|rfl<;>decide:(cn==("TapeError"))=ai) ?_;refine rwe ((by rcases this with rfl|rfl|rfl|rfl<;>decide:(cn==("ValueError"))=ai)) ?_;rw[ab9,ab9]
def yx{a:θ (ay×az)}(h:a.map (·.1)=tw){c:ay}(d:nI c=ah):∃C,(c,C)∈a:=by have:=Ii d;replace this:=h ▸ this;refine cX (List.mem_map.mp this) ?_;rintro p b rfl;exact#[_,b]
section
variable{K:Zm}{D:az}
def iL(e:M0 K c C=ah):CN K c C/\lB K C:=by exact uxA (Bool.and_eq_true_iff.mp e) λe1 e2=>(#[bQ (p:=aag K _ c=aa^aa _) e1,#[e2]])
def LS(e:eX K^.exc D u=eY w^.exc D u)(Z:u.map (·.1)=tw):Uz K D/\lB K D/\CN K "TapeError" D:=by simp![eX,eY,Ov.b.injEq]at e;refine uxA (Bool.and_eq_true_iff.mp e) λe1 e2=>?_;have a:=List.all_eq_true.mp e2;refine(f6 #[λc p=>?_] ((iL e1).2)^(iL e1).1);let(C,m):=yx Z p;have q:=a _ m;unfold Iw at q;simp![Zp,bN]at q;let(((((((((((Y,l),k),j),i),h),g),f),d),W),V),U):=q;refine(kW C ((iL Y).1) #[k,j,i,h,g,f,d,W,λo L _=>?_,V] ((iL Y).2) l);let(n,J):=yx Z L;have O:=a _ J;unfold Iw at O;simp![Zp]at O;refine(cY n ((iL O.1.1.1.1.1.1.1.1.1.1.1).1) ?_);exact rwe (Ij L)^bQ^List.all_eq_true.mp U _ J
def gT{c:ay}{C:az}{m x k:ay}{f:az}{l:aQ}{rn:θ ay}(Y:eX K^.cls c C=eY w^.cls c C)(e:eX K^.me C m x k f st=eY w^.me C m x k f st)
(a:gE (cV st) l.ns rn l.body^dg st)(o:dY l.ns l.ps^cV st:=by constructor<;>first|rfl|decide +kernel)(W:BdT x k st l:=by intro _ _ _ _ _ _ u L;first|(let(O,U,rfl):=Ie L;rfl)|(let(O,rfl):=Qo L;rfl)|(let(O,U,V,rfl):=Ig L;rfl)|(let(O,U,V,d,rfl):=Ih L;rfl)|(let(O,U,V,d,j,rfl):=LR L;rfl))(n:nL l.ns=ah:=by decide +kernel):xS rn K c m l:=by
 simp![eX,eY,Ov.fn.injEq]at e;refine uxA e λe1 e2=>?_;let(h,F,kV,Z,g,i,b,p,rfl):=mR e2;have J:meB K C m f=ah:=by
  cases q:meB K C m f with
  |true=>rfl|false=>replace e1:=q ▸ e1;exact bH e1
 simp![meB,Zp,bN]at J;exact#[C,f,_,x,k,st,(mT Y),#[J.1,J.2,F.kp],F,o,F.binds W,a,qt n]
def Ca(X:K.In h)(G:h.Ns ZL mg){x:ay}{f:az}{a:aQ}(e:eX K^.fn x f st=eY w^.fn x f st)
(k:CkB x x st a){b:BT.S}{rn:θ ay}(Y:gE (cV st) a.ns rn b^dg st)
(d:∀c,aag K ZL x=aa^aa^.ref f->(∃L J g,K.lookup f=aa #[L,J,.func c,g])->kg K x c a):GQ rn K mg x ⟨a.ps,a.ns,b⟩:=by
 simp![eX,eY,Ov.fn.injEq]at e;let(c,F,kV,O,V,Z,U,i,rfl):=mR e.2;refine#[f,_,st,aai X G^mS e.1,F,k.sc,F.binds k.bd,Y,d _ (mS e.1) ?_];let(L,J,kV,O,V,Z,U,i,osl,e1,W,_):=F.ex;exact(qW L J osl W)
def yy:θ ade->θ ade
 |[.Try b _ _ _ _]=>b|_=>[]
end
def Ik{l:PySem.W.OpenLaw}{n k:Nat}{q:ZE}{loose:θ ay}{XP:(ay->ψ aA)->au->Prop}{d:DefRec}{as:θ az}{c:θ Qy}{ts:θ az}{tl:θ (ay×az×az)}{T:bq->ψ aQ}{G:ay->ψ aM}{fn:aQ}{x C:ay}{told:θ aM->aL->ψ (aM×aL)}
(hn:l.most=aa n)(y:n<=ak)(A:d.params.defaults=[])(hr:fQ (2*k+1+1) aft)(L:fn.ps=[x])(hT:T^.f d.name=aa fn)(r:ts=tl.map (·.2.2))(t:tl.all (λp=>!as.contains p.2.2)=ah)
(FT:∀(w:ZW)(K:Zm),(∀q∈c,eX K q=eY w q)->Qp K tl)
(F:∀(P:ZE)(w:ZW)(mg:ay->ψ aA)(K:Zm) (h:au),K.In h->h.Ns ZL mg->(∀q∈c,eX K q=eY w q)->Txt P w K mg T G)
(FX:∀(P:ZE)(w:ZW)(mg:ay->ψ aA)(K:Zm) (h:au),K.In h->h.Ns ZL mg->(∀q∈c,eX K q=eY w q)->∃i fd ps,mg C=aa^.ref i/\Z2 K^.ref i=ah/\Binds K fd ps []/\∀base,gi P w K mg base CX0 (2*k) i fd ps^spF P w K told)
(V:∀ns:θ Int,ns.length<=n->∃h',lE (pC C told^aO T G k) G fn [.p^.aj^BT.cW ns] []=aa (.p^.bl ah,h')):
 PySem.W.WalkO q loose XP (sees as c ts).says l.row.toRowW d [] (λf vs=>afz f vs):=by
 refine Att.wK hn A λw E D mg mb i o pm cd doc a vs ns U Y ho hd hcd z Z O J hg=>(D4 Y λK k0 j k2 S=>?_);have X:=F l.prog w _ K _ (v9 j) U.T.g k2;let(fa',fd',R,Q,N,M,I):=FX _ w _ K _ (v9 j) U.T.g k2;let(f,fd,st,B,h2,h3,h4,h5,h6):=(X.defs _ _ hT).ex;replace B:=z ▸ B;cases B;refine DX (sp:=spF l.prog w K^lE (pC _ _ _) G _) (x:=x) (fd:=fd) (v9 j) U.T.g U.T.b U.T.builtins U.T.nolimit hg Z O (ZT J y) hr (FT w K k2) (λp v=>S _^by exact rwe r^List.mem_map_of_mem v) (λp v=>?_) (λbase=>?_) (λs u hK=>?_) (λH tb hS=>HY tb hS^V _ J)
 ·cases e:K.lookup _ with
  |none=>rfl
  |some o =>
   have m:=Aj e;rw[k0]at m;have:=List.all_eq_true.mp t p v;rw[List.contains_iff_mem.mpr m]at this;exact aP this
 ·have:=GR (base:=base) X k h2 h3 h5 h6 Q N M^I _;rw[L]at this;exact this
 ·have:=h4 s [u] hK (by refine rwe L ?_;rfl);rw[L]at this;exact this
section
variable{P:ZE}{w:ZW}{K:Zm}{h:au}{mg:ay->ψ aA}{D:az}{xs:θ (ay×az)}
def yz{rn:θ ay}(e:eX K^.exc D xs=eY w^.exc D xs)(W:xs.map (·.1)=rn):(∀c,rn.contains c=ah->∃C,CN K c C/\lB K C/\lD K C D=ah)/\lB K D/\CN K "TapeError" D:=by simp![eX,eY,Ov.b.injEq]at e;refine uxA (Bool.and_eq_true_iff.mp e) λe1 e2=>((f6 (λc j=>?_) ((iL e1).2)^(iL e1).1));have:=List.contains_iff_mem.mp j;replace this:=W ▸ this;refine cX (List.mem_map.mp this) ?_;rintro p i rfl;have q:=(List.all_eq_true.mp e2) _ i;unfold Iw at q;simp![Zp,bN]at q;let(((((((((((J,L),h),g),f),d),a),Z),Y),V),U),O):=q;exact(eH _ ((iL J).1) ((iL J).2) L)
def Il{rn:θ ay}{TX:bq->ψ aQ}(X:K.In h)(W:h.Ns ZL mg)(e:eX K^.exc D xs=eY w^.exc D xs)(U:xs.map (·.1)=rn)(df:∀x a,TX^.f x=aa a->GQ rn K mg x a)(b:∀c m a,TX^.m c m=aa a->xS rn K c m a)(O:∀L a,TX^.l L=aa a->False:=by intro L a e;cases e):xT rn K mg TX :=
 #[df,b,λc d=>by exact dU ((yz e U).1 c d) λC J V _=>((eH C J (aai X W J) V)),O]
end
inductive DY(P:ZE)(w:ZW)(K:Zm)(mg:ay->ψ aA)(lvl:Nat)(c m:ay)(g:θ aM->aL->ψ (aM×aL)):Prop
 |mk(C L:az)(J:aap)(pg:θ ay)(h1:l9 K c C)(h2:uV K C m L)(O:Binds K J pg [])(U:∀base,gi P w K mg base CX0 lvl L J pg^spF P w K g):DY P w K mg lvl c m g
def Im{h:au}(X:K.In h){C:az}(x:lB K C):lD K C C=ah:=by let(f,i,j,W,k,J,V,sub,g,U,dd,c,b,k2,a,Z,Y,e,d,O,T,L):=x.obj X;unfold lD;refine rwe L ?_;simp
section
variable{P:ZE}{w:ZW}{K:Zm}{h:au}{mg:ay->ψ aA}{D:az}{xs:θ (ay×az)}
def Ak{rn:θ ay}{T TX:bq->ψ aQ}{G:ay->ψ aM}(X:K.In h)(z:h.Ns ZL mg)(XT:Txt P w K mg T G)(y:xT rn K mg TX)(ex:eX K^.exc D xs=eY w^.exc D xs)(l:xs.map (·.1)=rn)
{k j:Nat}{fn:aQ}{c cn:ay}{C:az}{m x R:ay}{f:az}{i p2 g hp S:Pos}(s:eX K^.cls c C=eY w^.cls c C)(e:eX K^.me C m x R f st=eY w^.me C m x R f st)(V:rn.contains cn=ah)
(o:dg st=[.Try (yy^dg st) [.ExceptHandler (aa^.Name cn i) af [.Return (aa^.Constant .none j p2) g] hp] [] [] S])
(p:gE (cV st) fn.ns [] fn.body^yy^dg st)(U:dJ (cV st) cn=ah)
(r:CSs (cV st) fn.ns fn.body^yy^dg st:=by repeat' (first|rfl|constructor|decide +kernel))(s3:dY fn.ns fn.ps^cV st:=by constructor<;>first|rfl|decide +kernel)
(n:BdT x R st fn:=by intro _ _ _ _ _ _ us O;first|(let(b,a,rfl):=Ie O;rfl)|(let(b,a,v,rfl):=Ig O;rfl)|(let(b,a,v,N,rfl):=Ih O;rfl))
(tg:nL fn.ns=ah:=by decide +kernel)(L:dI cn=ah:=by decide +kernel):
 DY P w K mg (2*(k+1)) c m^qC (aO T G k) (BT.fJ T TX G k) (BT.dk T) G fn cn:=by
 refine jk (yz ex l) λd B A=>(dU (d _ V) λQ Y W I=>?_);simp![eX,eY,Ov.fn.injEq]at e;refine uxA e λe1 e2=>?_;let(H,F,kV,t,E,M,u,ct,rfl):=mR e2;have J:meB K C m f=ah:=by
  cases q:meB K C m f with
  |true=>rfl|false=>replace e1:=q ▸ e1;exact bH e1
 simp![meB,Zp,bN]at J;exact#[C,f,_,_,(mT s),#[J.1,J.2,F.kp],F.binds n,λZ=>(GT XT y Y W (Im X W) F s3 o r p (pQ tg) U L (aai X z Y) W)]
def DZ{T:bq->ψ aQ}{G:ay->ψ aM}(X:K.In h)(r:h.Ns ZL mg)(XT:Txt P w K mg T G){k:Nat}{fn:aQ}{c:ay}{C:az}{m x t:ay}{f:az}(b:eX K^.cls c C=eY w^.cls c C)(e:eX K^.me C m x t f st=eY w^.me C m x t f st)(u:CkB x t st fn)
{O L:ay}{g:θ aM->aL->ψ (aM×aL)}(V:¬("__init__":ay)=L)(M:DY P w K mg (2*k) O L g)(v:nL fn.ns=ah:=by decide +kernel):DY P w K mg (2*(k+1)) c m^lE (i6 O L g^aO T G k) G fn:=by
 let(s,l,n,pg,a,Z,Y,W):=M;simp![eX,eY,Ov.fn.injEq]at e;refine uxA e λe1 e2=>?_;let(o,F,kV,d,j,p,i,y,rfl):=mR e2;have J:meB K C m f=ah:=by
  cases q:meB K C m f with
  |true=>rfl|false=>replace e1:=q ▸ e1;exact bH e1
 simp![meB,Zp,bN]at J;exact#[C,f,_,_,(mT b),#[J.1,J.2,F.kp],F.binds u.bd,λU=>(DA XT k F u.sc u.ck (qt v) V a Z Y^W _)]
end
section
variable{P:ZE}{w:ZW}{K:Zm}{h:au}{mg:ay->ψ aA}{D:az}{xs:θ (ay×az)}
def D3{rn:θ ay}{T TX:bq->ψ aQ}{G:ay->ψ aM}(X:K.In h)(q:h.Ns ZL mg)(XT:Txt P w K mg T G)(YT:xT rn K mg TX)(e:eX K^.exc D xs=eY w^.exc D xs)(Q:xs.map (·.1)=tw)
{k i:Nat}{fn J:aQ}{n rn L:ay}{f s:az}{str:ade}{I p2 H E C hp pos:Pos}(l:eX K^.fn L f st=eY w^.fn L f st)(m:eX K^.fn rn s str=eY w^.fn rn s str)
(hB:dg st=[.Try (yy^dg st) [.ExceptHandler (aa^.Name "TapeError" I) (aa n) [.Return (aa^.Call (.Name rn p2) [.Name n H] [] E) C] hp] [] [] pos])
(h6:gE (cV st) fn.ns [] fn.body^yy^dg st)(hi:fn.ns[i]?=aa n)(b:(cV st).names.lookup n=aa .local)
{v Y:ay}{g:θ aM->aL->ψ (aM×aL)}(R:¬("__init__":ay)=Y)(M:DY P w K mg (2*k) v Y g)
(d:dJ (cV st) "TapeError"=ah)(c:dJ (cV st) rn=ah)(Z:CkB rn rn str J)
(h5:CSs (cV st) fn.ns fn.body^yy^dg st:=by repeat' (first|rfl|constructor|decide +kernel))(s3:dY fn.ns fn.ps^cV st:=by constructor<;>first|rfl|decide +kernel)
(S:BdT L L st fn:=by intro _ _ _ _ _ _ us O;first|(let(p,o,rfl):=Ie O;rfl)|(let(p,o,x,rfl):=Ig O;rfl)|(let(p,o,x,a3,rfl):=Ih O;rfl)|(let(p,o,x,a3,a4,rfl):=LR O;rfl))
(tg:nL fn.ns=ah:=by decide +kernel)(V:dI n=ah:=by decide +kernel)(W:dI rn=ah:=by decide +kernel)(U:nL J.ns=ah:=by decide +kernel)(a:fS J.ns=ai:=by decide +kernel):
 ∃j fd ps,mg L=aa^.ref j/\Z2 K^.ref j=ah/\Binds K fd ps []/\∀base,gi P w K mg base CX0 (2*(k+1)) j fd ps^spF P w K^sD (i6 v Y g^aO T G k) (BT.fJ T TX G k) (BT.dk T) G fn J:=by
 refine jk (LS e Q) λA z y=>?_;let(C1,ga,fg,pg,g1,g2,g3,g4):=M;simp![eX,eY,Ov.fn.injEq]at l m;let(fd,F,kV,doc,pm,an,cdv,ct,rfl):=mR l.2;let(fdr,r,N,t,B,anr,u,ctr,rfl):=mR m.2;exact(ig f _ _ (aai X q^mS l.1) F.kp (F.binds S) (λbase=>(DB XT YT A F s3 hB h5 h6 (pQ tg) hi b V d ∅ (aai X q y) z c W (aai X q^mS m.1) r.kp (r.binds Z.bd) (Pn XT.blt r Z.sc Z.ck a^pQ U) R g1 g2 g3^g4 _)))
end
end BG
end
section
namespace BL
open PySem PySem.Spec PyProof.Rows L2 BS BF BG
def Yi:CkB "is_whole" "is_whole" (top 12) BT.i9:={}
def Yj:CkB "is_name" "is_name" (top 13) BT.iQ:={}
def Yk:CkB "is_cell" "is_cell" (top 14) BT.jP:={}
def Yl:CkB "inner_sums" "inner_sums" (top 15) BT.gO:={}
def Ym:CkB "begun" "begun" (top 24) BT.pF:={}
def U9:CkB "check_thing" "check_thing" (top 25) BT.gA:={}
def Va:CkB "worth_in" "worth_in" (top 26) BT.i7:={}
def Yn:CkB "laid_out" "laid_out" (top 27) BT.ko:={}
def Yo:CkB "of_two" "of_two" (top 28) BT.ni:={}
def Yp:CkB "worth_of" "worth_of" (top 29) BT.gw:={}
def Yq:CkB "reckoned" "reckoned" (top 30) BT.kq:={}
def Yr:CkB "cell_by" "cell_by" (top 31) BT.lF:={}
def Ys:CkB "is_over" "is_over" (top 32) BT.jL:={}
def Yt:CkB "place_behind" "place_behind" (top 33) BT.gU:={}
def Yu:CkB "with_worth" "with_worth" (top 34) BT.iT:={}
def Yv:CkB "with_name" "with_name" (top 35) BT.jo:={}
def Yw:CkB "with_thing" "with_thing" (top 36) BT.gP:={}
def Yx:CkB "brought" "brought" (top 37) BT.jM:={}
def Yy:CkB "stepped" "stepped" (top 38) BT.lG:={}
def Yz:CkB "_law_cell" "_law_cell" (top 46) BT.i8:={}
def YA:CkB "_law_drawn" "_law_drawn" (top 47) BT.jq:={}
def YB:CkB "_law_sum" "_law_sum" (top 48) BT.gX:={}
def YC:CkB "_law_row" "_law_row" (top 49) BT.lH:={}
def YD:CkB "_law_program" "_law_program" (top 50) BT.gy:={}
def YE:CkB "_law_asked" "_law_asked" (top 51) BT.jr:={}
def YF:CkB "_law_thing" "_law_thing" (top 52) BT.gF:={}
def YG:CkB "_law_of" "_law_of" (top 53) BT.nu:={}
def YH:CkB "_law_tree" "_law_tree" (top 54) BT.kD:={}
def YI:CkB "_law_all" "_law_all" (top 55) BT.lK:={}
def Vb:CkB "_law_refused" "_law_refused" (top 56) BT.fm:={}
def YJ:CkB "law" "law" (top 58) BT.jU:={}
def Qq:CkB "__init__" "Tape.__init__" (dR 41 0) BT.jt:={}
def Qs:CkB "at" "Tape.at" (dR 41 1) BT.lI:={}
def Qt:CkB "end" "Tape.end" (dR 41 2) BT.kC:={}
def LU:CkB "behind" "Tape.behind" (dR 41 10) BT.iC:={}
def LV:CkB "is_last" "Tape.is_last" (dR 41 11) BT.fX:={}
def LW:CkB "keep" "Tape.keep" (dR 41 12) BT.iE:={}
def LY:CkB "reach" "Tape.reach" (dR 41 13) BT.iU:={}
def LZ:CkB "has" "Tape.has" (dR 41 14) BT.ja:={}
def Ma:CkB "check" "Tape.check" (dR 41 15) BT.iV:={}
def Qu:CkB "__init__" "Branch.__init__" (dR 43 0) BT.iG:={}
def Qv:CkB "__init__" "Tree.__init__" (dR 44 0) BT.jv:={}
def Qw:CkB "part" "Tree.part" (dR 44 1) BT.jw:={}
def Qx:CkB "at" "Tree.at" (dR 44 2) BT.lJ:={}
def Qz:CkB "end" "Tree.end" (dR 44 3) BT.fU:={}
def QA:CkB "parent" "Tree.parent" (dR 44 4) BT.fk:={}
def QB:CkB "path" "Tree.path" (dR 44 5) BT.fB:={}
def QC:CkB "children" "Tree.children" (dR 44 6) BT.fc:={}
def QD:CkB "shared" "Tree.shared" (dR 44 7) BT.jS:={}
def QE:CkB "ends_with" "Tree.ends_with" (dR 44 9) BT.eV:={}
def Mb:CkB "check_run" "Tree.check_run" (dR 44 10) BT.gf:={}
def Mc:CkB "first" "Tree.first" (dR 44 11) BT.gQ:={}
def Mf:CkB "holder" "Tree.holder" (dR 44 12) BT.gB:={}
def tab:θ (bq×aQ):=[(.f "is_whole",BT.i9),(.f "is_name",BT.iQ),(.f "is_cell",BT.jP),(.f "inner_sums",BT.gO),(.f "begun",BT.pF),(.f "check_thing",BT.gA),(.f "worth_in",BT.i7),(.f "laid_out",BT.ko),(.f "of_two",BT.ni),(.f "worth_of",BT.gw),(.f "reckoned",BT.kq),(.f "cell_by",BT.lF),(.f "is_over",BT.jL),(.f "place_behind",BT.gU),(.f "with_worth",BT.iT),(.f "with_name",BT.jo),(.f "with_thing",BT.gP),(.f "brought",BT.jM),(.f "stepped",BT.lG),(.f "_law_cell",BT.i8),(.f "_law_drawn",BT.jq),(.f "_law_sum",BT.gX),(.f "_law_row",BT.lH),(.f "_law_program",BT.gy),(.f "_law_asked",BT.jr),(.f "_law_thing",BT.gF),(.f "_law_of",BT.nu),(.f "_law_tree",BT.kD),(.f "_law_all",BT.lK),(.f "_law_refused",BT.fm),(.f "law",BT.jU),(.m "Tape" "__init__",BT.jt),(.m "Branch" "at",BT.lI),(.m "Branch" "end",BT.kC),(.m "Branch" "behind",BT.iC),(.m "Branch" "is_last",BT.fX),(.m "Branch" "keep",BT.iE),(.m "Branch" "reach",BT.iU),(.m "Branch" "has",BT.ja),(.m "Branch" "check",BT.iV),(.m "Branch" "__init__",BT.iG),(.m "Tree" "__init__",BT.jv),(.m "Tree" "part",BT.jw),(.m "Tree" "at",BT.lJ),(.m "Tree" "end",BT.fU),(.m "Tree" "parent",BT.fk),(.m "Tree" "path",BT.fB),(.m "Tree" "children",BT.fc),(.m "Tree" "shared",BT.jS),(.m "Tree" "ends_with",BT.eV),(.m "Tree" "check_run",BT.gf),(.m "Tree" "first",BT.gQ),(.m "Tree" "holder",BT.gB)]
def aD:θ (ay×aM):=[("CELL_COUNT",.p^ω 4),("WORTH_COUNT",.p^ω 10007),("ROW",.p^ω 0),("NAMES",.p^ω 1),("CELLS",.p^ω 2),("CALLS",.p^ω 3),("ASKED",.p^ω 4),("SAID",.p^ω 5),("MOST_CALLS",.p^ω 6),("MOST_MARKS",.p^ω 8),("LETTERS",.p^.aB^(["a","b","c","d","e","f"]:θ ay).map aN.str),("INNER_COUNTS",.k^.t (([("num",0),("name",0),("cell",1),("add",2),("sub",2),("mul",2),("less",2)]:θ (ay×Int)).map λq=>(q.1,aN.int q.2)))]
@[reducible]noncomputable def T:bq->ψ aQ:=look tab
@[reducible]noncomputable def G:ay->ψ aM:=look aD
def Mg:θ (bq×aQ):=[(.m "Tree" "check_run",BT.jx),(.m "Tree" "at",BT.gC),(.m "Tree" "end",(BT.fxc BT.fU)),(.m "Tree" "parent",(BT.fxc BT.fk)),(.m "Tree" "path",(BT.fxc BT.fB)),(.m "Tree" "children",(BT.fxc BT.fc)),(.m "Tree" "part",BT.jy),(.f "check_thing",BT.iI),(.m "Tree" "shared",BT.iJ),(.m "Tree" "apart",BT.iW),(.m "Tree" "ends_with",BT.eV),(.f "worth_in",BT.kE)]
@[reducible]noncomputable def TX:bq->ψ aQ:=look Mg
def prg:BT.Prg T G:=#[rfl,rfl,rfl,rfl,rfl,rfl,rfl,rfl,rfl,rfl,rfl,rfl,rfl,rfl,rfl,rfl,rfl,rfl,rfl,rfl,rfl,rfl,rfl,rfl,rfl,rfl]
def tpp:BT.TpP "Branch" T G:=#[prg,rfl,rfl,rfl,rfl,rfl,rfl,rfl,rfl,rfl]
def trp:BT.TrP T G:=#[tpp,#[rfl],rfl,rfl,rfl,rfl,rfl,rfl,rfl,rfl,rfl,#[rfl,rfl],#[rfl]]
def lw3:BT.Lu T TX:=#[#[#[rfl,rfl,rfl,rfl,rfl],rfl,rfl,rfl],rfl,#[rfl,rfl,rfl],#[rfl],rfl]
def lws:BT.lT T TX:=#[lw3,rfl,rfl,#[rfl],#[#[rfl,rfl,rfl,rfl,rfl,rfl,rfl,rfl],rfl,rfl,rfl,rfl]]
def run(a:θ Int)(h:a.length<=1000):∃b,lE (pC "_law_told" (BT.mP T TX G 25)^aO T G 40) G BT.jU [.p^.aj^BT.cW a] []=aa (.p^.bl ah,b) :=
 BT.DV (k:=25) (F:=pC "_law_told" (BT.mP T TX G 25)^aO T G 40) trp lws #[λ_ _=>rfl,λy J=>Br J,xU] a h
def Vc(w:ZW)(K:Zm)(J:∀q∈qys,eX K q=eY w q):Qp K tl:=by
 refine#[λz L=>?_,λp O=>?_]
 ·simp![BT.j7,ab7,aba,or_false]at L;rcases L with rfl|rfl|rfl|rfl|rfl|rfl|rfl|rfl|rfl|rfl|rfl|rfl|rfl|rfl|rfl
  exact .inr^fF (w:=w)^hn J 64 rfl;exact .inr^fF (w:=w)^hn J 65 rfl;exact .inr^fF (w:=w)^hn J 66 rfl;exact .inr^fF (w:=w)^hn J 67 rfl;exact .inr^fF (w:=w)^hn J 68 rfl;exact .inr^fF (w:=w)^hn J 69 rfl;exact .inr^fF (w:=w)^hn J 70 rfl;exact .inr^fF (w:=w)^hn J 71 rfl;exact .inr^fF (w:=w)^hn J 72 rfl;exact .inr^fF (w:=w)^hn J 73 rfl;exact .inr^fF (w:=w)^hn J 74 rfl;exact .inr^fF (w:=w)^hn J 75 rfl;exact .inr^fF (w:=w)^hn J 76 rfl;exact .inr^fF (w:=w)^hn J 77 rfl;exact .inr^fF (w:=w)^hn J 78 rfl
 simp[tl]at O
def txt(P:ZE)(w:ZW)(b:ay->ψ aA)(K:Zm)(h:au)(X:K.In h)(O:h.Ns ZL b)(J:∀q∈qys,eX K q=eY w q):Txt P w K b T G:=by have V:=Vc w K J;have all:∀p∈tab,yw K b p:=c6 (dd0 X O (hn J 0 rfl) Yi) <|c6 (dd0 X O (hn J 1 rfl) Yj) <|c6 (dd0 X O (hn J 2 rfl) Yk) <|c6 (dd0 X O (hn J 3 rfl) Yl) <|c6 (dd0 X O (hn J 4 rfl) Ym) <|c6 (dd0 X O (hn J 5 rfl) U9) <|c6 (dd0 X O (hn J 6 rfl) Va) <|c6 (dd0 X O (hn J 7 rfl) Yn) <|c6 (dd0 X O (hn J 8 rfl) Yo) <|c6 (dd0 X O (hn J 9 rfl) Yp) <|c6 (dd0 X O (hn J 10 rfl) Yq) <|c6 (dd0 X O (hn J 11 rfl) Yr) <|c6 (dd0 X O (hn J 12 rfl) Ys) <|c6 (dd0 X O (hn J 13 rfl) Yt) <|c6 (dd0 X O (hn J 14 rfl) Yu) <|c6 (dd0 X O (hn J 15 rfl) Yv) <|c6 (dd0 X O (hn J 16 rfl) Yw) <|c6 (dd0 X O (hn J 17 rfl) Yx) <|c6 (dd0 X O (hn J 18 rfl) Yy) <|c6 (dd0 X O (hn J 19 rfl) Yz) <|c6 (dd0 X O (hn J 20 rfl) YA) <|c6 (dd0 X O (hn J 21 rfl) YB) <|c6 (dd0 X O (hn J 22 rfl) YC) <|c6 (dd0 X O (hn J 23 rfl) YD) <|c6 (dd0 X O (hn J 24 rfl) YE) <|c6 (dd0 X O (hn J 25 rfl) YF) <|c6 (dd0 X O (hn J 26 rfl) YG) <|c6 (dd0 X O (hn J 27 rfl) YH) <|c6 (dd0 X O (hn J 28 rfl) YI) <|c6 (dd0 X O (hn J 29 rfl) Vb) <|c6 (dd0 X O (hn J 30 rfl) YJ) <|c6 (dm0 X O (hn J 79 rfl) (hn J 80 rfl) (hn J 85 rfl) Qq) <|c6 (dm0 X O (hn J 81 rfl) (hn J 82 rfl) (hn J 86 rfl) Qs) <|c6 (dm0 X O (hn J 81 rfl) (hn J 82 rfl) (hn J 87 rfl) Qt) <|c6 (dm0 X O (hn J 81 rfl) (hn J 82 rfl) (hn J 88 rfl) LU) <|c6 (dm0 X O (hn J 81 rfl) (hn J 82 rfl) (hn J 89 rfl) LV) <|c6 (dm0 X O (hn J 81 rfl) (hn J 82 rfl) (hn J 90 rfl) LW) <|c6 (dm0 X O (hn J 81 rfl) (hn J 82 rfl) (hn J 91 rfl) LY) <|c6 (dm0 X O (hn J 81 rfl) (hn J 82 rfl) (hn J 92 rfl) LZ) <|c6 (dm0 X O (hn J 81 rfl) (hn J 82 rfl) (hn J 93 rfl) Ma) <|c6 (dm0 X O (hn J 81 rfl) (hn J 82 rfl) (hn J 94 rfl) Qu) <|c6 (dm0 X O (hn J 83 rfl) (hn J 84 rfl) (hn J 95 rfl) Qv) <|c6 (dm0 X O (hn J 83 rfl) (hn J 84 rfl) (hn J 96 rfl) Qw) <|c6 (dm0 X O (hn J 83 rfl) (hn J 84 rfl) (hn J 97 rfl) Qx) <|c6 (dm0 X O (hn J 83 rfl) (hn J 84 rfl) (hn J 98 rfl) Qz) <|c6 (dm0 X O (hn J 83 rfl) (hn J 84 rfl) (hn J 99 rfl) QA) <|c6 (dm0 X O (hn J 83 rfl) (hn J 84 rfl) (hn J 100 rfl) QB) <|c6 (dm0 X O (hn J 83 rfl) (hn J 84 rfl) (hn J 101 rfl) QC) <|c6 (dm0 X O (hn J 83 rfl) (hn J 84 rfl) (hn J 102 rfl) QD) <|c6 (dm0 X O (hn J 83 rfl) (hn J 84 rfl) (hn J 103 rfl) QE) <|c6 (dm0 X O (hn J 83 rfl) (hn J 84 rfl) (hn J 104 rfl) Mb) <|c6 (dm0 X O (hn J 83 rfl) (hn J 84 rfl) (hn J 105 rfl) Mc) <|c6 (dm0 X O (hn J 83 rfl) (hn J 84 rfl) (hn J 106 rfl) Mf) <|B9;refine#[λx a e=>?_,λc m a e=>?_,λL a e=>?_,λx z e=>?_,?_];exact jV (Q:=λk a=>∀x,k=.f x->Def K b x a) (l:=tab) (λp U=>(all p U).1) e x rfl;exact jV (Q:=λk a=>∀c m,k=.m c m->GG K b c m a) (l:=tab) (λp U=>(all p U).2.1) e c m rfl;exact jV (Q:=λk a=>∀L,k=.l L->False) (l:=tab) (λp U=>(all p U).2.2) e L rfl;exact jV (Q:=λx z=>Ah P w K b x z) (l:=aD) (c6 (gS X O^hn J 31 rfl) <|c6 (gS X O^hn J 32 rfl) <|c6 (gS X O^hn J 33 rfl) <|c6 (gS X O^hn J 34 rfl) <|c6 (gS X O^hn J 35 rfl) <|c6 (gS X O^hn J 36 rfl) <|c6 (gS X O^hn J 37 rfl) <|c6 (gS X O^hn J 38 rfl) <|c6 (gS X O^hn J 39 rfl) <|c6 (gS X O^hn J 40 rfl) <|c6 (Ib X O (hn J 41 rfl) ∅^by decide +kernel) <|c6 (Ic X O (hn J 42 rfl) ∅^by decide +kernel) <|B9) e;exact c6 (none_of X O^hn J 43 rfl) <|c6 (none_of X O^hn J 44 rfl) <|c6 (none_of X O^hn J 45 rfl) <|c6 (none_of X O^hn J 46 rfl) <|c6 (none_of X O^hn J 47 rfl) <|c6 (none_of X O^hn J 48 rfl) <|c6 (none_of X O^hn J 49 rfl) <|c6 (none_of X O^hn J 50 rfl) <|c6 (none_of X O^hn J 51 rfl) <|c6 (none_of X O^hn J 52 rfl) <|c6 (none_of X O^hn J 53 rfl) <|c6 (none_of X O^hn J 54 rfl) <|c6 (none_of X O^hn J 55 rfl) <|c6 (none_of X O^hn J 56 rfl) <|c6 (none_of X O^hn J 57 rfl) <|c6 (none_of X O^hn J 58 rfl) <|c6 (none_of X O^hn J 59 rfl) <|c6 (none_of X O^hn J 60 rfl) <|c6 (none_of X O^hn J 61 rfl) <|c6 (none_of X O^hn J 62 rfl) <|c6 (none_of X O^hn J 63 rfl) <|B9
@[reducible]noncomputable def rn:θ ay:=(["NoMoment","NoRun","NoThing","NoText"]:θ ay)
def cxT:gE (cV^top 57) BT.fj.ns [] BT.fj.body^yy^dg^top 57:=.cons ce (.v rfl ce (.one^.ret^.aE rfl rfl ∅ ce ce) .nil)^.one^.ret^.ite rfl ce (.aE rfl rfl ∅ ce ce)^.aE rfl rfl ∅ ce ce
def Mh:gE (cV^dR 44 10) BT.jx.ns rn BT.jx.body^dg^dR 44 10:=.one^.v rfl ce (.one^.rai rfl rfl rfl rfl (by decide +kernel) ce) .nil
def QF:gE (cV^dR 44 2) BT.gC.ns rn BT.gC.body^dg^dR 44 2:=.cons ce (.ex rfl^.aE rfl rfl ∅ ce ce)^.cons ce (.setx rfl^.aE rfl rfl ∅ ce ce)^.cons ce (.set rfl)^.cons ce (.setx rfl^.bin^.no rfl)^.cons ce (.v rfl ce (.one^.rai2 rfl rfl rfl rfl (by decide +kernel) (by decide +kernel) ce ce) .nil) .bads
def QG:gE (cV^dR 44 3) (BT.fxc BT.fU).ns rn (BT.fxc BT.fU).body^dg^dR 44 3:=.cons ce (.ex rfl^.aE rfl rfl ∅ ce ce) .bads
def QH:gE (cV^dR 44 4) (BT.fxc BT.fk).ns rn (BT.fxc BT.fk).body^dg^dR 44 4:=.cons ce (.ex rfl^.aE rfl rfl ∅ ce ce) .bads
def QI:gE (cV^dR 44 5) (BT.fxc BT.fB).ns rn (BT.fxc BT.fB).body^dg^dR 44 5:=.cons ce (.ex rfl^.aE rfl rfl ∅ ce ce) .bads
def QJ:gE (cV^dR 44 6) (BT.fxc BT.fc).ns rn (BT.fxc BT.fc).body^dg^dR 44 6:=.cons ce (.ex rfl^.aE rfl rfl ∅ ce ce) .bads
def QK:gE (cV^dR 44 1) BT.jy.ns rn BT.jy.body^dg^dR 44 1:=.cons ce (.setx rfl^.aE rfl rfl ∅ ce ce)^.cons ce (.ex rfl^.call rfl (by decide +kernel) ce^.cons rfl ce (.no rfl) .nil) .bads
def YK:gE (cV^top 25) BT.iI.ns rn BT.iI.body^dg^top 25:=.one^.v rfl ce (.one^.rai rfl rfl rfl rfl (by decide +kernel) ce) .nil
def QL:gE (cV^dR 44 7) BT.iJ.ns rn BT.iJ.body^dg^dR 44 7:=.one^.setx rfl^.bin2 ce (.aE rfl rfl ∅ ce ce)^.aE rfl rfl ∅ ce ce
def QM:gE (cV^dR 44 8) BT.iW.ns rn BT.iW.body^dg^dR 44 8:=.one^.setcs rfl^.bin2 ce (.aE rfl rfl ∅ ce ce)^.aE rfl rfl ∅ ce ce
def QN:gE (cV^dR 44 9) BT.eV.ns rn BT.eV.body^dg^dR 44 9:=.one^.retg rfl ∅ rfl rfl rfl rfl ce rfl^.call rfl (by decide +kernel) ce^.cons rfl ce (.aE rfl rfl ∅ ce ce)^.cons rfl ce (.no rfl) .nil
def YL:gE (cV^top 26) BT.kE.ns rn BT.kE.body^dg^top 26:=.cons ce (.v rfl ce (.one^.ret^.y^.y^.no rfl) .nil)^.cons ce (.ex rfl^.call rfl (by decide +kernel) ce^.cons rfl ce (.no rfl) .nil) .bads
def ckA:CkB "apart" "Tree.apart" (dR 44 8) BT.gR:={}
def cxF:gE (cV^dR 44 13) BT.dN.ns [] BT.dN.body^yy^dg^dR 44 13:=.one^.ret^.aE rfl rfl ∅ ce ce
def txX(w:ZW)(b:ay->ψ aA)(K:Zm)(h:au)(X:K.In h)(O:h.Ns ZL b)(J:∀q∈qys,eX K q=eY w q):xT rn K b TX:=by have all:∀p∈Mg,(∀x,p.1=.f x->GQ rn K b x p.2)/\∀c m,p.1=.m c m->xS rn K c m p.2:=c6 #[λx e=>(by cases e),λc m e=>(by cases e;exact gT (hn J 83 rfl) (hn J 104 rfl) Mh)] <|c6 #[λx e=>(by cases e),λc m e=>(by cases e;exact gT (hn J 83 rfl) (hn J 97 rfl) QF)] <|c6 #[λx e=>(by cases e),λc m e=>(by cases e;exact gT (hn J 83 rfl) (hn J 98 rfl) QG)] <|c6 #[λx e=>(by cases e),λc m e=>(by cases e;exact gT (hn J 83 rfl) (hn J 99 rfl) QH)] <|c6 #[λx e=>(by cases e),λc m e=>(by cases e;exact gT (hn J 83 rfl) (hn J 100 rfl) QI)] <|c6 #[λx e=>(by cases e),λc m e=>(by cases e;exact gT (hn J 83 rfl) (hn J 101 rfl) QJ)] <|c6 #[λx e=>(by cases e),λc m e=>(by cases e;exact gT (hn J 83 rfl) (hn J 96 rfl) QK)] <|c6 #[λx e=>(by cases e;exact Ca X O (hn J 5 rfl) U9 YK (λ_ _ _=>qt dk)),λc m e=>(by cases e)] <|c6 #[λx e=>(by cases e),λc m e=>(by cases e;exact gT (hn J 83 rfl) (hn J 102 rfl) QL)] <|c6 #[λx e=>(by cases e),λc m e=>(by cases e;exact gT (hn J 83 rfl) (hn J 110 rfl) QM)] <|c6 #[λx e=>(by cases e),λc m e=>(by cases e;exact gT (hn J 83 rfl) (hn J 103 rfl) QN)] <|c6 #[λx e=>(by cases e;exact Ca X O (hn J 6 rfl) Va YL (λ_ _ _=>qt dk)),λc m e=>(by cases e)] <|B9;refine Il X O (hn J 108 rfl) rfl (λx a e=>?_) (λc m a e=>?_);exact jV (Q:=λk a=>∀x,k=.f x->GQ rn K b x a) (l:=Mg) (λp L=>(all p L).1) e x rfl;exact jV (Q:=λk a=>∀c m,k=.m c m->xS rn K c m a) (l:=Mg) (λp L=>(all p L).2) e c m rfl
def apt(P:ZE)(w:ZW)(a:ay->ψ aA)(K:Zm)(h:au)(X:K.In h)(L:h.Ns ZL a)(J:∀q∈qys,eX K q=eY w q):DY P w K a (2*39) "Tree" "apart"^BT.aR T TX G 25 :=
 DZ (k:=38) X L (txt P w a K h X L J) (hn J 83 rfl) (hn J 110 rfl) ckA ∅^Ak (k:=37) (fn:=BT.dN) (cn:="NoMoment") X L (txt P w a K h X L J) (txX w a K h X L J) (hn J 108 rfl) rfl (hn J 83 rfl) (hn J 109 rfl) rfl rfl cxF rfl
def tld(P:ZE)(w:ZW)(a:ay->ψ aA)(K:Zm)(h:au)(X:K.In h)(L:h.Ns ZL a)(J:∀q∈qys,eX K q=eY w q):
 ∃O d c,a "_law_told"=aa^.ref O/\Z2 K^.ref O=ah/\Binds K d c []/\∀b,gi P w K a b CX0 (2*40) O d c^spF P w K^BT.mP T TX G 25 :=
 D3 (k:=39) (i:=4) X L (txt P w a K h X L J) (txX w a K h X L J) (hn J 108 rfl) rfl (hn J 107 rfl) (hn J 29 rfl) rfl cxT rfl rfl ∅ (apt P w a K h X L J) rfl rfl Vb
@[reducible]noncomputable def lw:DefRec:=#["law",g9^top 58,dg^top 58,cV^top 58,Wl^top 58]
def df:PySem.W.defOf qg "law"=aa (lw,[]):=by kernel_rfl
def th:pg.theDef "law"=aa (lw.params,lw.body,lw.scope):=by kernel_rfl
def walk:PySem.W.WalkO qg loo (PySem.W.XL qg []) (sees adr qys tas).says PySem.Challenge.rw_backtape_k62_apart.row.toRowW lw [] (λf vs=>afz f vs) :=
 Ik (l:=PySem.Challenge.rw_backtape_k62_apart) (n:=63) (k:=40) (x:="_law_script") (d:=lw) (T:=T) (G:=G) (ts:=tas) (fn:=BT.jU) rfl ∅ rfl #[rfl,∅,∅] rfl rfl (tl:=tl) rfl (by decide +kernel) Vc txt tld λJ L=>run J ()
end BL
open PySem PySem.W PyProof.Rows
set_option maxRecDepth 100000 in
set_option maxHeartbeats 0 in
theorem PySem.Challenge.cw_backtape_k62_apart_holds : PySem.Challenge.rw_backtape_k62_apart.Holds := by
 w_on;refine PySem.W.holds_law (by decide +kernel) λsaid=>?_
 refine PySem.W.holds_open (q:=BL.qg) (loose:=BL.loo) (XP:=XL BL.qg []) (YP:=(BG.sees BL.adr BL.qys BL.tas).says) (d:=BL.lw) (kwd:=[]) BL.left (BG.sees BL.adr BL.qys BL.tas).of (BG.sees BL.adr BL.qys BL.tas).keeps (λs e=>xl_of s (Bool.and_eq_true_iff.mp e).1) XL.keeps BL.df BL.th (by kernel_rfl) (λs e=>recFacts_of (Bool.and_eq_true_iff.mp e).2) rfl (by first|assumption|decide +kernel) (by decide +kernel) ⟨rfl,rfl,rfl,rfl,rfl,by decide +kernel⟩ ?hw BL.walk
 (case hw=>w_witness2)
#print axioms PySem.Challenge.cw_backtape_k62_apart_holds
end
end

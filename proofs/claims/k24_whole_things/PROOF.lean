import PyProof.Rows.All
import Wide.All
import OpenK.AllK
import Wide.FinOn
import PyProof.EqAt
import PyProof.EqKinds
import PyProof.TupleCall
import Open.Tree
import Wide.Once
import KE.KLam
import KE.KNestM
import PySem.Syntax
import PySem.Builtin.Str.Common
import PyProof.SliceList
import PyProof.NeData
import PyProof.ZipIter
import KE.KRevIter
import KE.KItemsList
import PyProof.Rows.SetFrom
import PyProof.ListRange
import PyProof.CompFree
import PyProof.PlainList
import Lean
import PySem.Challenge.RW_backtape_k24_whole_things
set_option autoImplicit false
set_option Elab.async false
set_option linter.all false
set_option maxRecDepth 100000
set_option maxHeartbeats 8000000
set_option genSizeOf false
noncomputable section
section
namespace L2
open PySem PySem.Spec PyProof.Rows
def c9 (s:Stmt):Arguments:=match s with
 | .FunctionDef _ a _ _ _ _ _ _ _ _=>a
 | _=>{ posonlyargs:=[],args:=[],vararg:=none,kwonlyargs:=[],kw_defaults:=[],kwarg:=none,defaults:=[] }
def ah (s:Stmt):List Stmt:=match s with
 | .FunctionDef _ _ b _ _ _ _ _ _ _=>b
 | _=>[]
def aa (s:Stmt):Scope:=match s with
 | .FunctionDef _ _ _ _ _ _ sc _ _ _=>sc
 | _=>{ kind:=.function,names:=[],isGenerator:=false,isCoroutine:=false }
end L2
end
section
namespace BR
open PySem PySem.W PyProof.Rows
noncomputable def n5:List Obj->BT->Nat->Option (BT×Nat)
 | [],T,n=>some (T,n)
 | o :: r,T,n=>match ((T.ins n o).get n).isSome with
  | true=>n5 r (T.ins n o) (n+1)
  | false=>none
theorem lQ (life:Life):∀ {l:List Obj}{T T':BT}{n n':Nat},n5 l T n=some (T',n')->(absHeap T' n' life).objs.toList=(absHeap T n life).objs.toList++l
 | [],T,T',n,n',h=>by cases h;simp
 | o :: r,T,T',n,n',h=>by
  unfold n5 at h
  cases g:((T.ins n o).get n).isSome with
  | false=>rw[g] at h;cases h
  | true =>
   rw[g] at h
   rw[lQ life h,absHeap_ins g]
   show ((absHeap T n life).objs.push o).toList++r=_
   simp
noncomputable def toT (s:Shared):Option SharedT:=match n5 s.heap.objs.toList .nil 0 with
 | some (T,n)=>some ⟨T,n,s.heap.life,s.gens,s.drawn,s.toks,s.os⟩
 | none=>none
theorem yu {s:Shared}{t:SharedT} (h:toT s=some t):t.abs=s:=by
 unfold toT at h
 cases e:n5 s.heap.objs.toList .nil 0 with
 | none=>rw[e] at h;cases h
 | some r =>
  obtain ⟨T,n⟩:=r
  rw[e] at h
  cases h
  have:=lQ s.heap.life e
  obtain ⟨⟨objs,life⟩,g,d,k,o⟩:=s
  show Shared.mk (absHeap T n life) g d k o=Shared.mk ⟨objs,life⟩ g d k o
  have e2:(absHeap T n life).objs.toList=objs.toList:=by
   rw[this];simp[absHeap,BT.list]
  have e3:(absHeap T n life).objs=objs:=Array.toList_inj.mp e2
  have e4:absHeap T n life=⟨objs,life⟩:=by
   show Heap.mk _ _=Heap.mk _ _
   exact congrArg (Heap.mk · life) e3
  rw[e4]
noncomputable def jV (tb:String->Option Builtin) (p:Program) (w:World) (n₀:Nat) (ann:Option Value):Nat->SharedT->Thread->Option SharedT
 | 0,_,_=>none
 | n+1,s,t=>match through t with
  | true=>some s
  | false=>match stepOk n₀ ann t with
   | false=>none
   | true=>match stepT (denote tb) p w s t with
    | some (s',t')=>jV tb p w n₀ ann n s' t'
    | none=>none
section
variable {tb:String->Option Builtin}{p:Program}{w:World}{n₀:Nat}{ann:Option Value}
theorem lR:∀ {n:Nat}{s s':SharedT}{t:Thread},jV tb p w n₀ ann n s t=some s'->topRun tb p w n₀ ann n s.abs t=some s'.abs
 | 0,_,_,_,h=>by cases h
 | n+1,s,s',t,h=>by
  unfold jV at h
  unfold topRun
  cases he:through t with
  | true=>rw[he] at h;cases h;rfl
  | false =>
   rw[he] at h
   cases hk:stepOk n₀ ann t with
   | false=>rw[hk] at h;cases h
   | true =>
    rw[hk] at h
    cases hs:stepT (denote tb) p w s t with
    | none=>rw[hs] at h;cases h
    | some r=>obtain ⟨s₂,t₂⟩:=r;rw[hs] at h;dsimp only;rw[stepT_spec hs];exact lR h
end
noncomputable def j7 (tb:String->Option Builtin) (p:Program) (w:World) (N:Nat) (s₀:Shared):Option SharedT :=
 match s₀.heap.isNs mainGlobals&&s₀.gens.size==0 with
 | true=>(toT s₀).bind fun t₀=>(jV tb p w s₀.heap.objs.size (s₀.heap.nsMap mainGlobals "__annotations__") N t₀ (topStub p)).bind fun t₁ =>
  match staticsOk (importedModules p.main.body) s₀.heap t₁.abs.heap&&namesBound p t₁.abs.heap&&gensDone t₁.abs&&laidKept s₀.heap t₁.abs.heap with
   | true=>some t₁
   | false=>none
 | false=>none
theorem p8 {tb:String->Option Builtin}{p:Program}{w:World}{N:Nat}{s₀:Shared}{t:SharedT} (h:j7 tb p w N s₀=some t):topFrom tb p w N s₀=some t.abs:=by
 unfold j7 at h
 unfold topFrom
 cases e:(s₀.heap.isNs mainGlobals&&s₀.gens.size==0) with
 | false=>rw[e] at h;cases h
 | true =>
  rw[e] at h
  obtain ⟨t₀,h0,h⟩:=Option.bind_eq_some_iff.mp h
  obtain ⟨t₁,h1,h⟩:=Option.bind_eq_some_iff.mp h
  have h2:=lR h1
  rw[yu h0] at h2
  dsimp only
  rw[h2]
  show (match _ with | true=>some t₁.abs | false=>none)=_
  cases e2:(staticsOk (importedModules p.main.body) s₀.heap t₁.abs.heap&&namesBound p t₁.abs.heap&&gensDone t₁.abs&&laidKept s₀.heap t₁.abs.heap) with
  | false=>rw[e2] at h;cases h
  | true=>rw[e2] at h;cases h;rfl
noncomputable def lS (tb:String->Option Builtin) (p:Program) (w:World) (N:Nat):Option SharedT:=(fencedOpening tb p w N).bind (j7 tb p w N)
theorem yv {tb:String->Option Builtin}{p:Program}{w:World}{N:Nat}{α:Type}{f:Shared->α}{x:α} (h:(lS tb p w N).map (fun t=>f t.abs)=some x):(openEnds tb p w N).map f=some x:=by
 obtain ⟨t,ht,e⟩:=Option.map_eq_some_iff.mp h
 obtain ⟨s₀,h0,h1⟩:=Option.bind_eq_some_iff.mp ht
 unfold openEnds
 rw[h0]
 show (topFrom tb p w N s₀).map f=some x
 rw[p8 h1]
 exact congrArg some e
end BR
end
section
namespace BG
open PySem PySem.Spec PySem.Calls PyProof.Rows L2
structure FS where
 name:Str
 qual:Str
 params:Arguments
 body:FuncBody
 scope:Scope
 globals:Addr
 closure:List (Str×Addr)
 defaults:Value
 builtins:Addr
 code:Bool
noncomputable def yw (K:PySem.W.Frag) (f:Addr):Option FS:=match K.lookup f with
 | some ⟨_,_,.func fd,_⟩=>some ⟨fd.name,fd.qualname,fd.params,fd.body,fd.scope,fd.globals,fd.closure,fd.defaults,fd.builtins,PySem.W.codeIn K fd.code fd.qualname⟩
 | _=>none
noncomputable def qU (x qual:Str) (st:Stmt):FS:=⟨x,qual,c9 st,.stmts (ah st),aa st,mainGlobals,[],.none,builtinsNs,true⟩
noncomputable def strOf:Value->Option Str
 | .str x _=>some x
 | _=>none
noncomputable def intOf:Value->Option Int
 | .int i _=>some i
 | _=>none
noncomputable def refOf:Option (Option Value)->Option Addr
 | some (some (.ref a))=>some a
 | _=>none
inductive Qy where
 | fn (x:Str) (f:Addr) (st:Stmt) | int (x:Str) (n:Int) | tup (x:Str) (f:Addr) (xs:List Str) | dct (x:Str) (f:Addr) (kvs:List (Str×Int)) | no (x:Str) | cls (c:Str) (C:Addr) | me (C:Addr) (m x qual:Str) (f:Addr) (st:Stmt) | mk (C:Addr)
 | tab (x:Str) (c P:Addr) | bm (b:Addr) | fv (x:Str) (f:Addr)
inductive Ov where
 | fn (a:Option Addr) (o:Option FS) | int (n:Option Int) | seq (a:Option Addr) (c:Option (Value×Option Addr×Nat)) (xs:Option (List (Option Str))) | dct (a:Option Addr) (c:Option (Value×Option Addr×Nat)) (xs:Option (List (Int×Option Str×Option Int))) | b (x:Bool)
noncomputable def shp (o:Obj):Value×Option Addr×Nat:=(o.cls,o.dict,o.slots.size)
noncomputable def Bw (o:Obj):Option (List (Option Str)):=match o.data with
 | .seq its _=>some (its.toList.map strOf)
 | _=>none
noncomputable def Bx (o:Obj):Option (List (Int×Option Str×Option Int)):=match o.data with
 | .dict es _=>some (es.toList.map fun e=>(e.hash,strOf e.key,intOf e.val))
 | _=>none
noncomputable def attrs:List Str:=["program","asked","gap","most","kept","farthest","front","now","origins","branches","tape","named"]
noncomputable def Ff (K:PySem.W.Frag) (c:Str) (C:Addr):Bool:=decide (PySem.W.nsIn K mainGlobals c=some (some (.ref C)))&&PySem.W.plainGet K C Str.empty&&PySem.W.hasDictIn K C&&PySem.W.plainOver K C&&decide (PySem.W.findIn K (.ref C) "__setattr__"=some (some (.builtin "object.__setattr__"))) &&
 attrs.all fun f=>decide (PySem.W.findIn K (.ref C) f=some none)
noncomputable def meB (K:PySem.W.Frag) (C:Addr) (m:Str) (f:Addr):Bool:=decide (PySem.W.findIn K (.ref C) m=some (some (.ref f)))&&PySem.W.isFn K (.ref f)
noncomputable def mkB (K:PySem.W.Frag) (C:Addr):Bool:=PySem.W.makesIn K C&&PySem.W.keepIn K (.ref C)
noncomputable def bmB (K:PySem.W.Frag) (b:Addr):Bool:=decide (PySem.W.nsIn K mainGlobals "__builtins__"=some (some (.ref b)))&&decide (b≠builtinsNs)&&(match K.lookup b with
 | some ⟨.type "module",some d,.plain,_⟩=>d==builtinsNs
 | _=>false)
noncomputable def cN (K:PySem.W.Frag):Qy->Ov
 | .fn x f _=>.fn (refOf (PySem.W.nsIn K mainGlobals x)) (yw K f)
 | .int x _=>.int (match PySem.W.nsIn K mainGlobals x with | some (some v)=>intOf v | _=>none)
 | .tup x f _=>.seq (refOf (PySem.W.nsIn K mainGlobals x)) ((K.lookup f).map shp) ((K.lookup f).bind Bw)
 | .dct x f _=>.dct (refOf (PySem.W.nsIn K mainGlobals x)) ((K.lookup f).map shp) ((K.lookup f).bind Bx)
 | .no x=>.b (decide (PySem.W.nsIn K mainGlobals x=some none))
 | .cls c C=>.b (Ff K c C)
 | .me C m _ _ f _=>.fn (if meB K C m f then some f else none) (yw K f)
 | .mk C=>.b (mkB K C)
 | .tab x c P=>.b (decide (PySem.W.tabIn K x=some (c,P))&&PySem.W.codeHdIn K c P)
 | .bm b=>.b (bmB K b)
 | .fv x f=>.b (decide (PySem.W.nsIn K mainGlobals x=some (some (.ref f)))&&PySem.W.keepIn K (.ref f))
noncomputable def cO (w:World):Qy->Ov
 | .fn x f st=>.fn (some f) (some (qU x x st))
 | .int _ n=>.int (some n)
 | .tup _ f xs=>.seq (some f) (some (.type "tuple",none,0)) (some (xs.map some))
 | .dct _ f kvs=>.dct (some f) (some (.type "dict",none,0)) (some (kvs.map fun q=>(PyData.keyHash w.params q.1,some q.1,some q.2)))
 | .no _=>.b true
 | .cls _ _=>.b true
 | .me _ _ x qual f st=>.fn (some f) (some (qU x qual st))
 | .mk _=>.b true
 | .tab _ _ _=>.b true
 | .bm _=>.b true
 | .fv _ _=>.b true
noncomputable def KOf (as:List Addr) (h:Heap):PySem.W.Frag:=as.map fun a=>(a,(h.get? a).getD default)
noncomputable def sees (as:List Addr) (qs:List Qy) (ts:List Addr):PySem.W.Hook where
 α:=Bool×List Ov×List (Option Obj)
 obs:=fun s=>(as.all fun a=>(s.heap.get? a).isSome,qs.map (cN (KOf as s.heap)),ts.map s.heap.get?)
 val:=fun w=>(true,qs.map (cO w),ts.map fun _=>some (PySem.W.tabObj #[]))
 says:=fun w h=>∃ K:PySem.W.Frag,K.map (·.1)=as/\(∀ p∈K,h.get? p.1=some p.2)/\(∀ q∈qs,cN K q=cO w q)/\∀ P∈ts,h.get? P=some (PySem.W.tabObj #[])
 of:=fun w s e=>by
  have e1:=congrArg Prod.fst e
  have e2:=congrArg (fun p=>p.2.1) e
  have e3:=congrArg (fun p=>p.2.2) e
  refine ⟨KOf as s.heap,by simp[KOf,Function.comp_def],fun p hp=>?_,fun q hq=>List.map_inj_left.mp e2 q hq,fun P hP=>List.map_inj_left.mp e3 P hP⟩
  obtain ⟨a,ha,rfl⟩:=List.mem_map.mp hp
  have h1:=List.all_eq_true.mp e1 a ha
  obtain ⟨o,ho⟩:=Option.isSome_iff_exists.mp h1
  show s.heap.get? a=some ((s.heap.get? a).getD default)
  rw[ho];rfl
 keeps:=fun w h h' ⟨K,m,n,k,t⟩ hk=>⟨K,m,fun p hp=>hk _ _ (n p hp),k,fun P hP=>hk _ _ (t P hP)⟩
end BG
end
section
namespace BL
open PySem PySem.Spec PyProof.Rows L2 BG
noncomputable abbrev pg:Program:=PySem.Challenge.pw_backtape_k24_whole_things
noncomputable def qg:Program:=PySem.W.view pg [0,2,3,4,6,7,8,9,10,11,12,13,15,16,17,18,19,20,21,22,23,24,25,26,27,28,29,30,31,32,33,34,35,37,38,39,40,41,42,44,45,46,47,48,50,51,53,54,55,56,57,58,59]
noncomputable abbrev loo:List Str:=["INNER_COUNTS"]
noncomputable def top (i:Nat):Stmt:=pg.main.body.getD i (.Pass ⟨0,0,0,0⟩)
noncomputable def Fg:Stmt->List Stmt
 | .ClassDef _ _ _ b _ _ _ _ _ _ _=>b
 | _=>[]
noncomputable def aK (i j:Nat):Stmt:=(Fg (top i)).getD j (.Pass ⟨0,0,0,0⟩)
noncomputable def IK:Stmt->Pos
 | .FunctionDef _ _ _ _ _ _ _ _ _ p=>p
 | _=>⟨0,0,0,0⟩
noncomputable abbrev adr:List Addr:=[3,4,59,60,66,67,73,74,80,81,87,88,94,95,101,102,108,109,115,116,122,123,129,130,136,137,143,144,150,151,157,158,164,165,171,172,178,179,185,186,192,193,199,200,206,207,211,212,218,219,225,226,232,233,239,240,246,247,253,254,260,261,274,275,281,282,288,289,342,343,349,350,356,357,363,364,370,371,377,378,384,385,405,406,412,413,415,416,426,427,433,434,440,441,447,448,452,453,457,458,462,463]
noncomputable def qys:List Qy:=[.fn "is_whole" 67 (top 10),
 .fn "is_name" 74 (top 11),
 .fn "is_cell" 81 (top 12),
 .fn "inner_sums" 88 (top 13),
 .fn "begun" 95 (top 22),
 .fn "check_thing" 102 (top 23),
 .fn "worth_in" 109 (top 24),
 .fn "laid_out" 116 (top 25),
 .fn "of_two" 123 (top 26),
 .fn "worth_of" 130 (top 27),
 .fn "reckoned" 137 (top 28),
 .fn "cell_by" 144 (top 29),
 .fn "is_over" 151 (top 30),
 .fn "place_behind" 158 (top 31),
 .fn "with_worth" 165 (top 32),
 .fn "with_name" 172 (top 33),
 .fn "brought" 179 (top 34),
 .fn "stepped" 186 (top 35),
 .fn "sum_at" 193 (top 37),
 .fn "worth_at" 200 (top 38),
 .fn "worths_of" 207 (top 39),
 .fn "changes" 212 (top 40),
 .fn "last_change" 219 (top 41),
 .fn "spread" 226 (top 42),
 .fn "written_by" 233 (top 44),
 .fn "written_next" 240 (top 45),
 .fn "check_step" 247 (top 46),
 .fn "thing_written" 254 (top 47),
 .fn "writer_of" 261 (top 48),
 .fn "_law_cell" 427 (top 53),
 .fn "_law_drawn" 434 (top 54),
 .fn "_law_sum" 441 (top 55),
 .fn "_law_row" 448 (top 56),
 .fn "_law_program" 453 (top 57),
 .fn "_law_asked" 458 (top 58),
 .fn "law" 463 (top 59),
 .int "CELL_COUNT" 4,
 .int "WORTH_COUNT" 10007,
 .int "ROW" 0,
 .int "NAMES" 1,
 .int "CELLS" 2,
 .int "CALLS" 3,
 .int "ASKED" 4,
 .int "SAID" 5,
 .int "MOST_CALLS" 6,
 .int "MOST_MARKS" 8,
 .tup "LETTERS" 59 ["a","b","c","d","e","f"],
 .dct "INNER_COUNTS" 60 [("num",0),("name",0),("cell",1),("add",2),("sub",2),("mul",2),("less",2)],
 .no "len",
 .no "abs",
 .no "int",
 .no "list",
 .no "tuple",
 .no "isinstance",
 .no "str",
 .no "bool",
 .no "range",
 .no "reversed",
 .no "enumerate",
 .no "zip",
 .no "min",
 .no "max",
 .no "sorted",
 .no "sum",
 .no "all",
 .no "any",
 .no "set",
 .tab "worths_of" 206 202,
 .tab "last_change" 218 214,
 .no "next_change",
 .no "moments_so",
 .no "last_so",
 .no "next_so",
 .no "visits",
 .no "last_visit",
 .no "when_said",
 .no "next_within",
 .no "last_within",
 .no "first_other",
 .tab "writer_of" 260 256,
 .no "judged",
 .no "remade",
 .bm 4,
 .cls "Tape" 416,
 .mk 416,
 .me 416 "__init__" "__init__" "Tape.__init__" 275 (aK 51 0),
 .me 416 "at" "at" "Tape.at" 282 (aK 51 1),
 .me 416 "end" "end" "Tape.end" 289 (aK 51 2),
 .me 416 "behind" "behind" "Tape.behind" 343 (aK 51 10),
 .me 416 "is_last" "is_last" "Tape.is_last" 350 (aK 51 11),
 .me 416 "keep" "keep" "Tape.keep" 357 (aK 51 12),
 .me 416 "reach" "reach" "Tape.reach" 364 (aK 51 13),
 .me 416 "has" "has" "Tape.has" 371 (aK 51 14),
 .me 416 "check" "check" "Tape.check" 378 (aK 51 15),
 .me 416 "readings" "readings" "Tape.readings" 385 (aK 51 16),
 .me 416 "last_to" "last_to" "Tape.last_to" 406 (aK 51 19),
 .me 416 "last_between" "last_between" "Tape.last_between" 413 (aK 51 20)]
noncomputable abbrev tl:List (Str×Addr×Addr):=[("worths_of",206,202),("last_change",218,214),("writer_of",260,256)]
noncomputable abbrev tas:List Addr:=[202,214,256]
noncomputable def Lf (w:World):Prop:=(BR.lS treeTable pg w 5932).map (fun t=>(PySem.W.openSeen qg loo (importedModules pg.main.body) (fun s=>PySem.W.xlAt qg [] s&&PySem.W.recOk [] s) true t.abs,(sees adr qys tas).obs t.abs))=some (PySem.W.openGood qg loo,(sees adr qys tas).val w)
theorem lf0 (w:World):Lf (w.withFollow "special-get-raises" false):=by unfold Lf;kernel_rfl
theorem lf1 (w:World):Lf (w.withFollow "special-get-raises" true):=by unfold Lf;kernel_rfl
theorem left:PySem.W.LeftO pg qg loo (fun s=>PySem.W.xlAt qg [] s&&PySem.W.recOk [] s) (sees adr qys tas).obs (sees adr qys tas).val 5932:=fun w=>BR.yv (f:=fun s=>(PySem.W.openSeen qg loo (importedModules pg.main.body) (fun s=>PySem.W.xlAt qg [] s&&PySem.W.recOk [] s) true s,(sees adr qys tas).obs s)) (PySem.W.byRow2 (P:=Lf) "special-get-raises" lf0 lf1 w)
end BL
end
section
namespace L2
open PySem PySem.Spec PyProof.Rows
noncomputable abbrev Key:=Sum Int Str
noncomputable def j8:Key->Value->Bool
 | .inl k,v=>Value.isInt k v
 | .inr x,v=>Value.isStrOf x v
noncomputable def IL (w:World):Key->Int
 | .inl k=>hashInt k
 | .inr x=>hashStr w x
theorem bq:∀ {k:Key}{v:Value},j8 k v=true->(∃ i t,k=Sum.inl i/\v=Value.int i t)\/(∃ x t,k=Sum.inr x/\v=Value.str x t)
 | .inl i,v,h=>by
  obtain ⟨t,e⟩:=Value.isInt_shape (k:=i) (v:=v) h
  exact .inl ⟨i,t,rfl,e⟩
 | .inr x,v,h=>by
  obtain ⟨t,e⟩:=Value.isStrOf_shape (x:=x) (v:=v) h
  exact .inr ⟨x,t,rfl,e⟩
theorem sU (i:Int) (t:Tok):j8 (.inl i) (.int i t)=true:=by simp[j8,Value.isInt]
theorem sV (x:Str) (t:Tok):j8 (.inr x) (.str x t)=true:=by simp[j8,Value.isStrOf]
theorem B8 (a b:Int):decide ((Sum.inl a:Key)=Sum.inl b)=(a==b):=by
 by_cases e:a=b
 ·subst e;simp
 ·have h:¬ (Sum.inl a:Key)=Sum.inl b:=fun q=>e (Sum.inl.inj q)
  rw[decide_eq_false h]
  exact (beq_eq_false_iff_ne.mpr e).symm
theorem B9 (a b:Str):decide ((Sum.inr a:Key)=Sum.inr b)=decide (a=b):=by
 by_cases e:a=b
 ·subst e;simp
 ·have h:¬ (Sum.inr a:Key)=Sum.inr b:=fun q=>e (Sum.inr.inj q)
  rw[decide_eq_false h,decide_eq_false e]
theorem Ca (a:Int) (b:Str):decide ((Sum.inl a:Key)=Sum.inr b)=false:=decide_eq_false (fun q=>nomatch q)
theorem Cb (a:Str) (b:Int):decide ((Sum.inr a:Key)=Sum.inl b)=false:=decide_eq_false (fun q=>nomatch q)
noncomputable def aU (prog:Program) (w:World):PySem.KeyKind prog w Key where
 is:=j8
 hash:=IL w
 inj:=fun v a b ha hb=>by
  rcases bq ha with ⟨i,t,rfl,rfl⟩ | ⟨x,t,rfl,rfl⟩
  ·rcases bq hb with ⟨j,u,rfl,e⟩ | ⟨y,u,rfl,e⟩
   ·injection e with e1 _;rw[e1]
   ·exact nomatch e
  ·rcases bq hb with ⟨j,u,rfl,e⟩ | ⟨y,u,rfl,e⟩
   ·exact nomatch e
   ·injection e with e1 _;rw[e1]
 byValue:=fun k v h=>by
  rcases bq h with ⟨i,t,rfl,rfl⟩ | ⟨x,t,rfl,rfl⟩<;>rfl
 pyHash:=fun hv h=>by
  rcases bq hv with ⟨i,t,rfl,rfl⟩ | ⟨x,t,rfl,rfl⟩
  ·exact wpAny_pyHash_int h
  ·exact wpAny_pyHash_str h
 eqBool:=fun hu hv h=>by
  rcases bq hu with ⟨i,t,rfl,rfl⟩ | ⟨x,t,rfl,rfl⟩
  ·rcases bq hv with ⟨j,u,rfl,rfl⟩ | ⟨y,u,rfl,rfl⟩
   ·rw[B8] at h;exact wpAny_eqBool_int h
   ·rw[Ca] at h;exact SeqAt.EqAt.int_str i t y u _ _ _ _ h
  ·rcases bq hv with ⟨j,u,rfl,rfl⟩ | ⟨y,u,rfl,rfl⟩
   ·rw[Cb] at h;exact SeqAt.EqAt.str_int x t j u _ _ _ _ h
   ·rw[B9] at h;exact wpAny_eqBool_str h
 «strs»:=fun k x t v h=>by
  rcases bq h with ⟨i,u,rfl,e⟩ | ⟨y,u,rfl,e⟩
  ·exact nomatch e
  ·injection e with e1 _
   subst e1
   cases v<;>rfl
theorem n6 (prog:Program) (w:World) (i:Int) (t:Tok):(aU prog w).is (.inl i) (.int i t)=true:=sU i t
theorem eN (prog:Program) (w:World) (x:Str) (t:Tok):(aU prog w).is (.inr x) (.str x t)=true:=sV x t
end L2
namespace L2
open PySem PySem.Spec PyProof.Rows
inductive V where
 | non | bl (b:Bool) | int (i:Int) | str (x:Str) | byt (b:Array UInt8) | flt (b:UInt64) | ref (a:Addr) | ty (n:String)
 deriving DecidableEq
noncomputable def RelV:V->Value->Prop
 | .non,u=>u=Value.none
 | .bl b,u=>u=Value.bool b
 | .int i,u=>∃ t,u=Value.int i t
 | .str x,u=>∃ t,u=Value.str x t
 | .byt b,u=>∃ t,u=Value.bytes b t
 | .flt b,u=>∃ t,u=Value.float b t
 | .ref a,u=>u=Value.ref a
 | .ty n,u=>u=Value.type n
noncomputable abbrev aq:List V->List Value->Prop:=Paired RelV
theorem aq.length {xs:List V}{us:List Value} (r:aq xs us):xs.length=us.length:=Paired.length r
theorem aq.get:∀ {xs:List V}{us:List Value}{i:Nat}{x:V},aq xs us->xs[i]?=some x->∃ u,us[i]?=some u/\RelV x u
 | _,_,_,_,.nil,e=>by simp at e
 | _,_,0,_,.cons r _,e=>by simp at e;subst e;exact ⟨_,rfl,r⟩
 | _,_,i+1,x,.cons _ t,e=>by
  obtain ⟨u,h1,h2⟩:=aq.get (i:=i) (x:=x) t (by simpa using e)
  exact ⟨u,by simpa using h1,h2⟩
theorem aq.set {x:V}{u:Value} (r:RelV x u):∀ {xs:List V}{us:List Value} (i:Nat),aq xs us->aq (xs.set i x) (us.set i u)
 | _,_,_,.nil=>.nil
 | _,_,0,.cons _ t=>.cons r t
 | _,_,i+1,.cons q t=>.cons q (aq.set r i t)
theorem aq.append:∀ {xs ys:List V}{us ws:List Value},aq xs us->aq ys ws->aq (xs++ys) (us++ws)
 | _,_,_,_,.nil,s=>s
 | _,_,_,_,.cons r t,s=>.cons r (aq.append t s)
theorem aq.take:∀ {xs:List V}{us:List Value} (n:Nat),aq xs us->aq (xs.take n) (us.take n)
 | _,_,0,_=>.nil
 | _,_,_+1,.nil=>.nil
 | _,_,n+1,.cons r t=>.cons r (aq.take n t)
theorem aq.drop:∀ {xs:List V}{us:List Value} (n:Nat),aq xs us->aq (xs.drop n) (us.drop n)
 | _,_,0,r=>r
 | _,_,_+1,.nil=>.nil
 | _,_,n+1,.cons _ t=>aq.drop n t
theorem aq.none_of:∀ {xs:List V}{us:List Value}{i:Nat},aq xs us->xs[i]?=none->us[i]?=none:=fun {xs us i} r e=>by
 have h1:=r.length
 have h2:xs.length<=i:=List.getElem?_eq_none_iff.mp e
 exact List.getElem?_eq_none_iff.mpr (by omega)
noncomputable def ji:Option V->Option Value->Prop
 | some v,some u=>RelV v u
 | none,none=>True
 | _,_=>False
noncomputable def KV {κ:Type}:List (κ×V)->List (κ×Value)->Prop:=Paired fun (p:κ×V) (q:κ×Value)=>p.1=q.1/\RelV p.2 q.2
noncomputable def kV:Key->V
 | .inl i=>.int i
 | .inr x=>.str x
inductive HO where
 | lst (xs:List V)
 | tup (xs:List V)
 | dK (kvs:List (Key×V)) | dT (kvs:List (List Key×V))
 | set (S:Int->Bool) (n:Nat)
 | ins (C dx:Addr) (fs:List (Str×V))
 | own (x:Addr)
 | xd (fs:List (Str×V))
 | met (f x:Addr)
 | rng (lo hi:Int)
 | frz (o:Obj) (u:HO)
 | tbl (ps:Array Value)
 | ext (φ:Heap->Prop)
noncomputable abbrev Hp:=Addr->Option HO
noncomputable def upd (H:Hp) (a:Addr) (o:HO):Hp:=fun b=>if b=a then some o else H b
theorem aL {H:Hp}{a:Addr}{o:HO}:upd H a o a=some o:=by unfold upd;rw[if_pos rfl]
theorem av {H:Hp}{a b:Addr}{o:HO} (h:b≠a):upd H a o b=H b:=by unfold upd;rw[if_neg h]
theorem aC {H:Hp}{a b:Addr}{o:HO} (h:H a=some o) (h':H b=none):a≠b:=by
 intro e;subst e;rw[h] at h';cases h'
section
variable (P:Program) (w:World)
noncomputable def cX (H:Hp) (h:Heap) (a:Addr):HO->Prop
 | .lst xs=>xs.length<=sizeLine/\∃ (its:List Value) (n:Nat),aq xs its/\h.get? a=some { cls:=.type "list",data:=.seq its.toArray n }
 | .tup xs=>xs.length<=sizeLine/\∃ its:List Value,aq xs its/\IsTup h a its.toArray
 | .dK kvs=>kvs.length<=sizeLine/\(a==sysModules)=false/\∃ vs,KV kvs vs/\h.DictOf (aU P w) a vs
 | .dT kvs=>kvs.length<=sizeLine/\(a==sysModules)=false/\∃ xs:List (List Key×Addr×Value),
  Paired (fun (p:List Key×V) (q:List Key×Addr×Value)=>p.1=q.1/\H q.2.1=some (.tup (p.1.map kV))/\RelV p.2 q.2.2) kvs xs ∧
  ∃ o es ep,h.get? a=some o/\o.ExactDict/\o.data=.dict es ep/\es.toList=xs.map (entryOfKey (tupleKind (aU P w)))/\(xs.map (·.1)).Nodup
 | .set S n=>h.SetOf (intKind P w) a S n
 | .ins C dx fs=>H dx=some (.own a)/\fs.length<=1000/\dx≠a/\h.get? a=some (PySem.W.instObj C dx) ∧
  ∃ mA,h.Ns1 dx mA/\(∀ f,ji (fs.lookup f) (mA f))/\PySem.Within mA (fs.map (·.1))
 | .own _=>∃ o,h.get? a=some o
 | .xd fs=>∃ mA,h.Ns1 a mA/\∀ f,ji (fs.lookup f) (mA f)
 | .rng lo hi=>∃ t u v,h.get? a=some { cls:=.type "range",data:=.fields #[.int lo t,.int hi u,.int 1 v] }
 | .frz o u=>h.get? a=some o/\cX H h a u
 | .tbl ps=>h.get? a=some { cls:=.none,data:=.fields ps }
 | .met f x=>h.get? a=some (PySem.W.methodObj (.ref f) (.ref x))
 | .ext φ=>φ h/\(∃ o,h.get? a=some o)/\∀ h1 h2:Heap,φ h1->(∀ o,h1.get? a=some o->h2.get? a=some o)->φ h2
noncomputable def HOk (H:Hp) (h:Heap):Prop:=∀ a o,H a=some o->cX P w H h a o
end
section
variable {P:Program}{w:World}{H H':Hp}{h h':Heap}{a:Addr}{o:HO}
theorem cX.lt (x:cX P w H h a o):a < h.objs.size:=by
 cases o with
 | lst xs=>obtain ⟨_,_,_,_,e⟩:=x;exact Heap.lt_size e
 | tup xs=>obtain ⟨_,_,_,p⟩:=x;exact p.lt
 | dK kvs=>obtain ⟨_,_,_,_,o,_,_,e,_⟩:=x;exact Heap.lt_size e
 | dT kvs=>obtain ⟨_,_,_,_,o,_,_,e,_⟩:=x;exact Heap.lt_size e
 | set S n=>obtain ⟨o,_,_,_,e,_⟩:=x;exact Heap.lt_size e
 | ins C dx fs=>obtain ⟨_,_,_,e,_⟩:=x;exact Heap.lt_size e
 | own y=>obtain ⟨_,e⟩:=x;exact Heap.lt_size e
 | xd fs=>obtain ⟨_,⟨_,_,_,e,_⟩,_⟩:=x;exact Heap.lt_size e
 | rng lo hi=>obtain ⟨_,_,_,e⟩:=x;exact Heap.lt_size e
 | frz ob u=>obtain ⟨e,_⟩:=x;exact Heap.lt_size e
 | tbl ps=>exact Heap.lt_size (show h.get? a=some _ from x)
 | met f y=>exact Heap.lt_size (show h.get? a=some _ from x)
 | ext φ=>obtain ⟨_,⟨_,e⟩,_⟩:=x;exact Heap.lt_size e
theorem Paired.Fi {α β:Type}{F G:α->β->Prop}:∀ {l₁:List α}{l₂:List β},Paired F l₁ l₂->(∀ a b,F a b->G a b)->Paired G l₁ l₂
 | _,_,.nil,_=>.nil
 | _,_,.cons r t,f=>.cons (f _ _ r) (Paired.Fi t f)
theorem cX.stay (x:cX P w H h a o) (k:∀ b u,(b=a\/H b=some (.own a))->h.get? b=some u->h'.get? b=some u)
 (ho:∀ b,H b=some (.own a)->H' b=some (.own a)) (ht:∀ b xs,H b=some (.tup xs)->H' b=some (.tup xs)):cX P w H' h' a o:=by
 induction o with
 | lst xs=>obtain ⟨z,its,n,r,e⟩:=x;exact ⟨z,its,n,r,k _ _ (.inl rfl) e⟩
 | tup xs=>obtain ⟨z,its,r,ob,e,c⟩:=x;exact ⟨z,its,r,ob,k _ _ (.inl rfl) e,c⟩
 | dK kvs=>obtain ⟨z,y,vs,r,ob,es,ep,e,c⟩:=x;exact ⟨z,y,vs,r,ob,es,ep,k _ _ (.inl rfl) e,c⟩
 | dT kvs =>
  obtain ⟨z,y,xs,r,ob,es,ep,e,c⟩:=x
  exact ⟨z,y,xs,Paired.Fi r fun p q z=>⟨z.1,ht _ _ z.2.1,z.2.2⟩,ob,es,ep,k _ _ (.inl rfl) e,c⟩
 | set S n=>obtain ⟨ob,es,ep,t,e,c⟩:=x;exact ⟨ob,es,ep,t,k _ _ (.inl rfl) e,c⟩
 | ins C dx fs =>
  obtain ⟨d,z,ne,e,mA,⟨od,es,ep,e2,c⟩,r⟩:=x
  exact ⟨ho _ d,z,ne,k _ _ (.inl rfl) e,mA,⟨od,es,ep,k _ _ (.inr d) e2,c⟩,r⟩
 | own y=>obtain ⟨ob,e⟩:=x;exact ⟨ob,k _ _ (.inl rfl) e⟩
 | xd fs=>obtain ⟨mA,⟨od,es,ep,e,c⟩,r⟩:=x;exact ⟨mA,⟨od,es,ep,k _ _ (.inl rfl) e,c⟩,r⟩
 | rng lo hi=>obtain ⟨t,u,v,e⟩:=x;exact ⟨t,u,v,k _ _ (.inl rfl) e⟩
 | frz ob u ih=>obtain ⟨e,q⟩:=x;exact ⟨k _ _ (.inl rfl) e,ih q⟩
 | tbl ps =>
  have e:h.get? a=some { cls:=.none,data:=.fields ps }:=x
  show h'.get? a=some { cls:=.none,data:=.fields ps }
  exact k a _ (.inl rfl) e
 | met f y =>
  have e:h.get? a=some (PySem.W.methodObj (.ref f) (.ref y)):=x
  show h'.get? a=some (PySem.W.methodObj (.ref f) (.ref y))
  exact k a _ (.inl rfl) e
 | ext φ=>obtain ⟨p,⟨o,e⟩,st⟩:=x;exact ⟨st _ _ p fun o q=>k _ _ (.inl rfl) q,⟨o,k _ _ (.inl rfl) e⟩,st⟩
theorem HOk.lt (x:HOk P w H h) (e:H a=some o):a < h.objs.size:=(x a o e).lt
theorem HOk.fresh (x:HOk P w H h) (e:h.objs.size<=a):H a=none:=by
 cases q:H a with
 | none=>rfl
 | some u=>exact absurd (Nat.lt_of_lt_of_le (x.lt q) e) (Nat.lt_irrefl _)
theorem HOk.kept (x:HOk P w H h) (k:∀ b u,h.get? b=some u->h'.get? b=some u):HOk P w H h':=fun a o e =>
 (x a o e).stay (fun b u _ q=>k b u q) (fun _ q=>q) fun _ _ q=>q
theorem HOk.laid (x:HOk P w H h) (k:∀ b u,h.get? b=some u->h'.get? b=some u) (hp:h.objs.size<=a) (new:cX P w (upd H a o) h' a o):HOk P w (upd H a o) h':=fun b u e=>by
 have hn:=x.fresh hp
 by_cases hb:b=a
 ·subst hb;rw[aL] at e;cases e;exact new
 ·rw[av hb] at e
  exact (x b u e).stay (fun c v _ q=>k c v q) (fun c q=>by rw[av (aC q hn)];exact q) fun c xs q=>by rw[av (aC q hn)];exact q
end
noncomputable def Rd (H:Hp) (a:Addr) (u:HO):Prop:=H a=some u\/∃ o,H a=some (.frz o u)
theorem Rd.of {H:Hp}{a:Addr}{u:HO} (h:H a=some u):Rd H a u:=.inl h
theorem Rd.ok {P:Program}{w:World}{H:Hp}{h:Heap}{a:Addr}{u:HO} (r:Rd H a u) (x:HOk P w H h):cX P w H h a u:=by
 rcases r with r | ⟨o,r⟩
 ·exact x a u r
 ·obtain ⟨_,q⟩:=x a _ r
  exact q
noncomputable def Mut:Option HO->Prop
 | some (.lst _)=>True
 | some (.dK _)=>True
 | some (.dT _)=>True
 | some (.set _ _)=>True
 | some (.ins _ _ _)=>True
 | some (.ext _)=>True
 | _=>False
section
variable {P:Program}{w:World}{H:Hp}{h h':Heap}{x e:Addr}{o':HO}
theorem HOk.write (ok:HOk P w H h) (mu:Mut (H x)) (he:e=x\/H e=some (.own x)) (k:∀ b u,b≠e->h.get? b=some u->h'.get? b=some u) (heo:∃ u,h'.get? e=some u)
 (new:cX P w (upd H x o') h' x o'):HOk P w (upd H x o') h':=fun b u q=>by
 have nown:∀ c y,H c=some (.own y)->c≠x:=fun c y r z=>by subst z;rw[r] at mu;exact mu
 have ntup:∀ c xs,H c=some (.tup xs)->c≠x:=fun c xs r z=>by subst z;rw[r] at mu;exact mu
 by_cases hb:b=x
 ·subst hb;rw[aL] at q;cases q;exact new
 ·rw[av hb] at q
  by_cases hbe:b=e
  ·have q':H b=some (.own x):=by
    rcases he with z | z
    ·exact absurd (hbe.trans z) hb
    ·rw[hbe];exact z
   rw[q] at q';cases q'
   obtain ⟨v,hv⟩:=heo
   exact ⟨v,by rw[hbe];exact hv⟩
  ·refine (ok b u q).stay (fun c v hc r=>k c v ?_ r) (fun c r=>by rw[av (nown c b r)];exact r) fun c xs r=>by rw[av (ntup c xs r)];exact r
   rcases hc with rfl | hc
   ·exact hbe
   ·rintro rfl
    rcases he with z | z
    ·exact nown c b hc z
    ·rw[hc] at z;cases z;exact hb rfl
end
structure Un (fs ex:List Addr) (H H':Hp) (h h':Heap):Prop where
 keep:∀ b o,h.get? b=some o->H b=none->b∉fs->b∉ex->h'.get? b=some o
 slot:∀ b o,h.get? b=some o->H b=none->b∈fs->b∉ex->∃ sl,h'.get? b=some { o with slots:=sl }
 free:∀ b o,h.get? b=some o->H b=none->b∉ex->H' b=none
 there:∀ b o,h.get? b=some o->b∉ex->∃ o',h'.get? b=some o'
 tups:∀ b xs,H b=some (.tup xs)->H' b=some (.tup xs)
 frzs:∀ b o u,H b=some (.frz o u)->H' b=some (.frz o u)
 tbls:∀ b ps,H b=some (.tbl ps)->∃ more,H' b=some (.tbl (ps++more))
section
variable {fs fs' ex ex':List Addr}{H H1 H2:Hp}{h h1 h2 h':Heap}{a x e:Addr}{o:HO}
theorem Un.any (u:Un fs ex H H1 h h1) {b:Addr}{ob:Obj} (q:h.get? b=some ob) (n:H b=none) (hx:b∉ex):∃ sl,h1.get? b=some { ob with slots:=sl }:=by
 by_cases hb:b∈fs
 ·exact u.slot b ob q n hb hx
 ·exact ⟨ob.slots,u.keep b ob q n hb hx⟩
theorem Un.trans (a:Un fs ex H H1 h h1) (b:Un fs ex H1 H2 h1 h2):Un fs ex H H2 h h2 where
 keep:=fun c ob q n hc hx=>b.keep c ob (a.keep c ob q n hc hx) (a.free c ob q n hx) hc hx
 slot:=fun c ob q n hc hx=>by
  obtain ⟨sl,e1⟩:=a.slot c ob q n hc hx
  obtain ⟨sl',e2⟩:=b.slot c _ e1 (a.free c ob q n hx) hc hx
  exact ⟨sl',e2⟩
 free:=fun c ob q n hx=>by
  obtain ⟨o',e1⟩:=a.there c ob q hx
  exact b.free c o' e1 (a.free c ob q n hx) hx
 there:=fun c ob q hx=>by
  obtain ⟨o',e1⟩:=a.there c ob q hx
  exact b.there c o' e1 hx
 tups:=fun c xs q=>b.tups c xs (a.tups c xs q)
 frzs:=fun c ob xs q=>b.frzs c ob xs (a.frzs c ob xs q)
 tbls:=fun c ps q=>by
  obtain ⟨m1,e1⟩:=a.tbls c ps q
  obtain ⟨m2,e2⟩:=b.tbls c _ e1
  exact ⟨m1++m2,by rw[e2,Array.append_assoc]⟩
theorem Un.kept (k:∀ b u,h.get? b=some u->h'.get? b=some u):Un fs ex H H h h' :=
 ⟨fun b ob q _ _ _=>k b ob q,fun b ob q _ _ _=>⟨ob.slots,k b ob q⟩,fun _ _ _ n _=>n,fun b ob q _=>⟨ob,k b ob q⟩,fun _ _ q=>q,fun _ _ _ q=>q,fun _ ps q=>⟨#[],by rw[q];simp⟩⟩
theorem Un.refl:Un fs ex H H h h:=Un.kept fun _ _ q=>q
theorem Un.laid (k:∀ b u,h.get? b=some u->h'.get? b=some u) (hp:h.objs.size<=a) (hn:H a=none):Un fs ex H (upd H a o) h h' where
 keep:=fun b u q _ _ _=>k b u q
 slot:=fun b u q _ _ _=>⟨u.slots,k b u q⟩
 free:=fun b u q n _=>by rw[av (Nat.ne_of_lt (Nat.lt_of_lt_of_le (Heap.lt_size q) hp))];exact n
 there:=fun b u q _=>⟨u,k b u q⟩
 tups:=fun b xs q=>by rw[av (aC q hn)];exact q
 frzs:=fun b u xs q=>by rw[av (aC q hn)];exact q
 tbls:=fun b ps q=>⟨#[],by rw[av (aC q hn),q];simp⟩
theorem Un.write (mu:Mut (H x)) (he:e=x\/H e=some (.own x)) (k:∀ b u,b≠e->h.get? b=some u->h'.get? b=some u) (heo:∃ u,h'.get? e=some u):Un fs ex H (upd H x o) h h':=by
 have hx:∀ b,H b=none->b≠x:=fun b n z=>by subst z;rw[n] at mu;exact mu
 have hb:∀ b,H b=none->b≠e:=fun b n z=>by
  subst z
  rcases he with r | r
  ·exact hx b n r
  ·rw[n] at r;cases r
 have hm:∀ b u,H b=some u->¬ Mut (some u)->b≠x:=fun b u q nm z=>by subst z;rw[q] at mu;exact nm mu
 refine ⟨fun b u q n _ _=>k b u (hb b n) q,fun b u q n _ _=>⟨u.slots,k b u (hb b n) q⟩,fun b u q n _=>by rw[av (hx b n)];exact n,fun b u q _=>?_,
  fun b xs q=>by rw[av (hm b _ q fun z=>z)];exact q,fun b u xs q=>by rw[av (hm b _ q fun z=>z)];exact q,fun b ps q=>⟨#[],by rw[av (hm b _ q fun z=>z),q];simp⟩⟩
 by_cases hbe:b=e
 ·subst hbe;exact heo
 ·exact ⟨u,k b u hbe q⟩
theorem Un.mono (u:Un fs ex H H1 h h1) (hs:∀ b∈fs,b∈fs') (hx:∀ b∈ex,b∈ex'):Un fs' ex' H H1 h h1 :=
 ⟨fun b ob q n hb he=>u.keep b ob q n (fun z=>hb (hs b z)) fun z=>he (hx b z),fun _ _ q n _ he=>u.any q n fun z=>he (hx _ z),fun b ob q n he=>u.free b ob q n fun z=>he (hx b z),fun b ob q he=>u.there b ob q fun z=>he (hx b z),u.tups,u.frzs,u.tbls⟩
end
noncomputable def trk (h:Heap) (H:Hp):List Addr:=(List.range h.objs.size).filter fun a=>(H a).isSome
noncomputable def jj (h:Heap) (H:Hp):Heap:=PySem.W.hideAll h (trk h H)
theorem lT (h:Heap) (H:Hp):(jj h H).objs.size=h.objs.size:=PySem.W.hideAll_size _ _
theorem j9 {h:Heap}{H:Hp}{b:Addr}{o:Obj} (e:h.get? b=some o) (n:H b=none):(jj h H).get? b=some o :=
 PySem.W.hideAll_get _ e fun hm=>by
  have q:(H b).isSome=true:=(List.mem_filter.mp hm).2
  rw[n] at q;simp at q
theorem qV {h:Heap}{H:Hp}{b:Addr}{o:Obj} (e:(jj h H).get? b=some o):h.get? b=some o/\H b=none:=by
 have e':h.get? b=some o:=PySem.W.of_hideAll (trk h H) e
 refine ⟨e',?_⟩
 cases q:H b with
 | none=>rfl
 | some x =>
  have hm:b∈trk h H:=List.mem_filter.mpr ⟨List.mem_range.mpr (Heap.lt_size e'),by simp[q]⟩
  have z:(jj h H).get? b=none:=PySem.W.hideAll_none (trk h H) hm
  rw[z] at e;cases e
noncomputable def yx (g h:Heap) (L:Addr):List (Addr×Obj):=(List.range h.objs.size).filterMap fun a=>if a=L\/(g.get? a).isSome=true then none else (h.get? a).map fun o=>(a,o)
noncomputable def rest (g h:Heap) (L d:Addr):List (Addr×Obj):=(yx g h L).filter fun p=>decide (p.1≠d)
end L2
namespace L2
open PySem PySem.Spec PyProof.Rows
structure Mod (K:PySem.W.Frag) (mg:Str->Option Value) (base:Heap):Prop where
 kin:K.In base
 glob:base.Ns mainGlobals mg
 blt:∃ mb,base.Ns builtinsNs mb/\∀ x:Str,x≠"__name__"->mb x=bootBuiltins x
 nolimit:base.NoLimit
structure Cx where
 prog:Program
 w:World
 K:PySem.W.Frag
 mg:Str->Option Value
 base:Heap
 A:Around
 N:List Str
 s₀:Shared
 H₀:Hp
 env:Env
 outer:List Env
 stack:List Env
 ex:List Addr
 fn:Str->Bool
 calm:Bool
 pn:List (Addr×Obj)
 xe:Value->Shared->Prop
noncomputable def frs (l:List Env):List Addr:=l.filterMap (·.frame)
noncomputable abbrev Cx.fs (X:Cx):List Addr:=frs X.outer
noncomputable def Vis (sc:Scope) (x:Str):Prop:=sc.names.lookup x=some .local\/sc.names.lookup x=some .cell\/sc.names.lookup x=some .free
noncomputable def Loc (sc:Scope) (x:Str):Prop:=sc.names.lookup x=some .local\/sc.names.lookup x=some .cell
noncomputable def Look (env:Env) (h:Heap) (m:Str->Option Value) (x:Str) (u:Value):Prop :=
 (env.kindOf x=some .local/\m x=some u)\/((env.kindOf x=some .cell\/env.kindOf x=some .free)/\∃ c,env.cells.lookup x=some c/\h.IsCell c (some u))
structure Cx.Ok (X:Cx):Prop where
 mod:Mod X.K X.mg X.base
 kind:X.env.scope.kind=.function
 glob:X.env.globals=mainGlobals
 blt:X.env.builtins=builtinsNs
 above:X.s₀.heap.objs.size<=X.env.locals
 inj:∀ x y c,X.env.cells.lookup x=some c->X.env.cells.lookup y=some c->x=y
 has:∀ x,(X.env.kindOf x=some .cell\/X.env.kindOf x=some .free)->∃ c,X.env.cells.lookup x=some c
 cab:∀ x c,X.fn x=true->X.env.cells.lookup x=some c->X.s₀.heap.objs.size<=c
 hd:X.calm=true->X.A.handled=none
 frames:X.A.frames=some X.stack
 stk:X.stack=X.outer\/(X.stack=X.env :: X.outer/\X.env.frame=some X.env.locals)
 exf:∀ b∈X.ex,b≠X.env.locals/\∀ x c,X.env.cells.lookup x=some c->c≠b
 bs:∀ b o,X.base.get? b=some o->X.s₀.heap.get? b=some o/\X.H₀ b=none
 bsz:X.base.objs.size<=X.s₀.heap.objs.size
 noex:∀ b o,X.base.get? b=some o->b∉X.ex
 exfs:∀ b∈X.ex,b∉X.fs
 ig:X.s₀.heap.FunFrames X.base X.outer
 frf:∀ b∈X.fs,X.H₀ b=none
structure Inv (X:Cx) (pins:List (Addr×Obj)) (σ:List (Option V)) (H:Hp) (s:Shared):Prop where
 ok:X.Ok
 os:s.os=X.s₀.os
 bare:AllBare s.gens
 base:Un X.fs X.ex X.H₀ H X.s₀.heap s.heap
 loc:∃ m,s.heap.Ns X.env.locals m/\∀ (i:Nat) (x:Str) (v:V),X.N[i]?=some x->σ[i]?=some (some v)->Vis X.env.scope x->∃ u,RelV v u/\Look X.env s.heap m x u
 cell:∀ x c,X.env.cells.lookup x=some c->∃ v,s.heap.IsCell c v
 free:H X.env.locals=none
 freeC:∀ x c,X.env.cells.lookup x=some c->H c=none
 pin:∀ p∈X.pn++pins,s.heap.get? p.1=some p.2/\H p.1=none/\p.1≠X.env.locals/\p.1∉X.fs/\∀ v,p.2.data≠.cell v
 hok:HOk X.prog X.w H s.heap
 len:σ.length=X.N.length
section
variable {X:Cx}{pins:List (Addr×Obj)}{σ:List (Option V)}{H H':Hp}{s:Shared}{h':Heap}
theorem Cx.Ok.IM (ok:X.Ok) {b:Addr}{o:Obj} (e:X.base.get? b=some o):b∉X.fs:=fun hb=>by
 have:=(ok.ig.mem hb).1
 rw[e] at this;cases this
theorem Inv.bs (I:Inv X pins σ H s):∀ b o,X.base.get? b=some o->s.heap.get? b=some o/\H b=none:=fun b o e =>
 ⟨I.base.keep b o (I.ok.bs b o e).1 (I.ok.bs b o e).2 (I.ok.IM e) (I.ok.noex b o e),I.base.free b o (I.ok.bs b o e).1 (I.ok.bs b o e).2 (I.ok.noex b o e)⟩
theorem Inv.bk (I:Inv X pins σ H s):∀ b o,X.base.get? b=some o->s.heap.get? b=some o:=fun b o e=>(I.bs b o e).1
theorem Inv.mod (I:Inv X pins σ H s):Mod X.K X.mg X.base:=I.ok.mod
theorem Inv.kIn (I:Inv X pins σ H s):X.K.In s.heap:=I.ok.mod.kin.keeps I.bk
theorem Inv.nolimit (I:Inv X pins σ H s):s.heap.NoLimit:=I.ok.mod.nolimit.keeps I.bk
theorem Inv.fr (I:Inv X pins σ H s):∃ m,Fr X.base X.env.locals s.heap m :=
 let ⟨m,hn,_⟩:=I.loc
 ⟨m,hn,I.bk,Nat.le_trans I.ok.bsz I.ok.above⟩
theorem Inv.lt (I:Inv X pins σ H s):X.env.locals < s.heap.objs.size:=let ⟨_,hn,_⟩:=I.loc;hn.lt
theorem Inv.sz (I:Inv X pins σ H s):X.s₀.heap.objs.size<=s.heap.objs.size:=Nat.le_trans I.ok.above (Nat.le_of_lt I.lt)
theorem Inv.IP (I:Inv X pins σ H s) {a:Addr} (h:s.heap.objs.size<=a):a∉X.fs:=fun hb=>by
 obtain ⟨_,o,ho,_⟩:=I.ok.ig.mem hb
 exact absurd (Nat.lt_of_lt_of_le (Heap.lt_size ho) (Nat.le_trans I.sz h)) (Nat.lt_irrefl _)
theorem Inv.cne (I:Inv X pins σ H s):∀ x c,X.env.cells.lookup x=some c->c≠X.env.locals:=fun x c e z=>by
 obtain ⟨v,o,ho,hd⟩:=I.cell x c e
 obtain ⟨m,⟨o',es,ep,ho',hd',_⟩,_⟩:=I.loc
 rw[z,ho'] at ho;cases ho;rw[hd'] at hd;cases hd
theorem Inv.ig (I:Inv X pins σ H s):s.heap.FunFrames X.base X.outer:=by
 have all:∀ (l:List Env),(∀ b∈frs l,b∈X.fs)->X.s₀.heap.FunFrames X.base l->s.heap.FunFrames X.base l:=by
  intro l
  induction l with
  | nil=>intro _ _;trivial
  | cons env r ih =>
   intro hs hl
   obtain ⟨hk,⟨L,o,hf,hn,ho,hd⟩,hr⟩:=hl
   have hL:L∈X.fs:=hs L (by unfold frs;rw[List.filterMap_cons,hf];exact List.mem_cons_self)
   obtain ⟨sl,e⟩:=I.base.slot L o ho (I.ok.frf L hL) hL fun z=>I.ok.exfs L z hL
   exact ⟨hk,⟨L,_,hf,hn,e,hd⟩,ih (fun b hb=>hs b (by unfold frs;rw[List.filterMap_cons,hf];exact List.mem_cons_of_mem _ hb)) hr⟩
 exact all X.outer (fun _ hb=>hb) I.ok.ig
theorem Inv.stack (I:Inv X pins σ H s):s.heap.FunFrames X.base X.stack:=by
 rcases I.ok.stk with e | ⟨e,hf⟩
 ·rw[e];exact I.ig
 ·rw[e]
  obtain ⟨m,hn,_⟩:=I.loc
  refine .cons (by rw[I.ok.kind];decide) hf hn ?_ I.ig
  exact Heap.get?_none_of_le (Nat.le_trans I.ok.bsz I.ok.above)
theorem Inv.kg (I:Inv X pins σ H s):∀ b∈frs X.stack,b∈X.env.locals :: X.fs:=fun b hb=>by
 rcases I.ok.stk with e | ⟨e,hf⟩
 ·rw[e] at hb;exact List.mem_cons_of_mem _ hb
 ·rw[e] at hb
  unfold frs at hb
  rw[List.filterMap_cons,hf] at hb
  exact hb
theorem Inv.mS (I:Inv X pins σ H s):∀ b∈frs X.stack,H b=none:=fun b hb=>by
 rcases List.mem_cons.mp (I.kg b hb) with e | hb
 ·rw[e];exact I.free
 ·obtain ⟨_,o,ho,_⟩:=I.ok.ig.mem hb
  exact I.base.free b o ho (I.ok.frf b hb) fun z=>I.ok.exfs b z hb
theorem Inv.step {g':Array GenState}{t':Nat}{d':Drawn}{ch:List Addr} (I:Inv X pins σ H s)
 (hch:∀ b∈ch,(b∈X.ex\/X.s₀.heap.objs.size<=b)/\b≠X.env.locals/\(∀ x c,X.env.cells.lookup x=some c->c≠b)/\∀ p∈X.pn++pins,p.1≠b)
 (keep:∀ b o,b≠X.env.locals->b∉X.fs->b∉ch->s.heap.get? b=some o->H b=none->h'.get? b=some o)
 (slot:∀ b o,b≠X.env.locals->b∈X.fs->b∉ch->s.heap.get? b=some o->H b=none->∃ sl,h'.get? b=some { o with slots:=sl }) (free:∀ b o,b∉ch->s.heap.get? b=some o->H b=none->H' b=none)
 (there:∀ b o,b∉ch->s.heap.get? b=some o->∃ o',h'.get? b=some o')
 (tups:∀ b xs,H b=some (.tup xs)->H' b=some (.tup xs)) (frzs:∀ b o u,H b=some (.frz o u)->H' b=some (.frz o u)) (tbls:∀ b ps,H b=some (.tbl ps)->∃ more,H' b=some (.tbl (ps++more)))
 (ns:∀ m,s.heap.Ns X.env.locals m->h'.Ns X.env.locals m) (hok:HOk X.prog X.w H' h') (hg:AllBare g') :
 Inv X pins σ H' { s with heap:=h',gens:=g',drawn:=d',toks:=t' }:=by
 have neL:∀ b o,X.s₀.heap.get? b=some o->b≠X.env.locals:=fun b o e=>Nat.ne_of_lt (Nat.lt_of_lt_of_le (Heap.lt_size e) I.ok.above)
 have neC:∀ b o,X.s₀.heap.get? b=some o->b∉X.ex->b∉ch:=fun b o e hx hb=>by
  rcases (hch b hb).1 with z | z
  ·exact hx z
  ·exact absurd (Nat.lt_of_lt_of_le (Heap.lt_size e) z) (Nat.lt_irrefl _)
 have cellK:∀ x c,X.env.cells.lookup x=some c->∀ v,s.heap.IsCell c v->h'.IsCell c v:=fun x c e v ⟨o,ho,hd⟩=>by
  have nch:c∉ch:=fun z=>(hch c z).2.2.1 x c e rfl
  by_cases hc:c∈X.fs
  ·obtain ⟨sl,q⟩:=slot c o (I.cne x c e) hc nch ho (I.freeC x c e)
   exact ⟨_,q,hd⟩
  ·exact ⟨o,keep c o (I.cne x c e) hc nch ho (I.freeC x c e),hd⟩
 refine ⟨I.ok,I.os,hg,⟨fun b o e n hb hx=>?_,fun b o e n hb hx=>?_,fun b o e n hx=>?_,fun b o e hx=>?_,fun b xs e=>tups b xs (I.base.tups b xs e),fun b o xs e=>frzs b o xs (I.base.frzs b o xs e),fun b ps e=>?_⟩,?_,fun x c e=>?_,?_,fun x c e=>?_,fun p hp=>?_,hok,I.len⟩
 ·exact keep b o (neL b o e) hb (neC b o e hx) (I.base.keep b o e n hb hx) (I.base.free b o e n hx)
 ·obtain ⟨sl,e1⟩:=I.base.slot b o e n hb hx
  obtain ⟨sl',e2⟩:=slot b _ (neL b o e) hb (neC b o e hx) e1 (I.base.free b o e n hx)
  exact ⟨sl',e2⟩
 ·obtain ⟨o',e1⟩:=I.base.there b o e hx
  exact free b o' (neC b o e hx) e1 (I.base.free b o e n hx)
 ·obtain ⟨o',e1⟩:=I.base.there b o e hx
  exact there b o' (neC b o e hx) e1
 ·obtain ⟨m1,e1⟩:=I.base.tbls b ps e
  obtain ⟨m2,e2⟩:=tbls b _ e1
  exact ⟨m1++m2,by rw[e2,Array.append_assoc]⟩
 ·obtain ⟨m,hn,hl⟩:=I.loc
  refine ⟨m,ns m hn,fun i x v e1 e2 e3=>?_⟩
  obtain ⟨u,r,l⟩:=hl i x v e1 e2 e3
  refine ⟨u,r,?_⟩
  rcases l with l | ⟨k,c,e,z⟩
  ·exact .inl l
  ·exact .inr ⟨k,c,e,cellK x c e _ z⟩
 ·obtain ⟨v,z⟩:=I.cell x c e
  exact ⟨v,cellK x c e v z⟩
 ·obtain ⟨m,⟨o,_,_,ho,_⟩,_⟩:=I.loc
  exact free _ o (fun z=>(hch _ z).2.1 rfl) ho I.free
 ·obtain ⟨v,o,ho,hd⟩:=I.cell x c e
  exact free c o (fun z=>(hch c z).2.2.1 x c e rfl) ho (I.freeC x c e)
 ·obtain ⟨e,n,ne,nf,d⟩:=I.pin p hp
  have nch:p.1∉ch:=fun z=>(hch p.1 z).2.2.2 p hp rfl
  exact ⟨keep p.1 p.2 ne nf nch e n,free p.1 p.2 nch e n,ne,nf,d⟩
theorem Inv.un {t':Nat} (I:Inv X pins σ H s) (u:Un X.fs [] H H' s.heap h') (hok:HOk X.prog X.w H' h'):Inv X pins σ H' { s with heap:=h',toks:=t' }:=by
 obtain ⟨m,⟨o,es,ep,ho,r⟩,_⟩:=id I.loc
 obtain ⟨sl,hL⟩:=u.any ho I.free (by simp)
 exact I.step (g':=s.gens) (d':=s.drawn) (ch:=[]) (fun _ z=>nomatch z) (fun b o _ hb _ e n=>u.keep b o e n hb (by simp)) (fun b o _ hb _ e n=>u.slot b o e n hb (by simp)) (fun b o _ e n=>u.free b o e n (by simp)) (fun b o _ e=>u.there b o e (by simp)) u.tups u.frzs u.tbls (fun m' hm=>by
  obtain ⟨o',es',ep',ho',r'⟩:=hm
  rw[ho] at ho';cases ho'
  exact ⟨_,es',ep',hL,r'⟩) hok I.bare
theorem Inv.call {g':Array GenState}{t':Nat}{d':Drawn}{ch:List Addr} (I:Inv X pins σ H s) (u:Un (frs X.stack) ch H H' s.heap h') (hok:HOk X.prog X.w H' h') (hg:AllBare g')
 (hch:∀ b∈ch,(b∈X.ex\/X.s₀.heap.objs.size<=b)/\b≠X.env.locals/\(∀ x c,X.env.cells.lookup x=some c->c≠b)/\∀ p∈X.pn++pins,p.1≠b) :
 Inv X pins σ H' { s with heap:=h',gens:=g',drawn:=d',toks:=t' }:=by
 obtain ⟨m,⟨o,es,ep,ho,r⟩,_⟩:=id I.loc
 obtain ⟨sl,hL⟩:=u.any ho I.free fun z=>(hch _ z).2.1 rfl
 exact I.step (ch:=ch) hch (fun b o hL hb hc e n=>u.keep b o e n (fun z=>(List.mem_cons.mp (I.kg b z)).elim hL hb) hc) (fun b o _ _ hc e n=>u.any e n hc) (fun b o hc e n=>u.free b o e n hc) (fun b o hc e=>u.there b o e hc) u.tups u.frzs u.tbls (fun m' hm=>by
  obtain ⟨o',es',ep',ho',r'⟩:=hm
  rw[ho] at ho';cases ho'
  exact ⟨_,es',ep',hL,r'⟩) hok hg
theorem Inv.turned {t':Nat}{it:Addr} (I:Inv X pins σ H s) (k:∀ b o,b≠it->s.heap.get? b=some o->h'.get? b=some o) (hn:H it=none) (hL:it≠X.env.locals)
 (h1:it∈X.ex\/X.s₀.heap.objs.size<=it) (h2:∀ x c,X.env.cells.lookup x=some c->c≠it) (h3:∀ p∈X.pn++pins,p.1≠it):Inv X pins σ H { s with heap:=h',toks:=t' }:=by
 have nit:∀ b u,H b=some u->b≠it:=fun b u e z=>by rw[z,hn] at e;cases e
 refine I.step (g':=s.gens) (d':=s.drawn) (ch:=[it]) (fun b hb=>?_) (fun b o _ _ hc e _=>k b o (fun z=>hc (by simp[z])) e) (fun b o _ _ hc e _=>⟨o.slots,k b o (fun z=>hc (by simp[z])) e⟩) (fun _ _ _ _ n=>n)
  (fun b o hc e=>⟨o,k b o (fun z=>hc (by simp[z])) e⟩) (fun _ _ e=>e) (fun _ _ _ e=>e) (fun b ps e=>⟨#[],by rw[e];simp⟩) (fun m hm=>?_) (fun b u e=>?_) I.bare
 ·have e:b=it:=by simpa using hb
  subst e
  exact ⟨h1,hL,h2,h3⟩
 ·obtain ⟨o,es,ep,ho,r⟩:=hm
  exact ⟨o,es,ep,k _ o (Ne.symm hL) ho,r⟩
 ·refine (I.hok b u e).stay (fun c v hc q=>k c v ?_ q) (fun _ q=>q) fun _ _ q=>q
  rcases hc with z | z
  ·rw[z];exact nit b u e
  ·exact nit c _ z
theorem Inv.tok (I:Inv X pins σ H s) (t:Nat):Inv X pins σ H { s with toks:=t }:=I.un (h':=s.heap) (t':=t) Un.refl I.hok
theorem Inv.kept {t':Nat} (I:Inv X pins σ H s) (k:∀ b u,s.heap.get? b=some u->h'.get? b=some u):Inv X pins σ H { s with heap:=h',toks:=t' }:=I.un (Un.kept k) (I.hok.kept k)
theorem Inv.laid {a:Addr}{o:HO}{t':Nat} (I:Inv X pins σ H s) (k:∀ b u,s.heap.get? b=some u->h'.get? b=some u) (hp:s.heap.objs.size<=a) (new:cX X.prog X.w (upd H a o) h' a o) :
 Inv X pins σ (upd H a o) { s with heap:=h',toks:=t' }:=I.un (Un.laid k hp (I.hok.fresh hp)) (I.hok.laid k hp new)
theorem Inv.write {x e:Addr}{o:HO}{t':Nat} (I:Inv X pins σ H s) (mu:Mut (H x)) (he:e=x\/H e=some (.own x)) (k:∀ b u,b≠e->s.heap.get? b=some u->h'.get? b=some u) (heo:∃ u,h'.get? e=some u)
 (new:cX X.prog X.w (upd H x o) h' x o):Inv X pins σ (upd H x o) { s with heap:=h',toks:=t' }:=I.un (Un.write mu he k heo) (I.hok.write mu he k heo new)
theorem Inv.weak {σ':List (Option V)} (I:Inv X pins σ H s) (hl:σ'.length=σ.length) (w:∀ (i:Nat) v,σ'[i]?=some (some v)->σ[i]?=some (some v)):Inv X pins σ' H s :=
 ⟨I.ok,I.os,I.bare,I.base,let ⟨m,hn,hl'⟩:=I.loc;⟨m,hn,fun i x v e1 e2 e3=>hl' i x v e1 (w i v e2) e3⟩,I.cell,I.free,I.freeC,I.pin,I.hok,hl.trans I.len⟩
theorem Inv.jW {pins':List (Addr×Obj)} (I:Inv X pins σ H s) (h:∀ p∈pins',s.heap.get? p.1=some p.2/\H p.1=none/\p.1≠X.env.locals/\p.1∉X.fs/\∀ v,p.2.data≠.cell v):Inv X pins' σ H s :=
 ⟨I.ok,I.os,I.bare,I.base,I.loc,I.cell,I.free,I.freeC,fun p hp=>(List.mem_append.mp hp).elim (fun z=>I.pin p (List.mem_append_left _ z)) (h p),I.hok,I.len⟩
theorem n8 {N:List Str} (hN:N.Nodup) {i j:Nat}{x:Str} (a:N[i]?=some x) (b:N[j]?=some x):i=j:=by
 obtain ⟨h1,e1⟩:=List.getElem?_eq_some_iff.mp a
 obtain ⟨h2,e2⟩:=List.getElem?_eq_some_iff.mp b
 exact (List.getElem_inj hN).mp (e1.trans e2.symm)
theorem lU {M:Model}{A:Around}{E:Value->Shared->Prop}{i:Nat}{x:Str}{v:V}{u:Value}{Q:Unit->Shared->Prop} (I:Inv X pins σ H s) (hN:X.N.Nodup) (hi:X.N[i]?=some x) (hx:Loc X.env.scope x) (r:RelV v u)
 (h:∀ s',Inv X pins (σ.set i (some v)) H s'->(∃ a,Heap.SameBut a s.heap s'.heap/\(a=X.env.locals\/X.env.cells.lookup x=some a))->Q () s') (hf:X.fn x=true\/X.env.scope.names.lookup x=some .local:=by first | exact .inl rfl | exact .inr rfl | assumption):wpAny M A (storeName X.env x u) Q E s:=by
 obtain ⟨m,hn,hl⟩:=id I.loc
 have hcls:(X.env.scope.kind==.class||(X.env.scope.kind==.module&&X.env.locals != X.env.globals))=false:=by rw[I.ok.kind];rfl
 have hiσ:i < σ.length:=by rw[I.len];exact (List.getElem?_eq_some_iff.mp hi).1
 have cne:=I.cne
 have tracked:∀ {a:Addr}{h':Heap},(∃ o,s.heap.get? a=some o/\H a=none)->Heap.SameBut a s.heap h'->HOk X.prog X.w H h':=fun {a h'} ha hs b ob e=>by
  obtain ⟨_,_,hfree⟩:=ha
  refine (I.hok b ob e).stay (fun c w' hc q=>(hs.2 c ?_).trans q) (fun _ q=>q) fun _ _ q=>q
  rintro rfl
  rcases hc with rfl | hc
  ·rw[hfree] at e;cases e
  ·rw[hfree] at hc;cases hc
 rcases hx with hk | hk
 ·refine wpAny_storeName_local hk hn (fun h' hn' hs=>?_) hcls
  obtain ⟨oL,_,_,hoL,_⟩:=id hn
  refine h _ ⟨I.ok,I.os,I.bare,⟨fun b o e n hb hx=>?_,fun b o e n hb hx=>?_,I.base.free,fun b o e hx=>?_,I.base.tups,I.base.frzs,I.base.tbls⟩,⟨_,hn',fun j y v' e1 e2 e3=>?_⟩,fun y c e=>?_,I.free,I.freeC,fun p hp=>?_,tracked ⟨oL,hoL,I.free⟩ hs,by simpa using I.len⟩ ⟨_,hs,.inl rfl⟩
  ·exact (hs.2 b (Nat.ne_of_lt (Nat.lt_of_lt_of_le (Heap.lt_size e) I.ok.above))).trans (I.base.keep b o e n hb hx)
  ·obtain ⟨sl,e1⟩:=I.base.slot b o e n hb hx
   exact ⟨sl,(hs.2 b (Nat.ne_of_lt (Nat.lt_of_lt_of_le (Heap.lt_size e) I.ok.above))).trans e1⟩
  ·obtain ⟨o',e1⟩:=I.base.there b o e hx
   exact ⟨o',(hs.2 b (Nat.ne_of_lt (Nat.lt_of_lt_of_le (Heap.lt_size e) I.ok.above))).trans e1⟩
  ·by_cases hj:j=i
   ·subst hj
    rw[hi] at e1;cases e1
    rw[List.getElem?_set_self hiσ] at e2
    cases e2
    exact ⟨u,r,.inl ⟨hk,by simp⟩⟩
   ·rw[List.getElem?_set_ne (Ne.symm hj)] at e2
    obtain ⟨u',r',q⟩:=hl j y v' e1 e2 e3
    refine ⟨u',r',?_⟩
    rcases q with ⟨k,e⟩ | ⟨k,c,e,z⟩
    ·refine .inl ⟨k,?_⟩
     have:y≠x:=fun e=>hj (n8 hN e1 (e ▸ hi))
     simp[this,e]
    ·exact .inr ⟨k,c,e,z.sameBut hs (cne y c e)⟩
  ·obtain ⟨w',z⟩:=I.cell y c e
   exact ⟨w',z.sameBut hs (cne y c e)⟩
  ·obtain ⟨e,n,ne,nf,d⟩:=I.pin p hp
   exact ⟨(hs.2 p.1 ne).trans e,n,ne,nf,d⟩
 ·have hfn:X.fn x=true:=by
   rcases hf with z | z
   ·exact z
   ·rw[z] at hk;cases hk
  obtain ⟨c,hc⟩:=I.ok.has x (.inl hk)
  obtain ⟨w',z⟩:=I.cell x c hc
  refine wpAny_storeName_cell I.ok.kind hk hc z (fun h' hc' hs=>?_)
  obtain ⟨oc,hoc,hocd⟩:=id z
  refine h { s with heap:=h' } ⟨I.ok,I.os,I.bare,⟨fun b o e n hb hx=>?_,fun b o e n hb hx=>?_,I.base.free,fun b o e hx=>?_,I.base.tups,I.base.frzs,I.base.tbls⟩,⟨m,hn.sameBut hs (Ne.symm (cne x c hc)),fun j y v' e1 e2 e3=>?_⟩,fun y c' e=>?_,I.free,I.freeC,fun p hp=>?_,tracked ⟨oc,hoc,I.freeC x c hc⟩ hs,by simpa using I.len⟩ ⟨c,hs,.inr hc⟩
  ·exact (hs.2 b (Nat.ne_of_lt (Nat.lt_of_lt_of_le (Heap.lt_size e) (I.ok.cab x c hfn hc)))).trans (I.base.keep b o e n hb hx)
  ·obtain ⟨sl,e1⟩:=I.base.slot b o e n hb hx
   exact ⟨sl,(hs.2 b (Nat.ne_of_lt (Nat.lt_of_lt_of_le (Heap.lt_size e) (I.ok.cab x c hfn hc)))).trans e1⟩
  ·obtain ⟨o',e1⟩:=I.base.there b o e hx
   exact ⟨o',(hs.2 b (Nat.ne_of_lt (Nat.lt_of_lt_of_le (Heap.lt_size e) (I.ok.cab x c hfn hc)))).trans e1⟩
  ·by_cases hj:j=i
   ·subst hj
    rw[hi] at e1;cases e1
    rw[List.getElem?_set_self hiσ] at e2
    cases e2
    exact ⟨u,r,.inr ⟨.inl hk,c,hc,hc'⟩⟩
   ·rw[List.getElem?_set_ne (Ne.symm hj)] at e2
    obtain ⟨u',r',q⟩:=hl j y v' e1 e2 e3
    refine ⟨u',r',?_⟩
    rcases q with q | ⟨k,c',e,z'⟩
    ·exact .inl q
    ·refine .inr ⟨k,c',e,z'.sameBut hs ?_⟩
     rintro rfl
     exact hj (n8 hN e1 (I.ok.inj _ _ _ e hc ▸ hi))
  ·by_cases hcc:c'=c
   ·subst hcc;exact ⟨_,hc'⟩
   ·obtain ⟨w2,z2⟩:=I.cell y c' e
    exact ⟨w2,z2.sameBut hs hcc⟩
  ·obtain ⟨e,n,ne,nf,d⟩:=I.pin p hp
   refine ⟨(hs.2 p.1 ?_).trans e,n,ne,nf,d⟩
   intro q
   rw[q,hoc] at e
   have q':oc=p.2:=Option.some.inj e
   exact d w' (by rw[← q'];exact hocd)
theorem kh {M:Model}{A:Around}{E:Value->Shared->Prop}{i:Nat}{x:Str}{v:V}{u:Value}{Q:Unit->Shared->Prop} (I:Inv X pins σ H s) (hN:X.N.Nodup) (hi:X.N[i]?=some x) (hx:Loc X.env.scope x) (r:RelV v u)
 (h:∀ s',Inv X pins (σ.set i (some v)) H s'->Q () s') (hf:X.fn x=true\/X.env.scope.names.lookup x=some .local:=by first | exact .inl rfl | exact .inr rfl | assumption):wpAny M A (storeName X.env x u) Q E s :=
 lU I hN hi hx r (fun s' I' _=>h s' I') hf
theorem Inv.Fj {s':Shared}{ch:List Addr} (I:Inv X pins σ H s) (ho:s'.os=s.os) (u:Un (frs X.stack) ch H H' s.heap s'.heap) (hok:HOk X.prog X.w H' s'.heap) (hg:AllBare s'.gens)
 (hch:∀ b∈ch,(b∈X.ex\/X.s₀.heap.objs.size<=b)/\b≠X.env.locals/\(∀ x c,X.env.cells.lookup x=some c->c≠b)/\∀ p∈X.pn++pins,p.1≠b):Inv X pins σ H' s':=by
 obtain ⟨h',g',d',t',o'⟩:=s'
 have e:o'=s.os:=ho
 subst e
 exact I.call (g':=g') (t':=t') (d':=d') u hok hg hch
end
noncomputable abbrev XK:=Value->Option Addr->Hp->Prop
noncomputable abbrev St:=List (Option V)
noncomputable abbrev VK:=V->Hp->Prop
noncomputable abbrev TE:=St->Hp->VK->Prop
noncomputable abbrev TT:=St->Hp->(Bool->Hp->Prop)->Prop
noncomputable abbrev TA:=St->Hp->(List V->Hp->Prop)->Prop
structure Ends where
 nx:St->Hp->Prop
 rt:VK
 bk:St->Hp->Prop:=fun _ _=>False
 ct:St->Hp->Prop:=fun _ _=>False
noncomputable abbrev TS:=Ends->St->Hp->Prop
noncomputable def EP (X:Cx) (pins:List (Addr×Obj)) (σ:St) (Q:VK) (u:Value) (s':Shared):Prop:=∃ v H',Inv X pins σ H' s'/\RelV v u/\Q v H'
noncomputable def TP (X:Cx) (pins:List (Addr×Obj)) (σ:St) (Q:Bool->Hp->Prop) (b:Bool) (s':Shared):Prop:=∃ H',Inv X pins σ H' s'/\Q b H'
noncomputable def AP (X:Cx) (pins:List (Addr×Obj)) (σ:St) (Q:List V->Hp->Prop) (us:List Value) (s':Shared):Prop:=∃ vs H',Inv X pins σ H' s'/\aq vs us/\Q vs H'
noncomputable def SP (X:Cx) (pins:List (Addr×Obj)) (D:Ends) (f:Flow) (s':Shared):Prop :=
 match f with
 | .next=>∃ σ' H',Inv X pins σ' H' s'/\D.nx σ' H'
 | .brk=>∃ σ' H',Inv X pins σ' H' s'/\D.bk σ' H'
 | .cont=>∃ σ' H',Inv X pins σ' H' s'/\D.ct σ' H'
 | .ret u=>∃ v σ' H',Inv X pins σ' H' s'/\RelV v u/\D.rt v H'
noncomputable def PE (X:Cx) (e:Expr) (t:TE):Prop :=
 ∀ (pins:List (Addr×Obj)) (s:Shared) (σ:St) (H:Hp) (Q:VK),Inv X pins σ H s->t σ H Q->wpAny (model X.prog X.w) X.A (eval e X.env) (EP X pins σ Q) X.xe s
noncomputable def PT (X:Cx) (e:Expr) (t:TT):Prop :=
 ∀ (pins:List (Addr×Obj)) (s:Shared) (σ:St) (H:Hp) (Q:Bool->Hp->Prop),Inv X pins σ H s->t σ H Q->wpAny (model X.prog X.w) X.A (isTrue e X.env (eval e X.env)) (TP X pins σ Q) X.xe s
noncomputable def PW (X:Cx) (e:Expr) (t:TT):Prop :=
 ∀ (whole:Sem Value) (pins:List (Addr×Obj)) (s:Shared) (σ:St) (H:Hp) (Q:Bool->Hp->Prop),Inv X pins σ H s->t σ H Q->wpAny (model X.prog X.w) X.A (isTrue e X.env whole) (TP X pins σ Q) X.xe s
theorem PW.pt {X:Cx}{e:Expr}{t:TT} (h:PW X e t):PT X e t:=h _
noncomputable def PA (X:Cx) (es:List Expr) (t:TA):Prop :=
 ∀ (pos:Pos) (pins:List (Addr×Obj)) (s:Shared) (σ:St) (H:Hp) (Q:List V->Hp->Prop),Inv X pins σ H s->t σ H Q->wpAny (model X.prog X.w) X.A (spliced (backTo pos (starEach es X.env))) (AP X pins σ Q) X.xe s
noncomputable def PS (X:Cx) (st:Stmt) (t:TS):Prop :=
 ∀ (pins:List (Addr×Obj)) (s:Shared) (σ:St) (H:Hp) (D:Ends),Inv X pins σ H s->t D σ H->wpAny (model X.prog X.w) X.A (exec st X.env) (SP X pins D) X.xe s
noncomputable def PSs (X:Cx) (st:List Stmt) (t:TS):Prop :=
 ∀ (pins:List (Addr×Obj)) (s:Shared) (σ:St) (H:Hp) (D:Ends),Inv X pins σ H s->t D σ H->wpAny (model X.prog X.w) X.A (execs st X.env) (SP X pins D) X.xe s
theorem thn {α:Type}{t:Sem α}{Q Q':α->Shared->Prop}{M:Model}{A:Around}{E:Value->Shared->Prop}{s:Shared} (h:wpAny M A t Q E s) (hQ:∀ a s,Q a s->Q' a s):wpAny M A t Q' E s:=wpAny_mono h hQ fun _ _ x=>x
end L2
namespace L2
open PySem PySem.Spec PyProof.Rows
section
variable {X:Cx}
theorem bin {a b:Expr}{ta tb:TE} (ha:PE X a ta) (hb:PE X b tb) {pins:List (Addr×Obj)}{s:Shared}{σ:St}{H:Hp}{R:V->V->Hp->Prop} (I:Inv X pins σ H s) (h:ta σ H fun x H1=>tb σ H1 fun y H2=>R x y H2)
 {α:Type}{Q:α->Shared->Prop}{f:Value->Value->Sem α}
 (hf:∀ v u s2 x y H2,Inv X pins σ H2 s2->RelV x v->RelV y u->R x y H2->wpAny (model X.prog X.w) X.A (f v u) Q X.xe s2) :
 wpAny (model X.prog X.w) X.A (eval a X.env) (fun v s₁=>wpAny (model X.prog X.w) X.A (eval b X.env) (fun u s₂=>wpAny (model X.prog X.w) X.A (f v u) Q X.xe s₂) X.xe s₁) X.xe s:=by
 refine thn (ha pins s σ H _ I h) fun v s1 zq=>?_
 obtain ⟨x,H1,I1,r1,q1⟩:=zq
 refine thn (hb pins s1 σ H1 _ I1 q1) fun u s2 zq=>?_
 obtain ⟨y,H2,I2,r2,q2⟩:=zq
 exact hf v u s2 x y H2 I2 r1 r2 q2
noncomputable def IQ (i:Nat):TE:=fun σ H Q=>∃ v,σ[i]?=some (some v)/\Q v H
noncomputable def tC (v:V):TE:=fun _ H Q=>Q v H
theorem uP {i:Nat}{x:Str}{pos:Pos} (hN:X.N[i]?=some x) (hv:Vis X.env.scope x) (hd:(x==("__debug__":Str))=false:=by decide) (hcd:(x==("__classdict__":Str))=false:=by decide):PE X (.Name x pos) (IQ i):=by
 intro pins s σ H Q I h
 obtain ⟨v,e,h⟩:=h
 obtain ⟨m,hn,hl⟩:=I.loc
 obtain ⟨u,r,l⟩:=hl i x v hN e hv
 have fin:EP X pins σ Q u s:=⟨v,H,I,r,h⟩
 rcases l with ⟨hk,hm⟩ | ⟨hk,c,hc,hcell⟩
 ·exact wpAny_Name (wpAny_loadName_local I.ok.kind hk hn hm fin) hd
 ·rcases hk with hk | hk
  ·exact wpAny_Name (wpAny_loadName_cell I.ok.kind hk hc hcell fin) hd
  ·exact wpAny_Name (wpAny_loadName_free I.ok.kind hk hc hcell fin hcd) hd
theorem p9 {i j pos}:PE X (.Constant (.int i) j pos) (tC (.int i)):=fun _ _ _ H _ I h=>wpAny_Constant_int ⟨.int i,H,I.tok _,⟨_,rfl⟩,h⟩
theorem Fk {b j pos}:PE X (.Constant (.bool b) j pos) (tC (.bl b)):=fun _ _ _ H _ I h=>Constant_bool ⟨.bl b,H,I,rfl,h⟩
theorem Cc {j pos}:PE X (.Constant .none j pos) (tC .non):=fun _ _ _ H _ I h=>Constant_none ⟨.non,H,I,rfl,h⟩
theorem Cd {x j pos}:PE X (.Constant (.str x) j pos) (tC (.str x)):=fun _ _ _ H _ I h=>Calls.Constant_str ⟨.str x,H,I.tok _,⟨_,rfl⟩,h⟩
noncomputable def Gl (X:Cx) (x:Str):Prop:=X.env.kindOf x=some .globalImplicit
theorem iK {E:Value->Shared->Prop}{pins:List (Addr×Obj)}{s:Shared}{σ:St}{H:Hp}{x:Str}{u:Value}{pos:Pos}{Q:Value->Shared->Prop} (I:Inv X pins σ H s) (hg:Gl X x) (hm:X.mg x=some u) (h:Q u s)
 (hd:(x==("__debug__":Str))=false:=by decide):wpAny (model X.prog X.w) X.A (eval (.Name x pos) X.env) Q E s :=
 Calls.Name_function_global I.ok.kind hg (Calls.loadGlobal_global (by rw[I.ok.glob];exact I.mod.glob.keeps I.bk) hm h) hd
theorem fh {E:Value->Shared->Prop}{pins:List (Addr×Obj)}{s:Shared}{σ:St}{H:Hp}{x:Str}{u:Value}{pos:Pos}{Q:Value->Shared->Prop} (I:Inv X pins σ H s) (hg:Gl X x) (hm:X.mg x=none) (hv:bootBuiltins x=some u) (h:Q u s)
 (hn:x≠"__name__":=by decide) (hd:(x==("__debug__":Str))=false:=by decide):wpAny (model X.prog X.w) X.A (eval (.Name x pos) X.env) Q E s:=by
 obtain ⟨mb,h1,h2⟩:=I.mod.blt
 exact Calls.Name_function_global I.ok.kind hg (Calls.loadGlobal_builtin (by rw[I.ok.glob];exact I.mod.glob.keeps I.bk) hm (by rw[I.ok.blt];exact h1.keeps I.bk) ((h2 x hn).trans hv) h) hd
theorem qW {x:Str}{v:V}{u:Value}{pos:Pos} (hg:Gl X x) (hm:X.mg x=some u) (r:RelV v u) (hd:(x==("__debug__":Str))=false:=by decide):PE X (.Name x pos) (tC v) :=
 fun _ _ _ H _ I h=>iK I hg hm ⟨v,H,I,r,h⟩ hd
theorem iL {x:Str}{v:V}{u:Value}{pos:Pos} (hg:Gl X x) (hm:X.mg x=none) (hv:bootBuiltins x=some u) (r:RelV v u) (hn:x≠"__name__":=by decide) (hd:(x==("__debug__":Str))=false:=by decide):PE X (.Name x pos) (tC v) :=
 fun _ _ _ H _ I h=>fh I hg hm hv ⟨v,H,I,r,h⟩ hn hd
variable {a b:Expr}{ta tb:TE}{pos:Pos}
noncomputable def PC (X:Cx) (op:CmpOp) (a b:Expr) (t:TE):Prop :=
 ∀ (pins:List (Addr×Obj)) (s:Shared) (σ:St) (H:Hp) (Q:VK),Inv X pins σ H s->t σ H Q →
  wpAny (model X.prog X.w) X.A (eval a X.env) (fun v s₁=>wpAny (model X.prog X.w) X.A (eval b X.env) (fun u s₂=>wpAny (model X.prog X.w) X.A (compareOp op v u) (EP X pins σ Q) X.xe s₂) X.xe s₁) X.xe s
theorem uQ (b:Expr) {op:CmpOp} (h:op≠.In) (h2:op≠.NotIn):behindInMarks op b=false:=by
 have e1:(op==CmpOp.In)=false:=by cases op<;>first | rfl | exact absurd rfl h
 have e2:(op==CmpOp.NotIn)=false:=by cases op<;>first | rfl | exact absurd rfl h2
 cases b<;>simp[behindInMarks,e1,e2]
noncomputable def tB (t:TE):TT:=fun σ H Q=>t σ H fun x H1=>∃ c,x=.bl c/\Q c H1
theorem IR {op:CmpOp}{t:TE} (h:PC X op a b t) (h1:behindInMarks op b=false:=by first | exact uQ _ (by decide) (by decide) | rfl):PT X (.Compare a [op] [b] pos) (tB t):=by
 intro pins s σ H Q I hw
 refine wpAny_isTrue_Compare1 (thn (h pins s σ H _ I hw) fun v s1 h1=>thn h1 fun u s2 h2=>thn h2 fun c s3 ⟨x,H1,I1,r1,q1⟩=>?_) h1
 obtain ⟨d,rfl,q⟩:=q1
 cases r1
 exact wpAny_truthy_bool ⟨H1,I1,q⟩
theorem Ce {e:Expr}{t:TE} (h:PE X e t) (he:∀ whole,isTrue e X.env whole=(do let v ← whole;standAt e.pos;holding [v] (truthy v)):=by intro _;rfl):PT X e (tB t):=by
 intro pins s σ H Q I hw
 refine isTrue_plain (thn (h pins s σ H _ I hw) fun v s1 ⟨x,H1,I1,r1,q1⟩=>?_) (he _)
 obtain ⟨d,rfl,q⟩:=q1
 cases r1
 exact wpAny_truthy_bool ⟨H1,I1,q⟩
variable {tA tB':TT}{rest:List Expr}
noncomputable def Fo (t u:TT):TT:=fun σ H Q=>t σ H fun c H1=>if c=true then u σ H1 Q else Q false H1
noncomputable def tOr (t u:TT):TT:=fun σ H Q=>t σ H fun c H1=>if c=true then Q true H1 else u σ H1 Q
noncomputable def Fp (t:TT):TT:=fun σ H Q=>t σ H fun c H1=>Q (!c) H1
theorem yy (ha:PT X a tA):PW X (.BoolOp .And [a] pos) tA:=by
 intro wh pins s σ H Q I h
 refine isTrue_and (thn (ha pins s σ H Q I h) fun c s1 e=>?_)
 cases c with
 | true=>exact isTrue_and_nil e
 | false=>exact e
theorem Cf (ha:PT X a tA):PW X (.BoolOp .Or [a] pos) tA:=by
 intro wh pins s σ H Q I h
 refine isTrue_or (thn (ha pins s σ H Q I h) fun c s1 e=>?_)
 cases c with
 | false=>exact isTrue_or_nil e
 | true=>exact e
theorem uR (ha:PT X a tA) (hb:PW X (.BoolOp .And (b :: rest) pos) tB'):PW X (.BoolOp .And (a :: b :: rest) pos) (Fo tA tB'):=by
 intro wh pins s σ H Q I h
 refine isTrue_and (thn (ha pins s σ H _ I h) fun c s1 zq=>?_)
 obtain ⟨H1,I1,q1⟩:=zq
 cases c with
 | true=>exact hb wh pins s1 σ H1 Q I1 q1
 | false=>exact ⟨H1,I1,q1⟩
theorem By (ha:PT X a tA) (hb:PW X (.BoolOp .Or (b :: rest) pos) tB'):PW X (.BoolOp .Or (a :: b :: rest) pos) (tOr tA tB'):=by
 intro wh pins s σ H Q I h
 refine isTrue_or (thn (ha pins s σ H _ I h) fun c s1 zq=>?_)
 obtain ⟨H1,I1,q1⟩:=zq
 cases c with
 | true=>exact ⟨H1,I1,q1⟩
 | false=>exact hb wh pins s1 σ H1 Q I1 q1
theorem Cg (ha:PT X a tA):PT X (.UnaryOp .Not a pos) (Fp tA):=by
 intro pins s σ H Q I h
 exact isTrue_not (ha pins s σ H (fun c H1=>Q (!c) H1) I h)
noncomputable def BA (ta tb:TE):TE:=fun σ H Q=>ta σ H fun x H1=>∃ c,x=.bl c/\if c=true then tb σ H1 Q else Q (.bl false) H1
noncomputable def Fq (ta tb:TE):TE:=fun σ H Q=>ta σ H fun x H1=>∃ c,x=.bl c/\if c=true then Q (.bl true) H1 else tb σ H1 Q
noncomputable def BB (ta:TE):TE:=fun σ H Q=>ta σ H fun x H1=>∃ c,x=.bl c/\Q (.bl (!c)) H1
theorem uS {op}{t:TE} (h:PE X a t):PE X (.BoolOp op [a] pos) t:=fun pins s σ H Q I hw=>BoolOp_one (h pins s σ H Q I hw)
theorem uT (ha:PE X a ta) (hb:PE X (.BoolOp .And (b :: rest) pos) tb):PE X (.BoolOp .And (a :: b :: rest) pos) (BA ta tb):=by
 intro pins s σ H Q I h
 refine BoolOp_and (thn (ha pins s σ H _ I h) fun v s1 zq=>?_)
 obtain ⟨x,H1,I1,r1,q1⟩:=zq
 obtain ⟨c,rfl,q1⟩:=q1
 cases r1
 refine wpAny_truthy_bool ?_
 cases c with
 | true=>exact hb pins s1 σ H1 Q I1 q1
 | false=>exact ⟨.bl false,H1,I1,rfl,q1⟩
theorem BD (ha:PE X a ta) (hb:PE X (.BoolOp .Or (b :: rest) pos) tb):PE X (.BoolOp .Or (a :: b :: rest) pos) (Fq ta tb):=by
 intro pins s σ H Q I h
 refine BoolOp_or (thn (ha pins s σ H _ I h) fun v s1 zq=>?_)
 obtain ⟨x,H1,I1,r1,q1⟩:=zq
 obtain ⟨c,rfl,q1⟩:=q1
 cases r1
 refine wpAny_truthy_bool ?_
 cases c with
 | false=>exact hb pins s1 σ H1 Q I1 q1
 | true=>exact ⟨.bl true,H1,I1,rfl,q1⟩
theorem Ci (ha:PE X a ta):PE X (.UnaryOp .Not a pos) (BB ta):=by
 intro pins s σ H Q I h
 refine UnaryOp_ (thn (ha pins s σ H _ I h) fun v s1 zq=>?_)
 obtain ⟨x,H1,I1,r1,q1⟩:=zq
 obtain ⟨c,rfl,q1⟩:=q1
 cases r1
 exact not_of (wpAny_truthy_bool ⟨.bl (!c),H1,I1,rfl,q1⟩)
noncomputable def tIf (t:TT) (ta tb:TE):TE:=fun σ H Q=>t σ H fun c H1=>if c=true then ta σ H1 Q else tb σ H1 Q
theorem uU {c:Expr} (hc:PT X c tA) (ha:PE X a ta) (hb:PE X b tb):PE X (.IfExp c a b pos) (tIf tA ta tb):=by
 intro pins s σ H Q I h
 refine wpAny_IfExp (thn (hc pins s σ H _ I h) fun d s1 zq=>?_)
 obtain ⟨H1,I1,q1⟩:=zq
 cases d with
 | true=>exact ha pins s1 σ H1 Q I1 q1
 | false=>exact hb pins s1 σ H1 Q I1 q1
end
end L2
namespace L2
open PySem PySem.Spec PyProof.Rows
noncomputable def SqL (K:PySem.W.Frag) (H:Hp) (a:Addr) (xs:List V):Prop :=
 Rd H a (.lst xs) ∨
  ∃ (o:Obj) (its:Array Value) (n:Nat),K.lookup a=some o/\o.cls=.type "list"/\o.dict=none/\o.data=.seq its n/\its.size<=sizeLine/\aq xs its.toList
noncomputable def SqT (K:PySem.W.Frag) (H:Hp) (a:Addr) (xs:List V):Prop :=
 Rd H a (.tup xs) ∨
  ∃ (o:Obj) (its:Array Value) (n:Nat),K.lookup a=some o/\o.cls=.type "tuple"/\o.data=.seq its n/\its.size<=sizeLine/\aq xs its.toList
noncomputable def IS:Value->Option V
 | .none=>some .non
 | .bool b=>some (.bl b)
 | .int i _=>some (.int i)
 | .str x _=>some (.str x)
 | .bytes b _=>some (.byt b)
 | .float b _=>some (.flt b)
 | .ref a=>some (.ref a)
 | .type n=>some (.ty n)
 | _=>none
theorem RelV.abs {x:V}{u:Value} (r:RelV x u):IS u=some x:=by
 cases x with
 | non=>cases r;rfl
 | bl _=>cases r;rfl
 | int _=>obtain ⟨t,rfl⟩:=r;rfl
 | str _=>obtain ⟨t,rfl⟩:=r;rfl
 | byt _=>obtain ⟨t,rfl⟩:=r;rfl
 | flt _=>obtain ⟨t,rfl⟩:=r;rfl
 | ref _=>cases r;rfl
 | ty _=>cases r;rfl
theorem RelV.inj {x y:V}{u:Value} (r:RelV x u) (q:RelV y u):x=y:=Option.some.inj (r.abs.symm.trans q.abs)
theorem aq.inj:∀ {xs ys:List V}{us:List Value},aq xs us->aq ys us->xs=ys
 | _,_,_,.nil,.nil=>rfl
 | _,_,_,.cons r t,.cons r' t'=>by rw[r.inj r',aq.inj t t']
section
variable {X:Cx}{pins:List (Addr×Obj)}{σ:St}{H:Hp}{s:Shared}{a:Addr}{xs ys:List V}
theorem SqL.of {K:PySem.W.Frag} (h:H a=some (.lst xs)):SqL K H a xs:=.inl (.inl h)
theorem SqT.of {K:PySem.W.Frag} (h:H a=some (.tup xs)):SqT K H a xs:=.inl (.inl h)
theorem Inv.list (I:Inv X pins σ H s) (h:SqL X.K H a xs):∃ its:List Value,aq xs its/\PlainL s.heap a its.toArray/\xs.length<=sizeLine:=by
 rcases h with h | ⟨o,its,n,hk,hc,hd,hs,hz,r⟩
 ·obtain ⟨z,its,n,r,e⟩:=h.ok I.hok
  exact ⟨its,r,⟨_,n,e,rfl,rfl,rfl⟩,z⟩
 ·refine ⟨its.toList,r,⟨o,n,I.kIn a o hk,hc,hd,by simpa using hs⟩,?_⟩
  have e:=r.length
  simp only[Array.length_toList] at e
  omega
theorem Inv.tuple (I:Inv X pins σ H s) (h:SqT X.K H a xs):∃ its:List Value,aq xs its/\IsTup s.heap a its.toArray/\xs.length<=sizeLine:=by
 rcases h with h | ⟨o,its,n,hk,hc,hs,hz,r⟩
 ·obtain ⟨z,its,r,p⟩:=h.ok I.hok
  exact ⟨its,r,p,z⟩
 ·refine ⟨its.toList,r,⟨o,I.kIn a o hk,hc,n,by simpa using hs⟩,?_⟩
  have e:=r.length
  simp only[Array.length_toList] at e
  omega
theorem Inv.n9 (I:Inv X pins σ H s) (h:SqL X.K H a xs) (h':SqL X.K H a ys):xs=ys:=by
 obtain ⟨its,r,⟨o,n,e,_,_,d⟩,_⟩:=I.list h
 obtain ⟨its',r',⟨o',n',e',_,_,d'⟩,_⟩:=I.list h'
 rw[e] at e';cases e'
 rw[d] at d'
 injection d' with d1 _
 have:its=its':=by simpa using congrArg Array.toList d1
 subst this
 exact r.inj r'
theorem Inv.sW (I:Inv X pins σ H s) (h:SqT X.K H a xs) (h':SqT X.K H a ys):xs=ys:=by
 obtain ⟨its,r,⟨o,e,_,n,d⟩,_⟩:=I.tuple h
 obtain ⟨its',r',⟨o',e',_,n',d'⟩,_⟩:=I.tuple h'
 rw[e] at e';cases e'
 rw[d] at d'
 injection d' with d1 _
 have:its=its':=by simpa using congrArg Array.toList d1
 subst this
 exact r.inj r'
end
noncomputable abbrev Cx.jM (X:Cx) (E:Value->Shared->Prop):Cx:={ X with xe:=E }
noncomputable abbrev Cx.nox (X:Cx):Cx:=X.jM fun _ _=>False
theorem Cx.Ok.jM {X:Cx} (ok:X.Ok) (E:Value->Shared->Prop):(X.jM E).Ok :=
 ⟨ok.mod,ok.kind,ok.glob,ok.blt,ok.above,ok.inj,ok.has,ok.cab,ok.hd,ok.frames,ok.stk,ok.exf,ok.bs,ok.bsz,ok.noex,ok.exfs,ok.ig,ok.frf⟩
theorem Cx.Ok.fj {X:Cx}{E:Value->Shared->Prop} (ok:(X.jM E).Ok):X.Ok :=
 ⟨ok.mod,ok.kind,ok.glob,ok.blt,ok.above,ok.inj,ok.has,ok.cab,ok.hd,ok.frames,ok.stk,ok.exf,ok.bs,ok.bsz,ok.noex,ok.exfs,ok.ig,ok.frf⟩
section
variable {X:Cx}{pins:List (Addr×Obj)}{σ:St}{H:Hp}{s:Shared}{E:Value->Shared->Prop}
theorem Inv.jM (I:Inv X pins σ H s) (E:Value->Shared->Prop):Inv (X.jM E) pins σ H s:=⟨I.ok.jM E,I.os,I.bare,I.base,I.loc,I.cell,I.free,I.freeC,I.pin,I.hok,I.len⟩
theorem Inv.fj (I:Inv (X.jM E) pins σ H s):Inv X pins σ H s:=⟨I.ok.fj,I.os,I.bare,I.base,I.loc,I.cell,I.free,I.freeC,I.pin,I.hok,I.len⟩
theorem SP.fj {D:Ends}{f:Flow}{s':Shared} (h:SP (X.jM E) pins D f s'):SP X pins D f s':=by
 cases f with
 | next=>obtain ⟨σ',H',I,q⟩:=h;exact ⟨σ',H',I.fj,q⟩
 | brk=>obtain ⟨σ',H',I,q⟩:=h;exact ⟨σ',H',I.fj,q⟩
 | cont=>obtain ⟨σ',H',I,q⟩:=h;exact ⟨σ',H',I.fj,q⟩
 | ret u=>obtain ⟨v,σ',H',I,r,q⟩:=h;exact ⟨v,σ',H',I.fj,r,q⟩
theorem PE.nox {e:Expr}{t:TE} (h:PE X.nox e t):PE X e t:=fun pins s σ H Q I hw =>
 wpAny_mono (h pins s σ H Q (I.jM _) hw) (fun _ _ ⟨v,H',I',r,q⟩=>⟨v,H',I'.fj,r,q⟩) fun _ _ z=>False.elim z
theorem PT.nox {e:Expr}{t:TT} (h:PT X.nox e t):PT X e t:=fun pins s σ H Q I hw =>
 wpAny_mono (h pins s σ H Q (I.jM _) hw) (fun _ _ ⟨H',I',q⟩=>⟨H',I'.fj,q⟩) fun _ _ z=>False.elim z
theorem PSs.nox {st:List Stmt}{t:TS} (h:PSs X.nox st t):PSs X st t:=fun pins s σ H D I hw =>
 wpAny_mono (h pins s σ H D (I.jM _) hw) (fun _ _ q=>q.fj) fun _ _ z=>False.elim z
end
section
variable {X:Cx}{st:Stmt}{rest:List Stmt}{t u:TS}{e:Expr}{te:TE}{pos:Pos}
noncomputable def Ft:TS:=fun D σ H=>D.nx σ H
noncomputable def Fv (t u:TS):TS:=fun D σ H=>t { D with nx:=u D } σ H
theorem yz:PSs X [] Ft:=fun _ _ σ H _ I h=>wpAny_execs_nil ⟨σ,H,I,h⟩
theorem uV (h1:PS X st t) (h2:PSs X rest u):PSs X (st :: rest) (Fv t u):=by
 intro pins s σ H D I h
 refine wpAny_execs_cons (thn (h1 pins s σ H { D with nx:=u D } I h) fun f s1 q=>?_)
 cases f with
 | next =>
  obtain ⟨σ',H',I',q⟩:=q
  exact h2 pins s1 σ' H' D I' q
 | ret v=>exact q
 | brk=>exact q
 | cont=>exact q
theorem yC (h1:PS X st t):PSs X [st] t:=by
 intro pins s σ H D I h
 refine wpAny_execs_cons (thn (h1 pins s σ H D I h) fun f s1 q=>?_)
 cases f with
 | next=>exact wpAny_execs_nil q
 | ret v=>exact q
 | brk=>exact q
 | cont=>exact q
noncomputable def Cj:TS:=fun D σ H=>D.bk σ H
noncomputable def Fw:TS:=fun D σ H=>D.ct σ H
theorem uW:PS X (.Break pos) Cj:=fun _ _ σ H _ I h=>wpAny_Break ⟨σ,H,I,h⟩
theorem oh:PS X (.Continue pos) Fw:=fun _ _ σ H _ I h=>wpAny_Continue ⟨σ,H,I,h⟩
theorem Inv.quiet {pins:List (Addr×Obj)}{σ:St}{H:Hp}{s:Shared} (I:Inv X pins σ H s):interactive X.env=false:=by simp[interactive,I.ok.kind]
noncomputable def Fx (te:TE):TS:=fun D σ H=>te σ H fun _ H1=>D.nx σ H1
theorem yD (he:PE X e te) (hs:swapsWith e none pos.line X.env=pure false:=by rfl):PS X (.Expr e pos) (Fx te):=by
 intro pins s σ H D I h
 exact wpAny_Expr_any (thn (he pins s σ H _ I h) fun v s1 ⟨x,H1,I1,r1,q1⟩=>⟨σ,H1,I1,q1⟩) I.quiet hs
noncomputable def IT (te:TE):TS:=fun D σ H=>te σ H D.rt
theorem uX (he:PE X e te):PS X (.Return (some e) pos) (IT te):=by
 intro pins s σ H D I h
 exact wpAny_Return_some (thn (he pins s σ H _ I h) fun v s1 ⟨x,H1,I1,r1,q1⟩=>⟨x,σ,H1,I1,r1,q1⟩)
noncomputable def IU (c:TT) (t u:TS):TS:=fun D σ H=>c σ H fun b H1=>if b=true then t D σ H1 else u D σ H1
theorem Fy {c:Expr}{a b:List Stmt}{tc:TT} (hc:PT X c tc) (ha:PSs X a t) (hb:PSs X b u):PS X (.If c a b pos) (IU tc t u):=by
 intro pins s σ H D I h
 refine wpAny_If (thn (hc pins s σ H _ I h) fun d s1 zq=>?_)
 obtain ⟨H1,I1,q1⟩:=zq
 cases d with
 | true=>exact ha pins s1 σ H1 D I1 q1
 | false=>exact hb pins s1 σ H1 D I1 q1
end
noncomputable abbrev TG:=V->St->Hp->(St->Hp->Prop)->Prop
noncomputable abbrev TGs:=List V->St->Hp->(St->Hp->Prop)->Prop
noncomputable def PG (X:Cx) (target:Expr) (t:TG):Prop :=
 ∀ (pins:List (Addr×Obj)) (s:Shared) (σ:St) (H:Hp) (v:V) (u:Value) (Q:St->Hp->Prop),Inv X pins σ H s->RelV v u->t v σ H Q →
  wpAny (model X.prog X.w) X.A (assign target X.env u) (fun _ s'=>∃ σ' H',Inv X pins σ' H' s'/\Q σ' H') X.xe s
noncomputable def PGs (X:Cx) (ts:List Expr) (t:TGs):Prop :=
 ∀ (pins:List (Addr×Obj)) (s:Shared) (σ:St) (H:Hp) (vs:List V) (us:List Value) (Q:St->Hp->Prop),Inv X pins σ H s->aq vs us->t vs σ H Q →
  wpAny (model X.prog X.w) X.A (assignInOrder ((assignEach ts X.env).map (·.2)) us) (fun _ s'=>∃ σ' H',Inv X pins σ' H' s'/\Q σ' H') X.xe s
noncomputable abbrev Ck:=V->V->V->Hp->(Hp->Prop)->Prop
noncomputable def Cn (X:Cx) (t:Ck):Prop :=
 ∀ (pins:List (Addr×Obj)) (s:Shared) (σ:St) (H:Hp) (o i v:V) (ov iv u:Value) (Q:Hp->Prop),Inv X pins σ H s->RelV o ov->RelV i iv->RelV v u->t o i v H Q →
  wpAny (model X.prog X.w) X.A (setItem ov iv u) (fun _ s'=>∃ H',Inv X pins σ H' s'/\Q H') X.xe s
noncomputable abbrev TIp:=V->V->Hp->VK->Prop
noncomputable def PIp (X:Cx) (op:Operator) (t:TIp):Prop :=
 ∀ (pins:List (Addr×Obj)) (s:Shared) (σ:St) (H:Hp) (x y:V) (v u:Value) (Q:VK),Inv X pins σ H s->RelV x v->RelV y u->t x y H Q →
  wpAny (model X.prog X.w) X.A (inplaceOp op v u) (EP X pins σ Q) X.xe s
section
variable {X:Cx}{pos:Pos}
noncomputable def oi (i:Nat):TG:=fun v σ H Q=>Q (σ.set i (some v)) H
theorem mT {i:Nat}{x:Str} (hN:X.N.Nodup) (hi:X.N[i]?=some x) (hx:Loc X.env.scope x) (hf:X.fn x=true\/X.env.scope.names.lookup x=some .local:=by first | exact .inl rfl | exact .inr rfl | assumption):PG X (.Name x pos) (oi i):=by
 intro pins s σ H v u Q I r h
 exact wpAny_assign_Name (kh I hN hi hx r (fun s' I'=>⟨_,H,I',h⟩) hf)
noncomputable def Co:TGs:=fun vs σ H Q=>vs=[]/\Q σ H
noncomputable def BE (t:TG) (u:TGs):TGs:=fun vs σ H Q=>∃ v r,vs=v :: r/\t v σ H fun σ' H'=>u r σ' H' Q
theorem yE:PGs X [] Co:=by
 intro pins s σ H vs us Q I r h
 obtain ⟨e,h⟩:=h
 subst e
 cases r
 exact assignInOrder_nil ⟨σ,H,I,h⟩
theorem oj {e:Expr}{es:List Expr}{t:TG}{u:TGs} (h1:PG X e t) (h2:PGs X es u)
 (hs:(assignEach (e :: es) X.env).map (·.2)=assign e X.env :: (assignEach es X.env).map (·.2):=by rfl):PGs X (e :: es) (BE t u):=by
 intro pins s σ H vs us Q I r h
 obtain ⟨v,vr,e1,h⟩:=h
 subst e1
 cases r with
 | cons r rr =>
  rw[hs]
  refine assignInOrder_cons (thn (h1 pins s σ H _ _ _ I r h) fun _ s1 zq=>?_)
  obtain ⟨σ1,H1,I1,q1⟩:=zq
  exact h2 pins s1 σ1 H1 _ _ Q I1 rr q1
noncomputable def IV (K:PySem.W.Frag) (n:Nat) (t:TGs):TG:=fun v σ H Q=>∃ a xs,v=.ref a/\SqT K H a xs/\xs.length=n/\t xs σ H Q
theorem Cq {es:List Expr}{k:Nat}{t:TGs}{n:Nat} (hc:X.calm=true) (h:PGs X es t)
 (hn:(assignEach es X.env).length=n:=by rfl) (hst:(assignEach es X.env).findIdx? (·.1)=none:=by rfl):PG X (.Tuple es k pos) (IV X.K n t):=by
 intro pins s σ H v u Q I r hw
 obtain ⟨a,xs,e1,hq,hl,hw⟩:=hw
 subst e1
 cases r
 obtain ⟨its,rv,ht,hz⟩:=I.tuple hq
 refine assign_Tuple_tuple (I.ok.hd hc) ht (by simp[hn,← hl,rv.length]) hst fun h' hx=>?_
 have I1:Inv X pins σ H { s with heap:=h' }:=I.kept (t':=s.toks) fun b o e=>hx b o (Nat.ne_of_lt (Heap.lt_size e)) e
 exact h pins _ σ H xs _ Q I1 (by simpa using rv) hw
noncomputable def Cr (to ti:TE) (t:Ck):TG:=fun v σ H Q=>to σ H fun o H1=>ti σ H1 fun i H2=>t o i v H2 fun H3=>Q σ H3
theorem uY {o i:Expr}{to ti:TE}{t:Ck} (ho:PE X o to) (hi:PE X i ti) (hs:Cn X t)
 (ha:∀ v,assign (.Subscript o i pos) X.env v=(do
  let ov ← holding [v] (eval o X.env)
  let iv ← holding [v,ov] (eval i X.env)
  standAt pos
  holding [v,ov,iv] (setItem ov iv v)
  release [v,ov,iv] []):=by intro _;rfl):PG X (.Subscript o i pos) (Cr to ti t):=by
 intro pins s σ H v u Q I r h
 rw[ha]
 refine wpAny_bind (wpAny_holding (thn (ho pins s σ H _ I h) fun ov s1 zq=>?_))
 obtain ⟨x,H1,I1,r1,q1⟩:=zq
 refine wpAny_bind (wpAny_holding (thn (hi pins s1 σ H1 _ I1 q1) fun iv s2 zq=>?_))
 obtain ⟨y,H2,I2,r2,q2⟩:=zq
 refine wpAny_bind (wpAny_standAt (wpAny_bind (wpAny_holding (thn (hs pins s2 σ H2 x y v ov iv u _ I2 r1 r2 r q2) fun _ s3 zq=>?_))))
 obtain ⟨H3,I3,q3⟩:=zq
 exact wpAny_release ⟨σ,H3,I3,q3⟩
noncomputable def sY (te:TE) (g:TG):TS:=fun D σ H=>te σ H fun x H1=>g x σ H1 D.nx
theorem uZ {tg e:Expr}{te:TE}{g:TG} (he:PE X e te) (hg:PG X tg g) (hs:swapsWithSole [tg] e pos.line X.env=pure false:=by rfl) (hw:swappedStores [tg] e X.env=pure none:=by rfl)
 (h1:(assignEach [tg] X.env).map (·.2)=[assign tg X.env]:=by rfl):PS X (.Assign [tg] e pos) (sY te g):=by
 intro pins s σ H D I h
 refine wpAny_Assign_stores (thn (he pins s σ H _ I h) fun v s1 ⟨x,H1,I1,r1,q1⟩=>?_) hs hw
 rw[h1]
 exact thn (hg pins s1 σ H1 x v _ I1 r1 q1) fun _ s2 q=>q
theorem qa {i:Nat}{x:Str}{e:Expr}{te:TE}{pos':Pos} (hN:X.N.Nodup) (hi:X.N[i]?=some x) (hx:Loc X.env.scope x) (he:PE X e te) (hs:swapsWith e (some (.Name x pos')) pos.line X.env=pure false:=by rfl) (hf:X.fn x=true\/X.env.scope.names.lookup x=some .local:=by first | exact .inl rfl | exact .inr rfl | assumption) :
 PS X (.Assign [.Name x pos'] e pos) (sY te (oi i)):=by
 intro pins s σ H D I h
 refine wpAny_Assign_Name (thn (he pins s σ H _ I h) fun v s1 ⟨y,H1,I1,r1,q1⟩=>?_) hs
 exact kh I1 hN hi hx r1 (fun s2 I2=>⟨_,H1,I2,q1⟩) hf
noncomputable def Fz (i:Nat) (te:TE) (ti:TIp):TS:=fun D σ H=>∃ x,σ[i]?=some (some x)/\te σ H fun y H1=>ti x y H1 fun z H2=>D.nx (σ.set i (some z)) H2
theorem Cs {i:Nat}{x:Str}{e:Expr}{te:TE}{op:Operator}{ti:TIp}{pos':Pos} (hN:X.N.Nodup) (hi:X.N[i]?=some x) (hx:Loc X.env.scope x) (he:PE X e te) (ho:PIp X op ti) (hf:X.fn x=true\/X.env.scope.names.lookup x=some .local:=by first | exact .inl rfl | exact .inr rfl | assumption) :
 PS X (.AugAssign (.Name x pos') op e pos) (Fz i te ti):=by
 intro pins s σ H D I h
 obtain ⟨v,e1,h⟩:=h
 obtain ⟨m,hn,hl⟩:=I.loc
 have vis:Vis X.env.scope x:=by rcases hx with k | k;exact .inl k;exact .inr (.inl k)
 obtain ⟨u,r,l⟩:=hl i x v hi e1 vis
 refine wpAny_AugAssign_Name ?_
 have go:wpAny (model X.prog X.w) X.A (eval e X.env) (fun w s₂=>wpAny (model X.prog X.w) X.A (inplaceOp op u w) (fun r s₃=>wpAny (model X.prog X.w) X.A (storeName X.env x r) (fun _=>SP X pins D .next) X.xe s₃) X.xe s₂) X.xe s:=by
  refine thn (he pins s σ H _ I h) fun w s1 zq=>?_
  obtain ⟨y,H1,I1,r1,q1⟩:=zq
  refine thn (ho pins s1 σ H1 v y u w _ I1 r r1 q1) fun z s2 zq=>?_
  obtain ⟨zv,H2,I2,r2,q2⟩:=zq
  exact kh I2 hN hi hx r2 (fun s3 I3=>⟨_,H2,I3,q2⟩) hf
 rcases l with ⟨hk,hm⟩ | ⟨hk,c,hc,hcell⟩
 ·exact wpAny_loadName_local I.ok.kind hk hn hm go
 ·rcases hk with hk | hk
  ·exact wpAny_loadName_cell I.ok.kind hk hc hcell go
  ·rcases hx with k | k
   ·have:X.env.scope.names.lookup x=some .free:=hk
    rw[k] at this;cases this
   ·have:X.env.scope.names.lookup x=some .free:=hk
    rw[k] at this;cases this
end
section
variable {X:Cx}{pos:Pos}
noncomputable def u0 (c:TT) (tb:TS):TS:=fun D σ H=>∃ W:Nat->St->Hp->Prop,(∃ m,W m σ H)/\∀ m σ H,W m σ H →
 c σ H fun b H1=>if b=true then ∃ N:St->Hp->Prop,(∀ σ' H',N σ' H'->∃ m',m' < m/\W m' σ' H')/\tb { D with nx:=N,ct:=N,bk:=D.nx } σ H1 else D.nx σ H1
theorem u5 {c:Expr}{body:List Stmt}{tc:TT}{tb:TS} (hp:PassesOwn (model X.prog X.w) X.A X.env X.xe) (hc:PT X c tc) (hb:PSs X body tb):PS X (.While c body [] pos) (u0 tc tb):=by
 intro pins s σ H D I h
 obtain ⟨W,⟨m0,w0⟩,turn⟩:=h
 refine wpAny_While (codeAny_whileLoop (fun n s'=>∃ σ' H',Inv X pins σ' H' s'/\W n σ' H') ?_ m0 ⟨σ,H,I,w0⟩)
 rintro n s1 ⟨σ1,H1,I1,w1⟩
 refine wpAny_passesOwn hp (thn (hc pins s1 σ1 H1 _ I1 (turn n σ1 H1 w1)) fun b s2 zq=>?_)
 obtain ⟨H2,I2,q2⟩:=zq
 cases b with
 | true =>
  obtain ⟨N,hN,q2⟩:=q2
  rw[if_pos rfl]
  refine wpAny_passesOwn hp (thn (hb pins s2 σ1 H2 _ I2 q2) fun f s3 q3=>?_)
  cases f with
  | next =>
   obtain ⟨σ3,H3,I3,n3⟩:=q3
   obtain ⟨m',hm,w3⟩:=hN σ3 H3 n3
   exact ⟨m',hm,σ3,H3,I3,w3⟩
  | cont =>
   obtain ⟨σ3,H3,I3,n3⟩:=q3
   obtain ⟨m',hm,w3⟩:=hN σ3 H3 n3
   exact ⟨m',hm,σ3,H3,I3,w3⟩
  | brk=>exact q3
  | ret v=>exact q3
 | false =>
  rw[if_neg Bool.false_ne_true]
  exact wpAny_execs_nil ⟨σ1,H2,I2,q2⟩
end
structure It where
 go:Nat->Hp->Prop
 yld:Nat->Hp->V->Hp->Prop
 stop:Nat->Hp->Prop
noncomputable def lD (X:Cx) (pins:List (Addr×Obj)) (H:Hp) (b:Addr):Prop :=
 H b=none/\b≠X.env.locals/\b∉X.fs/\(b∈X.ex\/X.s₀.heap.objs.size<=b)/\(∀ x c,X.env.cells.lookup x=some c->c≠b)/\∀ p∈X.pn++pins,p.1≠b
theorem Inv.yF {X:Cx}{pins:List (Addr×Obj)}{σ:St}{H H':Hp}{s:Shared}{b:Addr} (I:Inv X pins σ H s) (hb:s.heap.objs.size<=b) (hn:H' b=none):lD X pins H' b:=by
 refine ⟨hn,Nat.ne_of_gt (Nat.lt_of_lt_of_le I.lt hb),I.IP hb,.inr (Nat.le_trans I.sz hb),fun x c e z=>?_,fun p hp z=>?_⟩
 ·obtain ⟨v,q⟩:=I.cell x c e
  exact absurd (Nat.lt_of_lt_of_le q.lt (by rw[z];exact hb)) (Nat.lt_irrefl _)
 ·exact absurd (Nat.lt_of_lt_of_le (Heap.lt_size (I.pin p hp).1) (by rw[z];exact hb)) (Nat.lt_irrefl _)
structure Turn (P:Program) (w:World) (K:PySem.W.Frag) (tg:Expr) (J:It) (fp:List Addr) (it:Addr) (tn:Nat->Heap->Prop):Prop where
 mem:it∈fp
 obj:∀ i h,tn i h->∀ b∈fp,∃ o,h.get? b=some o/\∀ v,o.data≠.cell v
 keep:∀ i h h',tn i h->(∀ b∈fp,∀ o,h.get? b=some o->h'.get? b=some o)->tn i h'
 item:∀ (X:Cx),X.prog=P->X.w=w->X.K=K->X.calm=true->∀ (i:Nat) (pins:List (Addr×Obj)) (s:Shared) (σ:St) (H:Hp) (E:Value->Shared->Prop),Inv X pins σ H s->(∀ b∈fp,lD X pins H b)->tn i s.heap->J.go i H →
  wpAny (model P w) X.A (pyNext (.ref it)) (fun r s1=>∃ u,r=some u ∧
   wpAny (model P w) X.A (letOwnedTupleGo tg (.ref it) u) (fun _ s2=>∃ x H',Inv X pins σ H' s2/\RelV x u/\J.yld i H x H'/\tn (i+1) s2.heap/\∀ b∈fp,H' b=none) E s1) E s
 done:∀ (X:Cx),X.prog=P->X.w=w->X.K=K->X.calm=true->∀ (i:Nat) (pins:List (Addr×Obj)) (s:Shared) (σ:St) (H:Hp) (E:Value->Shared->Prop),Inv X pins σ H s->(∀ b∈fp,lD X pins H b)->tn i s.heap->J.stop i H →
  wpAny (model P w) X.A (pyNext (.ref it)) (fun r s1=>r=none/\Inv X pins σ H s1) E s
 self:∀ (A:Around) (i:Nat) (s:Shared) (Q:Value->Shared->Prop) (E:Value->Shared->Prop),tn i s.heap->Q (.ref it) s->wpAny (model P w) A (pyIter (.ref it)) Q E s
noncomputable abbrev TI:=St->Hp->(It->Hp->Prop)->Prop
noncomputable def PIE (X:Cx) (pins:List (Addr×Obj)) (σ:St) (tg:Expr) (R:It->Hp->Prop) (itv:Value) (s2:Shared):Prop :=
 ∃ (it:Addr) (fp:List Addr) (tn:Nat->Heap->Prop) (J:It) (H':Hp),itv=.ref it/\Inv X pins σ H' s2/\Turn X.prog X.w X.K tg J fp it tn/\tn 0 s2.heap/\(∀ b∈fp,lD X pins H' b)/\R J H'
noncomputable def PI (X:Cx) (tg iter:Expr) (wi:TI):Prop :=
 ∀ (pins:List (Addr×Obj)) (s:Shared) (σ:St) (H:Hp) (R:It->Hp->Prop),Inv X pins σ H s->wi σ H R →
  wpAny (model X.prog X.w) X.A (eval iter X.env) (fun v s1=>wpAny (model X.prog X.w) X.A (pyIter v) (PIE X pins σ tg R) X.xe s1) X.xe s
theorem qX {M:Model}{A:Around}{E:Value->Shared->Prop}{s:Shared}{tg:Expr}{it:Addr}{u:Value}{o:Obj}{n:String}{vs:Array Value}{Q:Unit->Shared->Prop} (ho:s.heap.get? it=some o) (hc:o.cls=.type n) (hd:o.data=.fields vs)
 (hn:["enumerate","zip","dict_itemiterator","dict_reverseitemiterator","odict_iterator","itertools.zip_longest","itertools.pairwise"].contains n=false) (hQ:Q () s):wpAny M A (letOwnedTupleGo tg (.ref it) u) Q E s:=by
 unfold letOwnedTupleGo
 cases tg<;>first
  | exact wpAny_pure hQ
  | (cases u<;>first
   | exact wpAny_pure hQ
   | (refine wpAny_bind (wpAny_load ho ?_)
      rw[hc,hd]
      show wpAny M A (if (["enumerate","zip","dict_itemiterator","dict_reverseitemiterator","odict_iterator","itertools.zip_longest","itertools.pairwise"].contains n&&vs[0]?==some (rawInt _))=true then _ else _) Q E s
      rw[if_neg (by intro h;rw[hn,Bool.false_and] at h;cases h)]
      exact wpAny_pure hQ))
noncomputable def Itl (K:PySem.W.Frag) (a:Addr):It :=
 ⟨fun i H=>∃ xs x,SqL K H a xs/\xs[i]?=some x,fun i H x H'=>H'=H/\∀ xs,SqL K H a xs->xs[i]?=some x,fun i H=>∃ xs,SqL K H a xs/\xs.length<=i⟩
noncomputable def Itt (K:PySem.W.Frag) (a:Addr):It :=
 ⟨fun i H=>∃ xs x,SqT K H a xs/\xs[i]?=some x,fun i H x H'=>H'=H/\∀ xs,SqT K H a xs->xs[i]?=some x,fun i H=>∃ xs,SqT K H a xs/\xs.length<=i⟩
noncomputable def Itr (lo:Int) (n:Nat):It:=⟨fun i _=>i < n,fun i H x H'=>H'=H/\x=.int (lo+i),fun i _=>n<=i⟩
theorem sZ {P:Program}{w:World}{K:PySem.W.Frag}{tg:Expr} (a it:Addr):Turn P w K tg (Itl K a) [it] it (fun i h=>h.IsListIter it a i) where
 mem:=by simp
 obj:=fun i h st b hb=>by
  have e:b=it:=by simpa using hb
  subst e
  obtain ⟨o,e,c,d⟩:=st
  exact ⟨o,e,fun v z=>by rw[d] at z;cases z⟩
 keep:=fun i h h' st k=>st.at fun o e=>k it (by simp) o e
 item:=by
  intro X hP hw hK hc i pins s σ H E I hf st hg
  subst hP hw hK
  obtain ⟨xs,x,hq,hx⟩:=hg
  obtain ⟨its,rv,p,hz⟩:=I.list hq
  obtain ⟨u,hu,ru⟩:=rv.get hx
  obtain ⟨f0,f1,f2,f3,f4,f5⟩:=hf it (by simp)
  refine wpAny_pyNext_list_item st p.isList (x:=u) (by simpa using hu) fun h' st' sb=>?_
  have I1:Inv X pins σ H { s with heap:=h' }:=I.turned (t':=s.toks) (fun b o hb e=>(sb.2 b hb).trans e) f0 f1 f3 f4 f5
  obtain ⟨o,e,c,d⟩:=id st'
  exact ⟨u,rfl,qX (s:={ s with heap:=h' }) e c d (by decide) ⟨x,H,I1,ru,⟨rfl,fun ys hy=>by rw[I.n9 hy hq];exact hx⟩,st',fun b hb=>(hf b hb).1⟩⟩
 done:=by
  intro X hP hw hK hc i pins s σ H E I hf st hg
  subst hP hw hK
  obtain ⟨xs,hq,hx⟩:=hg
  obtain ⟨its,rv,p,hz⟩:=I.list hq
  obtain ⟨f0,f1,f2,f3,f4,f5⟩:=hf it (by simp)
  have hl:=rv.length
  exact wpAny_pyNext_list_end (I.ok.hd hc) st p.isList (by simp;omega) fun h' eb=>⟨rfl,I.turned (t':=s.toks) (fun b o hb e=>eb b o hb e) f0 f1 f3 f4 f5⟩
 self:=fun _ _ _ _ _ st h=>wpAny_pyIter_listiter st h
theorem qb {P:Program}{w:World}{K:PySem.W.Frag}{tg:Expr} (a it:Addr):Turn P w K tg (Itt K a) [it] it (fun i h=>h.IsTupleIter it a i) where
 mem:=by simp
 obj:=fun i h st b hb=>by
  have e:b=it:=by simpa using hb
  subst e
  obtain ⟨o,e,c,d⟩:=st
  exact ⟨o,e,fun v z=>by rw[d] at z;cases z⟩
 keep:=fun i h h' st k=>st.at fun o e=>k it (by simp) o e
 item:=by
  intro X hP hw hK hc i pins s σ H E I hf st hg
  subst hP hw hK
  obtain ⟨xs,x,hq,hx⟩:=hg
  obtain ⟨its,rv,p,hz⟩:=I.tuple hq
  obtain ⟨u,hu,ru⟩:=rv.get hx
  obtain ⟨f0,f1,f2,f3,f4,f5⟩:=hf it (by simp)
  refine wpAny_pyNext_tuple_item st (show s.heap.IsTuple a its.toArray from p) (x:=u) (by simpa using hu) fun h' st' sb=>?_
  have I1:Inv X pins σ H { s with heap:=h' }:=I.turned (t':=s.toks) (fun b o hb e=>(sb.2 b hb).trans e) f0 f1 f3 f4 f5
  obtain ⟨o,e,c,d⟩:=id st'
  exact ⟨u,rfl,qX (s:={ s with heap:=h' }) e c d (by decide) ⟨x,H,I1,ru,⟨rfl,fun ys hy=>by rw[I.sW hy hq];exact hx⟩,st',fun b hb=>(hf b hb).1⟩⟩
 done:=by
  intro X hP hw hK hc i pins s σ H E I hf st hg
  subst hP hw hK
  obtain ⟨xs,hq,hx⟩:=hg
  obtain ⟨its,rv,p,hz⟩:=I.tuple hq
  obtain ⟨f0,f1,f2,f3,f4,f5⟩:=hf it (by simp)
  have hl:=rv.length
  exact wpAny_pyNext_tuple_end (I.ok.hd hc) st (show s.heap.IsTuple a its.toArray from p) (by simp;omega) fun h' eb=>⟨rfl,I.turned (t':=s.toks) (fun b o hb e=>eb b o hb e) f0 f1 f3 f4 f5⟩
 self:=fun _ _ _ _ _ st h=>wpAny_pyIter_tupleiter st h
theorem qc {P:Program}{w:World}{K:PySem.W.Frag}{tg:Expr} (it:Addr) (lo:Int) (n:Nat):Turn P w K tg (Itr lo n) [it] it (fun i h=>IsRangeIter h it (lo+(i:Nat)*1) ((n:Int) - (i:Nat)) 1) where
 mem:=by simp
 obj:=fun i h st b hb=>by
  have e:b=it:=by simpa using hb
  subst e
  exact ⟨_,st,fun v z=>by
   have z':Data.fields _=Data.cell v:=z
   cases z'⟩
 keep:=fun i h h' st k=>k it (by simp) _ st
 item:=by
  intro X hP hw hK hc i pins s σ H E I hf st hg
  subst hP hw hK
  obtain ⟨f0,f1,f2,f3,f4,f5⟩:=hf it (by simp)
  have W:=Walks.range (prog:=X.prog) (w:=X.w) (I.ok.hd hc) it lo 1 n
  refine W.item i s _ _ hg st fun v h' tk hv st' kk=>?_
  obtain ⟨t,rfl⟩:=hv
  have I1:Inv X pins σ H { s with heap:=h',toks:=tk }:=I.turned (fun b o hb e=>kk b o (by simpa using hb) e) f0 f1 f3 f4 f5
  refine ⟨_,rfl,qX (s:={ s with heap:=h',toks:=tk }) (n:="range_iterator") st' rfl rfl (by decide) ⟨.int (lo+i),H,I1,⟨t,?_⟩,⟨rfl,rfl⟩,st',fun b hb=>(hf b hb).1⟩⟩
  rw[Int.mul_one]
 done:=by
  intro X hP hw hK hc i pins s σ H E I hf st hg
  subst hP hw hK
  obtain ⟨f0,f1,f2,f3,f4,f5⟩:=hf it (by simp)
  exact wpAny_pyNext_range_end (I.ok.hd hc) st (by have:n<=i:=hg;omega) fun h' eb=>⟨rfl,I.turned (t':=s.toks) (fun b o hb e=>eb b o hb e) f0 f1 f3 f4 f5⟩
 self:=fun _ _ _ _ _ st h=>wpAny_pyIter_rangeiter st h
end L2
namespace L2
open PySem PySem.Spec PyProof.Rows
section
variable {X:Cx}{tg:Expr}
noncomputable def FA (K:PySem.W.Frag) (tl:TE):TI:=fun σ H R=>tl σ H fun x H1=>∃ a,x=.ref a/\(∃ xs,SqL K H1 a xs)/\R (Itl K a) H1
noncomputable def IW (K:PySem.W.Frag) (tl:TE):TI:=fun σ H R=>tl σ H fun x H1=>∃ a,x=.ref a/\(∃ xs,SqT K H1 a xs)/\R (Itt K a) H1
theorem yG {l:Expr}{tl:TE} (hl:PE X l tl):PI X tg l (FA X.K tl):=by
 intro pins s σ H R I h
 refine thn (hl pins s σ H _ I h) fun v s1 zq=>?_
 obtain ⟨x,H1,I1,r1,q1⟩:=zq
 obtain ⟨a,e,⟨xs,hq⟩,q⟩:=q1
 subst e
 cases r1
 obtain ⟨its,rv,p,hz⟩:=I1.list hq
 refine wpAny_pyIter_list p.isList ?_
 refine ⟨s1.heap.objs.size,[s1.heap.objs.size],_,_,H1,rfl,I1.kept (t':=s1.toks) fun b o e=>Heap.get?_push_of_some _ e,sZ a _,⟨_,Heap.get?_push_size _ rfl,rfl,rfl⟩,fun b hb=>?_,q⟩
 have e:b=s1.heap.objs.size:=by simpa using hb
 subst e
 exact I1.yF (Nat.le_refl _) (I1.hok.fresh (Nat.le_refl _))
theorem Ct {l:Expr}{tl:TE} (hl:PE X l tl):PI X tg l (IW X.K tl):=by
 intro pins s σ H R I h
 refine thn (hl pins s σ H _ I h) fun v s1 zq=>?_
 obtain ⟨x,H1,I1,r1,q1⟩:=zq
 obtain ⟨a,e,⟨xs,hq⟩,q⟩:=q1
 subst e
 cases r1
 obtain ⟨its,rv,p,hz⟩:=I1.tuple hq
 refine wpAny_pyIter_tuple (show s1.heap.IsTuple a its.toArray from p) ?_
 refine ⟨s1.heap.objs.size,[s1.heap.objs.size],_,_,H1,rfl,I1.kept (t':=s1.toks) fun b o e=>Heap.get?_push_of_some _ e,qb a _,⟨_,Heap.get?_push_size _ rfl,rfl,rfl⟩,fun b hb=>?_,q⟩
 have e:b=s1.heap.objs.size:=by simpa using hb
 subst e
 exact I1.yF (Nat.le_refl _) (I1.hok.fresh (Nat.le_refl _))
theorem om {pins:List (Addr×Obj)}{σ:St}{H:Hp}{s:Shared}{R:It->Hp->Prop}{E:Value->Shared->Prop}{lo hi:Int}{t u v:Tok}{tk:Nat} (I:Inv X pins σ H s) (h1:-(2 ^ 62)<=lo) (h2:lo < 2 ^ 62) (h3:-(2 ^ 62)<=hi) (h4:hi < 2 ^ 62)
 (q:R (Itr lo (hi - lo).toNat) H):wpAny (model X.prog X.w) X.A (pyIter (.ref s.heap.objs.size)) (PIE X pins σ tg R) E { s with heap:=s.heap.push { cls:=.type "range",data:=.fields #[.int lo t,.int hi u,.int 1 v] },toks:=tk }:=by
 refine wpAny_pyIter_range (IsRange.new ..) (small_one h1 h2 h3 h4) ?_
 have I1:Inv X pins σ H { s with heap:=s.heap.push { cls:=.type "range",data:=.fields #[.int lo t,.int hi u,.int 1 v] },toks:=tk }:=I.kept fun b o e=>Heap.get?_push_of_some _ e
 refine ⟨(s.heap.push { cls:=.type "range",data:=.fields #[.int lo t,.int hi u,.int 1 v] }).objs.size,[(s.heap.push { cls:=.type "range",data:=.fields #[.int lo t,.int hi u,.int 1 v] }).objs.size],_,_,H,rfl,
  I1.kept (t':=tk) fun b o e=>Heap.get?_push_of_some _ e,qc _ lo (hi - lo).toNat,?_,fun b hb=>?_,q⟩
 ·have e1:lo+((0:Nat):Int)*1=lo:=by simp
  have e2:(((hi - lo).toNat:Nat):Int) - ((0:Nat):Int)=Builtin.Range.rangeSize lo hi 1:=by rw[rangeSize_one];split<;>omega
  show IsRangeIter _ _ (lo+((0:Nat):Int)*1) ((((hi - lo).toNat:Nat):Int) - ((0:Nat):Int)) 1
  rw[e1,e2]
  exact Heap.get?_push_size _ rfl
 ·have e:b=(s.heap.push { cls:=.type "range",data:=.fields #[.int lo t,.int hi u,.int 1 v] }).objs.size:=by simpa using hb
  subst e
  exact I1.yF (Nat.le_refl _) (I1.hok.fresh (Nat.le_refl _))
noncomputable def FD (ta:TA):TI:=fun σ H R=>ta σ H fun vs H1=>∃ j:Int,vs=[.int j]/\-(2 ^ 62)<=j/\j < 2 ^ 62/\R (Itr 0 j.toNat) H1
noncomputable def FE (ta:TA):TI:=fun σ H R=>ta σ H fun vs H1=>∃ i j:Int,vs=[.int i,.int j]/\(-(2 ^ 62)<=i/\i < 2 ^ 62/\-(2 ^ 62)<=j/\j < 2 ^ 62)/\R (Itr i (j - i).toNat) H1
theorem tw {a:Expr}{ta:TA}{p pos:Pos} (hg:Gl X "range") (hm:X.mg "range"=none) (ha:PA X [a] ta) (hs:starEach [a] X.env=[(false,eval a X.env)]:=by rfl):PI X tg (.Call (.Name "range" p) [a] [] pos) (FD ta):=by
 intro pins s σ H R I h
 refine Call_ (fh I hg hm boot_range (PyProof.Rows.callWith_type1 (thn (ha pos pins s σ H _ I h) fun us s1 ⟨vs,H1,I1,r1,q1⟩=>?_) hs rfl))
 obtain ⟨j,e,q1,q2,q⟩:=q1
 subst e
 cases r1 with
 | cons r rr =>
  cases rr
  obtain ⟨t,rfl⟩:=r
  exact call_range_1 (om I1 (by omega) (by omega) q1 q2 (by simpa using q))
theorem tE {a b:Expr}{ta:TA}{p pos:Pos} (hg:Gl X "range") (hm:X.mg "range"=none) (ha:PA X [a,b] ta) (hs:starEach [a,b] X.env=[(false,eval a X.env),(false,eval b X.env)]:=by rfl) (hs2:starEach [b] X.env=[(false,eval b X.env)]:=by rfl) :
 PI X tg (.Call (.Name "range" p) [a,b] [] pos) (FE ta):=by
 intro pins s σ H R I h
 refine Call_ (fh I hg hm boot_range (PyProof.Rows.callWith_type1 (thn (ha pos pins s σ H _ I h) fun us s1 ⟨vs,H1,I1,r1,q1⟩=>?_) (by rw[hs,hs2]) (by rw[hs2];rfl)))
 obtain ⟨i,j,e,⟨q1,q2,q3,q4⟩,q⟩:=q1
 subst e
 cases r1 with
 | cons r rr =>
  cases rr with
  | cons r' rr =>
   cases rr
   obtain ⟨t,rfl⟩:=r
   obtain ⟨t',rfl⟩:=r'
   exact call_range_2 (om I1 q1 q2 q3 q4 q)
noncomputable def FF (wi:TI) (g:TG) (tb:TS):TS:=fun D σ H=>wi σ H fun J H1=>∃ W:Nat->Nat->St->Hp->Prop,(∃ m,W 0 m σ H1)/\∀ i m σ H,W i m σ H →
 (J.stop i H/\D.nx σ H)\/(J.go i H/\∃ N:St->Hp->Prop,(∀ σ' H',N σ' H'->∃ m',m' < m/\W (i+1) m' σ' H')/\∀ x H',J.yld i H x H'->g x σ H' fun σ2 H2=>tb { D with nx:=N,ct:=N,bk:=D.nx } σ2 H2)
noncomputable def jk (fp:List Addr) (h:Heap):List (Addr×Obj):=fp.filterMap fun b=>(h.get? b).map fun o=>(b,o)
theorem fK {fp:List Addr}{h:Heap}{b:Addr}{o:Obj} (hb:b∈fp) (e:h.get? b=some o):(b,o)∈jk fp h:=List.mem_filterMap.mpr ⟨b,hb,by rw[e];rfl⟩
theorem tF {fp:List Addr}{h:Heap}{p:Addr×Obj} (hp:p∈jk fp h):p.1∈fp/\h.get? p.1=some p.2:=by
 obtain ⟨b,hb,e⟩:=List.mem_filterMap.mp hp
 cases q:h.get? b with
 | none=>rw[q] at e;cases e
 | some o =>
  rw[q] at e
  have e':(b,o)=p:=Option.some.inj e
  subst e'
  exact ⟨hb,q⟩
theorem Inv.pinned {pins:List (Addr×Obj)}{σ:St}{H:Hp}{s:Shared}{fp:List Addr} (I:Inv X pins σ H s) (hf:∀ b∈fp,lD X pins H b) (ho:∀ b∈fp,∃ o,s.heap.get? b=some o/\∀ v,o.data≠.cell v):Inv X (pins++jk fp s.heap) σ H s :=
 I.jW fun p hp=>(List.mem_append.mp hp).elim (fun z=>I.pin p (List.mem_append_right _ z)) fun z=>by
  obtain ⟨hb,e⟩:=tF z
  obtain ⟨f0,f1,f2,_⟩:=hf p.1 hb
  obtain ⟨o,e',d⟩:=ho p.1 hb
  rw[e] at e';cases e'
  exact ⟨e,f0,f1,f2,d⟩
theorem Inv.iM {pins pl:List (Addr×Obj)}{σ:St}{H:Hp}{s:Shared} (I:Inv X (pins++pl) σ H s):Inv X pins σ H s:=I.jW fun p hp=>I.pin p (List.mem_append_right _ (List.mem_append_left _ hp))
theorem Cu {iter:Expr}{body:List Stmt}{wi:TI}{g:TG}{tb:TS}{pos:Pos} (hp:PassesOwn (model X.prog X.w) X.A X.env X.xe) (hc:X.calm=true) (hi:PI X tg iter wi) (hg:PG X tg g) (hb:PSs X body tb)
 (hs:∀ x,foldedSetIterable iter X.env x=pure x:=by intro _;rfl):PS X (.For tg iter body [] pos) (FF wi g tb):=by
 intro pins s σ H D I h
 refine wpAny_For (thn (hi pins s σ H _ I h) fun v s1 h1=>thn h1 fun itv s2 h2=>?_) hs
 obtain ⟨it,fp,tn,J,H2,e,I2,T,st2,f2,W,⟨m0,w0⟩,turn⟩:=h2
 subst e
 have stat:∀ {H':Hp},(∀ b∈fp,H' b=none)->∀ b∈fp,lD X pins H' b:=fun hn b hb=>⟨hn b hb,(f2 b hb).2⟩
 refine codeAny_forLoop_any (fun n s'=>∃ i σ' H',Inv X pins σ' H' s'/\tn i s'.heap/\(∀ b∈fp,H' b=none)/\W i n σ' H') ?_ m0 ⟨0,σ,H2,I2,st2,fun b hb=>(f2 b hb).1,w0⟩
 rintro n s3 ⟨i,σ3,H3,I3,st3,fr3,w3⟩
 rcases turn i n σ3 H3 w3 with ⟨stop,qn⟩ | ⟨go,N,hN,step⟩
 ·refine wpAny_passesOwn hp (thn (T.done X rfl rfl rfl hc i pins s3 σ3 H3 X.xe I3 (stat fr3) st3 stop) fun r s4 zq=>?_)
  obtain ⟨hr,I4⟩:=zq
  subst hr
  exact wpAny_execs_nil ⟨σ3,H3,I4,qn⟩
 ·refine wpAny_passesOwn hp (thn (T.item X rfl rfl rfl hc i pins s3 σ3 H3 X.xe I3 (stat fr3) st3 go) fun r s4 zq=>?_)
  obtain ⟨u,hr,h4⟩:=zq
  subst hr
  refine wpAny_passesOwn hp (thn h4 fun _ s5 zq=>?_)
  obtain ⟨x,H5,I5,r5,y5,st5,fr5⟩:=zq
  have I5':=I5.pinned (stat fr5) (T.obj _ _ st5)
  refine wpAny_passesOwn hp (thn (hg _ s5 σ3 H5 x u _ I5' r5 (step x H5 y5)) fun _ s6 zq=>?_)
  obtain ⟨σ6,H6,I6,q6⟩:=zq
  refine wpAny_passesOwn hp (thn (hb _ s6 σ6 H6 _ I6 q6) fun f s7 q7=>?_)
  have again:∀ {σ7:St}{H7:Hp},Inv X (pins++jk fp s5.heap) σ7 H7 s7->N σ7 H7->∃ m,m < n/\∃ i σ' H',Inv X pins σ' H' s7/\tn i s7.heap/\(∀ b∈fp,H' b=none)/\W i m σ' H':=fun {σ7 H7} I7 n7=>by
   obtain ⟨m',hm,w7⟩:=hN σ7 H7 n7
   refine ⟨m',hm,i+1,σ7,H7,I7.iM,T.keep _ _ _ st5 fun b hb o e=>(I7.pin (b,o) (List.mem_append_right _ (List.mem_append_right _ (fK hb e)))).1,fun b hb=>?_,w7⟩
   obtain ⟨o,e,d⟩:=T.obj _ _ st5 b hb
   exact (I7.pin (b,o) (List.mem_append_right _ (List.mem_append_right _ (fK hb e)))).2.1
  cases f with
  | next=>obtain ⟨σ7,H7,I7,n7⟩:=q7;exact again I7 n7
  | cont=>obtain ⟨σ7,H7,I7,n7⟩:=q7;exact again I7 n7
  | brk=>obtain ⟨σ7,H7,I7,q7⟩:=q7;exact ⟨σ7,H7,I7.iM,q7⟩
  | ret v=>obtain ⟨x7,σ7,H7,I7,r7,q7⟩:=q7;exact ⟨x7,σ7,H7,I7.iM,r7,q7⟩
end
end L2
namespace L2
open PySem PySem.Spec PyProof.Rows
noncomputable abbrev R2:=V->V->Hp->VK->Prop
noncomputable def OpR (X:Cx) (f:Value->Value->Sem Value) (r:R2):Prop :=
 ∀ (pins:List (Addr×Obj)) (s:Shared) (σ:St) (H:Hp) (x y:V) (v u:Value) (Q:VK),Inv X pins σ H s->RelV x v->RelV y u->r x y H Q →
  wpAny (model X.prog X.w) X.A (f v u) (EP X pins σ Q) X.xe s
noncomputable def UnR (X:Cx) (f:Value->Sem Value) (r:V->Hp->VK->Prop):Prop :=
 ∀ (pins:List (Addr×Obj)) (s:Shared) (σ:St) (H:Hp) (x:V) (v:Value) (Q:VK),Inv X pins σ H s->RelV x v->r x H Q →
  wpAny (model X.prog X.w) X.A (f v) (EP X pins σ Q) X.xe s
noncomputable def cG (X:Cx) (f:Value) (r:List V->Hp->VK->Prop):Prop :=
 ∀ (pins:List (Addr×Obj)) (s:Shared) (σ:St) (H:Hp) (xs:List V) (us:List Value) (Q:VK),Inv X pins σ H s->aq xs us->r xs H Q →
  wpAny (model X.prog X.w) X.A (call f us) (EP X pins σ Q) X.xe s
noncomputable def tOp (r:R2) (ta tb:TE):TE:=fun σ H Q=>ta σ H fun x H1=>tb σ H1 fun y H2=>r x y H2 Q
noncomputable def tUn (r:V->Hp->VK->Prop) (ta:TE):TE:=fun σ H Q=>ta σ H fun x H1=>r x H1 Q
noncomputable def rI (C:Int->Int->Prop) (g:Int->Int->V):R2:=fun x y H Q=>∃ i j,x=.int i/\y=.int j/\C i j/\Q (g i j) H
noncomputable def rI0 (g:Int->Int->V):R2:=fun x y H Q=>∃ i j,x=.int i/\y=.int j/\Q (g i j) H
noncomputable def rU (g:Int->V):V->Hp->VK->Prop:=fun x H Q=>∃ i,x=.int i/\Q (g i) H
section
variable {X:Cx}{a b c:Expr}{ta tb tc:TE}{pos:Pos}
theorem Cv (ha:PE X a ta) (hb:PE X b tb) {pins:List (Addr×Obj)}{s:Shared}{σ:St}{H:Hp}{R:V->V->Hp->Prop} (I:Inv X pins σ H s)
 (h:ta σ H fun x H1=>tb σ H1 fun y H2=>R x y H2) {Q:Value->Shared->Prop}{f:Value->Value->Sem Value}
 (hf:∀ v u s2 x y H2,Inv X pins σ H2 s2->RelV x v->RelV y u->R x y H2->wpAny (model X.prog X.w) X.A (f v u) Q X.xe s2) :
 wpAny (model X.prog X.w) X.A (eval a X.env) (fun v s₁=>wpAny (model X.prog X.w) X.A (eval b X.env) (fun u s₂=>wpAny (model X.prog X.w) X.A (f v u) Q X.xe s₂) X.xe s₁) X.xe s:=by
 refine thn (ha pins s σ H _ I h) fun v s1 zq=>?_
 obtain ⟨x,H1,I1,r1,q1⟩:=zq
 refine thn (hb pins s1 σ H1 _ I1 q1) fun u s2 zq=>?_
 obtain ⟨y,H2,I2,r2,q2⟩:=zq
 exact hf v u s2 x y H2 I2 r1 r2 q2
theorem FG {op:Operator}{r:R2} (ho:OpR X (binaryOp op) r) (ha:PE X a ta) (hb:PE X b tb):PE X (.BinOp a op b pos) (tOp r ta tb):=by
 intro pins s σ H Q I h
 exact wpAny_BinOp (Cv ha hb I h fun v u s2 x y H2 I2 rx ry q=>ho pins s2 σ H2 x y v u Q I2 rx ry q)
theorem BH {op:UnaryOp}{r:V->Hp->VK->Prop} (ho:UnR X (unaryOp op) r) (ha:PE X a ta):PE X (.UnaryOp op a pos) (tUn r ta):=by
 intro pins s σ H Q I h
 exact UnaryOp_ (thn (ha pins s σ H _ I h) fun v s1 ⟨x,H1,I1,r1,q1⟩=>ho pins s1 σ H1 x v Q I1 r1 q1)
theorem opI {f:Value->Value->Sem Value}{C:Int->Int->Prop}{g:Int->Int->Int}
 (rule:∀ (i j:Int) (t u:Tok) (s:Shared) (Q:Value->Shared->Prop) (E:Value->Shared->Prop),C i j->Q (.int (g i j) s.toks) { s with toks:=s.toks+1 }->wpAny (model X.prog X.w) X.A (f (.int i t) (.int j u)) Q E s) :
 OpR X f (rI C fun i j=>.int (g i j)):=by
 intro pins s σ H x y v u Q I rx ry h
 obtain ⟨i,j,rfl,rfl,hc,q⟩:=h
 obtain ⟨t,rfl⟩:=rx
 obtain ⟨t',rfl⟩:=ry
 exact rule i j t t' s _ _ hc ⟨.int (g i j),H,I.tok _,⟨_,rfl⟩,q⟩
theorem FH {f:Value->Value->Sem Value}{g:Int->Int->Int}
 (rule:∀ (i j:Int) (t u:Tok) (s:Shared) (Q:Value->Shared->Prop) (E:Value->Shared->Prop),Q (.int (g i j) s.toks) { s with toks:=s.toks+1 }->wpAny (model X.prog X.w) X.A (f (.int i t) (.int j u)) Q E s) :
 OpR X f (rI0 fun i j=>.int (g i j)):=by
 intro pins s σ H x y v u Q I rx ry h
 obtain ⟨i,j,rfl,rfl,q⟩:=h
 obtain ⟨t,rfl⟩:=rx
 obtain ⟨t',rfl⟩:=ry
 exact rule i j t t' s _ _ ⟨.int (g i j),H,I.tok _,⟨_,rfl⟩,q⟩
theorem yH {f:Value->Value->Sem Value}{g:Int->Int->Bool}
 (rule:∀ (i j:Int) (t u:Tok) (s:Shared) (Q:Value->Shared->Prop) (E:Value->Shared->Prop),Q (.bool (g i j)) s->wpAny (model X.prog X.w) X.A (f (.int i t) (.int j u)) Q E s) :
 OpR X f (rI0 fun i j=>.bl (g i j)):=by
 intro pins s σ H x y v u Q I rx ry h
 obtain ⟨i,j,rfl,rfl,q⟩:=h
 obtain ⟨t,rfl⟩:=rx
 obtain ⟨t',rfl⟩:=ry
 exact rule i j t t' s _ _ ⟨.bl (g i j),H,I,rfl,q⟩
noncomputable def IX (i j:Int):Prop:=0 < j/\j < 1073741824
noncomputable def IY (i j:Int):Prop:=0<=j/\j<=1000000/\i.natAbs < 2 ^ 64
noncomputable def yI (i j:Int):Prop:=(-(2 ^ 64) < i/\i < 2 ^ 64)\/(-(2 ^ 64) < j/\j < 2 ^ 64)
theorem yI.ok {i j:Int} (h:yI i j):IntMulOk i j:=by
 rcases h with ⟨h1,h2⟩ | ⟨h1,h2⟩
 ·exact .of_left (intBits_le_64 h1 h2)
 ·exact .of_right (intBits_le_64 h1 h2)
theorem Cw:OpR X (binaryOp .Add) (rI0 fun i j=>.int (i+j)):=FH fun _ _ _ _ _ _ _ q=>add_int q
theorem Cy:OpR X (binaryOp .Sub) (rI0 fun i j=>.int (i - j)):=FH fun _ _ _ _ _ _ _ q=>sub_int q
theorem Cz:OpR X (binaryOp .Mult) (rI yI fun i j=>.int (i*j)):=opI fun _ _ _ _ _ _ _ hc q=>mul_int q hc.ok
theorem yJ:OpR X (binaryOp .FloorDiv) (rI IX fun i j=>.int (i / j)):=opI fun i j _ _ _ _ _ hc q=>by
 have h1:(0:Int) < j:=hc.1
 have h2:j < 1073741824:=hc.2
 exact floordiv_int (by omega) (by rw[Int.fdiv_eq_ediv_of_nonneg i (by omega)];exact q) (.inl (PyProof.noPylong_small (by omega)))
theorem CA:OpR X (binaryOp .Mod) (rI (fun _ j=>0 < j) fun i j=>.int (i % j)):=opI fun i j _ _ _ _ _ hc q=>by
 have h1:(0:Int) < j:=hc
 exact mod_int' (by omega) (by rw[Int.fmod_eq_emod_of_nonneg i (by omega)];exact q)
theorem CB:OpR X (binaryOp .Pow) (rI IY fun i j=>.int (i ^ j.toNat)):=opI fun _ _ _ _ _ _ _ hc q=>pow_int_small hc.1 hc.2.1 hc.2.2 q
theorem unI {f:Value->Sem Value}{g:Int->Int}
 (rule:∀ (i:Int) (t:Tok) (s:Shared) (Q:Value->Shared->Prop) (E:Value->Shared->Prop),Q (.int (g i) s.toks) { s with toks:=s.toks+1 }->wpAny (model X.prog X.w) X.A (f (.int i t)) Q E s) :
 UnR X f (rU fun i=>.int (g i)):=by
 intro pins s σ H x v Q I rx h
 obtain ⟨i,rfl,q⟩:=h
 obtain ⟨t,rfl⟩:=rx
 exact rule i t s _ _ ⟨.int (g i),H,I.tok _,⟨_,rfl⟩,q⟩
theorem u6:UnR X (unaryOp .USub) (rU fun i=>.int (-i)):=unI fun _ _ _ _ _ q=>neg_int q
end
section
variable {X:Cx}{a b c:Expr}{ta tb tc:TE}{pos:Pos}
theorem u9 {pins:List (Addr×Obj)}{σ:St}{H:Hp}{s:Shared}{Q:VK}{k k':Bool} (I:Inv X pins σ H s) (q:Q (.bl k) H) (e:k=k'):EP X pins σ Q (.bool k') s:=by
 subst e
 exact ⟨.bl k,H,I,rfl,q⟩
theorem FI:OpR X (compareOp .Lt) (rI0 fun i j=>.bl (decide (i < j))):=yH fun _ _ _ _ _ _ _ q=>lt_int q
theorem FJ:OpR X (compareOp .LtE) (rI0 fun i j=>.bl (decide (i<=j))):=yH fun _ _ _ _ _ _ _ q=>le_int q
theorem FM:OpR X (compareOp .Gt) (rI0 fun i j=>.bl (decide (j < i))):=yH fun _ _ _ _ _ _ _ q=>gt_int q
theorem FN:OpR X (compareOp .GtE) (rI0 fun i j=>.bl (decide (j<=i))):=yH fun _ _ _ _ _ _ _ q=>ge_int q
theorem CD:OpR X (compareOp .Is) (fun x y H Q=>y=.non/\Q (.bl (decide (x=.non))) H):=by
 intro pins s σ H x y v u Q I rx ry h
 obtain ⟨rfl,q⟩:=h
 cases ry
 refine is_none_gen (u9 I q ?_)
 cases x<;>first
  | (cases rx;rfl)
  | (obtain ⟨t,rfl⟩:=rx;rfl)
theorem yK:OpR X (compareOp .IsNot) (fun x y H Q=>y=.non/\Q (.bl (!decide (x=.non))) H):=by
 intro pins s σ H x y v u Q I rx ry h
 obtain ⟨rfl,q⟩:=h
 cases ry
 refine isnot_none_gen (u9 I q ?_)
 cases x<;>first
  | (cases rx;rfl)
  | (obtain ⟨t,rfl⟩:=rx;rfl)
theorem OpR.or {f:Value->Value->Sem Value}{r r':R2} (h:OpR X f r) (h':OpR X f r'):OpR X f (fun x y H Q=>r x y H Q\/r' x y H Q):=by
 intro pins s σ H x y v u Q I rx ry q
 rcases q with q | q
 ·exact h pins s σ H x y v u Q I rx ry q
 ·exact h' pins s σ H x y v u Q I rx ry q
theorem IZ (b:Expr) {op:CmpOp} (h:op≠.In:=by decide) (h2:op≠.NotIn:=by decide):behindInMarks op b=false:=by
 have e1:(op==CmpOp.In)=false:=by cases op<;>first | rfl | exact absurd rfl h
 have e2:(op==CmpOp.NotIn)=false:=by cases op<;>first | rfl | exact absurd rfl h2
 cases b<;>simp[behindInMarks,e1,e2]
theorem yL {op:CmpOp}{r:R2} (ho:OpR X (compareOp op) r) (ha:PE X a ta) (hb:PE X b tb) (hm:behindInMarks op b=false):PE X (.Compare a [op] [b] pos) (tOp r ta tb):=by
 intro pins s σ H Q I h
 exact wpAny_Compare1 (Cv ha hb I h fun v u s2 x y H2 I2 rx ry q=>ho pins s2 σ H2 x y v u Q I2 rx ry q) hm
noncomputable def vc (t:TE):TT:=fun σ H Q=>t σ H fun x H'=>∃ k,x=.bl k/\Q k H'
theorem yM {op:CmpOp}{r:R2} (ho:OpR X (compareOp op) r) (ha:PE X a ta) (hb:PE X b tb) (hm:behindInMarks op b=false):PT X (.Compare a [op] [b] pos) (vc (tOp r ta tb)):=by
 intro pins s σ H Q I h
 refine wpAny_isTrue_Compare1 (thn (ha pins s σ H _ I h) fun v s1 ⟨x,H1,I1,r1,q1⟩=>thn (hb pins s1 σ H1 _ I1 q1) fun u s2 ⟨y,H2,I2,r2,q2⟩ =>
  thn (ho pins s2 σ H2 x y v u _ I2 r1 r2 q2) fun c s3 ⟨z,H3,I3,r3,k,e,q3⟩=>?_) hm
 subst e
 cases r3
 exact wpAny_truthy_bool ⟨H3,I3,q3⟩
noncomputable def qd (r r':R2) (ta tb tc:TE):TE:=fun σ H Q=>ta σ H fun x H1=>tb σ H1 fun y H2=>r x y H2 fun z H3=>∃ k,z=.bl k ∧
 (if k=true then tc σ H3 fun w' H4=>r' y w' H4 Q else Q (.bl false) H3)
theorem vd {op op':CmpOp}{r r':R2} (ho:OpR X (compareOp op) r) (ho':OpR X (compareOp op') r') (ha:PE X a ta) (hb:PE X b tb) (hc:PE X c tc)
 (hm:lastMarks [op,op'] [b,c]=false:=by with_unfolding_all rfl):PE X (.Compare a [op,op'] [b,c] pos) (qd r r' ta tb tc):=by
 intro pins s σ H Q I h
 refine Compare_chain (thn (ha pins s σ H _ I h) fun v s1 ⟨x,H1,I1,r1,q1⟩=>chain_link (thn (hb pins s1 σ H1 _ I1 q1) fun u s2 ⟨y,H2,I2,r2,q2⟩ =>
  thn (ho pins s2 σ H2 x y v u _ I2 r1 r2 q2) fun d s3 ⟨z,H3,I3,r3,k,e,q3⟩=>?_)) hm
 subst e
 cases r3
 refine wpAny_truthy_bool ?_
 cases k with
 | false=>exact ite_ff ⟨.bl false,H3,I3,rfl,q3⟩
 | true=>exact ite_tt (chain_last (thn (hc pins s3 σ H3 _ I3 q3) fun w' s4 ⟨z',H4,I4,r4,q4⟩=>ho' pins s4 σ H4 y z' u w' Q I4 r2 r4 q4))
theorem ve {op op':CmpOp}{r r':R2} (ho:OpR X (compareOp op) r) (ho':OpR X (compareOp op') r') (ha:PE X a ta) (hb:PE X b tb) (hc:PE X c tc)
 (hm:lastMarks [op,op'] [b,c]=false:=by with_unfolding_all rfl):PT X (.Compare a [op,op'] [b,c] pos) (vc (qd r r' ta tb tc)):=by
 intro pins s σ H Q I h
 refine isTrue_chain (thn (ha pins s σ H _ I h) fun v s1 ⟨x,H1,I1,r1,q1⟩=>test_link (thn (hb pins s1 σ H1 _ I1 q1) fun u s2 ⟨y,H2,I2,r2,q2⟩ =>
  thn (ho pins s2 σ H2 x y v u _ I2 r1 r2 q2) fun d s3 ⟨z,H3,I3,r3,k,e,q3⟩=>?_)) hm
 subst e
 cases r3
 refine wpAny_truthy_bool ?_
 cases k with
 | false =>
  obtain ⟨k',e',q'⟩:=q3
  cases e'
  exact ite_ff ⟨H3,I3,q'⟩
 | true =>
  refine ite_tt (test_last (thn (hc pins s3 σ H3 _ I3 q3) fun w' s4 ⟨z',H4,I4,r4,q4⟩=>thn (ho' pins s4 σ H4 y z' u w' _ I4 r2 r4 q4) fun d' s5 zq=>?_))
  obtain ⟨z2,H5,I5,r5,k2,e2,q5⟩:=zq
  subst e2
  cases r5
  exact wpAny_truthy_bool ⟨H5,I5,q5⟩
theorem jl:(sizeLine:Nat) < 2 ^ 63:=by rw[sizeLine_eq];decide
theorem qe:OpR X (binaryOp .Add) (fun x y H Q=>∃ i j,x=.str i/\y=.str j/\i.length+j.length<=sizeLine/\Q (.str (i++j)) H):=by
 intro pins s σ H x y v u Q I rx ry h
 obtain ⟨i,j,rfl,rfl,hz,q⟩:=h
 obtain ⟨t,rfl⟩:=rx
 obtain ⟨t',rfl⟩:=ry
 exact add_str (fun t' tk=>⟨.str (i++j),H,I.tok _,⟨_,rfl⟩,q⟩) hz
theorem vals1 {x:V}{us:List Value} (r:aq [x] us):∃ u,us=[u]/\RelV x u:=by
 cases r with
 | cons r1 r2=>cases r2;exact ⟨_,rfl,r1⟩
theorem vals2 {x y:V}{us:List Value} (r:aq [x,y] us):∃ u w',us=[u,w']/\RelV x u/\RelV y w':=by
 cases r with
 | cons r1 r2 =>
  cases r2 with
  | cons r3 r4=>cases r4;exact ⟨_,_,rfl,r1,r3⟩
theorem vf:cG X (.builtin "abs") (fun xs H Q=>∃ i,xs=[.int i]/\Q (.int (if i < 0 then -i else i)) H):=by
 intro pins s σ H xs us Q I r h
 obtain ⟨i,rfl,q⟩:=h
 obtain ⟨u,rfl,t,rfl⟩:=vals1 r
 exact call_abs_int fun u tk=>⟨.int (if i < 0 then -i else i),H,I.tok _,⟨_,rfl⟩,q⟩
theorem tG (hc:X.calm=true):cG X (.builtin "max") (fun xs H Q=>∃ i j,xs=[.int i,.int j]/\Q (.int (if j > i then j else i)) H):=by
 intro pins s σ H xs us Q I r h
 obtain ⟨i,j,rfl,q⟩:=h
 obtain ⟨u,w',rfl,⟨t,rfl⟩,⟨t',rfl⟩⟩:=vals2 r
 refine max_two_ints (I.ok.hd hc) fun h' tk k=>⟨_,H,I.kept k,?_,q⟩
 by_cases hj:j > i
 ·rw[if_pos hj,if_pos hj];exact ⟨_,rfl⟩
 ·rw[if_neg hj,if_neg hj];exact ⟨_,rfl⟩
theorem tH (hc:X.calm=true):cG X (.builtin "min") (fun xs H Q=>∃ i j,xs=[.int i,.int j]/\Q (.int (if j < i then j else i)) H):=by
 intro pins s σ H xs us Q I r h
 obtain ⟨i,j,rfl,q⟩:=h
 obtain ⟨u,w',rfl,⟨t,rfl⟩,⟨t',rfl⟩⟩:=vals2 r
 refine min_two_ints (I.ok.hd hc) fun h' tk k=>⟨_,H,I.kept k,?_,q⟩
 by_cases hj:j < i
 ·rw[if_pos hj,if_pos hj];exact ⟨_,rfl⟩
 ·rw[if_neg hj,if_neg hj];exact ⟨_,rfl⟩
theorem lV:cG X (.type "int") (fun xs H Q=>(∃ i,xs=[.int i]/\Q (.int i) H)\/∃ k,xs=[.bl k]/\Q (.int (if k then 1 else 0)) H):=by
 intro pins s σ H xs us Q I r h
 rcases h with ⟨i,rfl,q⟩ | ⟨k,rfl,q⟩
 ·obtain ⟨u,rfl,t,rfl⟩:=vals1 r
  exact call_int_int ⟨.int i,H,I,⟨_,rfl⟩,q⟩
 ·obtain ⟨u,rfl,r1⟩:=vals1 r
  cases r1
  exact call_int_bool ⟨.int (if k then 1 else 0),H,I.tok _,⟨_,rfl⟩,q⟩
end
end L2
namespace L2
open PySem PySem.Spec PyProof.Rows
structure qf (h:Heap) (x dx C:Addr) (mA:Str->Option Value):Prop where
 obj:h.get? x=some (PySem.W.instObj C dx)
 ns:h.Ns1 dx mA
 ne:dx≠x
theorem tK {h:Heap}{dx:Addr}{mA:Str->Option Value} (n:h.Ns1 dx mA):∃ od,h.get? dx=some od/\∀ name,PySem.W.lookIn name od=some (mA name):=by
 obtain ⟨o,es,ep,ho,hd,hk,_,hm⟩:=n
 refine ⟨o,ho,fun name=>?_⟩
 have e:=hm name
 unfold nsFind findBy at e
 rw[← Array.find?_toList] at e
 unfold PySem.W.lookIn
 rw[hd]
 dsimp only
 split
 ·rename_i y q
  rw[q] at e
  exact congrArg some e
 ·rename_i q
  rw[q] at e
  have a:es.toList.any (·.refKey)=false:=by
   rw[List.any_eq_false]
   intro y hy
   obtain ⟨z,t,hkey⟩:=hk y (Array.mem_toList_iff.mp hy)
   simp[DictEntry.refKey,hkey]
  have a':¬ es.toList.any (·.refKey)=true:=by rw[a];exact Bool.false_ne_true
  rw[if_neg a']
  exact congrArg some e
theorem qf.look {h:Heap}{x dx C:Addr}{mA:Str->Option Value} (I:qf h x dx C mA):∃ od,PySem.W.InstAt h x (PySem.W.instObj C dx) C (some od)/\∀ name,PySem.W.lookIn name od=some (mA name) :=
 let ⟨od,ho,hl⟩:=tK I.ns
 ⟨od,⟨I.obj,rfl,rfl,ho⟩,hl⟩
section
variable {prog:Program}{w:World}{A:Around}{E:Value->Shared->Prop}{s:Shared}{K:PySem.W.Frag}{x dx C f:Addr}{mA:Str->Option Value}{name:Str}{v:Value}
theorem get_map {expr:Bool}{Q:Value->Shared->Prop} (X:K.In s.heap) (I:qf s.heap x dx C mA) (hg:PySem.W.plainGet K C name=true) (hh:PySem.W.hasDictIn K C=true)
 (ha:PySem.W.findIn K (.ref C) name=some none) (hv:mA name=some v) (hv':PySem.W.handedIn v=true) (h:Q v { s with toks:=s.toks+1 }) :
 wpAny (model prog w) A (getAttr (.ref x) name expr) Q E s:=by
 obtain ⟨od,J,hl⟩:=I.look
 exact PySem.W.get_value X J (PySem.W.plainGet_of hg).1 (PySem.W.findObj_own hh ha rfl (by rw[hl,hv])) hv' h
theorem vg {pl:Sem Bool}{Q:Value×List Value->Shared->Prop} (X:K.In s.heap) (I:qf s.heap x dx C mA) (hg:PySem.W.plainGet K C name=true)
 (hf:PySem.W.findIn K (.ref C) name=some (some (.ref f))) (ht:PySem.W.isFn K (.ref f)=true) (hv:mA name=none) (h:Q (.ref f,[.ref x]) s) :
 wpAny (model prog w) A (getMethod (.ref x) name pl) Q E s:=by
 obtain ⟨od,J,hl⟩:=I.look
 exact PySem.W.method_fn X J (PySem.W.plainGet_of hg).1 (PySem.W.plainGet_of hg).2 hf (beq_iff_eq.mp ht) (by show (PySem.W.lookIn name od).map (·.isSome)=some false;rw[hl,hv];rfl) h
theorem yN {ns:List Str}{Q:Unit->Shared->Prop} (X:K.In s.heap) (I:qf s.heap x dx C mA)
 (hs:PySem.W.findIn K (.ref C) "__setattr__"=some (some (.builtin "object.__setattr__"))) (hp:PySem.W.plainOver K C=true) (ht:PySem.W.takerIn K C name=some none) (hh:PySem.W.hasDictIn K C=true)
 (hw:PySem.Within mA ns) (hsz:ns.length<=sizeLine)
 (h:∀ h',qf h' x dx C (fun y=>if y=name then some v else mA y)->Heap.SameBut dx s.heap h'->Q () { s with heap:=h',toks:=s.toks+2 }) :
 wpAny (model prog w) A (setAttr (.ref x) name v) Q E s:=by
 obtain ⟨od,J,hl⟩:=I.look
 refine PySem.W.set_plain X J hs (PySem.W.osa_open (s:={ s with toks:=s.toks+1 }) (r:=none) X J hp ht fun b=>?_)
 obtain ⟨cd,hc,hd'⟩:=PySem.W.any_some hh
 have hx:s.heap.get? x=some ⟨.ref C,some dx,.plain,#[]⟩:=I.obj
 refine wpAny_bind (wpAny_pure (wpAny_bind (wpAny_bind (wpAny_loadPart hx (wpAny_bind (PySem.W.Looks.here (s:={ s with toks:=s.toks+1 }) (PySem.W.looks_clsIn X hc) ?_))))))
 rw[hd']
 refine wpAny_pure (a:=some dx) (wpAny_bind (wpAny_pure (wpAny_bind ?_)))
 refine wpAny_nsSet1 (s:={ s with toks:=s.toks+1 }) I.ns fun h' hn2 hs2=>?_
 obtain ⟨oD,esD,epD,hoD,hdD,hcD⟩:=hn2.count (PySem.Within.cons name v hw)
 refine wpAny_bind (wpAny_lookBehind hoD (by rw[hdD];exact pastItsLine_dict (Nat.le_trans hcD (by rw[List.length_cons];omega))) ?_)
 exact wpAny_pure (h _ ⟨(hs2.2 _ (Ne.symm I.ne)).trans I.obj,hn2,I.ne⟩ hs2)
theorem vh {R:Result->Shared->Prop}{vs:List Value}{kw:List (Str×Value)} (X:K.In s.heap) (hm:PySem.W.makesIn K C=true)
 (hi:PySem.W.findIn K (.ref C) "__init__"=some (some (.ref f))) (hf:PySem.W.typeIn K (.ref f)=some (.type "function"))
 (h:codeAny (model prog w) (A.under (.builtin "type.__call__" ⟨.ref C :: vs,kw⟩)) (.call (.ref f) ⟨.ref (s.heap.objs.size+1) :: vs,kw⟩) (PySem.W.InitBack (s.heap.objs.size+1) R)
  { s with heap:=(s.heap.push PySem.W.emptyDict).push (PySem.W.instObj C s.heap.objs.size) }) :
 codeAny (model prog w) A (.call (.ref C) ⟨vs,kw⟩) R s:=by
 obtain ⟨hh,g,d,t,os⟩:=s
 exact PySem.W.make_core (PySem.W.makes_of X hm) (PySem.W.looks_findIn X hi) (fun self=>PySem.W.bind_fn X self hf) (.inl rfl) h
end
noncomputable def bN (f:Str) (v:V):List (Str×V)->List (Str×V)
 | []=>[(f,v)]
 | (g,x) :: r=>if g=f then (g,v) :: r else (g,x) :: bN f v r
theorem jC (f g:Str) (v:V):∀ fs:List (Str×V),(bN f v fs).lookup g=if g=f then some v else fs.lookup g
 | []=>by
  show List.lookup g [(f,v)]=_
  by_cases h:g=f
  ·have hb:(g==f)=true:=beq_iff_eq.mpr h
   simp only[List.lookup,hb,if_pos h]
  ·have hb:(g==f)=false:=beq_eq_false_iff_ne.mpr h
   simp only[List.lookup,hb,if_neg h]
 | (k,x) :: r=>by
  have ih:=jC f g v r
  rw[show bN f v ((k,x) :: r)=(if k=f then (k,v) :: r else (k,x) :: bN f v r) from rfl]
  by_cases hk:k=f
  ·rw[if_pos hk]
   by_cases h:g=k
   ·have hb:(g==k)=true:=beq_iff_eq.mpr h
    simp only[List.lookup,hb,if_pos (h.trans hk)]
   ·have hb:(g==k)=false:=beq_eq_false_iff_ne.mpr h
    simp only[List.lookup,hb,if_neg (fun e:g=f=>h (e.trans hk.symm))]
  ·rw[if_neg hk]
   by_cases h:g=k
   ·have hb:(g==k)=true:=beq_iff_eq.mpr h
    simp only[List.lookup,hb,if_neg (fun e:g=f=>hk (h.symm.trans e))]
   ·have hb:(g==k)=false:=beq_eq_false_iff_ne.mpr h
    simp only[List.lookup,hb]
    exact ih
theorem jm (f:Str) (v:V):∀ fs:List (Str×V),f∈(bN f v fs).map (·.1)/\∀ g,g∈fs.map (·.1)->g∈(bN f v fs).map (·.1)
 | []=>⟨by simp[bN],fun g h=>by simp at h⟩
 | (k,x) :: r=>by
  obtain ⟨i1,i2⟩:=jm f v r
  rw[show bN f v ((k,x) :: r)=(if k=f then (k,v) :: r else (k,x) :: bN f v r) from rfl]
  by_cases hk:k=f
  ·rw[if_pos hk]
   subst hk
   exact ⟨by simp,fun g h=>by simpa using h⟩
  ·rw[if_neg hk]
   refine ⟨?_,fun g h=>?_⟩
   ·rw[List.map_cons]
    exact List.mem_cons_of_mem _ i1
   ·rw[List.map_cons] at h ⊢
    rcases List.mem_cons.mp h with e | e
    ·exact List.mem_cons.mpr (.inl e)
    ·exact List.mem_cons_of_mem _ (i2 g e)
theorem jD (f:Str) (v:V):∀ fs:List (Str×V),(bN f v fs).length<=fs.length+1
 | []=>by simp[bN]
 | (k,x) :: r=>by
  have ih:=jD f v r
  rw[show bN f v ((k,x) :: r)=(if k=f then (k,v) :: r else (k,x) :: bN f v r) from rfl]
  by_cases hk:k=f
  ·rw[if_pos hk,List.length_cons,List.length_cons];omega
  ·rw[if_neg hk,List.length_cons,List.length_cons];omega
theorem ji.some_of {v:V}{o:Option Value} (r:ji (some v) o):∃ u,o=some u/\RelV v u:=by
 cases o with
 | none=>exact (show False from r).elim
 | some u=>exact ⟨u,rfl,r⟩
theorem ji.none_of {o:Option Value} (r:ji none o):o=none:=by
 cases o with
 | none=>rfl
 | some u=>exact (show False from r).elim
theorem tL {v:V}{u:Value} (r:RelV v u):PySem.W.handedIn u=true:=by
 cases v with
 | non=>cases (show u=Value.none from r);rfl
 | bl b=>cases (show u=Value.bool b from r);rfl
 | int i=>obtain ⟨t,e⟩:=(show ∃ t,u=Value.int i t from r);cases e;rfl
 | str x=>obtain ⟨t,e⟩:=(show ∃ t,u=Value.str x t from r);cases e;rfl
 | byt b=>obtain ⟨t,e⟩:=(show ∃ t,u=Value.bytes b t from r);cases e;rfl
 | flt b=>obtain ⟨t,e⟩:=(show ∃ t,u=Value.float b t from r);cases e;rfl
 | ref a=>cases (show u=Value.ref a from r);rfl
 | ty n=>cases (show u=Value.type n from r);rfl
section
variable {P:Program}{w:World}{H H':Hp}{h h':Heap}{a C dx:Addr}{fs fs':List (Str×V)}
theorem mU (hok:HOk P w H h) (e:H a=some (.ins C dx fs)):∃ mA,qf h a dx C mA/\(∀ f,ji (fs.lookup f) (mA f))/\PySem.Within mA (fs.map (·.1))/\fs.length<=1000/\H dx=some (.own a):=by
 obtain ⟨d,z,ne,ob,mA,n,r,q⟩:=(show cX P w H h a (.ins C dx fs) from hok a _ e)
 exact ⟨mA,⟨ob,n,ne⟩,r,q,z,d⟩
end
structure Cls (K:PySem.W.Frag) (C:Addr):Prop where
 pg:PySem.W.plainGet K C Str.empty=true
 hd:PySem.W.hasDictIn K C=true
 po:PySem.W.plainOver K C=true
 sa:PySem.W.findIn K (.ref C) "__setattr__"=some (some (.builtin "object.__setattr__"))
theorem Cls.get {K:PySem.W.Frag}{C:Addr} (c:Cls K C) (f:Str):PySem.W.plainGet K C f=true:=c.pg
noncomputable def f6 (K:PySem.W.Frag) (C:Addr) (f:Str):Prop:=PySem.W.findIn K (.ref C) f=some none
theorem f6.FO {K:PySem.W.Frag}{C:Addr}{f:Str} (n:f6 K C f):PySem.W.takerIn K C f=some none:=by
 unfold PySem.W.takerIn
 rw[show PySem.W.findIn K (.ref C) f=some none from n]
 rfl
structure tM (K:PySem.W.Frag) (C:Addr) (m:Str) (f:Addr):Prop where
 at_:PySem.W.findIn K (.ref C) m=some (some (.ref f))
 fn:PySem.W.isFn K (.ref f)=true
 kp:PySem.W.keepIn K (.ref f)=true
section
variable {X:Cx}{pins:List (Addr×Obj)}{σ:St}{H:Hp}{s:Shared}{a C dx:Addr}{fs:List (Str×V)}{f:Str}{v:V}{A:Around}{E:Value->Shared->Prop}
theorem kj {b:Bool}{Q:Value->Shared->Prop} (I:Inv X pins σ H s) (e:H a=some (.ins C dx fs)) (c:Cls X.K C) (n:f6 X.K C f) (l:fs.lookup f=some v)
 (h:∀ u s',Inv X pins σ H s'->RelV v u->Q u s'):wpAny (model X.prog X.w) A (getAttr (.ref a) f b) Q E s:=by
 obtain ⟨mA,O,r,_,_,_⟩:=mU I.hok e
 obtain ⟨u,hu,ru⟩:=ji.some_of (v:=v) (o:=mA f) (by rw[← l];exact r f)
 exact get_map I.kIn O (c.get f) c.hd n hu (tL ru) (h u _ (I.tok _) ru)
theorem fL {m:Str}{g:Addr}{pl:Sem Bool}{Q:Value×List Value->Shared->Prop} (I:Inv X pins σ H s) (e:H a=some (.ins C dx fs)) (c:Cls X.K C) (k:tM X.K C m g) (l:fs.lookup m=none)
 (h:Q (.ref g,[.ref a]) s):wpAny (model X.prog X.w) A (getMethod (.ref a) m pl) Q E s:=by
 obtain ⟨mA,O,r,_,_,_⟩:=mU I.hok e
 have hn:mA m=none:=ji.none_of (by rw[← l];exact r m)
 exact vg I.kIn O (c.get m) k.at_ k.fn hn h
theorem ko {y:V}{u:Value}{Q:Unit->Shared->Prop} (I:Inv X pins σ H s) (e:H a=some (.ins C dx fs)) (c:Cls X.K C) (n:f6 X.K C f) (hl:fs.length < 1000) (ry:RelV y u)
 (h:∀ s',Inv X pins σ (upd H a (.ins C dx (bN f y fs))) s'->Q () s'):wpAny (model X.prog X.w) A (setAttr (.ref a) f u) Q E s:=by
 obtain ⟨mA,O,r,wi,_,ho⟩:=mU I.hok e
 have hz:(fs.map (·.1)).length<=sizeLine:=by rw[List.length_map,sizeLine_eq];omega
 refine yN I.kIn O c.sa c.po n.FO c.hd wi hz fun h' O' sb=>h _ ?_
 have hd:∃ o,h'.get? dx=some o:=let ⟨o,_,_,e',_⟩:=O'.ns;⟨o,e'⟩
 refine I.write (x:=a) (e:=dx) (by rw[e];exact True.intro) (.inr ho) (fun b q hb z=>(sb.2 b hb).trans z) hd ?_
 refine ⟨by rw[av O.ne];exact ho,?_,O.ne,O'.obj,_,O'.ns,fun g=>?_,fun g hg=>?_⟩
 ·have:=jD f y fs;omega
 ·show ji ((bN f y fs).lookup g) (if g=f then some u else mA g)
  rw[jC]
  by_cases q:g=f
  ·rw[if_pos q,if_pos q];exact ry
  ·rw[if_neg q,if_neg q];exact r g
 ·by_cases q:g=f
  ·rw[q];exact (jm f y fs).1
  ·refine (jm f y fs).2 g (wi g fun z=>hg ?_)
   show (if g=f then some u else mA g)=none
   rw[if_neg q];exact z
theorem Inv.made (I:Inv X pins σ H s):Inv X pins σ (upd (upd H s.heap.objs.size (.own (s.heap.objs.size+1))) (s.heap.objs.size+1) (.ins C s.heap.objs.size []))
 { s with heap:=(s.heap.push PySem.W.emptyDict).push (PySem.W.instObj C s.heap.objs.size) }:=by
 have e1:(s.heap.push PySem.W.emptyDict).get? s.heap.objs.size=some PySem.W.emptyDict:=Heap.get?_push_size s.heap rfl
 have e2:((s.heap.push PySem.W.emptyDict).push (PySem.W.instObj C s.heap.objs.size)).get? (s.heap.objs.size+1)=some (PySem.W.instObj C s.heap.objs.size):=by
  have:=Heap.get?_push_size (s.heap.push PySem.W.emptyDict) (o:=PySem.W.instObj C s.heap.objs.size) rfl
  rwa [Heap.size_push] at this
 have e3:(s.heap.push PySem.W.emptyDict).Ns s.heap.objs.size (fun _=>none):=⟨PySem.W.emptyDict,#[],_,e1,rfl,(fun e he=>absurd he (by simp)),fun _=>rfl⟩
 have I1:=I.laid (a:=s.heap.objs.size) (o:=.own (s.heap.objs.size+1)) (h':=s.heap.push PySem.W.emptyDict) (t':=s.toks) (fun b u q=>Heap.get?_push_of_some _ q) (Nat.le_refl _) ⟨_,e1⟩
 refine I1.laid (a:=s.heap.objs.size+1) (o:=.ins C s.heap.objs.size []) (t':=s.toks) (fun b u q=>Heap.get?_push_of_some _ q) (Nat.le_of_eq (Heap.size_push _ _)) ?_
 have ne:s.heap.objs.size≠s.heap.objs.size+1:=Nat.ne_of_lt (Nat.lt_succ_self _)
 refine ⟨by rw[av ne,aL],Nat.zero_le _,ne,e2,fun _=>none,(Heap.Ns1.of_empty e3).at fun o q=>Heap.get?_push_of_some _ q,fun _=>True.intro,fun y hy=>absurd rfl hy⟩
theorem yO {prog:Program}{w:World}{env:Env}{e:Expr}{f:Str}{pos:Pos}{s:Shared}{Q:Value->Shared->Prop} (hb:attributeBase e f env (eval e env)=eval e env)
 (h:wpAny (model prog w) A (eval e env) (fun o s₁=>wpAny (model prog w) A (getAttr o f true) Q E s₁) E s):wpAny (model prog w) A (eval (.Attribute e f pos) env) Q E s :=
 Attribute_any_ h (by rw[arm_eval_Attribute,hb])
end
noncomputable def Ja (K:PySem.W.Frag) (ta:TE) (f:Str):TE:=fun σ H Q=>ta σ H fun x H1=>∃ a C dx fs v,x=.ref a/\H1 a=some (.ins C dx fs)/\Cls K C/\f6 K C f/\fs.lookup f=some v/\Q v H1
noncomputable def FP (K:PySem.W.Frag) (ta tv:TE) (f:Str):TS:=fun D σ H=>tv σ H fun y H1=>ta σ H1 fun x H2=>∃ a C dx fs,x=.ref a/\H2 a=some (.ins C dx fs)/\Cls K C/\f6 K C f/\fs.length < 1000 ∧
 D.nx σ (upd H2 a (.ins C dx (bN f y fs)))
noncomputable def Jb (X:Cx) (op:Operator) (rd:V->V->Hp->VK->Prop):Prop :=
 ∀ (pins:List (Addr×Obj)) (s:Shared) (σ:St) (H:Hp) (x y:V) (u v:Value) (Q:VK),Inv X pins σ H s->RelV x u->RelV y v->rd x y H Q->wpAny (model X.prog X.w) X.A (inplaceOp op u v) (EP X pins σ Q) X.xe s
noncomputable def qY (K:PySem.W.Frag) (ta tv:TE) (rd:V->V->Hp->VK->Prop) (f:Str):TS:=fun D σ H=>ta σ H fun x H1=>∃ a C dx fs v,x=.ref a/\H1 a=some (.ins C dx fs)/\Cls K C/\f6 K C f/\fs.lookup f=some v ∧
 tv σ H1 fun y H2=>rd v y H2 fun z H3=>∃ dx' fs',H3 a=some (.ins C dx' fs')/\fs'.length < 1000/\D.nx σ (upd H3 a (.ins C dx' (bN f z fs')))
section
variable {X:Cx}{o e value:Expr}{f:Str}{pos pos' tpos:Pos}{ta tv:TE}
theorem CF (he:PE X e ta) (hb:attributeBase e f X.env (eval e X.env)=eval e X.env):PE X (.Attribute e f pos) (Ja X.K ta f):=by
 intro pins s σ H Q I h
 refine yO hb (thn (he pins s σ H _ I h) fun u s1 zq=>?_)
 obtain ⟨x,H1,I1,rx,a,C,dx,fs,v,ex,ea,c,n,l,q⟩:=zq
 subst ex
 obtain rfl:u=Value.ref a:=rx
 exact kj I1 ea c n l fun u' s2 I2 ru=>⟨v,H1,I2,ru,q⟩
theorem CG (ha:PE X o ta) (hv:PE X value tv) (hs:swapsWith value (some (.Attribute o f pos')) pos.line X.env=pure false):PS X (.Assign [.Attribute o f pos'] value pos) (FP X.K ta tv f):=by
 intro pins s σ H D I h
 refine plainObj_wpAny_Assign_Attribute (thn (hv pins s σ H _ I h) fun u s1 ⟨y,H1,I1,ry,q⟩=>thn (ha pins s1 σ H1 _ I1 q) fun ov s2 ⟨x,H2,I2,rx,a,C,dx,fs,ex,ea,c,n,l,q2⟩=>?_) hs
 subst ex
 obtain rfl:ov=Value.ref a:=rx
 exact ko I2 ea c n l ry fun s3 I3=>⟨σ,_,I3,q2⟩
theorem tN {op:Operator}{rd:V->V->Hp->VK->Prop} (ha:PE X o ta) (hv:PE X value tv) (hop:Jb X op rd):PS X (.AugAssign (.Attribute o f tpos) op value pos) (qY X.K ta tv rd f):=by
 intro pins s σ H D I h
 refine wpAny_AugAssign_AttributeAny (thn (ha pins s σ H _ I h) fun ov s1 zq=>?_)
 obtain ⟨x,H1,I1,rx,a,C,dx,fs,v,ex,ea,c,n,l,q⟩:=zq
 subst ex
 obtain rfl:ov=Value.ref a:=rx
 refine kj I1 ea c n l fun u s2 I2 ru=>thn (hv pins s2 σ H1 _ I2 q) fun w3 s3 ⟨y,H2,I3,ry,q3⟩=>thn (hop pins s3 σ H2 v y u w3 _ I3 ru ry q3) fun w4 s4 zq=>?_
 obtain ⟨z,H3,I4,rz,dx',fs',ea',l',q4⟩:=zq
 exact ko I4 ea' c n l' rz fun s5 I5=>⟨σ,_,I5,q4⟩
theorem BI {pl:Sem Bool}{m:Str}{apos:Pos}{args:List Expr}{pins:List (Addr×Obj)}{s:Shared}{σ:St}{H:Hp}{Q:Value->Shared->Prop}{te:TE} (he:PE X e te) (I:Inv X pins σ H s)
 (h:te σ H fun x H1=>∃ a C dx fs g,x=.ref a/\H1 a=some (.ins C dx fs)/\Cls X.K C/\tM X.K C m g/\fs.lookup m=none ∧
  ∀ s1,Inv X pins σ H1 s1->wpAny (model X.prog X.w) X.A (callWith pos (.ref g) [.ref a] (backTo pos (starEach args X.env)) (backToKw pos (keywordEach [] X.env))) Q X.xe s1)
 (ht:eval (.Call (.Attribute e m apos) args [] pos) X.env=(do
  let ov ← eval e X.env
  standAt apos.atName
  let (f,first) ← holding [ov] (getMethod ov m pl)
  callWith pos f first (backTo pos (starEach args X.env)) (backToKw pos (keywordEach [] X.env)))) :
 wpAny (model X.prog X.w) X.A (eval (.Call (.Attribute e m apos) args [] pos) X.env) Q X.xe s:=by
 refine PySem.W.methodCall_KW (pl:=pl) (thn (he pins s σ H _ I h) fun u s1 ⟨x,H1,I1,rx,a,C,dx,fs,g,ex,ea,c,k,l,q⟩=>?_) ht
 subst ex
 obtain rfl:u=Value.ref a:=rx
 exact fL I1 ea c k l (q s1 I1)
end
section
variable {X:Cx}{pins:List (Addr×Obj)}{σ:St}{H:Hp}{s:Shared}{A:Around}{E:Value->Shared->Prop}{Q:Value->Shared->Prop}{c:Value}{b:Bool}
end
end L2
namespace L2
open PySem PySem.Spec PyProof.Rows
structure bJ (k:Nat) (A:Around):Prop where
 hd:A.handled=none
 dp:A.depth+3*k+5 < recursionLimit
 un:A.units+16*k+200 < cLine
theorem bJ.mono {j k:Nat}{A:Around} (r:bJ k A) (h:j<=k):bJ j A:=⟨r.hd,by have:=r.dp;omega,by have:=r.un;omega⟩
theorem bJ.deeper {k:Nat}{A:Around} (r:bJ (k+1) A) (env:Env):bJ k (A.deeper env) :=
 ⟨r.hd,by have:=r.dp;show A.depth+1+3*k+5 < _;omega,by have:=r.un;show A.units+3+16*k+200 < _;omega⟩
theorem bJ.in1 {k:Nat}{A:Around} (r:bJ (k+1) A):bJ k A.in1 :=
 ⟨r.hd,by have:=r.dp;show A.depth+3*k+5 < _;omega,by have:=r.un;show A.units+1+16*k+200 < _;omega⟩
theorem qh {A:Around}{C:Addr}{us:List Value}{kw:List (Str×Value)}:(A.under (.builtin "type.__call__" ⟨.ref C :: us,kw⟩)).depth=A.depth+1:=by
 first | rfl | simp[Around.under,Code.weight,Code.isCreation,Code.isGuard,Code.isCaller,Code.frames,Code.isFrame,guardIds]
theorem qi {A:Around}{C:Addr}{us:List Value}{kw:List (Str×Value)}:(A.under (.builtin "type.__call__" ⟨.ref C :: us,kw⟩)).units=A.units+1:=by
 first | rfl | simp[Around.under,Code.cUnits,Code.frames,Code.isFrame]
theorem bJ.make {k:Nat}{A:Around} (r:bJ (k+1) A) (C:Addr) (us:List Value) (kw:List (Str×Value)):bJ k (A.under (.builtin "type.__call__" ⟨.ref C :: us,kw⟩)) :=
 ⟨r.hd,by have:=r.dp;rw[qh];omega,by have:=r.un;rw[qi];omega⟩
theorem bJ.depth {k:Nat}{A:Around} (r:bJ k A):A.depth < recursionLimit:=by have:=r.dp;omega
theorem bJ.units {k:Nat}{A:Around} (r:bJ k A):A.units+64 < cLine:=by have:=r.un;omega
noncomputable def vj:TA:=fun _ H Q=>Q [] H
noncomputable def BJ (ta:TE) (tr:TA):TA:=fun σ H Q=>ta σ H fun x H1=>tr σ H1 fun xs H2=>Q (x :: xs) H2
section
variable {X:Cx}{e:Expr}{es:List Expr}{te:TE}{t:TA}{pos:Pos}
theorem kq:PA X [] vj:=fun _ _ _ _ H Q I h=>Calls.spliced_nil ⟨[],H,I,.nil,h⟩
theorem eS (ha:PE X e te) (hr:PA X es t) (hs:starEach (e :: es) X.env=(false,eval e X.env) :: starEach es X.env:=by rfl):PA X (e :: es) (BJ te t):=by
 intro pos pins s σ H Q I h
 rw[hs]
 show wpAny _ _ (spliced ((false,eval e X.env) :: backTo pos (starEach es X.env))) _ _ s
 refine Calls.spliced_cons (thn (ha pins s σ H _ I h) fun u s1 zq=>?_)
 obtain ⟨x,H1,I1,r1,q1⟩:=zq
 exact thn (hr pos pins s1 σ H1 _ I1 q1) fun us s2 ⟨xs,H2,I2,r2,q2⟩=>⟨x :: xs,H2,I2,.cons r1 r2,q2⟩
noncomputable def FQ (t:TA):TE:=fun σ H Q=>t σ H fun xs H1=>xs.length<=sizeLine/\∀ p,H1 p=none->Q (.ref p) (upd H1 p (.tup xs))
noncomputable def FU (t:TA):TE:=fun σ H Q=>t σ H fun xs H1=>xs.length<=sizeLine/\∀ p,H1 p=none->Q (.ref p) (upd H1 p (.lst xs))
theorem CH {x1} (h:PA X es t):PE X (.Tuple es x1 pos) (FQ t):=by
 intro pins s σ H Q I hq
 refine wpAny_Tuple_spliced (thn (h pos pins s σ H _ I hq) fun us s1 ⟨xs,H1,I1,r,z,q⟩=>⟨by rw[← r.length];exact z,?_⟩)
 have hf:H1 s1.heap.objs.size=none:=I1.hok.fresh (Nat.le_refl _)
 refine ⟨.ref s1.heap.objs.size,upd H1 s1.heap.objs.size (.tup xs),I1.laid (t':=s1.toks) (fun b u e=>Heap.get?_push_of_some _ e) (Nat.le_refl _) ?_,rfl,q _ hf⟩
 exact ⟨z,us,r,⟨_,Heap.get?_push_size _ rfl,rfl,_,rfl⟩⟩
theorem CJ (h:PA X es t):PE X (.List es pos) (FU t):=by
 intro pins s σ H Q I hq
 refine wpAny_List_spliced (thn (h pos pins s σ H _ I hq) fun us s1 ⟨xs,H1,I1,r,z,q⟩=>⟨by rw[← r.length];exact z,?_⟩)
 have hf:H1 s1.heap.objs.size=none:=I1.hok.fresh (Nat.le_refl _)
 refine ⟨.ref s1.heap.objs.size,upd H1 s1.heap.objs.size (.lst xs),I1.laid (t':=s1.toks) (fun b u e=>Heap.get?_push_of_some _ e) (Nat.le_refl _) ?_,rfl,q _ hf⟩
 exact ⟨z,us,0,r,Heap.get?_push_size _ rfl⟩
end
noncomputable abbrev Sp:=List V->Hp->VK->XK->Prop
noncomputable abbrev CXT:=List Env->Hp->Shared->XK->Value->Shared->Prop
structure iN (P:Program) (w:World) (K:PySem.W.Frag) (mg:Str->Option Value) (base:Heap) (A:Around) (outer:List Env) (s:Shared) (H:Hp):Prop where
 frames:A.frames=some outer
 mod:Mod K mg base
 bs:∀ b o,base.get? b=some o->s.heap.get? b=some o/\H b=none
 bsz:base.objs.size<=s.heap.objs.size
 ig:s.heap.FunFrames base outer
 frf:∀ b∈frs outer,H b=none
 hok:HOk P w H s.heap
 bare:AllBare s.gens
noncomputable def CE (outer:List Env) (P:Program) (w:World) (H:Hp) (s:Shared) (Q:VK) (u:Value) (s':Shared):Prop :=
 ∃ v H',s'.os=s.os/\AllBare s'.gens/\Un (frs outer) [] H H' s.heap s'.heap/\HOk P w H' s'.heap/\RelV v u/\Q v H'
noncomputable def CR (CX:CXT) (outer:List Env) (P:Program) (w:World) (H:Hp) (s:Shared) (Q:VK) (E:XK) (r:Result) (s':Shared):Prop :=
 match r with
 | .ok (.ret u)=>CE outer P w H s Q u s'
 | .ok _=>False
 | .error e=>CX outer H s E e s'
structure dg (P:Program) (w:World) (K:PySem.W.Frag) (mg:Str->Option Value) (base:Heap) (CX:CXT) (k:Nat) (f:Addr) (fd:FuncData) (ps:List Str) (sp:Sp):Prop where
 len:∀ vs H Q E,sp vs H Q E->vs.length=ps.length
 run:∀ (A:Around) (outer:List Env) (s:Shared) (H:Hp) (args:Args) (us:List Value) (vs:List V) (Q:VK) (E:XK),bJ k A->iN P w K mg base A outer s H->BindsTo s fd args (ps.zip us)->aq vs us->sp vs H Q E →
  codeAny (model P w) A (.call (.ref f) args) (CR CX outer P w H s Q E) s
theorem dg.mono {P:Program}{w:World}{K:PySem.W.Frag}{mg:Str->Option Value}{base:Heap}{CX:CXT}{j k:Nat}{f:Addr}{fd:FuncData}{ps:List Str}{sp:Sp} (F:dg P w K mg base CX j f fd ps sp) (h:j<=k) :
 dg P w K mg base CX k f fd ps sp:=⟨F.len,fun A outer s H args us vs Q E hr=>F.run A outer s H args us vs Q E (hr.mono h)⟩
theorem dg.imp {P:Program}{w:World}{K:PySem.W.Frag}{mg:Str->Option Value}{base:Heap}{CX:CXT}{k:Nat}{f:Addr}{fd:FuncData}{ps:List Str}{sp sp':Sp} (F:dg P w K mg base CX k f fd ps sp)
 (h:∀ vs H Q E,sp' vs H Q E->sp vs H Q E):dg P w K mg base CX k f fd ps sp' :=
 ⟨fun vs H Q E q=>F.len vs H Q E (h _ _ _ _ q),fun A outer s H args us vs Q E hr he hb hv hs=>F.run A outer s H args us vs Q E hr he hb hv (h _ _ _ _ hs)⟩
theorem iN.make {P:Program}{w:World}{K:PySem.W.Frag}{mg:Str->Option Value}{base:Heap}{A:Around}{outer:List Env}{s:Shared}{H:Hp} (e:iN P w K mg base A outer s H) (C:Addr) (us:List Value) (kw:List (Str×Value)) :
 iN P w K mg base (A.under (.builtin "type.__call__" ⟨.ref C :: us,kw⟩)) outer s H:=⟨by first | exact e.frames | (simpa [Around.under,Code.envs,Code.isFrame,pushEnvs] using e.frames),e.mod,e.bs,e.bsz,e.ig,e.frf,e.hok,e.bare⟩
theorem iN.in1 {P:Program}{w:World}{K:PySem.W.Frag}{mg:Str->Option Value}{base:Heap}{A:Around}{outer:List Env}{s:Shared}{H:Hp} (e:iN P w K mg base A outer s H) :
 iN P w K mg base A.in1 outer s H:=⟨e.frames,e.mod,e.bs,e.bsz,e.ig,e.frf,e.hok,e.bare⟩
section
variable {X:Cx}{pins:List (Addr×Obj)}{σ:St}{H:Hp}{s s':Shared}
theorem Inv.CK (I:Inv X pins σ H s):iN X.prog X.w X.K X.mg X.base X.A X.stack s H :=
 ⟨I.ok.frames,I.ok.mod,I.bs,Nat.le_trans I.ok.bsz I.sz,I.stack,I.mS,I.hok,I.bare⟩
theorem Inv.after {Q:VK}{u:Value} (I:Inv X pins σ H s) (h:CE X.stack X.prog X.w H s Q u s'):EP X pins σ Q u s':=by
 obtain ⟨v,H',os,bare,un,hok,r,q⟩:=h
 obtain ⟨hh,g,d,t,os'⟩:=s'
 obtain rfl:os'=s.os:=os
 exact ⟨v,H',I.call (h':=hh) (g':=g) (d':=d) (t':=t) (ch:=[]) un hok bare (fun b z=>absurd z (by simp)),r,q⟩
end
noncomputable def vm (sp:Sp) (dvs:List V) (E:XK) (t:TA):TE:=fun σ H Q=>t σ H fun vs H1=>sp (vs++dvs) H1 Q E
noncomputable def vn (C:Addr) (m:Str) (sp:Sp) (dvs:List V) (E:XK) (ta:TE) (t:TA):TE:=fun σ H Q=>ta σ H fun x H1=>∃ a dx fs,x=.ref a/\H1 a=some (.ins C dx fs)/\fs.lookup m=none ∧
 t σ H1 fun vs H2=>sp (x :: (vs++dvs)) H2 Q E
noncomputable def vo (C:Addr) (sp:Sp) (dvs:List V) (E:XK) (t:TA):TE:=fun σ H Q=>t σ H fun vs H1=>∀ x dx,H1 x=none->H1 dx=none->dx≠x →
 sp (.ref x :: (vs++dvs)) (upd (upd H1 dx (.own x)) x (.ins C dx [])) (fun v H2=>v=.non/\Q (.ref x) H2) E
noncomputable def Binds (K:PySem.W.Frag) (fd:FuncData) (ps:List Str) (ds:List Value):Prop :=
 ∀ (s:Shared) (us:List Value),K.In s.heap->(us++ds).length=ps.length->BindsTo s fd ⟨us,[]⟩ (ps.zip (us++ds))
theorem Binds.all {K:PySem.W.Frag}{fd:FuncData}{ps:List Str} (h:∀ us:List Value,us.length=ps.length->bindArgs fd ⟨us,[]⟩=pure (ps.zip us)):Binds K fd ps []:=fun s us _ hl=>by
 rw[List.append_nil] at hl ⊢
 exact .of_eq (h us hl)
noncomputable def fM (CX:CXT) (X:Cx) (E:XK):Prop:=∀ (pins:List (Addr×Obj)) (σ:St) (H:Hp) (s:Shared) (e:Value) (s':Shared),Inv X pins σ H s->CX X.stack H s E e s'->X.xe e s'
section
variable {X:Cx}{CX:CXT}{k:Nat}{f C:Addr}{fd:FuncData}{ps:List Str}{sp:Sp}{dvs:List V}{ds:List Value}{E:XK}{x m:Str}{p pos apos:Pos}{e o:Expr}{es:List Expr}{ta:TE}{t:TA}
theorem kr {pins:List (Addr×Obj)}{σ:St}{H:Hp}{s:Shared}{Q:VK}{us:List Value}{vs:List V} (F:dg X.prog X.w X.K X.mg X.base CX k f fd ps sp) (hr:bJ k X.A) (hb:Binds X.K fd ps ds) (hd:aq dvs ds) (hx:fM CX X E)
 (I:Inv X pins σ H s) (r:aq vs us) (h:sp (vs++dvs) H Q E):wpAny (model X.prog X.w) X.A (call (.ref f) us) (EP X pins σ Q) X.xe s:=by
 have r2:aq (vs++dvs) (us++ds):=r.append hd
 have hl:(us++ds).length=ps.length:=by rw[← r2.length];exact F.len _ _ _ _ h
 refine wpAny_call (codeAny_mono (F.run X.A X.stack s H ⟨us,[]⟩ (us++ds) (vs++dvs) Q E hr I.CK (hb s us I.kIn hl) r2 h) fun r s' hq=>?_)
 cases r with
 | error e=>exact hx pins σ H s e s' I hq
 | ok fl =>
  cases fl with
  | ret u=>exact I.after hq
  | next=>exact False.elim hq
  | brk=>exact False.elim hq
  | cont=>exact False.elim hq
theorem yP (F:dg X.prog X.w X.K X.mg X.base CX k f fd ps sp) (hr:bJ k X.A) (hg:Gl X x) (hm:X.mg x=some (.ref f)) (hk:PySem.W.keepIn X.K (.ref f)=true) (hb:Binds X.K fd ps ds) (hd:aq dvs ds) (hx:fM CX X E)
 (ha:PA X (e :: es) t) (hdb:(x==("__debug__":Str))=false:=by decide) (he:starEach (e :: es) X.env=(false,eval e X.env) :: starEach es X.env:=by rfl) (hpl:(backTo pos (starEach es X.env)).any (·.1)=false:=by rfl) :
 PE X (.Call (.Name x p) (e :: es) [] pos) (vm sp dvs E t):=by
 intro pins s σ H Q I h
 refine wpAny_Call_Name_kw (iK I hg hm ?_ hdb)
 refine PySem.W.callWith_K (h₀:=X.base) I.ok.mod.kin hk (thn (ha pos pins s σ H _ I h) fun us s1 ⟨vs,H1,I1,r,q⟩=>⟨I1.kIn,?_⟩) he hpl
 exact kr F hr hb hd hx I1 r q
theorem vp (F:dg X.prog X.w X.K X.mg X.base CX k f fd ps sp) (hr:bJ k X.A) (hg:Gl X x) (hm:X.mg x=some (.ref f)) (hk:PySem.W.keepIn X.K (.ref f)=true) (hb:Binds X.K fd ps ds) (hd:aq dvs ds) (hx:fM CX X E)
 (hdb:(x==("__debug__":Str))=false:=by decide):PE X (.Call (.Name x p) [] [] pos) (vm sp dvs E vj):=by
 intro pins s σ H Q I h
 refine wpAny_Call_Name_kw (iK I hg hm ?_ hdb)
 exact PySem.W.callWith_K0 I.kIn hk (kr (us:=[]) F hr hb hd hx I .nil h)
theorem yQ {pl:Sem Bool} (he:PE X o ta) (c:Cls X.K C) (hm:tM X.K C m f) (F:dg X.prog X.w X.K X.mg X.base CX k f fd ps sp) (hr:bJ k X.A) (hb:Binds X.K fd ps ds) (hd:aq dvs ds) (hx:fM CX X E) (ha:PA X (e :: es) t)
 (hst:starEach (e :: es) X.env=(false,eval e X.env) :: starEach es X.env:=by rfl) (hpl:(backTo pos (starEach es X.env)).any (·.1)=false:=by rfl)
 (ht:eval (.Call (.Attribute o m apos) (e :: es) [] pos) X.env=(do
  let ov ← eval o X.env
  standAt apos.atName
  let (f,first) ← holding [ov] (getMethod ov m pl)
  callWith pos f first (backTo pos (starEach (e :: es) X.env)) (backToKw pos (keywordEach [] X.env))):=by rfl) :
 PE X (.Call (.Attribute o m apos) (e :: es) [] pos) (vn C m sp dvs E ta t):=by
 intro pins s σ H Q I h
 refine PySem.W.methodCall_KW (pl:=pl) (thn (he pins s σ H _ I h) fun u s1 ⟨x,H1,I1,rx,a,dx,fs,ex,ea,l,q⟩=>?_) ht
 subst ex
 obtain rfl:u=Value.ref a:=rx
 refine fL I1 ea c hm l ?_
 refine PySem.W.callWith_K (first:=[.ref a]) (h₀:=X.base) I.ok.mod.kin hm.kp (thn (ha pos pins s1 σ H1 _ I1 q) fun us s2 ⟨vs,H2,I2,r,q2⟩=>⟨I2.kIn,?_⟩) hst hpl
 exact kr (us:=.ref a :: us) (vs:=.ref a :: vs) F hr hb hd hx I2 (.cons rfl r) q2
theorem vq {pl:Sem Bool} (he:PE X o ta) (c:Cls X.K C) (hm:tM X.K C m f) (F:dg X.prog X.w X.K X.mg X.base CX k f fd ps sp) (hr:bJ k X.A) (hb:Binds X.K fd ps ds) (hd:aq dvs ds) (hx:fM CX X E)
 (ht:eval (.Call (.Attribute o m apos) [] [] pos) X.env=(do
  let ov ← eval o X.env
  standAt apos.atName
  let (f,first) ← holding [ov] (getMethod ov m pl)
  callWith pos f first (backTo pos (starEach [] X.env)) (backToKw pos (keywordEach [] X.env))):=by rfl) :
 PE X (.Call (.Attribute o m apos) [] [] pos) (vn C m sp dvs E ta vj):=by
 intro pins s σ H Q I h
 refine PySem.W.methodCall_KW (pl:=pl) (thn (he pins s σ H _ I h) fun u s1 ⟨x,H1,I1,rx,a,dx,fs,ex,ea,l,q⟩=>?_) ht
 subst ex
 obtain rfl:u=Value.ref a:=rx
 refine fL I1 ea c hm l ?_
 exact PySem.W.callWith_K0 (first:=[.ref a]) I1.kIn hm.kp (kr (us:=[.ref a]) (vs:=[.ref a]) F hr hb hd hx I1 (.cons rfl .nil) q)
structure Mk (K:PySem.W.Frag) (C f:Addr):Prop where
 makes:PySem.W.makesIn K C=true
 init:PySem.W.findIn K (.ref C) "__init__"=some (some (.ref f))
 fn:PySem.W.isFn K (.ref f)=true
 kp:PySem.W.keepIn K (.ref C)=true
theorem oq {pins:List (Addr×Obj)}{σ:St}{H:Hp}{s:Shared}{Q:VK}{us:List Value}{vs:List V} (M:Mk X.K C f) (F:dg X.prog X.w X.K X.mg X.base CX k f fd ps sp) (hr:bJ (k+1) X.A) (hb:Binds X.K fd ps ds) (hd:aq dvs ds)
 (hx:fM CX X E) (I:Inv X pins σ H s) (r:aq vs us)
 (h:∀ x dx,H x=none->H dx=none->dx≠x->sp (.ref x :: (vs++dvs)) (upd (upd H dx (.own x)) x (.ins C dx [])) (fun v H2=>v=.non/\Q (.ref x) H2) E) :
 wpAny (model X.prog X.w) X.A (call (.ref C) us) (EP X pins σ Q) X.xe s:=by
 have hq:=h (s.heap.objs.size+1) s.heap.objs.size (I.hok.fresh (Nat.le_succ _)) (I.hok.fresh (Nat.le_refl _)) (Nat.ne_of_lt (Nat.lt_succ_self _))
 have I2:=Inv.made (C:=C) I
 have r2:aq (V.ref (s.heap.objs.size+1) :: (vs++dvs)) (Value.ref (s.heap.objs.size+1) :: (us++ds)):=.cons rfl (r.append hd)
 have hl:(Value.ref (s.heap.objs.size+1) :: us++ds).length=ps.length:=by
  have e:=r2.length
  rw[F.len _ _ _ _ hq] at e
  exact e.symm
 refine wpAny_call (vh (f:=f) I.kIn M.makes M.init (beq_iff_eq.mp M.fn) (codeAny_mono (F.run _ X.stack _ _ ⟨Value.ref (s.heap.objs.size+1) :: us,[]⟩ (Value.ref (s.heap.objs.size+1) :: (us++ds)) _ _ E (hr.make C us [])
  (I2.CK.make C us []) (hb _ (Value.ref (s.heap.objs.size+1) :: us) I2.kIn hl) r2 hq) fun r s' hq'=>?_))
 cases r with
 | error e=>exact hx pins σ _ _ e s' I2 hq'
 | ok fl =>
  cases fl with
  | ret u =>
   obtain ⟨v,H',I3,rv,ev,q3⟩:=I2.after hq'
   subst ev
   exact ⟨rv,⟨V.ref (s.heap.objs.size+1),H',I3,rfl,q3⟩⟩
  | next=>exact False.elim hq'
  | brk=>exact False.elim hq'
  | cont=>exact False.elim hq'
theorem yR (M:Mk X.K C f) (F:dg X.prog X.w X.K X.mg X.base CX k f fd ps sp) (hr:bJ (k+1) X.A) (hg:Gl X x) (hm:X.mg x=some (.ref C)) (hb:Binds X.K fd ps ds) (hd:aq dvs ds) (hx:fM CX X E)
 (ha:PA X (e :: es) t) (hdb:(x==("__debug__":Str))=false:=by decide) (he:starEach (e :: es) X.env=(false,eval e X.env) :: starEach es X.env:=by rfl) (hpl:(backTo pos (starEach es X.env)).any (·.1)=false:=by rfl) :
 PE X (.Call (.Name x p) (e :: es) [] pos) (vo C sp dvs E t):=by
 intro pins s σ H Q I h
 refine wpAny_Call_Name_kw (iK I hg hm ?_ hdb)
 refine PySem.W.callWith_K (h₀:=X.base) I.ok.mod.kin M.kp (thn (ha pos pins s σ H _ I h) fun us s1 ⟨vs,H1,I1,r,q⟩=>⟨I1.kIn,?_⟩) he hpl
 exact oq M F hr hb hd hx I1 r q
theorem vv (M:Mk X.K C f) (F:dg X.prog X.w X.K X.mg X.base CX k f fd ps sp) (hr:bJ (k+1) X.A) (hg:Gl X x) (hm:X.mg x=some (.ref C)) (hb:Binds X.K fd ps ds) (hd:aq dvs ds) (hx:fM CX X E)
 (hdb:(x==("__debug__":Str))=false:=by decide):PE X (.Call (.Name x p) [] [] pos) (vo C sp dvs E vj):=by
 intro pins s σ H Q I h
 refine wpAny_Call_Name_kw (iK I hg hm ?_ hdb)
 exact PySem.W.callWith_K0 I.kIn M.kp (oq (us:=[]) M F hr hb hd hx I .nil h)
end
section
variable {X:Cx}{CX:CXT}{k:Nat}{f C:Addr}{fd:FuncData}{ps ks:List Str}{sp:Sp}{E:XK}{x m:Str}{p pos apos kpos:Pos}{e o:Expr}{es:List Expr}{kws:List Keyword}{te ta:TE}{t tk:TA}{nm:Option Str}
variable {g:List Value->List Value->List Value}{gV:List V->List V->List V}
end
structure aj (N P:List Str) (sc:Scope):Prop where
 kind:sc.kind=.function
 co:sc.isCoroutine=false
 gen:sc.isGenerator=false
 nd:N.Nodup
 pre:N.take P.length=P
 par:∀ x∈P,sc.names.lookup x=some .local\/sc.names.lookup x=some .cell
 nofree:∀ y∈sc.names,y.2≠.free
theorem lW {kindOf:Str->Option NameKind}{x:Str}:∀ {binds:List (Str×Value)}{m:Str->Option Value},(∀ v,(x,v)∉binds)->bindL kindOf binds m x=m x
 | [],_,_=>rfl
 | (n,v) :: r,m,h=>by
  unfold bindL
  rw[lW fun w hw=>h w (List.mem_cons_of_mem _ hw)]
  split
  ·have:x≠n:=by rintro rfl;exact h v List.mem_cons_self
   simp[this]
  ·rfl
theorem lX {kindOf:Str->Option NameKind}{x:Str}:∀ {binds:List (Str×Value)}{m:Str->Option Value},(∀ v,(x,v)∉binds)->bindC kindOf binds m x=m x
 | [],_,_=>rfl
 | (n,v) :: r,m,h=>by
  unfold bindC
  rw[lX fun w hw=>h w (List.mem_cons_of_mem _ hw)]
  split
  ·rfl
  ·have:x≠n:=by rintro rfl;exact h v List.mem_cons_self
   simp[this]
theorem lY {kindOf:Str->Option NameKind}{x:Str}{v:Value}:∀ {P:List Str}{vs:List Value}{i:Nat}{m:Str->Option Value},P.Nodup->P[i]?=some x->vs[i]?=some v->kindOf x=some .local →
 bindL kindOf (P.zip vs) m x=some v
 | [],_,_,_,_,h,_,_=>by simp at h
 | _ :: _,[],_,_,_,_,h,_=>by simp at h
 | p :: P,w :: vs,0,m,nd,h1,h2,hk=>by
  simp at h1 h2;subst h1;subst h2
  show bindL kindOf ((p,w) :: P.zip vs) m p=_
  unfold bindL
  rw[lW fun v hv=>(List.nodup_cons.mp nd).1 (List.of_mem_zip hv).1,if_pos hk]
  simp
 | p :: P,w :: vs,i+1,m,nd,h1,h2,hk=>by
  show bindL kindOf ((p,w) :: P.zip vs) m x=_
  unfold bindL
  exact lY (i:=i) (List.nodup_cons.mp nd).2 (by simpa using h1) (by simpa using h2) hk
theorem lZ {kindOf:Str->Option NameKind}{x:Str}{v:Value}:∀ {P:List Str}{vs:List Value}{i:Nat}{m:Str->Option Value},P.Nodup->P[i]?=some x->vs[i]?=some v->kindOf x≠some .local →
 bindC kindOf (P.zip vs) m x=some v
 | [],_,_,_,_,h,_,_=>by simp at h
 | _ :: _,[],_,_,_,_,h,_=>by simp at h
 | p :: P,w :: vs,0,m,nd,h1,h2,hk=>by
  simp at h1 h2;subst h1;subst h2
  show bindC kindOf ((p,w) :: P.zip vs) m p=_
  unfold bindC
  rw[lX fun v hv=>(List.nodup_cons.mp nd).1 (List.of_mem_zip hv).1,if_neg hk]
  simp
 | p :: P,w :: vs,i+1,m,nd,h1,h2,hk=>by
  show bindC kindOf ((p,w) :: P.zip vs) m x=_
  unfold bindC
  exact lZ (i:=i) (List.nodup_cons.mp nd).2 (by simpa using h1) (by simpa using h2) hk
noncomputable def start (N:List Str) (vs:List V):St:=vs.map some++List.replicate (N.length - vs.length) none
noncomputable def oz (CX:CXT) (P:Program) (w:World) (K:PySem.W.Frag) (mg:Str->Option Value) (base:Heap) (N:List Str) (qual:Str) (scope:Scope) (f:Addr) (cd:Value) (A:Around) (outer:List Env) (s:Shared) (H:Hp) (E:XK):Cx where
 prog:=P
 w:=w
 K:=K
 mg:=mg
 base:=base
 A:=A.deeper (envOfC qual scope s.heap.objs.size f cd)
 N:=N
 s₀:=s
 H₀:=H
 env:=envOfC qual scope s.heap.objs.size f cd
 outer:=outer
 stack:=envOfC qual scope s.heap.objs.size f cd :: outer
 ex:=[]
 calm:=true
 fn:=fun _=>true
 pn:=[]
 xe:=fun e s'=>wpAny (model P w) (A.deeper (envOfC qual scope s.heap.objs.size f cd)) (leaving (envOfC qual scope s.heap.objs.size f cd) e) (fun _ s''=>CX outer H s E e s'') (fun e' s''=>CX outer H s E e' s'') s'
theorem oA {sc:Scope}{n:Nat}{x:Str} (h:sc.names.lookup x=some .cell):∃ c,(cellsFrom n sc.names []).lookup x=some c:=by
 have q:=PySem.W.cellsFrom_some sc.names n [] (.inl h)
 exact Option.isSome_iff_exists.mp q
theorem tO {CX:CXT}{P:Program}{w:World}{K:PySem.W.Frag}{mg:Str->Option Value}{base:Heap}{N ps:List Str}{qual:Str}{scope:Scope}{f:Addr}{cd:Value}{A:Around}{outer:List Env}{s s1:Shared}{H:Hp}{E:XK}{us:List Value}{vs:List V}
 (S:aj N ps scope) (hd:A.handled=none) (e0:iN P w K mg base A outer s H) (hl:vs.length=ps.length) (r:aq vs us)
 (x:InCallC s s.heap.objs.size (bindL (envOfC qual scope s.heap.objs.size f cd).kindOf (ps.zip us) fun _=>none) (cellsFrom (s.heap.objs.size+1) scope.names []) (bindC (envOfC qual scope s.heap.objs.size f cd).kindOf (ps.zip us) fun _=>none) s1) :
 Inv (oz CX P w K mg base N qual scope f cd A outer s H E) [] (start N vs) H s1:=by
 have hpl:ps.length<=N.length:=by have:=congrArg List.length S.pre;rw[List.length_take] at this;omega
 obtain ⟨h1,tk,rfl,hk⟩:=x.done
 have noA:∀ b:Addr,b∉(oz CX P w K mg base N qual scope f cd A outer s H E).ex:=fun b z=>absurd (show b∈([]:List Addr) from z) (by simp)
 refine ⟨⟨e0.mod,S.kind,rfl,rfl,Nat.le_refl _,fun y z c h1 h2=>?_,fun y hy=>?_,fun y c _ h=>?_,fun _=>hd,Around.frames_deeper e0.frames,.inr ⟨rfl,rfl⟩,fun b z=>absurd z (noA b),e0.bs,e0.bsz,fun b _ _=>noA b,fun b z=>absurd z (noA b),e0.ig,e0.frf⟩,
  rfl,e0.bare,Un.kept hk,⟨_,x.toInCall.ns,fun i y v h1 h2 h3=>?_⟩,fun y c h=>⟨_,x.cell y c h⟩,e0.hok.fresh (Nat.le_refl _),fun y c h=>?_,fun p hp=>absurd (show p∈([]:List (Addr×Obj)) from hp) (by simp),e0.hok.kept hk,?_⟩
 ·exact name_of_addr x.apart (PySem.mem_of_lookup h1) (PySem.mem_of_lookup h2)
 ·have hy:scope.names.lookup y=some .cell\/scope.names.lookup y=some .free:=hy
  rcases hy with hy | hy
  ·exact oA hy
  ·exact absurd rfl (S.nofree _ (PySem.mem_of_lookup hy))
 ·exact Nat.le_of_lt (x.above y c (PySem.mem_of_lookup h))
 ·have hi:i < vs.length:=by
   unfold start at h2
   by_cases hi:i < vs.length
   ·exact hi
   ·rw[List.getElem?_append_right (by simpa using hi)] at h2
    rw[List.getElem?_replicate] at h2
    split at h2<;>cases h2
  have ha:vs[i]?=some v:=by
   unfold start at h2
   rw[List.getElem?_append_left (by simpa using hi),List.getElem?_map] at h2
   cases e:vs[i]? with
   | none=>rw[e] at h2;cases h2
   | some a=>rw[e] at h2;cases h2;rfl
  obtain ⟨u,hu,rv⟩:=r.get ha
  have hp:ps[i]?=some y:=by
   rw[← S.pre,List.getElem?_take_of_lt (by omega)];exact h1
  have ndP:ps.Nodup:=by rw[← S.pre];exact S.nd.sublist (List.take_sublist _ _)
  refine ⟨u,rv,?_⟩
  rcases S.par y (List.mem_of_getElem? hp) with k | k
  ·exact .inl ⟨k,lY ndP hp hu k⟩
  ·obtain ⟨c,e⟩:=oA (n:=s.heap.objs.size+1) k
   refine .inr ⟨.inl k,c,e,?_⟩
   have q:=x.cell y c e
   rw[lZ ndP hp hu (by show scope.names.lookup y≠_;rw[k];decide)] at q
   exact q
 ·exact e0.hok.fresh (Nat.le_of_lt (x.above y c (PySem.mem_of_lookup h)))
 ·unfold start
  show _=N.length
  rw[List.length_append,List.length_map,List.length_replicate]
  omega
theorem BK {CX:CXT}{P:Program}{w:World}{K:PySem.W.Frag}{mg:Str->Option Value}{base:Heap}{k:Nat}{f:Addr}{name qual:Str}{params:Arguments}{body:List Stmt}{scope:Scope}{dV kV doc pm cdv ct oc:Value}{an od:Option Addr}
 {osl:Array (Option Value)}{N ps:List Str}{sp:Sp} (lk:K.lookup f=some ⟨oc,od,.func (PySem.W.fnOf name qual params body scope dV kV doc pm an cdv ct),osl⟩) (hcd:PySem.W.codeIn K cdv qual=true) (S:aj N ps scope)
 (len:∀ vs H Q E,sp vs H Q E->vs.length=ps.length)
 (hbody:∀ (A:Around) (outer:List Env) (s:Shared) (H:Hp) (vs:List V) (Q:VK) (E:XK),bJ k (A.deeper (envOfC qual scope s.heap.objs.size f cdv))->sp vs H Q E →
  ∃ t,PSs (oz CX P w K mg base N qual scope f cdv A outer s H E) body t/\t { nx:=fun _ H'=>Q .non H',rt:=Q } (start N vs) H) :
 dg P w K mg base CX (k+1) f (PySem.W.fnOf name qual params body scope dV kV doc pm an cdv ct) ps sp:=by
 refine ⟨len,fun A outer s H args us vs Q E hr e0 hb r hsp=>?_⟩
 have hl:=len _ _ _ _ hsp
 have KX:K.In s.heap:=e0.mod.kin.keeps fun b o e=>(e0.bs b o e).1
 have lim:s.heap.NoLimit:=e0.mod.nolimit.keeps fun b o e=>(e0.bs b o e).1
 have hkind:∀ y∈ps.zip us,scope.names.lookup y.1=some .local\/(scope.names.lookup y.1=some .cell/\((cellsFrom (s.heap.objs.size+1) scope.names []).lookup y.1).isSome=true):=fun ⟨n,v⟩ hy=>by
  rcases S.par n (List.of_mem_zip hy).1 with q | q
  ·exact .inl q
  ·exact .inr ⟨q,PySem.W.cellsFrom_some _ _ _ (.inl q)⟩
 refine codeAny_call_function hr.depth (KX _ _ lk) rfl S.co S.gen rfl (PySem.W.codeRec_of KX hcd) (hb _ _ _ _ ?_)
 refine wpAny_newFunctionEnv_cells S.kind hkind fun env he s1 x=>?_
 subst he
 refine ⟨lim.keeps x.toInCall.keep,codeAny_func ?_⟩
 obtain ⟨t,ht,hq⟩:=hbody A outer s H vs Q E (hr.deeper _) hsp
 have I:Inv (oz CX P w K mg base N qual scope f cdv A outer s H E) [] (start N vs) H s1:=tO S hr.hd e0 hl r x
 refine wpAny_mono (ht [] s1 (start N vs) H _ I hq) (fun fl s' hs=>?_) fun e s' hs=>hs
 have fin:∀ {σ':St}{H':Hp}{v:V}{u:Value},Inv (oz CX P w K mg base N qual scope f cdv A outer s H E) [] σ' H' s'->RelV v u->Q v H'->CE outer P w H s Q u s' :=
  fun {σ' H' v u} J rv q=>⟨v,H',J.os,J.bare,J.base,J.hok,rv,q⟩
 cases fl with
 | ret u =>
  obtain ⟨v,σ',H',J,rv,q⟩:=hs
  exact fin J rv q
 | next =>
  obtain ⟨σ',H',J,q⟩:=hs
  exact fin (v:=V.non) (u:=Value.none) J rfl q
 | brk =>
  obtain ⟨_,_,_,q⟩:=hs
  exact False.elim q
 | cont =>
  obtain ⟨_,_,_,q⟩:=hs
  exact False.elim q
end L2
namespace L2
open PySem PySem.Spec PyProof.Rows
section
variable {X:Cx}{x:Str}{p pos:Pos}{e:Expr}{es:List Expr}{t:TA}{id T:String}{r:List V->Hp->VK->Prop}
noncomputable def tCB (r:List V->Hp->VK->Prop) (t:TA):TE:=fun σ H Q=>t σ H fun vs H1=>r vs H1 Q
theorem f7 (hc:cG X (.builtin id) r) (hg:Gl X x) (hm:X.mg x=none) (hv:bootBuiltins x=some (.builtin id)) (ha:PA X (e :: es) t) (hn:x≠"__name__":=by decide) (hdb:(x==("__debug__":Str))=false:=by decide)
 (he:starEach (e :: es) X.env=(false,eval e X.env) :: starEach es X.env:=by rfl) (hpl:(backTo pos (starEach es X.env)).any (·.1)=false:=by rfl):PE X (.Call (.Name x p) (e :: es) [] pos) (tCB r t):=by
 intro pins s σ H Q I h
 refine wpAny_Call_Name_kw (fh I hg hm hv ?_ hn hdb)
 exact PyProof.Rows.callWith_builtin1 (thn (ha pos pins s σ H _ I h) fun us s1 ⟨vs,H1,I1,r1,q1⟩=>hc pins s1 σ H1 vs us Q I1 r1 q1) he hpl
theorem gQ (hc:cG X (.type T) r) (hg:Gl X x) (hm:X.mg x=none) (hv:bootBuiltins x=some (.type T)) (ha:PA X (e :: es) t) (hn:x≠"__name__":=by decide) (hdb:(x==("__debug__":Str))=false:=by decide)
 (he:starEach (e :: es) X.env=(false,eval e X.env) :: starEach es X.env:=by rfl) (hpl:(backTo pos (starEach es X.env)).any (·.1)=false:=by rfl):PE X (.Call (.Name x p) (e :: es) [] pos) (tCB r t):=by
 intro pins s σ H Q I h
 refine wpAny_Call_Name_kw (fh I hg hm hv ?_ hn hdb)
 exact PyProof.Rows.callWith_type1 (thn (ha pos pins s σ H _ I h) fun us s1 ⟨vs,H1,I1,r1,q1⟩=>hc pins s1 σ H1 vs us Q I1 r1 q1) he hpl
end
end L2
namespace HT
open PySem PyProof.Rows
section
open PySem.SeqAt
open PySem.AutoSeq1 (wpAny_loadPart')
open PySem.MeetsSeq PySem.MeetsSeq2 PySem.MeetsSeq3
end
section
variable {prog:Program}{w:World}{A:Around}{E:Value->Shared->Prop}{s:Shared}
theorem yS {t b:Addr}{vs ws:List Value}{Q:Value->Shared->Prop} (ht:IsTup s.heap t vs.toArray) (hb:IsTup s.heap b ws.toArray) (hv:vs≠[])
 (h1:ws=[]->Q (.ref t) s) (h2:ws≠[]->Q (.ref s.heap.objs.size) { s with heap:=s.heap.push { cls:=.type "tuple",data:=.seq (vs++ws).toArray } })
 (hsz:vs.length+ws.length<=sizeLine):wpAny (model prog w) A (binaryOp .Add (.ref t) (.ref b)) Q E s:=by
 obtain ⟨⟨cls,dd,data,sl⟩,ho,hc,n,hd⟩:=id ht
 obtain ⟨⟨cls2,dd2,data2,sl2⟩,ho2,hc2,n2,hd2⟩:=id hb
 simp only at hc hd hc2 hd2
 subst hc hd hc2 hd2
 have e:vs.toArray++ws.toArray=(vs++ws).toArray:=by simp
 by_cases hw:ws=[]
 ·exact concat_meets ⟨_,ho,rfl⟩ ⟨_,ho2,rfl⟩ noFill_tuple_add seq_tuple_add PySem.F.slot_tuple_add PySem.F.entry_tuple_add (PySem.F.args_tuple_add_2 _ _)
   (tuple_addW1 t b vs.toArray ws.toArray n n2 dd dd2 sl sl2 (by simpa using hv) (by simp[hw])) ⟨ho,ho2,h1 hw⟩
 ·refine concat_meets ⟨_,ho,rfl⟩ ⟨_,ho2,rfl⟩ noFill_tuple_add seq_tuple_add PySem.F.slot_tuple_add PySem.F.entry_tuple_add (PySem.F.args_tuple_add_2 _ _)
   (tuple_addW2 t b vs.toArray ws.toArray n n2 dd dd2 sl sl2 (by simpa using hv) (by simpa using hw) (by rw[List.size_toArray,List.size_toArray];exact hsz)) ⟨ho,ho2,?_⟩
  rw[e]
  exact h2 hw
noncomputable def sIx (n d:Nat):Option Int->Nat
 | none=>d
 | some v=>if v < 0 then (v+(n:Int)).toNat else min v.toNat n
theorem CM (n d:Nat) (hd:d<=n) (o:Option Int):sIx n d o<=n:=by
 cases o with
 | none=>exact hd
 | some v =>
  show (if v < 0 then (v+(n:Int)).toNat else min v.toNat n)<=n
  by_cases hv:v < 0
  ·rw[if_pos hv];omega
  ·rw[if_neg hv];exact Nat.min_le_right _ _
theorem qZ (v:Int) (n d:Nat):(if v < 0 then max (v+(n:Int)) 0 else min v (n:Int))=((sIx n d (some v):Nat):Int):=by
 show (if v < 0 then max (v+(n:Int)) 0 else min v (n:Int))=(((if v < 0 then (v+(n:Int)).toNat else min v.toNat n):Nat):Int)
 by_cases hv:v < 0
 ·simp only[if_pos hv];omega
 ·simp only[if_neg hv];omega
theorem qj (lo hi:Option Int) (n:Nat):Builtin.Slice.sliceAdjust lo hi 1 (n:Int)=(((sIx n 0 lo:Nat):Int),((sIx n n hi:Nat):Int)):=by
 have h1:¬ ((1:Int) < 0):=by omega
 unfold Builtin.Slice.sliceAdjust
 simp only[h1,if_false]
 refine Prod.ext ?_ ?_
 ·cases lo with
  | none=>rfl
  | some v=>exact qZ v n 0
 ·cases hi with
  | none=>rfl
  | some v=>exact qZ v n n
theorem qk (i j:Nat):Builtin.Slice.slicePlaces (i:Int) (j:Int) 1=j - i:=by
 unfold Builtin.Slice.slicePlaces
 have h1:(1:Int) > 0:=by omega
 simp only[h1,if_true,Int.ediv_one]
 split<;>omega
theorem ku {v:Value}{o:Option Int}{Q:Option Int->Shared->Prop} (p:IsPart v o) (h:Q o s):wpAny (model prog w) A (Builtin.Slice.slicePartIndex v) Q E s:=by
 cases p with
 | none=>exact slicePart_none h
 | int i t=>exact slicePart_int h
theorem fz {sl:Addr}{vl vu:Value}{lo hi:Option Int}{n:Nat}{Q:Int×Int×Nat->Shared->Prop} (hs:s.heap.IsSliceOf sl vl vu .none) (pl:IsPart vl lo) (pu:IsPart vu hi)
 (h:Q (((sIx n 0 lo:Nat):Int),1,sIx n n hi - sIx n 0 lo) s):wpAny (model prog w) A (Builtin.Slice.sliceApplied (.ref sl) (pure (n:Int))) Q E s:=by
 obtain ⟨os,hos,hcs,hds⟩:=id hs
 unfold Builtin.Slice.sliceApplied Builtin.Slice.sliceFields
 refine wpAny_bind (wpAny_bind (wpAny_field hos hds (x:=vl) rfl (wpAny_bind (wpAny_field hos hds (x:=vu) rfl (wpAny_bind (wpAny_field hos hds (x:=.none) rfl (wpAny_pure ?_)))))))
 refine wpAny_bind (slicePart_none ?_)
 show wpAny _ _ (if ((1:Int)==0)=true then _ else _) _ _ s
 rw[if_neg (by decide)]
 refine wpAny_bind (ku pl (wpAny_bind (ku pu (wpAny_bind (wpAny_pure ?_)))))
 show wpAny _ _ (match Builtin.Slice.sliceAdjust lo hi 1 (n:Int) with | (lo,hi)=>pure (lo,(1:Int),Builtin.Slice.slicePlaces lo hi 1)) _ _ s
 rw[qj lo hi n]
 show wpAny _ _ (pure (((sIx n 0 lo:Nat):Int),(1:Int),Builtin.Slice.slicePlaces ((sIx n 0 lo:Nat):Int) ((sIx n n hi:Nat):Int) 1)) _ _ s
 rw[qk]
 exact wpAny_pure h
theorem vz (xs:Array Value) (i k:Nat):((List.range k).filterMap fun (m:Nat)=>xs[((i:Int)+(m:Int)*1).toNat]?).toArray=((xs.toList.drop i).take k).toArray:=by
 have e:(fun (m:Nat)=>xs[((i:Int)+(m:Int)*1).toNat]?)=fun m=>xs[i+m]?:=by
  funext m
  have:((i:Int)+(m:Int)*1).toNat=i+m:=by omega
  rw[this]
 rw[e]
 have:=pick_run xs i k
 rw[List.filterMap_map] at this
 have e2:((fun x=>xs[x]?) ∘ fun x=>i+x)=fun m=>xs[i+m]?:=rfl
 rw[e2] at this
 rw[this]
theorem iO {t sl:Addr}{items:Array Value}{vl vu:Value}{lo hi:Option Int}{Q:Value->Shared->Prop} (ht:IsTup s.heap t items) (hs:s.heap.IsSliceOf sl vl vu .none) (pl:IsPart vl lo) (pu:IsPart vu hi)
 (hw:¬ (sIx items.size 0 lo=0/\sIx items.size items.size hi=items.size))
 (h:Q (.ref s.heap.objs.size) { s with heap:=s.heap.push { cls:=.type "tuple",data:=.seq ((items.toList.drop (sIx items.size 0 lo)).take (sIx items.size items.size hi - sIx items.size 0 lo)).toArray } })
 (hsz:items.size<=sizeLine):wpAny (model prog w) A (getItem (.ref t) (.ref sl)) Q E s:=by
 have htake:sizeOk (.seq ((items.toList.drop (sIx items.size 0 lo)).take (sIx items.size items.size hi - sIx items.size 0 lo)).toArray):=by
  show ((items.toList.drop (sIx items.size 0 lo)).take (sIx items.size items.size hi - sIx items.size 0 lo)).toArray.size<=sizeLine
  rw[List.size_toArray,List.length_take,List.length_drop,Array.length_toList]
  omega
 have hj:sIx items.size items.size hi<=items.size:=CM _ _ (Nat.le_refl _) hi
 obtain ⟨os,hos,hcs,hds⟩:=id hs
 have hTs:s.TypeIs (.ref sl) "slice":=⟨os,hos,hcs⟩
 unfold getItem
 try with_reducible refine wpAny_holding ?_
 first | refine wpAny_bind (wpAny_pure ?_) | skip
 refine wpAny_bind (wpAny_sequenceKey ht.typeIs (by decide) ?_)
 refine wpAny_bind (wpAny_callSpecial?_slot (name:=Str.ofString "__getitem__") ht.typeIs PyProof.Rows.slot_tuple_getitem
  (wpAny_call_entry PyProof.Rows.slot_tuple_getitem ht.typeIs entry_tuple_getitem ?_ (args_tuple_getitem _ _)))
 show wpAny _ _ (Builtin.Tuple.tupleItemsOf (.ref t) >>= _) _ _ s
 refine wpAny_bind (tupleItemsOf_ ht ?_)
 refine wpAny_bind (wpAny_typeOf hTs ?_)
 rw[if_pos (by decide)]
 refine wpAny_bind (fz hs pl pu ?_)
 have hno:¬ ((((sIx items.size 0 lo:Nat):Int)==0&&(1:Int)==1&&(sIx items.size items.size hi - sIx items.size 0 lo)==items.size)=true):=by
  intro q
  rw[Bool.and_eq_true,Bool.and_eq_true] at q
  have q1:((sIx items.size 0 lo:Nat):Int)=0:=eq_of_beq q.1.1
  have q2:sIx items.size items.size hi - sIx items.size 0 lo=items.size:=eq_of_beq q.2
  exact hw ⟨by omega,by omega⟩
 show wpAny _ _ (if (((sIx items.size 0 lo:Nat):Int)==0&&(1:Int)==1&&(sIx items.size items.size hi - sIx items.size 0 lo)==items.size)=true then _ else _) _ _ s
 rw[if_neg hno,vz]
 first
  | exact wpAny_bind (m:=Builtin.Tuple.tupleExact _) (wpAny_newObj_type (wpAny_pure ⟨_,rfl,wpAny_pure h⟩) htake)
  | exact wpAny_bind (m:=Builtin.Tuple.tupleExact _) (wpAny_newObj_type (wpAny_bind (wpAny_pure (wpAny_pure ⟨_,rfl,wpAny_pure h⟩))) htake)
  | exact wpAny_bind (wpAny_bind (m:=Builtin.Tuple.tupleExact _) (wpAny_newObj_type (wpAny_pure (wpAny_pure ⟨_,rfl,wpAny_pure h⟩)) htake))
  | exact wpAny_bind (wpAny_bind (m:=Builtin.Tuple.tupleExact _) (wpAny_newObj_type (wpAny_pure ⟨_,rfl,wpAny_pure h⟩) htake))
end
end HT
namespace L2
open PySem PySem.Spec PyProof.Rows
noncomputable abbrev TO:=St->Hp->(Option Int->Hp->Prop)->Prop
noncomputable def PO (X:Cx) (e:Option Expr) (t:TO):Prop :=
 ∀ (pins:List (Addr×Obj)) (s:Shared) (σ:St) (H:Hp) (Q:Option Int->Hp->Prop),Inv X pins σ H s->t σ H Q →
  wpAny (model X.prog X.w) X.A (evalPart e X.env) (fun u s'=>∃ o H',Inv X pins σ H' s'/\IsPart u o/\Q o H') X.xe s
noncomputable def yT:TO:=fun _ H Q=>Q none H
noncomputable def FW (t:TE):TO:=fun σ H Q=>t σ H fun x H1=>∃ i,x=.int i/\Q (some i) H1
theorem intsAre_of {ns:List Int}:∀ {us:List Value},aq (ns.map V.int) us->IntsAre us ns:=by
 induction ns with
 | nil=>intro us r;rw[List.map_nil] at r;cases r;exact .nil
 | cons n ns ih =>
  intro us r
  rw[List.map_cons] at r
  cases r with
  | cons r1 r2 =>
   obtain ⟨t,e⟩:=r1
   subst e
   exact .cons n t (ih r2)
section
variable {X:Cx}{e:Expr}{te:TE}{lo hi:Option Expr}{tl th:TO}{pos p2:Pos}
theorem yU:PO X none yT:=by
 intro pins s σ H Q I h
 rw[evalPart_none]
 exact wpAny_pure ⟨none,H,I,.none,h⟩
theorem yV (h:PE X e te):PO X (some e) (FW te):=by
 intro pins s σ H Q I hw
 rw[evalPart_some]
 refine thn (h pins s σ H _ I hw) fun u s1 zq=>?_
 obtain ⟨x,H1,I1,r1,q1⟩:=zq
 obtain ⟨i,rfl,q⟩:=q1
 obtain ⟨t,rfl⟩:=r1
 exact ⟨some i,H1,I1,.int i t,q⟩
noncomputable def SlR (X:Cx) (r:V->Option Int->Option Int->Hp->VK->Prop):Prop :=
 ∀ (pins:List (Addr×Obj)) (s:Shared) (σ:St) (H:Hp) (x:V) (v vl vu:Value) (lo hi:Option Int) (sl:Addr) (Q:VK),Inv X pins σ H s->RelV x v->s.heap.IsSliceOf sl vl vu .none->IsPart vl lo->IsPart vu hi->r x lo hi H Q →
  ∃ T id,typeLookup (.type T) "__getitem__"=pure (some (.builtin id))/\s.TypeIs v T/\wpAny (model X.prog X.w) X.A (getItem v (.ref sl)) (EP X pins σ Q) X.xe s
theorem SlR.or {r r':V->Option Int->Option Int->Hp->VK->Prop} (h:SlR X r) (h':SlR X r'):SlR X (fun x lo hi H Q=>r x lo hi H Q\/r' x lo hi H Q):=by
 intro pins s σ H x v vl vu lo hi sl Q I rx hs pl pu q
 rcases q with q | q
 ·exact h pins s σ H x v vl vu lo hi sl Q I rx hs pl pu q
 ·exact h' pins s σ H x v vl vu lo hi sl Q I rx hs pl pu q
noncomputable def tSl (r:V->Option Int->Option Int->Hp->VK->Prop) (te:TE) (tl th:TO):TE:=fun σ H Q=>te σ H fun x H1=>tl σ H1 fun l H2=>th σ H2 fun u H3=>r x l u H3 Q
theorem vA {r:V->Option Int->Option Int->Hp->VK->Prop} (hr:SlR X r) (he:PE X e te) (hl:PO X lo tl) (hu:PO X hi th):PE X (.Subscript e (.Slice lo hi none p2) pos) (tSl r te tl th):=by
 intro pins s σ H Q I h
 refine Subscript_ (thn (he pins s σ H _ I h) fun v s1 zq=>?_)
 obtain ⟨x,H1,I1,r1,q1⟩:=zq
 refine wpAny_Slice (thn (hl pins s1 σ H1 _ I1 q1) fun vl s2 ⟨l,H2,I2,pl,q2⟩=>thn (hu pins s2 σ H2 _ I2 q2) fun vu s3 zq=>?_)
 obtain ⟨u,H3,I3,pu,q3⟩:=zq
 rw[evalPart_none]
 refine wpAny_pure ?_
 have I4:Inv X pins σ H3 { s3 with heap:=s3.heap.push { cls:=.type "slice",data:=.fields #[vl,vu,.none] } }:=I3.kept (t':=s3.toks) fun b ob q=>Heap.get?_push_of_some _ q
 obtain ⟨T,id,hT,ht,hg⟩:=hr pins { s3 with heap:=s3.heap.push { cls:=.type "slice",data:=.fields #[vl,vu,.none] } } σ H3 x v vl vu l u s3.heap.objs.size Q I4 r1 (Heap.IsSliceOf.new ..) pl pu q3
 show wpAny (model X.prog X.w) X.A (subscriptTail e (.Slice lo hi none p2) v (.ref s3.heap.objs.size)) (EP X pins σ Q) X.xe { s3 with heap:=s3.heap.push { cls:=.type "slice",data:=.fields #[vl,vu,.none] } }
 exact tail_any (ops:=[.ref s3.heap.objs.size,v]) ht hT hg (by with_unfolding_all rfl)
noncomputable def oB (xs:List V) (lo hi:Option Int):List V:=(xs.drop (HT.sIx xs.length 0 lo)).take (HT.sIx xs.length xs.length hi - HT.sIx xs.length 0 lo)
theorem jE (xs:List V) (lo hi:Option Int):(oB xs lo hi).length<=xs.length:=by
 unfold oB
 rw[List.length_take,List.length_drop]
 omega
noncomputable def Jc (K:PySem.W.Frag):V->Option Int->Option Int->Hp->VK->Prop:=fun x lo hi H Q=>∃ a xs,x=.ref a/\SqT K H a xs ∧
 ¬ (HT.sIx xs.length 0 lo=0/\HT.sIx xs.length xs.length hi=xs.length)/\∀ p,H p=none->Q (.ref p) (upd H p (.tup (oB xs lo hi)))
theorem CP:SlR X (Jc X.K):=by
 intro pins s σ H x v vl vu lo hi sl Q I rx hs pl pu h
 obtain ⟨a,xs,rfl,hx,hw,q⟩:=h
 cases rx
 obtain ⟨its,r,ht,hz⟩:=I.tuple hx
 have hlen:its.toArray.size=xs.length:=by rw[List.size_toArray];exact r.length.symm
 refine ⟨"tuple",_,PyProof.Rows.slot_tuple_getitem.lookup,ht.typeIs,?_⟩
 refine HT.iO ht hs pl pu (by rw[hlen];exact hw) ?_ (by rw[hlen];exact hz)
 rw[hlen]
 refine ⟨.ref s.heap.objs.size,_,I.laid (t':=s.toks) (o:=.tup (oB xs lo hi)) (fun b ob q=>Heap.get?_push_of_some _ q) (Nat.le_refl _) ?_,rfl,q _ (I.hok.fresh (Nat.le_refl _))⟩
 exact ⟨Nat.le_trans (jE xs lo hi) hz,_,(r.drop (HT.sIx xs.length 0 lo)).take (HT.sIx xs.length xs.length hi - HT.sIx xs.length 0 lo),IsTup.new _ _⟩
noncomputable def FY (K:PySem.W.Frag):R2:=fun x y H Q=>∃ a b xs ys,x=.ref a/\y=.ref b/\SqT K H a xs/\SqT K H b ys/\xs≠[]/\xs.length+ys.length<=sizeLine ∧
 (ys=[]->Q (.ref a) H)/\(ys≠[]->∀ p,H p=none->Q (.ref p) (upd H p (.tup (xs++ys))))
theorem aq.iP {xs:List V}{us:List Value} (r:aq xs us):us=[]↔xs=[]:=by
 cases r with
 | nil=>simp
 | cons _ _=>simp
theorem yW:OpR X (binaryOp .Add) (FY X.K):=by
 intro pins s σ H x y v u Q I rx ry h
 obtain ⟨a,b,xs,ys,rfl,rfl,ha,hb,hx,hz,q1,q2⟩:=h
 cases rx
 cases ry
 obtain ⟨its,r1,p1,_⟩:=I.tuple ha
 obtain ⟨its2,r2,p2,_⟩:=I.tuple hb
 refine HT.yS p1 p2 (fun z=>hx (r1.iP.mp z)) (fun z=>⟨.ref a,H,I,rfl,q1 (r2.iP.mp z)⟩) (fun z=>?_) (by rw[← r1.length,← r2.length];exact hz)
 refine ⟨.ref s.heap.objs.size,_,I.laid (t':=s.toks) (o:=.tup (xs++ys)) (fun b ob q=>Heap.get?_push_of_some _ q) (Nat.le_refl _) ?_,rfl,q2 (fun w=>z (r2.iP.mpr w)) _ (I.hok.fresh (Nat.le_refl _))⟩
 exact ⟨by rw[List.length_append];exact hz,_,r1.append r2,IsTup.new _ _⟩
end
end L2
namespace L2
open PySem PySem.Spec PyProof.Rows
noncomputable def ixN (n:Nat) (i:Int):Option Nat:=if 0<=i then (if i < n then some i.toNat else none) else if -(n:Int)<=i then some (i+n).toNat else none
noncomputable def atI {α:Type} (xs:List α) (i:Int):Option α:=(ixN xs.length i).bind fun j=>xs[j]?
theorem q8 {n:Nat}{i:Int}{j:Nat} (h:ixN n i=some j):seqIndex? i n=some j/\j < n/\-(n:Int)<=i/\i < n:=by
 unfold ixN at h
 by_cases h0:0<=i
 ·rw[if_pos h0] at h
  by_cases h1:i < n
  ·rw[if_pos h1] at h
   have e:i.toNat=j:=Option.some.inj h
   exact ⟨by rw[seqIndex_of h0 h1,e],by omega,by omega,h1⟩
  ·rw[if_neg h1] at h;cases h
 ·rw[if_neg h0] at h
  by_cases h1:-(n:Int)<=i
  ·rw[if_pos h1] at h
   have e:(i+n).toNat=j:=Option.some.inj h
   exact ⟨by rw[seqIndex_neg (by omega) h1,e],by omega,h1,by omega⟩
  ·rw[if_neg h1] at h;cases h
theorem mV {α:Type}{xs:List α}{i:Int}{v:α} (h:atI xs i=some v):∃ j,seqIndex? i xs.length=some j/\xs[j]?=some v/\j < xs.length/\-(xs.length:Int)<=i/\i < xs.length:=by
 unfold atI at h
 cases e:ixN xs.length i with
 | none=>rw[e] at h;cases h
 | some j =>
  rw[e] at h
  obtain ⟨h1,h2,h3,h4⟩:=q8 e
  exact ⟨j,h1,h,h2,h3,h4⟩
noncomputable def q9 (b:Expr):Prop:=∀ o i,subscripted b false o i=operate [o,i] (getItem o i)
noncomputable def IxR (X:Cx) (r:R2):Prop :=
 ∀ (value slice:Expr) (pins:List (Addr×Obj)) (s:Shared) (σ:St) (H:Hp) (x y:V) (v u:Value) (Q:VK),Inv X pins σ H s->RelV x v->RelV y u->r x y H Q →
  subscripted slice false v u=operate [v,u] (getItem v u)->wpAny (model X.prog X.w) X.A (subscriptTail value slice v u) (EP X pins σ Q) X.xe s
noncomputable def MtR (X:Cx) (id:String) (r:V->List V->Hp->VK->Prop):Prop :=
 ∀ (pins:List (Addr×Obj)) (s:Shared) (σ:St) (H:Hp) (x:V) (xs:List V) (v:Value) (us:List Value) (Q:VK),Inv X pins σ H s->RelV x v->aq xs us->r x xs H Q →
  wpAny (model X.prog X.w) X.A (call (.builtin id) (v :: us)) (EP X pins σ Q) X.xe s
section
variable {X:Cx}{a b:Expr}{ta tb:TE}{pos:Pos}
theorem IxR.or {r r':R2} (h:IxR X r) (h':IxR X r'):IxR X (fun x y H Q=>r x y H Q\/r' x y H Q):=by
 intro value slice pins s σ H x y v u Q I rx ry q hs
 rcases q with q | q
 ·exact h value slice pins s σ H x y v u Q I rx ry q hs
 ·exact h' value slice pins s σ H x y v u Q I rx ry q hs
theorem MtR.or {id:String}{r r':V->List V->Hp->VK->Prop} (h:MtR X id r) (h':MtR X id r'):MtR X id (fun x xs H Q=>r x xs H Q\/r' x xs H Q):=by
 intro pins s σ H x xs v us Q I rx rs q
 rcases q with q | q
 ·exact h pins s σ H x xs v us Q I rx rs q
 ·exact h' pins s σ H x xs v us Q I rx rs q
theorem FZ {r:R2} (hr:IxR X r) (ha:PE X a ta) (hb:PE X b tb) (hs:q9 b):PE X (.Subscript a b pos) (tOp r ta tb):=by
 intro pins s σ H Q I h
 exact Subscript_ (Cv ha hb I h fun v u s2 x y H2 I2 rx ry q=>hr a b pins s2 σ H2 x y v u Q I2 rx ry q (hs _ _))
noncomputable def Jd (K:PySem.W.Frag):R2:=fun x y H Q=>∃ p xs i v,x=.ref p/\y=.int i/\SqL K H p xs/\atI xs i=some v/\Q v H
noncomputable def Je (K:PySem.W.Frag):R2:=fun x y H Q=>∃ p xs i v,x=.ref p/\y=.int i/\SqT K H p xs/\atI xs i=some v/\Q v H
noncomputable def Jf:R2:=fun x y H Q=>∃ z i c,x=.str z/\y=.int i/\z.length<=sizeLine/\atI z.cps.toList i=some c/\Q (.str ⟨#[c]⟩) H
theorem yX:IxR X (Jd X.K):=by
 intro value slice pins s σ H x y v u Q I rx ry h hs
 obtain ⟨p,xs,i,z,rfl,rfl,hq,he,q⟩:=h
 cases rx
 obtain ⟨t,rfl⟩:=ry
 obtain ⟨its,r,pl,hz⟩:=I.list hq
 obtain ⟨j,h1,h2,h3,h4,h5⟩:=mV he
 obtain ⟨w,ew,rw'⟩:=r.get h2
 have hl:=r.length
 have hn:=jl
 have fin:EP X pins σ Q w s:=⟨z,H,I,rw',q⟩
 by_cases h0:0<=i
 ·have hj:i.toNat=j:=by
   rw[seqIndex_of h0 h5] at h1
   exact Option.some.inj h1
  exact item_listR pl.isList h0 (by omega) (by rw[hj];simpa using ew) fin hs
 ·have hj:(i+(its.toArray.size:Int)).toNat=j:=by
   rw[seqIndex_neg (by omega) h4] at h1
   rw[List.size_toArray,← hl]
   exact Option.some.inj h1
  exact subscriptTail_builtinR (x:=w) pl.isList.typeIs slot_list_getitem.lookup
   (wpAny_getItem_list_neg (Q:=fun r s'=>r=w/\EP X pins σ Q r s') pl.isList (by omega) (by rw[List.size_toArray]<;>omega) (by omega) (by rw[hj];simpa using ew) ⟨rfl,fin⟩) hs
theorem CQ:IxR X (Je X.K):=by
 intro value slice pins s σ H x y v u Q I rx ry h hs
 obtain ⟨p,xs,i,z,rfl,rfl,hq,he,q⟩:=h
 cases rx
 obtain ⟨t,rfl⟩:=ry
 obtain ⟨its,r,pl,hz⟩:=I.tuple hq
 obtain ⟨j,h1,h2,h3,h4,h5⟩:=mV he
 obtain ⟨w,ew,rw'⟩:=r.get h2
 have hl:=r.length
 have hn:=jl
 have fin:EP X pins σ Q w s:=⟨z,H,I,rw',q⟩
 exact subscriptTail_builtinR (x:=w) pl.typeIs slot_tuple_getitem.lookup
  (getItem_tuple (j:=j) (Q:=fun r s'=>r=w/\EP X pins σ Q r s') pl (by omega) (by omega) (by rw[List.size_toArray,← hl];exact h1) (by simpa using ew) ⟨rfl,fin⟩) hs
theorem CU:IxR X Jf:=by
 intro value slice pins s σ H x y v u Q I rx ry h hs
 obtain ⟨z,i,c,rfl,rfl,hz,he,q⟩:=h
 obtain ⟨t,rfl⟩:=rx
 obtain ⟨t',rfl⟩:=ry
 obtain ⟨j,h1,h2,h3,h4,h5⟩:=mV he
 have hl:z.cps.toList.length=z.length:=by simp[Str.length]
 rw[hl] at h1 h4 h5
 have hn:=jl
 exact tail_any (typeIs_str s z t) slot_str_getitem.lookup (getItem_str (c:=c) (by
  have e1:decide (i < -(2 ^ 63:Int))=false:=decide_eq_false (by omega)
  have e2:decide (i ≥ 2 ^ 63)=false:=decide_eq_false (by omega)
  rw[e1,e2,Bool.or_false]) (by rw[h1];simpa using h2) ⟨.str ⟨#[c]⟩,H,I.tok _,⟨_,rfl⟩,q⟩) hs
theorem qm (its:List Value) (n j:Nat) (u:Value):Obj.mapSeq (·.setIfInBounds j u) { cls:=.type "list",data:=.seq its.toArray n }={ cls:=.type "list",data:=.seq (its.set j u).toArray n }:=by
 simp[Obj.mapSeq]
theorem Inv.lst {pins:List (Addr×Obj)}{σ:St}{H:Hp}{s:Shared}{p:Addr}{xs:List V} (I:Inv X pins σ H s) (h:H p=some (.lst xs)) :
 ∃ (its:List Value) (n:Nat),aq xs its/\s.heap.get? p=some { cls:=.type "list",data:=.seq its.toArray n }/\xs.length<=sizeLine:=by
 obtain ⟨z,its,n,r,e⟩:=I.hok p _ h
 exact ⟨its,n,r,e,z⟩
theorem Inv.CV {pins:List (Addr×Obj)}{σ:St}{H:Hp}{s:Shared}{p:Addr}{xs ys:List V}{its its':List Value}{n n':Nat}{f:Obj->Obj} (I:Inv X pins σ H s) (h:H p=some (.lst xs))
 (ho:s.heap.get? p=some { cls:=.type "list",data:=.seq its.toArray n }) (hf:f { cls:=.type "list",data:=.seq its.toArray n }={ cls:=.type "list",data:=.seq its'.toArray n' }) (r:aq ys its') (hz:ys.length<=sizeLine) (t:Nat) :
 Inv X pins σ (upd H p (.lst ys)) { s with heap:=s.heap.update p f,toks:=t }:=by
 have e:(s.heap.update p f).get? p=some { cls:=.type "list",data:=.seq its'.toArray n' }:=by
  rw[Heap.get?_update_self f ho (by rw[hf]<;>rfl),hf]
 refine I.write (x:=p) (e:=p) (by rw[h];trivial) (.inl rfl) (fun b u hb q=>(Heap.get?_update_other _ _ (Ne.symm hb)).trans q) ⟨_,e⟩ ?_
 exact ⟨hz,its',n',r,e⟩
noncomputable def BN:V->V->V->Hp->(Hp->Prop)->Prop:=fun o i v H Q=>∃ p xs k j,o=.ref p/\i=.int k/\H p=some (.lst xs)/\ixN xs.length k=some j/\Q (upd H p (.lst (xs.set j v)))
theorem set_list:Cn X BN:=by
 intro pins s σ H o i v ov iv u Q I ro ri rv h
 obtain ⟨p,xs,k,j,rfl,rfl,hp,hj,q⟩:=h
 cases ro
 obtain ⟨t,rfl⟩:=ri
 obtain ⟨its,n,r,ho,hz⟩:=I.lst hp
 obtain ⟨h1,h2,h3,h4⟩:=q8 hj
 have hl:=r.length
 have hn:=jl
 have I':Inv X pins σ (upd H p (.lst (xs.set j v))) { s with heap:=s.heap.update p (Obj.mapSeq (·.setIfInBounds j u)) } :=
  I.CV hp ho (qm its n j u) (r.set rv j) (by rw[List.length_set];exact hz) s.toks
 by_cases h0:0<=k
 ·have hk:k.toNat=j:=by
   rw[seqIndex_of h0 h4] at h1
   exact Option.some.inj h1
  exact PySem.W.ki_setAt ho h0 (by omega) (by rw[List.size_toArray,← hl];exact h4) (by rw[hk];exact ⟨_,I',q⟩)
 ·have hk:(k+(its.toArray.size:Int)).toNat=j:=by
   rw[seqIndex_neg (by omega) h3] at h1
   rw[List.size_toArray,← hl]
   exact Option.some.inj h1
  exact PySem.W.ki_setBack ho (by omega) (by rw[List.size_toArray,← hl];exact h3) (by omega) (by rw[hk];exact ⟨_,I',q⟩)
theorem mW (lo hi:Option Int) (n:Nat):(sliceBounds lo hi none n).1=((HT.sIx n 0 lo:Nat):Int)/\(sliceBounds lo hi none n).2.1=((HT.sIx n n hi:Nat):Int)/\(sliceBounds lo hi none n).2.2=1:=by
 refine ⟨?_,?_,rfl⟩
 ·cases lo with
  | none=>simp[sliceBounds,HT.sIx]
  | some i =>
   simp only[sliceBounds,HT.sIx,Option.getD_none,show (1:Int) > 0 by decide,if_true]
   by_cases h:i < 0
   ·simp only[h,if_true]<;>omega
   ·simp only[h,if_false]<;>omega
 ·cases hi with
  | none=>simp[sliceBounds,HT.sIx]
  | some i =>
   simp only[sliceBounds,HT.sIx,Option.getD_none,show (1:Int) > 0 by decide,if_true]
   by_cases h:i < 0
   ·simp only[h,if_true]<;>omega
   ·simp only[h,if_false]<;>omega
theorem lE (its:List Value) (lo hi:Option Int):slicePick its.toArray lo hi none=((its.drop (HT.sIx its.length 0 lo)).take (HT.sIx its.length its.length hi - HT.sIx its.length 0 lo)).toArray:=by
 obtain ⟨h1,h2,h3⟩:=mW lo hi its.toArray.size
 unfold slicePick
 rw[h1,h2,h3]
 simp only[sliceRange_one,pick_run,List.size_toArray]<;>rfl
noncomputable def Jg (K:PySem.W.Frag):V->Option Int->Option Int->Hp->VK->Prop:=fun x lo hi H Q=>∃ a xs,x=.ref a/\SqL K H a xs/\∀ p,H p=none->Q (.ref p) (upd H p (.lst (oB xs lo hi)))
theorem yY:SlR X (Jg X.K):=by
 intro pins s σ H x v vl vu lo hi sl Q I rx hs pl pu h
 obtain ⟨a,xs,rfl,hx,q⟩:=h
 cases rx
 obtain ⟨its,r,ht,hz⟩:=I.list hx
 have hlen:=r.length
 refine ⟨"list",_,slot_list_getitem.lookup,ht.isList.typeIs,?_⟩
 refine wpAny_getItem_list_slice ht.isList hs pl pu .none (by simp) ?_ (by rw[List.size_toArray]<;>omega)
 rw[lE,← hlen]
 refine ⟨.ref s.heap.objs.size,_,I.laid (t':=s.toks) (o:=.lst (oB xs lo hi)) (fun b ob q=>Heap.get?_push_of_some _ q) (Nat.le_refl _) ?_,rfl,q _ (I.hok.fresh (Nat.le_refl _))⟩
 exact ⟨Nat.le_trans (jE xs lo hi) hz,_,0,(r.drop (HT.sIx xs.length 0 lo)).take (HT.sIx xs.length xs.length hi - HT.sIx xs.length 0 lo),Heap.get?_push_size _ rfl⟩
theorem iQ:cG X (.builtin "len") (fun xs H Q=>∃ p ys,xs=[.ref p]/\(SqL X.K H p ys\/SqT X.K H p ys)/\Q (.int ys.length) H):=by
 intro pins s σ H xs us Q I r h
 obtain ⟨p,ys,rfl,hq,q⟩:=h
 obtain ⟨u,rfl,rx⟩:=vals1 r
 cases rx
 have hn:=jl
 rcases hq with hq | hq
 ·obtain ⟨its,r',pl,hz⟩:=I.list hq
  have hlen:=r'.length
  exact Calls.call_len_list pl.isList (by simp only[List.size_toArray]<;>omega) ⟨.int ys.length,H,I.tok _,⟨s.toks+1,by rw[List.size_toArray,hlen]⟩,q⟩
 ·obtain ⟨its,r',pl,hz⟩:=I.tuple hq
  have hlen:=r'.length
  exact len_tuple pl (by simp only[List.size_toArray]<;>omega) ⟨.int ys.length,H,I.tok _,⟨s.toks+1,by rw[List.size_toArray,hlen]⟩,q⟩
theorem mX:cG X (.builtin "len") (fun xs H Q=>∃ z,xs=[.str z]/\z.length<=sizeLine/\Q (.int z.length) H):=by
 intro pins s σ H xs us Q I r h
 obtain ⟨z,rfl,hz,q⟩:=h
 obtain ⟨u,rfl,t,rfl⟩:=vals1 r
 have hn:=jl
 exact len_str (by omega) ⟨.int z.length,H,I.tok _,⟨_,rfl⟩,q⟩
theorem cG.or {f:Value}{r r':List V->Hp->VK->Prop} (h:cG X f r) (h':cG X f r'):cG X f (fun xs H Q=>r xs H Q\/r' xs H Q):=by
 intro pins s σ H xs us Q I rs q
 rcases q with q | q
 ·exact h pins s σ H xs us Q I rs q
 ·exact h' pins s σ H xs us Q I rs q
theorem iR:cG X (.type "list") (fun xs H Q=>∃ p ys,xs=[.ref p]/\(SqL X.K H p ys\/SqT X.K H p ys)/\∀ l,H l=none->Q (.ref l) (upd H l (.lst ys))):=by
 intro pins s σ H xs us Q I r h
 obtain ⟨p,ys,rfl,hq,q⟩:=h
 obtain ⟨u,rfl,rx⟩:=vals1 r
 cases rx
 have fin:∀ (its:List Value),aq ys its->ys.length<=sizeLine->∀ (h':Heap) (c':Nat),(∀ b o',s.heap.get? b=some o'->h'.get? b=some o') →
  h'.get? s.heap.objs.size=some { cls:=.type "list",dict:=none,data:=.seq its.toArray c',slots:=#[] }->EP X pins σ Q (.ref s.heap.objs.size) { s with heap:=h' }:=fun its r' hz h' c' kp e =>
  ⟨.ref s.heap.objs.size,_,I.laid (t':=s.toks) kp (Nat.le_refl _) (show cX X.prog X.w _ h' _ (.lst ys) from ⟨hz,its,c',r',e⟩),rfl,q _ (I.hok.fresh (Nat.le_refl _))⟩
 rcases hq with hq | hq
 ·obtain ⟨its,r',pl,hz⟩:=I.list hq
  have hlen:=r'.length
  obtain ⟨o,ho,hc,n,hd⟩:=pl.isList
  exact call_list_seq p (.inl rfl) ho hc hd (fun h' c' kp e=>fin its r' hz h' c' kp e) (by simp only[List.size_toArray]<;>omega)
 ·obtain ⟨its,r',pl,hz⟩:=I.tuple hq
  have hlen:=r'.length
  obtain ⟨o,ho,hc,n,hd⟩:=pl
  exact call_list_seq p (.inr rfl) ho hc hd (fun h' c' kp e=>fin its r' hz h' c' kp e) (by simp only[List.size_toArray]<;>omega)
theorem iw:cG X (.type "tuple") (fun xs H Q=>∃ p ys,xs=[.ref p]/\((SqL X.K H p ys/\∀ l,H l=none->Q (.ref l) (upd H l (.tup ys)))\/(SqT X.K H p ys/\Q (.ref p) H))):=by
 intro pins s σ H xs us Q I r h
 obtain ⟨p,ys,rfl,h⟩:=h
 obtain ⟨u,rfl,rx⟩:=vals1 r
 cases rx
 rcases h with ⟨hq,q⟩ | ⟨hq,q⟩
 ·obtain ⟨its,r',pl,hz⟩:=I.list hq
  have hlen:=r'.length
  refine call_tuple_list pl.isList (fun h' kp=>?_) (by simp only[List.size_toArray]<;>omega)
  have I1:Inv X pins σ H { s with heap:=h' }:=I.kept (t':=s.toks) kp
  have I2:Inv X pins σ (upd H h'.objs.size (.tup ys)) { s with heap:=h'.push { cls:=.type "tuple",data:=.seq its.toArray } } :=
   I1.laid (t':=s.toks) (fun b o e=>Heap.get?_push_of_some _ e) (Nat.le_refl _) (show cX X.prog X.w _ _ _ (.tup ys) from ⟨hz,its,r',IsTup.new _ _⟩)
  exact ⟨.ref h'.objs.size,_,I2,rfl,q _ (I1.hok.fresh (Nat.le_refl _))⟩
 ·obtain ⟨its,r',pl,hz⟩:=I.tuple hq
  exact call_tuple_same pl ⟨.ref p,H,I,rfl,q⟩
noncomputable def tyV (K:PySem.W.Frag) (T:String) (x:V) (H:Hp):Prop:=match x with
 | .str _=>T="str"
 | .int _=>T="int"
 | .ref p=>(T="list"/\∃ xs,SqL K H p xs)\/(T="tuple"/\∃ o,K.lookup p=some o/\o.cls=.type "tuple"/\o.dict=none) ∨
  (T="dict"/\((∃ kvs,H p=some (.dK kvs))\/∃ kvs,H p=some (.dT kvs)))\/(T="set"/\∃ S n,H p=some (.set S n))
 | _=>False
theorem qo {pins:List (Addr×Obj)}{σ:St}{H:Hp}{s:Shared}{T:String}{x:V}{v:Value} (I:Inv X pins σ H s) (r:RelV x v) (ty:tyV X.K T x H) :
 s.TypeIs v T/\∀ a,v=.ref a->∃ ob,s.heap.get? a=some ob/\ob.dict=none:=by
 cases x with
 | str z =>
  obtain ⟨t,rfl⟩:=r
  cases (show T="str" from ty)
  exact ⟨typeIs_str s z t,fun _ e=>nomatch e⟩
 | int i =>
  obtain ⟨t,rfl⟩:=r
  cases (show T="int" from ty)
  exact ⟨typeIs_int s i t,fun _ e=>nomatch e⟩
 | ref p =>
  cases r
  rcases ty with ⟨rfl,xs,hq⟩ | ⟨rfl,o,hk,hc,hd⟩ | ⟨rfl,hk⟩ | ⟨rfl,S,n,hk⟩
  ·obtain ⟨its,_,pl,_⟩:=I.list hq
   refine ⟨pl.isList.typeIs,fun a e=>?_⟩
   cases e
   obtain ⟨o,n,e,c,hd,_⟩:=pl
   exact ⟨o,e,hd⟩
  ·refine ⟨⟨o,I.kIn p o hk,hc⟩,fun a e=>?_⟩
   cases e
   exact ⟨o,I.kIn _ o hk,hd⟩
  ·have z:∃ o,s.heap.get? p=some o/\o.ExactDict:=by
    rcases hk with ⟨kvs,hk⟩ | ⟨kvs,hk⟩
    ·obtain ⟨_,_,_,_,o,_,_,e,ex,_⟩:=I.hok p _ hk
     exact ⟨o,e,ex⟩
    ·obtain ⟨_,_,_,_,o,_,_,e,ex,_⟩:=I.hok p _ hk
     exact ⟨o,e,ex⟩
   obtain ⟨o,e,ex⟩:=z
   refine ⟨⟨o,e,ex.1⟩,fun a e2=>?_⟩
   cases e2
   exact ⟨o,e,ex.2.1⟩
  ·obtain ⟨o,_,_,_,e,ex,_⟩:=I.hok p _ hk
   refine ⟨⟨o,e,ex.1⟩,fun a e2=>?_⟩
   cases e2
   exact ⟨o,e,ex.2.1⟩
 | _=>exact False.elim ty
noncomputable def Jh (K:PySem.W.Frag) (T:String) (r:V->List V->Hp->VK->Prop) (to:TE):TE:=fun σ H Q=>to σ H fun x H1=>tyV K T x H1/\r x [] H1 Q
noncomputable def tBM (K:PySem.W.Frag) (T:String) (r:V->List V->Hp->VK->Prop) (to:TE) (t:TA):TE:=fun σ H Q=>to σ H fun x H1=>tyV K T x H1/\t σ H1 fun xs H2=>r x xs H2 Q
variable {o e:Expr}{es:List Expr}{to:TE}{t:TA}{name:Str}{apos cpos:Pos}{T id:String}{r:V->List V->Hp->VK->Prop}
theorem CW (pa:PlainAttrs T) (slot:Slot T name id) (hty:typeOf (.builtin id)=pure (.type "method_descriptor")) (hm:MtR X id r) (ho:PE X o to)
 (hbase:attributeBase o name X.env (eval o X.env)=eval o X.env:=by rfl) (hline:(apos.endLine==cpos.line)=true:=by rfl):PE X (.Call (.Attribute o name apos) [] [] cpos) (Jh X.K T r to):=by
 intro pins s σ H Q I h
 refine wpAny_Call_method0_late hbase hline (thn (ho pins s σ H _ I h) fun v s1 zq=>?_)
 obtain ⟨x,H1,I1,r1,ty,q1⟩:=zq
 obtain ⟨h1,h2⟩:=qo I1 r1 ty
 exact ⟨T,id,pa,slot,hty,h1,h2,Calls.callWith_builtin rfl (PySem.evalArgs_none (hm pins s1 σ H1 x [] v [] Q I1 r1 .nil q1))⟩
theorem vB (pa:PlainAttrs T) (slot:Slot T name id) (hty:typeOf (.builtin id)=pure (.type "method_descriptor")) (hm:MtR X id r) (ho:PE X o to) (ha:PA X (e :: es) t)
 (hbase:attributeBase o name X.env (eval o X.env)=eval o X.env:=by rfl)
 (hfew:((backTo cpos (starEach (e :: es) X.env)).all (fun x=>!x.1)&&(backToKw cpos (keywordEach [] X.env)).all (fun x=>x.1.isSome)
 &&decide ((e :: es).length+([]:List Keyword).length+(if ([]:List Keyword).isEmpty then 0 else 1) < 30))=true:=by rfl)
 (hline:(apos.endLine==cpos.line)=true:=by rfl) (hs:starEach (e :: es) X.env=(false,eval e X.env) :: starEach es X.env:=by rfl) (hplain:(backTo cpos (starEach es X.env)).any (·.1)=false:=by rfl) :
 PE X (.Call (.Attribute o name apos) (e :: es) [] cpos) (tBM X.K T r to t):=by
 intro pins s σ H Q I h
 refine wpAny_Call_method_late hbase hfew hline rfl (thn (ho pins s σ H _ I h) fun v s1 zq=>?_)
 obtain ⟨x,H1,I1,r1,ty,q1⟩:=zq
 obtain ⟨h1,h2⟩:=qo I1 r1 ty
 refine ⟨T,id,pa,slot,hty,h1,h2,?_⟩
 have hA:=ha cpos pins s1 σ H1 _ I1 q1
 rw[hs] at hA ⊢
 refine Calls.callWith_builtin (by show (false||(backTo cpos (starEach es X.env)).any (·.1))=false;rw[hplain]<;>rfl) (Calls.evalArgs_plain ?_)
 exact thn hA fun us s2 ⟨vs,H2,I2,r2,q2⟩=>hm pins s2 σ H2 x vs v us Q I2 r1 r2 q2
/- xs.append(e),list.index on a module's tuple .. are MtR facts of 06m -/
end
end L2
namespace L2
open PySem PySem.Spec PyProof.Rows
noncomputable def MtM (X:Cx) (id:String) (r:V->List V->Hp->VK->Prop):Prop :=
 ∀ (pins:List (Addr×Obj)) (s:Shared) (σ:St) (H:Hp) (x:V) (xs:List V) (v:Value) (us:List Value) (Q:VK),Inv X pins σ H s->RelV x v->aq xs us->r x xs H Q →
  wpAny (model X.prog X.w) X.A (call (.builtin id) (v :: us)) (EP X pins σ Q) X.xe s
theorem aq.one {x:V}{us:List Value} (h:aq [x] us):∃ u,us=[u]/\RelV x u:=by
 cases h with | cons r t=>cases t;exact ⟨_,rfl,r⟩
theorem aq.two {x y:V}{us:List Value} (h:aq [x,y] us):∃ u v,us=[u,v]/\RelV x u/\RelV y v:=by
 cases h with | cons r t=>obtain ⟨v,rfl,q⟩:=aq.one t;exact ⟨_,v,rfl,r,q⟩
theorem aq.zero:∀ {us:List Value},aq [] us->us=[]
 | _,.nil=>rfl
theorem aq.dropLast {xs:List V}{us:List Value} (h:aq xs us):aq xs.dropLast us.dropLast:=by
 induction h with
 | nil=>exact .nil
 | cons r t ih =>
  cases t with
  | nil=>exact .nil
  | cons q t'=>exact .cons r ih
theorem aq.eraseIdx:∀ {xs:List V}{us:List Value} (i:Nat),aq xs us->aq (xs.eraseIdx i) (us.eraseIdx i)
 | _,_,_,.nil=>.nil
 | _,_,0,.cons _ t=>t
 | _,_,i+1,.cons r t=>.cons r (aq.eraseIdx i t)
theorem aq.reverse {xs:List V}{us:List Value} (h:aq xs us):aq xs.reverse us.reverse:=by
 induction h with
 | nil=>exact .nil
 | cons r t ih=>rw[List.reverse_cons,List.reverse_cons];exact aq.append ih (.cons r .nil)
theorem aq.rep {xs:List V}{us:List Value} (h:aq xs us):∀ k:Nat,aq (List.replicate k xs).flatten (List.replicate k us).flatten
 | 0=>.nil
 | k+1=>by
  rw[List.replicate_succ,List.replicate_succ,List.flatten_cons,List.flatten_cons]
  exact aq.append h (aq.rep h k)
theorem qp {α:Type} (l:List α):l.eraseIdx (l.length - 1)=l.dropLast:=by
 induction l with
 | nil=>rfl
 | cons a r ih =>
  cases r with
  | nil=>rfl
  | cons b r =>
   have e:(a :: b :: r).length - 1=((b :: r).length - 1)+1:=by
    have h1:(a :: b :: r).length=r.length+2:=rfl
    have h2:(b :: r).length=r.length+1:=rfl
    omega
   rw[e,List.eraseIdx_cons_succ,ih]
   all_goals rfl
theorem foldl_rep (its:List Value):∀ (k:Nat) (acc:List Value),
 List.foldl (fun x1 x2=>x1++x2) acc.toArray (List.replicate k its.toArray)=(acc++(List.replicate k its).flatten).toArray
 | 0,acc=>by simp
 | k+1,acc=>by
  have e:acc.toArray++its.toArray=(acc++its).toArray:=by simp
  have e2:(acc++its)++(List.replicate k its).flatten=acc++(List.replicate (k+1) its).flatten:=by
   rw[List.replicate_succ,List.flatten_cons,List.append_assoc]
  rw[← e2,← foldl_rep its k (acc++its),← e,List.replicate_succ,List.foldl_cons]
section
variable {X:Cx}{pins:List (Addr×Obj)}{σ:St}{H:Hp}{s:Shared}{l b:Addr}{xs ys zs:List V}
theorem Inv.yZ {its its':List Value}{n:Nat}{f:Array Value->Array Value}{t':Nat} (I:Inv X pins σ H s) (hH:H l=some (.lst xs))
 (e:s.heap.get? l=some { cls:=.type "list",data:=.seq its.toArray n }) (hf:f its.toArray=its'.toArray) (hv:aq ys its') (hz:ys.length<=sizeLine) :
 Inv X pins σ (upd H l (.lst ys)) { s with heap:=s.heap.update l (Obj.mapSeq f),toks:=t' }:=by
 have q:=PySem.IsL.update e f
 rw[hf] at q
 refine I.write (x:=l) (e:=l) (by rw[hH];exact trivial) (.inl rfl) (fun b' u hb hu=>(Heap.get?_update_other s.heap (Obj.mapSeq f) (Ne.symm hb)).trans hu) ⟨_,q⟩ ?_
 exact ⟨hz,its',_,hv,q⟩
theorem Inv.F3 {its:List Value}{t':Nat} (I:Inv X pins σ H s) (hv:aq ys its) (hz:ys.length<=sizeLine) :
 Inv X pins σ (upd H s.heap.objs.size (.lst ys)) { s with heap:=s.heap.push { cls:=.type "list",data:=.seq its.toArray },toks:=t' } :=
 I.laid (fun _ _ q=>Heap.get?_push_of_some _ q) (Nat.le_refl _) ⟨hz,its,0,hv,Heap.get?_push_size _ rfl⟩
theorem Inv.fresh (I:Inv X pins σ H s):H s.heap.objs.size=none:=I.hok.fresh (Nat.le_refl _)
theorem Inv.y9 (I:Inv X pins σ H s) (hH:H l=some (.lst xs)):xs.length<=sizeLine/\∃ (its:List Value) (n:Nat),aq xs its/\xs.length=its.length/\s.heap.get? l=some { cls:=.type "list",data:=.seq its.toArray n }:=by
 obtain ⟨z,its,n,r,e⟩:=I.hok l _ hH
 exact ⟨z,its,n,r,r.length,e⟩
theorem kB {n:Nat} (h:n<=sizeLine):Builtin.List.listTooLong n=false:=by
 unfold Builtin.List.listTooLong
 exact decide_eq_false (by omega)
end
section
variable {X:Cx}
noncomputable def za:V->List V->Hp->VK->Prop:=fun x vs H Q=>∃ l xs y,x=.ref l/\vs=[y]/\H l=some (.lst xs)/\xs.length < sizeLine/\Q .non (upd H l (.lst (xs++[y])))
theorem tP:MtM X "list.append" za:=by
 intro pins s σ H x vs v us Q I rx rv h
 obtain ⟨l,xs,y,rfl,rfl,hH,hz,q⟩:=h
 cases rx
 obtain ⟨u,rfl,ru⟩:=rv.one
 obtain ⟨z,its,n,r,hl,e⟩:=I.y9 hH
 refine call_meets F.slot_list_append ⟨_,e,rfl⟩ F.entry_list_append (F.args_list_append_2 _ _) (PySem.list_append l its.toArray n u (by rw[List.size_toArray];omega)) ⟨e,?_⟩
 refine ⟨.non,_,I.yZ (its':=its++[u]) hH e (by simp) (r.append (.cons ru .nil)) ?_,rfl,q⟩
 rw[List.length_append,List.length_singleton]
 omega
noncomputable def Ji:V->List V->Hp->VK->Prop:=fun x vs H Q=>∃ l xs y,x=.ref l/\vs=[]/\H l=some (.lst xs)/\xs[xs.length - 1]?=some y/\Q y (upd H l (.lst xs.dropLast))
theorem CY:MtM X "list.pop" Ji:=by
 intro pins s σ H x vs v us Q I rx rv h
 obtain ⟨l,xs,y,rfl,rfl,hH,hy,q⟩:=h
 cases rx
 have hus:=rv.zero
 subst hus
 obtain ⟨z,its,n,r,hl,e⟩:=I.y9 hH
 obtain ⟨u,hu,ru⟩:=r.get hy
 have hy':its.toArray[its.toArray.size - 1]?=some u:=by
  show its.toArray[its.length - 1]?=some u
  rw[← Array.getElem?_toList,← hl]
  exact hu
 refine call_meets F.slot_list_pop ⟨_,e,rfl⟩ F.entry_list_pop (F.args_list_pop_1 _) (MeetsSeq.list_pop_last l its.toArray n u hy' (by rw[List.size_toArray];omega)) ⟨e,?_⟩
 refine ⟨y,_,I.yZ (its':=its.dropLast) hH e ?_ r.dropLast ?_,ru,q⟩
 ·show its.toArray.eraseIdxIfInBounds (its.toArray.size - 1)=its.dropLast.toArray
  rw[List.size_toArray,List.eraseIdxIfInBounds_toArray,qp]
 ·rw[List.length_dropLast]
  omega
theorem len_rep {α:Type} (xs:List α) (k:Nat):(List.replicate k xs).flatten.length=k*xs.length:=by
 induction k with
 | zero=>simp
 | succ k ih=>rw[List.replicate_succ,List.flatten_cons,List.length_append,ih,Nat.succ_mul,Nat.add_comm]
end
section
variable {prog:Program}{w:World}{A:Around}{E:Value->Shared->Prop}{s:Shared}
set_option maxRecDepth 100000 in
end
section
variable {X:Cx}
end
end L2
namespace Att
open PySem PySem.W PySem.Calls PyProof.Rows
theorem jN {P:Params}{h:Heap}:∀ (ns:List Int) (vs:List Value),WellAll P h vs (ns.map WData.int)->IntsAre vs ns:=by
 intro ns
 induction ns with
 | nil =>
  intro vs w
  rw[List.map_nil] at w
  cases w
  exact .nil
 | cons n ns ih =>
  intro vs w
  rw[List.map_cons] at w
  cases w with
  | cons a b =>
   cases a
   exact .cons _ _ (ih _ b)
theorem tQ {l:OpenLaw}{n:Nat} (hn:l.most=some n) {P:Params}{h:Heap}{args:List WData}{vals:List Value}
 (hpre:l.row.toRowW.claim.pre args=true) (hwl:WellAll P h vals args) :
 ∃ a vs ns,vals=[Value.ref a]/\args=[WData.list (ns.map WData.int)]/\h.get? a=some { cls:=.type "list",data:=.seq vs.toArray }/\IntsAre vs ns/\ns.length<=n:=by
 have hsh:WShape.hasAll [] args [.list .int]=true:=(pre_splitW hpre).1
 have hc:l.pre.holds [] { args:=args }=true:=(pre_splitW hpre).2
 obtain ⟨d,r,rfl,h1,h2⟩:=hasAllW_cons hsh
 obtain rfl:=hasAllW_nil h2
 obtain ⟨xs,rfl,h3⟩:=hasW_list h1
 obtain ⟨ns,rfl⟩:=items_int h3
 have hlen:ns.length<=n:=by
  unfold OpenLaw.pre at hc
  have h4:(WTm.not (.lt (.lit (.int (n:Int))) (.len (.arg 0)))).holds [] { args:=[.list (ns.map .int)] }=true:=by
   have h4:=(holds_andW hc).1
   rw[hn] at h4
   exact h4
  have h5:=condW_of h4 (w_not (w_lt w_lit (w_len_list (w_arg rfl))))
  rw[List.length_map] at h5
  refine Nat.le_of_not_lt fun q=>?_
  have q':(n:Int) < ((ns.length:Nat):Int):=by omega
  first
   | (rw[decide_eq_true q'] at h5;exact absurd h5 (by decide))
   | (simp at h5;omega)
 cases hwl with
 | cons w1 w2 =>
  cases w2
  cases w1 with
  | list ho hall=>exact ⟨_,_,ns,rfl,rfl,ho,jN ns _ hall,hlen⟩
theorem tR (l:OpenLaw) (args:List WData):l.row.toRowW.claim.post args (.bool true) args=true :=
 postW_of (r:=l.row.toRowW) (X:=(true==true))
  (show WShape.has [] (.bool true) .bool=true by first | rfl | decide | simp[WShape.has,WShape.arms,WShape.armsAll])
  (show (WTm.eq .res (.lit (.bool true))).value [] { args:=args,res:=some (.bool true),after:=args }=some (.bool (true==true)) from w_eq_bool (w_res rfl) w_lit) rfl
theorem jF {l:OpenLaw}{n:Nat}{q:Program}{loose:List Str}{XP:(Str->Option Value)->Heap->Prop}{YP:World->Heap->Prop}{d:DefRec}
 (hn:l.most=some n) (hdf:d.params.defaults=[])
 (call:∀ (w:World) (s₀ s₁:Shared) (mg mb:Str->Option Value) (fa:Addr) (o:Obj) (pm cd doc:Value) (a:Addr) (vs:List Value) (ns:List Int),
  Ground q loose [] XP w s₀ mg mb s₁.heap->YP w s₁.heap →
  s₁.heap.get? fa=some o->o.data=.func (docDef d.name d.params d.body d.scope pm cd doc)->s₁.heap.CodeRec cd d.name->mg d.name=some (.ref fa) →
  s₁.heap.get? a=some { cls:=.type "list",data:=.seq vs.toArray }->IntsAre vs ns->ns.length<=n->s₁.gens=#[] →
  codeAny (model l.prog w) callerA (.call (.ref fa) ⟨[.ref a],[]⟩) (fun r s'=>r=.ok (.ret (.bool true))/\OldK s₁.heap s'.heap/\s'.os=s₁.os/\AllBare s'.gens) s₁) :
 WalkO q loose XP YP l.row.toRowW d [] (fun f vs=>PySem.call f vs):=by
 intro w s₀ s₁ mg mb G Y fa o pm cd doc dV kV ho hd hcd hD hmg hg args vals as hpre hlay hrd hwl hlo
 obtain rfl:dV=.none:=Dflts.none hD hdf
 obtain rfl:kV=.none:=Dflts.noKw hD
 obtain ⟨a,vs,ns,rfl,rfl,hobj,hints,hlen⟩:=tQ hn hpre hwl
 refine enter_call (codeAny_mono (call w s₀ s₁ mg mb fa o pm cd doc a vs ns G Y ho (fd_plain hd) hcd hmg hobj hints hlen hg) fun r s' hq=>?_)
 obtain ⟨rfl,h2,h3,h4⟩:=hq
 exact ⟨.inl ⟨.bool true,.bool true,[],rfl,fun _=>rfl,.bool true,tR l _,fun _=>⟨List.Pairwise.nil,fun _ hm=>(nomatch hm)⟩⟩,h2,h3,h4⟩
section
variable {prog:Program}{w:World}{A:Around}{E:Value->Shared->Prop}{s:Shared}{K:Frag}
noncomputable def ledger (h:Heap) (L d:Addr):List (Addr×Obj):=(List.range h.objs.size).filterMap fun a=>if a=L\/a=d then none else (h.get? a).map fun o=>(a,o)
end
end Att
namespace L2
open PySem PySem.Spec PyProof.Rows
theorem jn:∀ {vs:List Value}{ns:List Int},IntsAre vs ns->aq (ns.map V.int) vs
 | _,_,.nil=>.nil
 | _,_,.cons n t h=>.cons ⟨t,rfl⟩ (jn h)
noncomputable def zb (H:Hp):Prop:=∀ b,H b=none\/∃ o xs,H b=some (.frz o (.lst xs))
theorem vC {P:Program}{w:World}{K:PySem.W.Frag}{mg mb:Str->Option Value}{CX:CXT}{k:Nat}{fa a:Addr}{fd:FuncData}{x:Str}{sp:Sp}{s₁:Shared}{vs:List Value}{ns:List Int}
 (KX:K.In s₁.heap) (hns:s₁.heap.Ns mainGlobals mg) (hb:s₁.heap.Ns builtinsNs mb) (hbb:∀ x:Str,x≠"__name__"->mb x=bootBuiltins x) (hlim:s₁.heap.NoLimit) (hg:s₁.gens=#[])
 (ha:s₁.heap.get? a=some { cls:=.type "list",data:=.seq vs.toArray }) (hi:IntsAre vs ns) (hl:ns.length<=sizeLine) (hr:bJ k callerA)
 (F:∀ base:Heap,K.In base->base.Ns mainGlobals mg->dg P w K mg base CX k fa fd [x] sp) (hbind:∀ (s:Shared) (u:Value),BindsTo s fd ⟨[u],[]⟩ [(x,u)])
 (hsp:∀ H:Hp,zb H->SqL K H a (ns.map V.int)->sp [.ref a] H (fun v _=>v=.bl true) fun _ _ _=>False)
 (hCX:∀ H e s',CX [] H s₁ (fun _ _ _=>False) e s'->False) :
 codeAny (model P w) callerA (.call (.ref fa) ⟨[.ref a],[]⟩) (fun r s'=>r=.ok (.ret (.bool true))/\OldK s₁.heap s'.heap/\s'.os=s₁.os/\AllBare s'.gens) s₁:=by
 have rv:=jn hi
 have lenV:=hi.length
 have core:∀ H:Hp,zb H->SqL K H a (ns.map V.int)->HOk P w H s₁.heap->(∀ b,H b≠none->b=a)->(H a≠none->K.lookup a=none) →
  codeAny (model P w) callerA (.call (.ref fa) ⟨[.ref a],[]⟩) (fun r s'=>r=.ok (.ret (.bool true))/\OldK s₁.heap s'.heap/\s'.os=s₁.os/\AllBare s'.gens) s₁:=by
  intro H hO hS hok hA hK
  have base_of:∀ {b:Addr}{o:Obj},s₁.heap.get? b=some o->H b=none->(jj s₁.heap H).get? b=some o:=fun e n=>j9 e n
  have noA:∀ {b:Addr}{o:Obj}{es:Array DictEntry}{ep:Nat},s₁.heap.get? b=some o->o.data=.dict es ep->H b=none:=fun {b o es ep} e d=>by
   cases q:H b with
   | none=>rfl
   | some u =>
    have e':b=a:=hA b (by rw[q];simp)
    subst e'
    rw[ha] at e;cases e
    have d':Data.seq vs.toArray _=Data.dict es ep:=d
    cases d'
  have nsK:∀ {b:Addr}{m:Str->Option Value},s₁.heap.Ns b m->(jj s₁.heap H).Ns b m:=fun {b m} ⟨o,es,ep,e,d,r⟩=>⟨o,es,ep,base_of e (noA e d),d,r⟩
  have hKb:K.In (jj s₁.heap H):=fun b o e=>base_of (KX b o e) (by
   cases q:H b with
   | none=>rfl
   | some u =>
    have e':b=a:=hA b (by rw[q];simp)
    subst e'
    rw[hK (by rw[q];simp)] at e;cases e)
  have hM:Mod K mg (jj s₁.heap H):=⟨hKb,nsK hns,⟨mb,nsK hb,hbb⟩,let ⟨mc,h1,h2⟩:=hlim;⟨mc,nsK h1,h2⟩⟩
  have e0:iN P w K mg (jj s₁.heap H) callerA [] s₁ H:=⟨rfl,hM,fun b o e=>qV e,Nat.le_of_eq (lT _ _),trivial,fun b hb=>absurd (show b∈([]:List Addr) from hb) (by simp),hok,.of_eq hg⟩
  refine codeAny_mono ((F _ hKb (nsK hns)).run callerA [] s₁ H ⟨[.ref a],[]⟩ [.ref a] [.ref a] _ _ hr e0 (hbind s₁ (.ref a)) (.cons rfl .nil) (hsp H hO hS)) fun r s' h=>?_
  cases r with
  | error e=>exact (hCX H e s' h).elim
  | ok fl =>
   cases fl with
   | next=>exact False.elim h
   | brk=>exact False.elim h
   | cont=>exact False.elim h
   | ret u =>
    obtain ⟨v,H',os,bare,un,hok',r',q⟩:=h
    have q':v=.bl true:=q
    subst q'
    obtain rfl:u=Value.bool true:=r'
    refine ⟨rfl,OldK.of_keep fun b o e=>?_,os,bare⟩
    cases q:H b with
    | none=>exact un.keep b o e q (by intro z;exact absurd (show b∈([]:List Addr) from z) (by simp)) (by simp)
    | some u =>
     rcases hO b with z | ⟨ob,xs,z⟩
     ·rw[q] at z;cases z
     ·have z2:=un.frzs b ob _ z
      obtain ⟨e1,_⟩:=hok b _ z
      obtain ⟨e2,_⟩:=hok' b _ z2
      rw[e] at e1;cases e1
      exact e2
 cases hk:K.lookup a with
 | some o =>
  have e:=KX a o hk
  rw[ha] at e
  cases e
  refine core (fun _=>none) (fun _=>.inl rfl) (.inr ⟨_,vs.toArray,_,hk,rfl,rfl,rfl,by rw[List.size_toArray,lenV];exact hl,by simpa using rv⟩) (fun b u z=>by have z':(none:Option HO)=some u:=z;cases z') (fun b z=>absurd rfl z) fun z=>absurd rfl z
 | none =>
  refine core (fun b=>if b=a then some (.frz { cls:=.type "list",data:=.seq vs.toArray } (.lst (ns.map V.int))) else none) (fun b=>?_) (.inl (.inr ⟨{ cls:=.type "list",data:=.seq vs.toArray },if_pos rfl⟩)) (fun b u z=>?_) (fun b z=>?_) fun _=>hk
  ·by_cases hb:b=a
   ·exact .inr ⟨_,_,if_pos hb⟩
   ·exact .inl (if_neg hb)
  ·by_cases hb:b=a
   ·have z':=(if_pos hb).symm.trans z
    cases z'
    subst hb
    exact ⟨ha,by rw[List.length_map];exact hl,vs,_,rv,ha⟩
   ·have z':=(if_neg hb).symm.trans z
    cases z'
  ·by_cases hb:b=a
   ·exact hb
   ·exact absurd (if_neg hb) z
end L2
namespace L2
open PySem PySem.Spec PyProof.Rows
noncomputable abbrev KOf {K:PySem.W.Frag}{h:Heap} (_:K.In h):PySem.W.Frag:=K
theorem rf {l:PySem.W.OpenLaw}{n k:Nat}{q:Program}{loose:List Str}{XP:(Str->Option Value)->Heap->Prop}{YP:World->Heap->Prop}{d:DefRec}{K:Params->PySem.W.Frag}{CX:World->CXT}{sp:World->Sp}{x:Str}
 (hn:l.most=some n) (hn2:n<=sizeLine) (hdf:d.params.defaults=[]) (hr:bJ k callerA)
 (hY:∀ (w:World) (h:Heap),YP w h->(K w.params).In h)
 (F:∀ (w:World) (mg:Str->Option Value) (fa:Addr) (h:Heap),(K w.params).In h->h.Ns mainGlobals mg->mg d.name=some (.ref fa) →
  ∃ fd:FuncData,(∀ (s:Shared) (u:Value),BindsTo s fd ⟨[u],[]⟩ [(x,u)]) ∧
   ∀ base:Heap,(K w.params).In base->base.Ns mainGlobals mg->dg l.prog w (K w.params) mg base (CX w) k fa fd [x] (sp w))
 (hsp:∀ (w:World) (H:Hp) (a:Addr) (ns:List Int),ns.length<=n->zb H->SqL (K w.params) H a (ns.map V.int)->sp w [.ref a] H (fun v _=>v=.bl true) fun _ _ _=>False)
 (hCX:∀ (w:World) (H:Hp) (s:Shared) (e:Value) (s':Shared),CX w [] H s (fun _ _ _=>False) e s'->False) :
 PySem.W.WalkO q loose XP YP l.row.toRowW d [] (fun f vs=>PySem.call f vs):=by
 refine Att.jF hn hdf fun w s₀ s₁ mg mb fa o pm cd doc a vs ns G Y ho hd hcd hmg hobj hints hlen hg=>?_
 have KX:=hY w _ Y
 obtain ⟨fd,hb,hF⟩:=F w mg fa _ KX G.T.g hmg
 exact vC KX G.T.g G.T.b G.T.builtins G.T.nolimit hg hobj hints (Nat.le_trans hlen hn2) hr hF hb (fun H hO hS=>hsp w H a ns hlen hO hS) fun H e s'=>hCX w H s₁ e s'
theorem oE {l:PySem.W.OpenLaw}{n k:Nat}{q:Program}{loose:List Str}{XP:(Str->Option Value)->Heap->Prop}{YP:World->Heap->Prop}{d:DefRec}{K:Params->PySem.W.Frag}{CX:CXT}{sp:PySem.W.Frag->Sp}{x:Str}
 (hn:l.most=some n) (hn2:n<=sizeLine) (hdf:d.params.defaults=[]) (hr:bJ k callerA)
 (hY:∀ (w:World) (h:Heap),YP w h->(K w.params).In h)
 (F:∀ (w:World) (mg:Str->Option Value) (fa:Addr) (h:Heap),(K w.params).In h->h.Ns mainGlobals mg->mg d.name=some (.ref fa) →
  ∃ fd:FuncData,(∀ (s:Shared) (u:Value),BindsTo s fd ⟨[u],[]⟩ [(x,u)]) ∧
   ∀ base:Heap,(K w.params).In base->base.Ns mainGlobals mg->dg l.prog w (K w.params) mg base CX k fa fd [x] (sp (K w.params)))
 (hsp:∀ (K:PySem.W.Frag) (H:Hp) (a:Addr) (ns:List Int),ns.length<=n->zb H->SqL K H a (ns.map V.int)->sp K [.ref a] H (fun v _=>v=.bl true) fun _ _ _=>False)
 (hCX:∀ (H:Hp) (s:Shared) (e:Value) (s':Shared),CX [] H s (fun _ _ _=>False) e s'->False) :
 PySem.W.WalkO q loose XP YP l.row.toRowW d [] (fun f vs=>PySem.call f vs) :=
 rf (K:=K) (CX:=fun _=>CX) (sp:=fun w=>sp (K w.params)) hn hn2 hdf hr hY F (fun w H a ns h1 h2 h3=>hsp (K w.params) H a ns h1 h2 h3) fun _ H s e s'=>hCX H s e s'
end L2
/- THE LAST THEOREM (shape;LID,My.* are yours):
 My.Adr: a structure of the addresses that your layer names (classes,functions);My.Txt K t: a structure (Prop) of the equations over K;
 My.txt_mk:{K}{implicit addresses ..} (e1:nsIn K mainGlobals "law"=some (some (.ref f))) (e2:K.lookup f=some ⟨oc,od,.func (fnOf "law" "law" params body scope dV kV doc pm an cdv ct),sl⟩) (e3:codeIn K cdv "law"=true) ..:∃ t,My.Txt K t
set_option maxRecDepth 100000 in
set_option maxHeartbeats 0 in
theorem PySem.Challenge.zc:PySem.Challenge.rw_LID.Holds:=by
 w_on;o_law;k_head;(case hw=>w_witness2)
 k_fill
 refine L2.rf (l:=PySem.Challenge.rw_LID) (n:=63) (k:=40) (x:="script") (CX:=fun w=>..) (sp:=fun _=>My.yj) rfl (by decide) rfl ⟨rfl,by decide,by decide⟩ (fun w h Y=>PySem.W.kIn_of Y) ?F ?S ?C
 case F =>
  intro w mg fa h KX G hmg
  have T:∃ t,My.Txt (L2.KOf KX) t:=by
   dsimp only[L2.KOf]                          -- K must stand as «<heap const> w.params» for k_is
   refine' My.txt_mk ?e1 ?e2 ?e3 ..
   (case e1=>PySem.W.k_is)                    -- in the order: a name->its address->its object->its parts
   (case e2=>PySem.W.k_is)
   ..
  obtain ⟨t,T⟩:=T
  have e0:=hmg.symm.trans (PySem.W.mg_of KX G T.law)
  cases e0                                       -- fa is the law's own address
  exact ⟨_,fun s u=>.of_eq rfl,fun base kb nb=>My.law_fn T kb nb⟩     -- if «.of_eq rfl» comes too early: refine' ⟨_,?b,fun base kb nb=>My.law_fn T kb nb⟩;exact fun s u=>.of_eq rfl
 case S=>exact fun w H a ns hl hO hS=>..
 case C=>exact ..
(the tactic k_is has no namespace: write k_is) -/
namespace L2
open PySem PySem.Spec PyProof.Rows
noncomputable abbrev CX0:CXT:=fun _ _ _ _ _ _=>False
noncomputable abbrev E0:XK:=fun _ _ _=>False
theorem kC {X:Cx}:fM CX0 X E0:=fun _ _ _ _ _ _ _ h=>h.elim
structure Fun (K:PySem.W.Frag) (x qual:Str) (st:Stmt) (f:Addr) (fd:FuncData):Prop where
 ex:∃ (oc:Value) (od:Option Addr) (kV doc pm:Value) (an:Option Addr) (cdv ct:Value) (osl:Array (Option Value)),
  fd=PySem.W.fnOf x qual (c9 st) (ah st) (aa st) .none kV doc pm an cdv ct/\K.lookup f=some ⟨oc,od,.func fd,osl⟩/\PySem.W.codeIn K cdv qual=true
 kp:PySem.W.keepIn K (.ref f)=true
section
variable {P:Program}{w:World}{K:PySem.W.Frag}{mg:Str->Option Value}{base:Heap}
theorem Fun.ok {x qual:Str}{st:Stmt}{f:Addr}{fd:FuncData}{N ps:List Str}{k:Nat}{sp:Sp} (F:Fun K x qual st f fd) (S:aj N ps (aa st)) (len:∀ vs H Q E,sp vs H Q E->vs.length=ps.length)
 (hbody:∀ (cdv:Value) (A:Around) (outer:List Env) (s:Shared) (H:Hp) (vs:List V) (Q:VK) (E:XK),bJ k (A.deeper (envOfC qual (aa st) s.heap.objs.size f cdv))->sp vs H Q E →
  ∃ t,PSs (oz CX0 P w K mg base N qual (aa st) f cdv A outer s H E).nox (ah st) t/\t { nx:=fun _ H'=>Q .non H',rt:=Q } (start N vs) H):dg P w K mg base CX0 (k+1) f fd ps sp:=by
 obtain ⟨oc,od,kV,doc,pm,an,cdv,ct,osl,rfl,lk,hcd⟩:=F.ex
 refine BK lk hcd S len fun A outer s H vs Q E hr hsp=>?_
 obtain ⟨t,h,q⟩:=hbody cdv A outer s H vs Q E hr hsp
 exact ⟨t,h.nox,q⟩
theorem Fun.binds {x qual:Str}{st:Stmt}{f:Addr}{fd:FuncData}{ps:List Str} (F:Fun K x qual st f fd)
 (h:∀ (kV doc pm:Value) (an:Option Addr) (cdv ct:Value) (us:List Value),us.length=ps.length->bindArgs (PySem.W.fnOf x qual (c9 st) (ah st) (aa st) .none kV doc pm an cdv ct) ⟨us,[]⟩=pure (ps.zip us)):Binds K fd ps []:=by
 obtain ⟨oc,od,kV,doc,pm,an,cdv,ct,osl,rfl,lk,hcd⟩:=F.ex
 exact .all (h kV doc pm an cdv ct)
theorem CZ {x qual:Str}{st:Stmt}{f:Addr}{oc:Value}{od an:Option Addr}{osl:Array (Option Value)}{kV doc pm cdv ct:Value} (l:K.lookup f=some ⟨oc,od,.func (PySem.W.fnOf x qual (c9 st) (ah st) (aa st) .none kV doc pm an cdv ct),osl⟩)
 (c:PySem.W.codeIn K cdv qual=true) (k:PySem.W.keepIn K (.ref f)=true):Fun K x qual st f (PySem.W.fnOf x qual (c9 st) (ah st) (aa st) .none kV doc pm an cdv ct):=⟨⟨oc,od,kV,doc,pm,an,cdv,ct,osl,rfl,l,c⟩,k⟩
end
theorem tS {n:Nat} (h:n<=1000):n < sizeLine:=Nat.lt_of_le_of_lt h (by decide)
section
variable {X:Cx}
end
noncomputable def lF (H H':Hp):Prop:=∀ b o,H b=some o->H' b=some o
theorem lF.refl (H:Hp):lF H H:=fun _ _ h=>h
theorem lF.trans {H H1 H2:Hp} (a:lF H H1) (b:lF H1 H2):lF H H2:=fun c o h=>b c o (a c o h)
theorem lF.free {H H':Hp} (e:lF H H') {l:Addr} (h:H' l=Option.none):H l=Option.none:=by
 cases q:H l with
 | none=>rfl
 | some o =>
  rw[e l o q] at h
  cases h
theorem lF.seq {K:PySem.W.Frag}{H H':Hp}{a:Addr}{xs:List V} (e:lF H H') (h:SqL K H a xs):SqL K H' a xs:=by
 rcases h with (h | ⟨o,h⟩) | h
 ·exact .inl (.inl (e _ _ h))
 ·exact .inl (.inr ⟨o,e _ _ h⟩)
 ·exact .inr h
end L2
end
section
namespace L2
open PySem PySem.Spec PyProof.Rows
section
variable {κ:Type} [DecidableEq κ]
noncomputable def mY (kvs:List (κ×V)) (k:κ):Option V:=(kvs.find? fun kv=>decide (kv.1=k)).map (·.2)
noncomputable def putK (kvs:List (κ×V)) (k:κ) (v:V):List (κ×V) :=
 if (kvs.any fun kv=>decide (kv.1=k))=true then kvs.map (fun kv=>if kv.1=k then (kv.1,v) else kv) else kvs++[(k,v)]
theorem oF {p:κ×V}{r:List (κ×V)}{k:κ} (e:p.1=k):mY (p :: r) k=some p.2:=by simp[mY,List.find?_cons,e]
theorem oG {p:κ×V}{r:List (κ×V)}{k:κ} (e:¬ p.1=k):mY (p :: r) k=mY r k:=by simp[mY,List.find?_cons,e]
theorem oH (kvs:List (κ×V)) (k:κ) (v:V):(putK kvs k v).length<=kvs.length+1:=by
 unfold putK
 split
 ·rw[List.length_map];omega
 ·rw[List.length_append,List.length_cons,List.length_nil];omega
theorem ji.getD {o:Option V}{u:Option Value}{d:V}{d':Value} (r:ji o u) (rd:RelV d d'):RelV (o.getD d) (u.getD d'):=by
 cases o with
 | none=>cases u with
  | none=>exact rd
  | some _=>exact (show False from r).elim
 | some _=>cases u with
  | none=>exact (show False from r).elim
  | some _=>exact r
theorem KV.val {kvs:List (κ×V)}{vs:List (κ×Value)} (r:KV kvs vs) (k:κ):ji (mY kvs k) (valueAt vs k):=by
 unfold KV at r
 induction r with
 | nil=>exact True.intro
 | @cons p q ps qs h t ih =>
  obtain ⟨h1,h2⟩:=h
  by_cases e:p.1=k
  ·have e':q.1=k:=h1.symm.trans e
   have b:valueAt (q :: qs) k=some q.2:=by simp[valueAt,List.find?_cons,e']
   rw[oF e,b];exact h2
  ·have e':¬ q.1=k:=fun z=>e (h1.trans z)
   have b:valueAt (q :: qs) k=valueAt qs k:=by simp[valueAt,List.find?_cons,e']
   rw[oG e,b];exact ih
theorem KV.any {kvs:List (κ×V)}{vs:List (κ×Value)} (r:KV kvs vs) (k:κ):(kvs.any fun kv=>decide (kv.1=k))=vs.any fun kv=>decide (kv.1=k):=by
 unfold KV at r
 induction r with
 | nil=>rfl
 | cons h t ih=>rw[List.any_cons,List.any_cons,ih,h.1]
theorem KV.repl {kvs:List (κ×V)}{vs:List (κ×Value)} (r:KV kvs vs) (k:κ) {y:V}{u:Value} (ry:RelV y u) :
 KV (kvs.map fun kv=>if kv.1=k then (kv.1,y) else kv) (vs.map fun kv=>if kv.1=k then (kv.1,u) else kv):=by
 unfold KV at r ⊢
 induction r with
 | nil=>exact .nil
 | @cons p q ps qs h t ih =>
  rw[List.map_cons,List.map_cons]
  refine .cons ?_ ih
  obtain ⟨h1,h2⟩:=h
  by_cases e:p.1=k
  ·rw[if_pos e,if_pos (h1.symm.trans e)];exact ⟨h1,ry⟩
  ·rw[if_neg e,if_neg (fun z=>e (h1.trans z))];exact ⟨h1,h2⟩
theorem KV.put {kvs:List (κ×V)}{vs:List (κ×Value)} (r:KV kvs vs) (k:κ) {y:V}{u:Value} (ry:RelV y u):KV (putK kvs k y) (stored vs k u):=by
 unfold putK stored
 rw[r.any k]
 by_cases e:(vs.any fun kv=>decide (kv.1=k))=true
 ·rw[if_pos e,if_pos e];exact r.repl k ry
 ·rw[if_neg e,if_neg e];exact Paired.snoc r ⟨rfl,ry⟩
theorem KV.length {kvs:List (κ×V)}{vs:List (κ×Value)} (r:KV kvs vs):kvs.length=vs.length:=Paired.length r
end
theorem BO {P:Program}{w:World}{k:Key}{u:Value} (r:RelV (kV k) u):(aU P w).is k u=true:=by
 cases k with
 | inl i=>obtain ⟨t,e⟩:=(show ∃ t,u=Value.int i t from r);subst e;exact n6 P w i t
 | inr x=>obtain ⟨t,e⟩:=(show ∃ t,u=Value.str x t from r);subst e;exact eN P w x t
section
variable {P:Program}{w:World}{H:Hp}{h:Heap}{a:Addr}
theorem F4 {u:HO} (ok:HOk P w H h) (e:Rd H a u):cX P w H h a u:=e.ok ok
theorem F6 {kvs:List (Key×V)} (ok:HOk P w H h) (e:Rd H a (.dK kvs)):kvs.length<=sizeLine/\(a==sysModules)=false/\∃ vs,KV kvs vs/\h.DictOf (aU P w) a vs :=
 show cX P w H h a (.dK kvs) from F4 ok e
theorem oJ {kvs:List (Key×V)} (ok:HOk P w H h) (e:H a=some (.dK kvs)):kvs.length<=sizeLine/\(a==sysModules)=false/\∃ vs,KV kvs vs/\h.DictOf (aU P w) a vs:=F6 ok (.inl e)
end
section
variable {X:Cx}{pins:List (Addr×Obj)}{σ:St}{H:Hp}{s:Shared}{a:Addr}{y v:V}{u r:Value}{o:Option V}{A:Around}{E:Value->Shared->Prop}
theorem Inv.big (I:Inv X pins σ H s):sysModules < s.heap.objs.size:=by
 have h:mainGlobals < s.heap.objs.size:=(I.mod.glob.keeps I.bk).lt
 exact Nat.lt_trans (by decide) h
theorem zd {h':Heap}{t':Nat}{ob:HO} (I:Inv X pins σ H s) (mu:Mut (H a)) (hs:Heap.SameBut a s.heap h') (he:∃ q,h'.get? a=some q) (new:cX X.prog X.w (upd H a ob) h' a ob) :
 Inv X pins σ (upd H a ob) { s with heap:=h',toks:=t' } :=
 I.write (x:=a) (e:=a) mu (.inl rfl) (fun b q hb z=>(hs.2 b hb).trans z) he new
theorem C1 {P:Program}{w:World}{H':Hp}{h':Heap}{kvs:List (Key×V)}{vs:List (Key×Value)} (z:kvs.length<=sizeLine) (hd:(a==sysModules)=false) (rel:KV kvs vs) (dd:h'.DictOf (aU P w) a vs) :
 cX P w H' h' a (.dK kvs):=⟨z,hd,vs,rel,dd⟩
end
theorem vD {P:Program}{w:World}{H:Hp} (h:Heap) (hb:sysModules < h.objs.size):cX P w H (h.push { cls:=.type "dict",data:=.dict #[] }) h.objs.size (.dK []) :=
 ⟨Nat.zero_le _,beq_eq_false_iff_ne.mpr (Ne.symm (Nat.ne_of_lt hb)),[],.nil,Heap.DictOf.new h⟩
end L2
end
section
namespace BT
open PySem
inductive D where
 | non | bl (b:Bool) | int (i:Int) | str (x:Str) | tup (xs:List D) | lst (xs:List D)
inductive FK where
 | f (x:Str) | m (c x:Str) | l (i:Nat)
 deriving DecidableEq
instance:Coe String FK:=⟨fun s=>.f (Str.ofString s)⟩
inductive Cp where
 | p (d:D) | o (n:Nat)
inductive W where
 | p (d:D) | r (n:Nat) | k (kvs:List (Str×D)) | o (n:Nat) | c (f:FK) (cs:List Cp)
noncomputable def Cp.w:Cp->W
 | .p d=>.p d
 | .o n=>.o n
@[simp] theorem Cp.w_p (d:D):Cp.w (.p d)=.p d:=rfl
@[simp] theorem Cp.w_o (n:Nat):Cp.w (.o n)=.o n:=rfl
noncomputable def oK:W->Option Cp
 | .p d=>some (.p d)
 | .o n=>some (.o n)
 | .r _=>none
 | .k _=>none
 | .c _ _=>none
@[simp] theorem HE (d:D):oK (.p d)=some (.p d):=rfl
@[simp] theorem HF (n:Nat):oK (.o n)=some (.o n):=rfl
noncomputable abbrev Ky:=Int ⊕ Str
inductive Cl where
 | l (xs:List D) | o (c:Str) (fs:List (Str×W)) | d (kvs:List (Ky×D))
noncomputable abbrev HH:=List Cl
noncomputable abbrev Sl:=List (Option W)
set_option genInjectivity false in
inductive Bin where
 | add | sub | mul | mod | fdiv | pow
set_option genInjectivity false in
inductive Cm where
 | eq | ne | lt | le | gt | ge | isN | notN | mem | nmem
set_option genInjectivity false in
inductive Sr where
 | seq | rng1 | rng2 | rev | enu | zip2
inductive Bi where
 | len | abs | int | str | bool | list | tuple | all | any | isInt | isBool | isStr | isTuple | isList | min2 | max2
 | sum | sorted | max1 | lzip | nset
set_option genInjectivity false in
inductive Me where
 | append | pop | extend | tindex | sindex | dget
set_option genInjectivity false in
mutual
inductive E where
 | var (i:Nat) (x:Str)
 | cst (d:D)
 | glo (x:Str)
 | bin (o:Bin) (a b:E)
 | neg (a:E)
 | not (a:E)
 | and (a b:E)
 | or (a b:E)
 | cmp (o:Cm) (a b:E)
 | chain (o o':Cm) (a b c:E)
 | ite (c a b:E)
 | tup (as:Es)
 | lst (mu:Bool) (as:Es)
 | idx (a i:E)
 | slc (a:E) (lo hi:Es)
 | rvs (a:E)
 | stp (mu:Bool) (k:Int) (a:E)
 | call (f:Str) (as:Es)
 | fld (a:E) (f:Str)
 | meth (o:E) (m:Str) (as:Es)
 | make (c:Str) (as:Es)
 | bi (b:Bi) (mu:Bool) (as:Es)
 | lsr (mu:Bool) (sr:Sr) (as:Es)
 | me (m:Me) (o:E) (as:Es)
 | comp (mu:Bool) (sr:Sr) (sa:Es) (tg:List Str) (fv:List (Nat×Str)) (cond:Es) (elt:E)
 | callv (i:Nat) (x:Str) (as:Es)
 | methL (o:E) (m:Str) (as:Es) (L:Nat) (fv:List (Nat×Str))
 | dnew
 | dgt (o k d:E)
 | dsi (o:E)
 | dli (o:E)
inductive Es where
 | nil
 | cons (a:E) (as:Es)
end
set_option genInjectivity false in
inductive S where
 | nil
 | seq (a b:S)
 | set (i:Nat) (x:Str) (e:E)
 | unp (xs:List (Nat×Str)) (e:E)
 | aug (i:Nat) (x:Str) (o:Bin) (e:E)
 | put (i:Nat) (x:Str) (k e:E)
 | putd (i:Nat) (x:Str) (k e:E)
 | setf (o:E) (f:Str) (e:E)
 | augf (o:E) (f:Str) (op:Bin) (e:E)
 | ex (e:E)
 | ret (e:E)
 | ife (c:E) (a b:S)
 | whl (c:E) (b:S)
 | for (tg:List (Nat×Str)) (sr:Sr) (sa:Es) (b:S)
 | brk | cnt
 | bad
set_option genInjectivity false in
structure Fn where
 ps:List Str
 ns:List Str
 body:S
noncomputable def bnd {α β:Type} (x:Option (α×HH)) (k:α->HH->Option β):Option β :=
 match x with | some (a,h)=>k a h | none=>none
@[simp] theorem bZ {α β:Type} (a:α) (h:HH) (k:α->HH->Option β):bnd (some (a,h)) k=k a h:=rfl
@[simp] theorem F7 {α β:Type} (k:α->HH->Option β):bnd none k=none:=rfl
@[simp] noncomputable def lim:Nat:=100000
mutual
@[simp] noncomputable def eqv:D->D->Bool
 | .non,.non=>true
 | .bl a,.bl b=>a==b
 | .bl a,.int j=>(if a then (1:Int) else 0)==j
 | .int i,.bl b=>i==(if b then (1:Int) else 0)
 | .int i,.int j=>i==j
 | .str x,.str y=>x==y
 | .tup xs,.tup ys=>lG xs ys
 | .lst xs,.lst ys=>lG xs ys
 | _,_=>false
@[simp] noncomputable def lG:List D->List D->Bool
 | [],[]=>true
 | x :: xs,y :: ys=>eqv x y&&lG xs ys
 | _,_=>false
end
noncomputable def mZ:Cl->Option (List D)
 | .l xs=>some xs
 | .o _ _=>none
 | .d _=>none
noncomputable def oM:Cl->Option (Str×List (Str×W))
 | .l _=>none
 | .o c fs=>some (c,fs)
 | .d _=>none
noncomputable def tT:Cl->Option (List (Ky×D))
 | .l _=>none
 | .o _ _=>none
 | .d kvs=>some kvs
@[simp] theorem Jj (kvs:List (Ky×D)):mZ (.d kvs)=none:=rfl
@[simp] theorem Jk (kvs:List (Ky×D)):oM (.d kvs)=none:=rfl
@[simp] theorem Jl (kvs:List (Ky×D)):tT (.d kvs)=some kvs:=rfl
@[simp] theorem Jm (xs:List D):tT (.l xs)=none:=rfl
@[simp] theorem Jo (c:Str) (fs:List (Str×W)):tT (.o c fs)=none:=rfl
@[simp] theorem Jp (xs:List D):mZ (.l xs)=some xs:=rfl
@[simp] theorem Jq (c:Str) (fs:List (Str×W)):mZ (.o c fs)=none:=rfl
@[simp] theorem Jr (xs:List D):oM (.l xs)=none:=rfl
@[simp] theorem C2 (c:Str) (fs:List (Str×W)):oM (.o c fs)=some (c,fs):=rfl
noncomputable def lat (h:HH) (n:Nat):Option (List D):=(h[n]?).bind mZ
noncomputable def oat (h:HH) (n:Nat):Option (Str×List (Str×W)):=(h[n]?).bind oM
noncomputable def dat (h:HH) (n:Nat):Option (List (Ky×D)):=(h[n]?).bind tT
noncomputable def oN:D->Option Ky
 | .non=>none
 | .bl _=>none
 | .int i=>some (.inl i)
 | .str x=>some (.inr x)
 | .tup _=>none
 | .lst _=>none
@[simp] theorem F8 (i:Int):oN (.int i)=some (.inl i):=rfl
@[simp] theorem F9 (x:Str):oN (.str x)=some (.inr x):=rfl
noncomputable def qt:Ky->D
 | .inl i=>.int i
 | .inr x=>.str x
@[simp] theorem Js (i:Int):qt (.inl i)=.int i:=rfl
@[simp] theorem Jt (x:Str):qt (.inr x)=.str x:=rfl
noncomputable def f9 (kvs:List (Ky×D)) (k:Ky):Option D:=(kvs.find? fun kv=>decide (kv.1=k)).map (·.2)
noncomputable def mh (kvs:List (Ky×D)) (k:Ky) (v:D):List (Ky×D) :=
 if (kvs.any fun kv=>decide (kv.1=k))=true then kvs.map (fun kv=>if kv.1=k then (kv.1,v) else kv) else kvs++[(k,v)]
noncomputable def d9 (kvs:List (Ky×D)):List D:=kvs.map fun q=>.tup [qt q.1,q.2]
noncomputable def rd (w:W) (h:HH):Option D:=match w with
 | .p d=>some d
 | .r n=>(lat h n).map D.lst
 | .k _=>none
 | .o _=>none
 | .c _ _=>none
@[simp] theorem MI (d:D) (h:HH):rd (.p d) h=some d:=rfl
noncomputable def big (i:Int):Bool:=decide (i.natAbs < 2 ^ 64)
noncomputable def rep (k:Nat) (xs:List D):List D:=(List.replicate k xs).flatten
noncomputable def jo:Bin->D->D->Option D
 | .add,.int i,.int j=>some (.int (i+j))
 | .add,.str x,.str y=>if x.length+y.length<=lim then some (.str (x++y)) else none
 | .add,.tup xs,.tup ys=>if xs.length+ys.length<=lim then some (.tup (xs++ys)) else none
 | .add,.lst xs,.lst ys=>if xs.length+ys.length<=lim then some (.lst (xs++ys)) else none
 | .sub,.int i,.int j=>some (.int (i - j))
 | .mul,.int i,.int j=>if big i||big j then some (.int (i*j)) else none
 | .mul,.tup xs,.int k=>if 2<=k&&k<=1000&&!xs.isEmpty&&xs.length*k.toNat<=lim then some (.tup (rep k.toNat xs)) else none
 | .mul,.lst xs,.int k=>if -1000<=k&&k<=1000&&xs.length*k.toNat<=lim then some (.lst (rep k.toNat xs)) else none
 | .mod,.int i,.int j=>if 0 < j then some (.int (i % j)) else none
 | .fdiv,.int i,.int j=>if 0 < j&&j < 1073741824 then some (.int (i / j)) else none
 | .pow,.int i,.int j=>if 0<=j&&j<=100&&big i then some (.int (i ^ j.toNat)) else none
 | _,_,_=>none
noncomputable def jO:Bin->D->D->Option D
 | .add,.int i,.int j=>some (.int (i+j))
 | .sub,.int i,.int j=>some (.int (i - j))
 | .mul,.int i,.int j=>if big i||big j then some (.int (i*j)) else none
 | _,_,_=>none
@[simp] theorem Ga (i j:Int):jO .add (.int i) (.int j)=some (.int (i+j)):=rfl
@[simp] theorem Gb (i j:Int):jO .sub (.int i) (.int j)=some (.int (i - j)):=rfl
@[simp] theorem vE (i j:Int):jO .mul (.int i) (.int j)=if big i||big j then some (.int (i*j)) else none:=rfl
@[simp] noncomputable def place (n:Nat) (i:Int):Option Nat :=
 if 0<=i then (if i < n then some i.toNat else none) else if -(n:Int)<=i then some (i+n).toNat else none
@[simp] noncomputable def atP {α:Type} (xs:List α) (i:Int):Option α:=(place xs.length i).bind fun j=>xs[j]?
@[simp] noncomputable def dQ (k:Str):List (Str×D)->Option D
 | []=>none
 | (x,d) :: r=>if k=x then some d else dQ k r
noncomputable def cE:D->D->Option D
 | .tup xs,.int i=>atP xs i
 | .lst xs,.int i=>atP xs i
 | .str x,.int i=>if x.length<=lim then (atP x.cps.toList i).map fun c=>.str ⟨#[c]⟩ else none
 | _,_=>none
@[simp] noncomputable def clip (n d:Nat):Option Int->Nat
 | none=>d
 | some v=>if v < 0 then (v+(n:Int)).toNat else if v<=(n:Int) then v.toNat else n
@[simp] noncomputable def cut (xs:List D) (lo hi:Option Int):List D:=(xs.drop (clip xs.length 0 lo)).take (clip xs.length xs.length hi - clip xs.length 0 lo)
@[simp] noncomputable def m6:List D->Option (Option Int)
 | []=>some none
 | [.int i]=>some (some i)
 | _=>none
noncomputable def oO (x:D) (lo hi:Option Int):Option D:=match x with
 | .tup xs=>some (.tup (cut xs lo hi))
 | .lst xs=>some (.lst (cut xs lo hi))
 | _=>none
noncomputable def dok:Nat->D->Bool
 | _,.non=>true
 | _,.bl _=>true
 | _,.int _=>true
 | _,.str _=>true
 | 0,.tup _=>false
 | 0,.lst _=>false
 | n+1,.tup xs=>xs.all (dok n)
 | n+1,.lst xs=>xs.all (dok n)
@[simp] theorem HG (n:Nat):dok n .non=true:=by cases n<;>rfl
@[simp] theorem Ju (n:Nat) (b:Bool):dok n (.bl b)=true:=by cases n<;>rfl
@[simp] theorem HJ (n:Nat) (i:Int):dok n (.int i)=true:=by cases n<;>rfl
@[simp] theorem HK (n:Nat) (x:Str):dok n (.str x)=true:=by cases n<;>rfl
@[simp] theorem rj (n:Nat) (xs:List D):dok (n+1) (.tup xs)=xs.all (dok n):=rfl
@[simp] theorem rm (n:Nat) (xs:List D):dok (n+1) (.lst xs)=xs.all (dok n):=rfl
noncomputable def bO (x y:D):Bool:=dok 100 x||dok 100 y
@[simp] theorem Gc (x:D) (y:Str):bO x (.str y)=true:=by simp[bO]
@[simp] theorem Gd (x:D) (y:Int):bO x (.int y)=true:=by simp[bO]
@[simp] theorem ET (x:D) (y:Str):bO (.str y) x=true:=by simp[bO]
@[simp] theorem EU (x:D) (y:Int):bO (.int y) x=true:=by simp[bO]
@[simp] theorem EV (x:D):bO x (.tup [])=true:=by simp[bO,dok]
@[simp] theorem EW (x:D):bO x (.lst [])=true:=by simp[bO,dok]
@[simp] theorem HL (x:D) (b:Bool):bO x (.bl b)=true:=by simp[bO]
theorem iC {x y:D} (h:dok 100 y=true):bO x y=true:=by simp[bO,h]
noncomputable def gf:D->Bool
 | .non=>true
 | .bl _=>false
 | .int _=>false
 | .str _=>false
 | .tup _=>false
 | .lst _=>false
@[simp] theorem EX:gf .non=true:=rfl
@[simp] theorem Ge (z:Bool):gf (.bl z)=false:=rfl
@[simp] theorem EY (z:Int):gf (.int z)=false:=rfl
@[simp] theorem EZ (z:Str):gf (.str z)=false:=rfl
@[simp] theorem E1 (z:List D):gf (.tup z)=false:=rfl
@[simp] theorem E2 (z:List D):gf (.lst z)=false:=rfl
noncomputable def fk:Cm->D->D->Option Bool
 | .eq,x,y=>if bO x y then some (eqv x y) else none
 | .ne,x,y=>if bO x y then some (!eqv x y) else none
 | .lt,.int i,.int j=>some (decide (i < j))
 | .le,.int i,.int j=>some (decide (i<=j))
 | .gt,.int i,.int j=>some (decide (j < i))
 | .ge,.int i,.int j=>some (decide (j<=i))
 | .isN,x,.non=>some (gf x)
 | .notN,x,.non=>some (!gf x)
 | .mem,x,.tup ys=>if ys.all fun y=>bO y x then some (ys.any fun y=>eqv y x) else none
 | .mem,x,.lst ys=>if ys.all fun y=>bO y x then some (ys.any fun y=>eqv y x) else none
 | .nmem,x,.tup ys=>if ys.all fun y=>bO y x then some (!ys.any fun y=>eqv y x) else none
 | .nmem,x,.lst ys=>if ys.all fun y=>bO y x then some (!ys.any fun y=>eqv y x) else none
 | _,_,_=>none
@[simp] noncomputable def intsOf:List D->Option (List Int)
 | []=>some []
 | .int i :: r=>(intsOf r).map (i :: ·)
 | _=>none
@[simp] noncomputable def allB:List D->Option Bool
 | []=>some true
 | .bl b :: r=>if b then allB r else some false
 | _=>none
@[simp] noncomputable def anyB:List D->Option Bool
 | []=>some false
 | .bl b :: r=>if b then some true else anyB r
 | _=>none
noncomputable def isI:D->Bool
 | .non=>false
 | .bl _=>true
 | .int _=>true
 | .str _=>false
 | .tup _=>false
 | .lst _=>false
@[simp] theorem HM:isI .non=false:=rfl
@[simp] theorem Jv (z:Bool):isI (.bl z)=true:=rfl
@[simp] theorem HN (z:Int):isI (.int z)=true:=rfl
@[simp] theorem HP (z:Str):isI (.str z)=false:=rfl
@[simp] theorem HQ (z:List D):isI (.tup z)=false:=rfl
@[simp] theorem HR (z:List D):isI (.lst z)=false:=rfl
noncomputable def isB:D->Bool
 | .non=>false
 | .bl _=>true
 | .int _=>false
 | .str _=>false
 | .tup _=>false
 | .lst _=>false
@[simp] theorem HS:isB .non=false:=rfl
@[simp] theorem Jw (z:Bool):isB (.bl z)=true:=rfl
@[simp] theorem HU (z:Int):isB (.int z)=false:=rfl
@[simp] theorem HV (z:Str):isB (.str z)=false:=rfl
@[simp] theorem HW (z:List D):isB (.tup z)=false:=rfl
@[simp] theorem HX (z:List D):isB (.lst z)=false:=rfl
noncomputable def isS:D->Bool
 | .non=>false
 | .bl _=>false
 | .int _=>false
 | .str _=>true
 | .tup _=>false
 | .lst _=>false
@[simp] theorem HY:isS .non=false:=rfl
@[simp] theorem Jx (z:Bool):isS (.bl z)=false:=rfl
@[simp] theorem HZ (z:Int):isS (.int z)=false:=rfl
@[simp] theorem Ia (z:Str):isS (.str z)=true:=rfl
@[simp] theorem Ib (z:List D):isS (.tup z)=false:=rfl
@[simp] theorem Ic (z:List D):isS (.lst z)=false:=rfl
noncomputable def isT:D->Bool
 | .non=>false
 | .bl _=>false
 | .int _=>false
 | .str _=>false
 | .tup _=>true
 | .lst _=>false
@[simp] theorem Ie:isT .non=false:=rfl
@[simp] theorem Jy (z:Bool):isT (.bl z)=false:=rfl
@[simp] theorem Ig (z:Int):isT (.int z)=false:=rfl
@[simp] theorem Ih (z:Str):isT (.str z)=false:=rfl
@[simp] theorem Ii (z:List D):isT (.tup z)=true:=rfl
@[simp] theorem Ij (z:List D):isT (.lst z)=false:=rfl
noncomputable def isL:D->Bool
 | .non=>false
 | .bl _=>false
 | .int _=>false
 | .str _=>false
 | .tup _=>false
 | .lst _=>true
@[simp] theorem Ik:isL .non=false:=rfl
@[simp] theorem Jz (z:Bool):isL (.bl z)=false:=rfl
@[simp] theorem Il (z:Int):isL (.int z)=false:=rfl
@[simp] theorem Im (z:Str):isL (.str z)=false:=rfl
@[simp] theorem Io (z:List D):isL (.tup z)=false:=rfl
@[simp] theorem Ip (z:List D):isL (.lst z)=true:=rfl
noncomputable def sortI (ns:List Int):List Int:=ns.mergeSort fun a b=>decide (a<=b)
noncomputable def JA:List Int->Option Int
 | []=>none
 | n :: ns=>some (ns.foldl max n)
@[simp] noncomputable def ze:List D->List D->List D
 | x :: xs,y :: ys=>.tup [x,y] :: ze xs ys
 | _,_=>[]
noncomputable def ded (ns:List Int):List Int:=ns.foldl (fun σ v=>if σ.any (·==v) then σ else σ++[v]) []
noncomputable def biD:Bi->List D->Option D
 | .len,[.tup xs]=>some (.int xs.length)
 | .len,[.lst xs]=>some (.int xs.length)
 | .len,[.str x]=>if x.length<=lim then some (.int x.length) else none
 | .abs,[.int i]=>some (.int (if i < 0 then -i else i))
 | .int,[.int i]=>some (.int i)
 | .int,[.bl b]=>some (.int (if b then 1 else 0))
 | .str,[.int i]=>if big i then some (.str (toString i)) else none
 | .tuple,[.lst xs]=>some (.tup xs)
 | .tuple,[.tup xs]=>some (.tup xs)
 | .list,[.lst xs]=>some (.lst xs)
 | .list,[.tup xs]=>some (.lst xs)
 | .all,[.lst xs]=>(allB xs).map .bl
 | .any,[.lst xs]=>(anyB xs).map .bl
 | .isInt,[x]=>some (.bl (isI x))
 | .isBool,[x]=>some (.bl (isB x))
 | .isStr,[x]=>some (.bl (isS x))
 | .isTuple,[x]=>some (.bl (isT x))
 | .isList,[x]=>some (.bl (isL x))
 | .min2,[.int i,.int j]=>some (.int (if j < i then j else i))
 | .max2,[.int i,.int j]=>some (.int (if j > i then j else i))
 | .sorted,[.lst xs]=>(intsOf xs).bind fun ns=>if ns.length < 64 then some (.lst ((sortI ns).map .int)) else none
 | .max1,[.lst xs]=>(intsOf xs).bind fun ns=>(JA ns).map .int
 | .nset,[.lst xs]=>(intsOf xs).bind fun ns=>if ns.length < 1000 then some (.int ((ded ns).length:Nat)) else none
 | .lzip,[.tup xs,.tup ys]=>if 0 < xs.length/\xs.length=ys.length then some (.lst (ze xs ys)) else none
 | _,_=>none
@[simp] noncomputable def jq:Nat->List D->List D
 | _,[]=>[]
 | k,x :: r=>.tup [.int k,x] :: jq (k+1) r
noncomputable def m7:D->Option (List D)
 | .tup xs=>some xs
 | .lst xs=>some xs
 | _=>none
noncomputable def upto (lo:Int) (n:Nat):List D:=(List.range n).map fun (k:Nat)=>D.int (lo+(k:Int))
noncomputable def fq:Sr->List D->Option (List D)
 | .seq,[x]=>m7 x
 | .rng1,[.int n]=>if -100000<=n&&n<=100000 then some (upto 0 n.toNat) else none
 | .rng2,[.int a,.int b]=>if -100000<=a&&a<=100000&&-100000<=b&&b<=100000 then some (upto a (b - a).toNat) else none
 | .rev,[.lst xs]=>some xs.reverse
 | .enu,[.lst xs]=>some (jq 0 xs)
 | .zip2,[.lst xs,.lst ys]=>some (ze xs ys)
 | _,_=>none
@[simp] noncomputable def kD (x:D):List D->Nat->Option Nat
 | [],_=>none
 | y :: r,k=>if eqv y x then some k else kD x r (k+1)
@[simp] noncomputable def Gf (c:Nat):List Nat->Nat->Option Nat
 | [],_=>none
 | y :: r,k=>if y=c then some k else Gf c r (k+1)
@[simp] noncomputable def br:List W->Option (List D)
 | []=>some []
 | .p d :: r=>(br r).map (d :: ·)
 | .r _ :: _=>none
 | .k _ :: _=>none
 | .o _ :: _=>none
 | .c _ _ :: _=>none
noncomputable def meD:Me->D->List D->Option D
 | .tindex,.tup xs,[x]=>if xs.all fun y=>bO y x then (kD x xs 0).map fun (q:Nat)=>D.int (q:Int) else none
 | .sindex,.str x,[.str y]=>match Builtin.Str.occurrences x y 0 x.length 1 with
  | i :: _=>some (.int (i:Int))
  | []=>none
 | _,_,_=>none
noncomputable def meW (m:Me) (o:W) (as:List W) (h:HH):Option (W×HH):=match m,o,as with
 | .append,.r n,[.p d]=>match lat h n with
  | some xs=>if xs.length < lim then some (.p .non,h.set n (.l (xs++[d]))) else none
  | none=>none
 | .pop,.r n,[]=>match lat h n with
  | some xs=>match xs.getLast? with
   | some d=>some (.p d,h.set n (.l xs.dropLast))
   | none=>none
  | none=>none
 | .extend,.r n,[w]=>match lat h n,(rd w h).bind m7 with
  | some xs,some ys=>if xs.length+ys.length<=lim then some (.p .non,h.set n (.l (xs++ys))) else none
  | _,_=>none
 | .dget,.k kvs,[.p (.str x)]=>some (.p ((dQ x kvs).getD .non),h)
 | .dget,.k _,[.p .non]=>some (.p .non,h)
 | .dget,.k kvs,[.p (.str x),.p d]=>some (.p ((dQ x kvs).getD d),h)
 | m,.p d,as=>match br as with
  | some ds=>(meD m d ds).map fun x=>(.p x,h)
  | none=>none
 | _,_,_=>none
section
variable (n:Nat) (d:D) (h:HH) (kvs:List (Str×D)) (x:Str) (as:List W)
@[simp] theorem qu:meW .append (.r n) [.p d] h=match lat h n with
 | some xs=>if xs.length < lim then some (.p .non,h.set n (.l (xs++[d]))) else none
 | none=>none:=rfl
@[simp] theorem zf:meW .pop (.r n) [] h=match lat h n with
 | some xs=>match xs.getLast? with
  | some d=>some (.p d,h.set n (.l xs.dropLast))
  | none=>none
 | none=>none:=rfl
@[simp] theorem qv (w:W):meW .extend (.r n) [w] h=match lat h n,(rd w h).bind m7 with
 | some xs,some ys=>if xs.length+ys.length<=lim then some (.p .non,h.set n (.l (xs++ys))) else none
 | _,_=>none:=rfl
@[simp] theorem Gg:meW .dget (.k kvs) [.p (.str x)] h=some (.p ((dQ x kvs).getD .non),h):=rfl
@[simp] theorem C3:meW .dget (.k kvs) [.p .non] h=some (.p .non,h):=rfl
@[simp] theorem E3:meW .dget (.k kvs) [.p (.str x),.p d] h=some (.p ((dQ x kvs).getD d),h):=rfl
@[simp] theorem kE:meW .tindex (.p d) as h=match br as with
 | some ds=>(meD .tindex d ds).map fun x=>(.p x,h)
 | none=>none:=rfl
@[simp] theorem C4:meW .sindex (.p d) as h=match br as with
 | some ds=>(meD .sindex d ds).map fun x=>(.p x,h)
 | none=>none:=rfl
end
noncomputable def new (mu:Bool) (xs:List D) (h:HH):W×HH:=if mu then (.r h.length,h++[.l xs]) else (.p (.lst xs),h)
@[simp] theorem Mt (xs:List D) (h:HH):new false xs h=(.p (.lst xs),h):=rfl
@[simp] theorem Mu (xs:List D) (h:HH):new true xs h=(.r h.length,h++[.l xs]):=rfl
@[simp] noncomputable def rds (ws:List W) (h:HH):Option (List D):=match ws with
 | []=>some []
 | w :: r=>(rd w h).bind fun d=>(rds r h).map (d :: ·)
noncomputable def MJ:D->Option (List D)
 | .lst xs=>some xs
 | _=>none
noncomputable def unpack (n:Nat):D->Option (List D)
 | .tup xs=>if xs.length=n then some xs else none
 | _=>none
noncomputable def target (n:Nat) (d:D):Option (List D):=if n=1 then some [d] else unpack n d
section
variable (i j k a b:Int) (c:Bool) (x y:Str) (xs ys:List D) (kvs:List (Str×D)) (d e:D) (lo hi:Option Int)
@[simp] theorem fB:jo .add (.int i) (.int j)=some (.int (i+j)):=rfl
@[simp] theorem dF:jo .add (.str x) (.str y)=if x.length+y.length<=lim then some (.str (x++y)) else none:=rfl
@[simp] theorem dG:jo .add (.tup xs) (.tup ys)=if xs.length+ys.length<=lim then some (.tup (xs++ys)) else none:=rfl
@[simp] theorem dH:jo .add (.lst xs) (.lst ys)=if xs.length+ys.length<=lim then some (.lst (xs++ys)) else none:=rfl
@[simp] theorem fC:jo .sub (.int i) (.int j)=some (.int (i - j)):=rfl
@[simp] theorem fD:jo .mul (.int i) (.int j)=if big i||big j then some (.int (i*j)) else none:=rfl
@[simp] theorem dI:jo .mul (.tup xs) (.int k)=if 2<=k&&k<=1000&&!xs.isEmpty&&xs.length*k.toNat<=lim then some (.tup (rep k.toNat xs)) else none:=rfl
@[simp] theorem dJ:jo .mul (.lst xs) (.int k)=if -1000<=k&&k<=1000&&xs.length*k.toNat<=lim then some (.lst (rep k.toNat xs)) else none:=rfl
@[simp] theorem fE:jo .mod (.int i) (.int j)=if 0 < j then some (.int (i % j)) else none:=rfl
@[simp] theorem dZ:jo .fdiv (.int i) (.int j)=if 0 < j&&j < 1073741824 then some (.int (i / j)) else none:=rfl
@[simp] theorem fF:jo .pow (.int i) (.int j)=if 0<=j&&j<=100&&big i then some (.int (i ^ j.toNat)) else none:=rfl
@[simp] theorem m8:cE (.tup xs) (.int i)=atP xs i:=rfl
@[simp] theorem cI:cE (.lst xs) (.int i)=atP xs i:=rfl
@[simp] theorem bK:cE (.str x) (.int i)=if x.length<=lim then (atP x.cps.toList i).map fun c=>.str ⟨#[c]⟩ else none:=rfl
@[simp] theorem vF:oO (.tup xs) lo hi=some (.tup (cut xs lo hi)):=rfl
@[simp] theorem JB:oO (.lst xs) lo hi=some (.lst (cut xs lo hi)):=rfl
@[simp] theorem zg:fk .eq d e=if bO d e then some (eqv d e) else none:=rfl
@[simp] theorem zh:fk .ne d e=if bO d e then some (!eqv d e) else none:=rfl
@[simp] theorem eU:fk .lt (.int i) (.int j)=some (decide (i < j)):=rfl
@[simp] theorem eV:fk .le (.int i) (.int j)=some (decide (i<=j)):=rfl
@[simp] theorem eW:fk .gt (.int i) (.int j)=some (decide (j < i)):=rfl
@[simp] theorem eX:fk .ge (.int i) (.int j)=some (decide (j<=i)):=rfl
@[simp] theorem dR:fk .isN d .non=some (gf d):=rfl
@[simp] theorem cY:fk .notN d .non=some (!gf d):=rfl
@[simp] theorem cj:fk .mem d (.tup ys)=if ys.all fun y=>bO y d then some (ys.any fun y=>eqv y d) else none:=rfl
@[simp] theorem cu:fk .mem d (.lst ys)=if ys.all fun y=>bO y d then some (ys.any fun y=>eqv y d) else none:=rfl
@[simp] theorem aX:fk .nmem d (.tup ys)=if ys.all fun y=>bO y d then some (!ys.any fun y=>eqv y d) else none:=rfl
@[simp] theorem aO:fk .nmem d (.lst ys)=if ys.all fun y=>bO y d then some (!ys.any fun y=>eqv y d) else none:=rfl
@[simp] theorem E4:biD .len [.tup xs]=some (.int xs.length):=rfl
@[simp] theorem E5:biD .len [.lst xs]=some (.int xs.length):=rfl
@[simp] theorem tU:biD .len [.str x]=if x.length<=lim then some (.int x.length) else none:=rfl
@[simp] theorem Iq:biD .abs [.int i]=some (.int (if i < 0 then -i else i)):=rfl
@[simp] theorem Ir:biD .int [.int i]=some (.int i):=rfl
@[simp] theorem E6:biD .int [.bl c]=some (.int (if c then 1 else 0)):=rfl
@[simp] theorem Iu:biD .str [.int i]=if big i then some (.str (toString i)) else none:=rfl
@[simp] theorem BP:biD .tuple [.lst xs]=some (.tup xs):=rfl
@[simp] theorem BQ:biD .tuple [.tup xs]=some (.tup xs):=rfl
theorem oQ:biD .nset [.lst xs]=(intsOf xs).bind fun ns=>if ns.length < 1000 then some (.int ((ded ns).length:Nat)) else none:=rfl
@[simp] theorem C6:biD .list [.lst xs]=some (.lst xs):=rfl
@[simp] theorem C7:biD .list [.tup xs]=some (.lst xs):=rfl
@[simp] theorem Iw:biD .all [.lst xs]=(allB xs).map .bl:=rfl
@[simp] theorem Iz:biD .any [.lst xs]=(anyB xs).map .bl:=rfl
@[simp] theorem E7:biD .isInt [d]=some (.bl (isI d)):=rfl
@[simp] theorem C8:biD .isBool [d]=some (.bl (isB d)):=rfl
@[simp] theorem E8:biD .isStr [d]=some (.bl (isS d)):=rfl
@[simp] theorem BU:biD .isTuple [d]=some (.bl (isT d)):=rfl
@[simp] theorem C9:biD .isList [d]=some (.bl (isL d)):=rfl
@[simp] theorem IA:biD .min2 [.int i,.int j]=some (.int (if j < i then j else i)):=rfl
@[simp] theorem IB:biD .max2 [.int i,.int j]=some (.int (if j > i then j else i)):=rfl
@[simp] theorem JC:m7 (.tup xs)=some xs:=rfl
@[simp] theorem JD:m7 (.lst xs)=some xs:=rfl
@[simp] theorem vG:fq .seq [d]=m7 d:=rfl
@[simp] theorem mj:fq .rng1 [.int a]=if -100000<=a&&a<=100000 then some (upto 0 a.toNat) else none:=rfl
@[simp] theorem gR:fq .rng2 [.int a,.int b]=if -100000<=a&&a<=100000&&-100000<=b&&b<=100000 then some (upto a (b - a).toNat) else none:=rfl
@[simp] theorem Gi:fq .rev [.lst xs]=some xs.reverse:=rfl
@[simp] theorem Gj:fq .enu [.lst xs]=some (jq 0 xs):=rfl
@[simp] theorem Gk:fq .zip2 [.lst xs,.lst ys]=some (ze xs ys):=rfl
@[simp] theorem Dc:meD .tindex (.tup xs) [d]=if xs.all fun y=>bO y d then (kD d xs 0).map fun (q:Nat)=>D.int (q:Int) else none:=rfl
@[simp] theorem vH (n:Nat):unpack n (.tup xs)=if xs.length=n then some xs else none:=rfl
end
@[simp] theorem gj (d:D):target 1 d=some [d]:=rfl
@[simp] theorem Gm (d:D):target 2 d=unpack 2 d:=rfl
noncomputable def rA (o:Option D) (out:List D) (h:HH):Option (List D×HH):=some (match o with | some x=>x :: out | none=>out,h)
noncomputable def vI (r:HH->Option (List D×HH)) (o:Option D) (h:HH):Option (List D×HH):=bnd (r h) (rA o)
@[simp] theorem oR (o:Option D) (out:List D) (h:HH):rA o out h=some (match o with | some x=>x :: out | none=>out,h):=rfl
@[simp] theorem rB (r:HH->Option (List D×HH)) (o:Option D) (h:HH):vI r o h=bnd (r h) (rA o):=rfl
noncomputable def b9 (f:List D->HH->Option (Option D×HH)) (n:Nat):List D->HH->Option (List D×HH)
 | [],h=>some ([],h)
 | d :: r,h=>match target n d with
  | some ds=>bnd (f ds h) (vI (b9 f n r))
  | none=>none
noncomputable def dX (d:D):Option W:=some (.p d)
noncomputable abbrev EH:=HH->Option (W×HH)
noncomputable abbrev OpW:=W->W->HH->Option (W×HH)
@[simp] noncomputable def k2 (eb:EH) (op:OpW) (x:W) (h:HH):Option (W×HH):=bnd (eb h) (op x)
@[simp] noncomputable def lH (o:Bin) (x y:W) (h:HH):Option (W×HH):=match rd x h,rd y h with
 | some d,some e=>(jo o d e).map fun z=>(.p z,h)
 | _,_=>none
noncomputable def inK (o:Cm) (x:W) (kvs:List (Str×D)):Option Bool:=match o,x with
 | .mem,.p (.str s)=>some (dQ s kvs).isSome
 | .nmem,.p (.str s)=>some (!(dQ s kvs).isSome)
 | _,_=>none
@[simp] noncomputable def fY (o:Cm) (x y:W) (h:HH):Option (W×HH):=match y with
 | .k kvs=>(inK o x kvs).map fun z=>(.p (.bl z),h)
 | y=>match rd x h,rd y h with
  | some d,some e=>(fk o d e).map fun z=>(.p (.bl z),h)
  | _,_=>none
noncomputable def atK (kvs:List (Str×D)) (y:W):Option D:=match y with
 | .p (.str s)=>dQ s kvs
 | _=>none
@[simp] theorem Mv (kvs:List (Str×D)) (x:Str):atK kvs (.p (.str x))=dQ x kvs:=rfl
@[simp] theorem Mw (kvs:List (Str×D)) (x:Str):inK .mem (.p (.str x)) kvs=some (dQ x kvs).isSome:=rfl
@[simp] theorem Mx (kvs:List (Str×D)) (x:Str):inK .nmem (.p (.str x)) kvs=some (!(dQ x kvs).isSome):=rfl
@[simp] noncomputable def zj (x y:W) (h:HH):Option (W×HH):=match x with
 | .k kvs=>(atK kvs y).map fun z=>(.p z,h)
 | x=>match rd x h,rd y h with
  | some d,some e=>(cE d e).map fun z=>(.p z,h)
  | _,_=>none
@[simp] noncomputable def zk (x:W) (h:HH):Option (W×HH):=match x with | .p (.int i)=>some (.p (.int (-i)),h) | _=>none
@[simp] noncomputable def zm (x:W) (h:HH):Option (W×HH):=match x with | .p (.bl b)=>some (.p (.bl (!b)),h) | _=>none
@[simp] noncomputable def zo (eb:EH) (x:W) (h:HH):Option (W×HH):=match x with | .p (.bl c)=>if c then eb h else some (.p (.bl false),h) | _=>none
@[simp] noncomputable def kOr (eb:EH) (x:W) (h:HH):Option (W×HH):=match x with | .p (.bl c)=>if c then some (.p (.bl true),h) else eb h | _=>none
@[simp] noncomputable def zu (ea eb:EH) (x:W) (h:HH):Option (W×HH):=match x with | .p (.bl c)=>if c then ea h else eb h | _=>none
@[simp] noncomputable def Gn (o':Cm) (e:D) (z:W) (h:HH):Option (W×HH):=match rd z h with
 | some f=>(fk o' e f).map fun r=>(.p (.bl r),h)
 | none=>none
@[simp] noncomputable def oCh (o o':Cm) (ec:EH) (x y:W) (h:HH):Option (W×HH):=match rd x h,y with
 | some d,.p e=>match fk o d e with
  | some true=>bnd (ec h) (Gn o' e)
  | some false=>some (.p (.bl false),h)
  | none=>none
 | _,_=>none
@[simp] noncomputable def Dd (ws:List W) (h:HH):Option (W×HH):=match br ws with | some ds=>if ds.length<=lim then some (.p (.tup ds),h) else none | none=>none
@[simp] noncomputable def De (mu:Bool) (ws:List W) (h:HH):Option (W×HH):=match br ws with | some ds=>if ds.length<=lim then some (new mu ds h) else none | none=>none
@[simp] noncomputable def Gp (x:W) (l u:List W) (h:HH):Option (W×HH):=match rd x h,(br l).bind m6,(br u).bind m6 with
 | some d,some l',some u'=>(oO d l' u').map fun z=>(.p z,h)
 | _,_,_=>none
@[simp] noncomputable def Gq (eu:HH->Option (List W×HH)) (x:W) (l:List W) (h:HH):Option (W×HH):=bnd (eu h) (Gp x l)
@[simp] noncomputable def Gs (el eu:HH->Option (List W×HH)) (x:W) (h:HH):Option (W×HH):=bnd (el h) (Gq eu x)
@[simp] noncomputable def JE (x:W) (h:HH):Option (W×HH):=match rd x h with
 | some (.tup xs)=>some (.p (.tup xs.reverse),h)
 | some (.lst xs)=>some (.p (.lst xs.reverse),h)
 | _=>none
noncomputable def oS (k:Int) (xs:List D):List D:=(sliceRange (sliceBounds none none (some k) xs.length).1 (sliceBounds none none (some k) xs.length).2.1 (sliceBounds none none (some k) xs.length).2.2).filterMap fun i=>xs[i]?
@[simp] noncomputable def Df (mu:Bool) (k:Int) (x:W) (h:HH):Option (W×HH):=match rd x h with
 | some (.lst xs)=>some (new mu (oS k xs) h)
 | _=>none
@[simp] noncomputable def kBi (b:Bi) (mu:Bool) (ws:List W) (h:HH):Option (W×HH):=match rds ws h with
 | some ds=>match biD b ds with
  | some d=>if mu then (match d with | .lst xs=>some (new true xs h) | _=>none) else some (.p d,h)
  | none=>none
 | none=>none
noncomputable def oU (x:W) (h:HH):Bool:=match x with
 | .r n=>(lat h n).isSome
 | _=>true
@[simp] theorem JF (n:Nat) (h:HH):oU (.r n) h=(lat h n).isSome:=rfl
@[simp] theorem JG (d:D) (h:HH):oU (.p d) h=true:=rfl
@[simp] theorem JH (d:List (Str×D)) (h:HH):oU (.k d) h=true:=rfl
@[simp] noncomputable def kMe (m:Me) (ea:HH->Option (List W×HH)) (x:W) (h:HH):Option (W×HH):=if oU x h then bnd (ea h) (meW m x) else none
@[simp] noncomputable def kLs (mu:Bool) (sr:Sr) (ws:List W) (h:HH):Option (W×HH):=match (rds ws h).bind (fq sr) with
 | some ds=>if ds.length<=lim then some (new mu ds h) else none
 | none=>none
@[simp] noncomputable def tV (w:W) (h:HH):Option (Option D×HH):=match w with | .p d=>some (some d,h) | _=>none
@[simp] noncomputable def iS (ee:EH) (cs:List W) (h:HH):Option (Option D×HH):=match cs with
 | []=>bnd (ee h) tV
 | [.p (.bl true)]=>bnd (ee h) tV
 | [.p (.bl false)]=>some (none,h)
 | _=>none
@[simp] noncomputable def eY (ec:Sl->HH->Option (List W×HH)) (ee:Sl->EH) (fs:Sl) (xs:List D) (h:HH):Option (Option D×HH) :=
 bnd (ec (xs.map dX++fs) h) (iS (ee (xs.map dX++fs)))
@[simp] noncomputable def kF (mu:Bool) (out:List D) (h:HH):Option (W×HH):=if out.length<=lim then some (new mu out h) else none
noncomputable def bP (f:Str):List (Str×W)->Option W
 | []=>none
 | (x,w) :: r=>if f=x then some w else bP f r
noncomputable def bN (f:Str) (w:W):List (Str×W)->List (Str×W)
 | []=>[(f,w)]
 | (x,u) :: r=>if f=x then (f,w) :: r else (x,u) :: bN f w r
@[simp] theorem Gu (f:Str):bP f []=none:=rfl
@[simp] theorem mq (f x:Str) (w:W) (r:List (Str×W)):bP f ((x,w) :: r)=if f=x then some w else bP f r:=rfl
@[simp] theorem Gv (f:Str) (w:W):bN f w []=[(f,w)]:=rfl
@[simp] theorem tW (f x:Str) (w u:W) (r:List (Str×W)):bN f w ((x,u) :: r)=if f=x then (f,w) :: r else (x,u) :: bN f w r:=rfl
noncomputable def attrOk:W->Bool
 | .p _=>true
 | .r _=>true
 | .k _=>false
 | .o _=>true
 | .c _ _=>false
@[simp] theorem Gw (d:D):attrOk (.p d)=true:=rfl
@[simp] theorem Gx (n:Nat):attrOk (.r n)=true:=rfl
@[simp] theorem Gy (n:Nat):attrOk (.o n)=true:=rfl
noncomputable def zw (f:Str) (x:W) (h:HH):Option (W×HH):=match x with
 | .o n=>match oat h n with
  | some (_,fs)=>(bP f fs).map fun w=>(w,h)
  | none=>none
 | _=>none
@[simp] theorem Dg (f:Str) (n:Nat) (h:HH):zw f (.o n) h=match oat h n with
 | some (_,fs)=>(bP f fs).map fun w=>(w,h)
 | none=>none:=rfl
noncomputable def qw (F:FK->List W->HH->Option (W×HH)) (q:FK) (n:Nat) (ws:List W) (h:HH):Option (W×HH):=F q (.o n :: ws) h
@[simp] theorem E9 (F:FK->List W->HH->Option (W×HH)) (q:FK) (n:Nat) (ws:List W) (h:HH):qw F q n ws h=F q (.o n :: ws) h:=rfl
noncomputable def vJ (F:FK->List W->HH->Option (W×HH)) (m:Str) (ea:HH->Option (List W×HH)) (x:W) (h:HH):Option (W×HH):=match x with
 | .o n=>match oat h n with
  | some (c,fs)=>if (bP m fs).isNone then bnd (ea h) (qw F (.m c m) n) else none
  | none=>none
 | _=>none
@[simp] theorem zx (F:FK->List W->HH->Option (W×HH)) (m:Str) (ea:HH->Option (List W×HH)) (n:Nat) (h:HH):vJ F m ea (.o n) h=match oat h n with
 | some (c,fs)=>if (bP m fs).isNone then bnd (ea h) (qw F (.m c m) n) else none
 | none=>none:=rfl
noncomputable def rC (n:Nat) (x:W) (h:HH):Option (W×HH):=match x with
 | .p .non=>some (.o n,h)
 | _=>none
@[simp] theorem IC (n:Nat) (h:HH):rC n (.p .non) h=some (.o n,h):=rfl
noncomputable def BV (F:FK->List W->HH->Option (W×HH)) (c:Str) (ws:List W) (h:HH):Option (W×HH):=bnd (F (.m c "__init__") (.o h.length :: ws) (h++[.o c []])) (rC h.length)
@[simp] theorem vK (F:FK->List W->HH->Option (W×HH)) (c:Str) (ws:List W) (h:HH):BV F c ws h=bnd (F (.m c "__init__") (.o h.length :: ws) (h++[.o c []])) (rC h.length):=rfl
noncomputable def gk:List W->Bool
 | []=>true
 | .p _ :: r=>gk r
 | _=>false
@[simp] noncomputable def vL (mu:Bool) (sr:Sr) (n:Nat) (fs:Option Sl) (ec:Sl->HH->Option (List W×HH)) (ee:Sl->EH) (ws:List W) (h:HH):Option (W×HH) :=
 match (rds ws h).bind (fq sr),fs with
 | some ds,some fs=>if gk ws then bnd (b9 (eY ec ee fs) n ds h) (kF mu) else none
 | _,_=>none
@[simp] noncomputable def gn (w:W) (ws:List W) (h:HH):Option (List W×HH):=some (w :: ws,h)
@[simp] noncomputable def jG (er:HH->Option (List W×HH)) (w:W) (h:HH):Option (List W×HH):=bnd (er h) (gn w)
@[simp] noncomputable def frees (s:Sl):List (Nat×Str)->Option Sl
 | []=>some []
 | q :: r=>match s[q.1]? with
  | some w=>(frees s r).map (w :: ·)
  | none=>none
noncomputable def caps (s:Sl):List (Nat×Str)->Option (List Cp)
 | []=>some []
 | q :: r=>match s[q.1]? with
  | some (some w)=>(oK w).bind fun x=>(caps s r).map (x :: ·)
  | _=>none
@[simp] theorem Gz (s:Sl):caps s []=some []:=rfl
@[simp] theorem tX (s:Sl) (q:Nat×Str) (r:List (Nat×Str)):caps s (q :: r)=match s[q.1]? with
 | some (some w)=>(oK w).bind fun x=>(caps s r).map (x :: ·)
 | _=>none:=rfl
noncomputable def noC:List W->Bool
 | []=>true
 | .p _ :: r=>noC r
 | .r _ :: r=>noC r
 | .k _ :: r=>noC r
 | .o _ :: r=>noC r
 | .c _ _ :: _=>false
@[simp] theorem ID:noC []=true:=rfl
@[simp] theorem Mz (d:D) (r:List W):noC (.p d :: r)=noC r:=rfl
@[simp] theorem MA (d:Nat) (r:List W):noC (.r d :: r)=noC r:=rfl
@[simp] theorem MB (d:Nat) (r:List W):noC (.o d :: r)=noC r:=rfl
noncomputable def ng (F:FK->List W->HH->Option (W×HH)) (o:Option (Option W)) (ws:List W) (h:HH):Option (W×HH):=match o with
 | some (some (.c k cs))=>if noC ws then F k (ws++cs.map Cp.w) h else none
 | _=>none
@[simp] theorem GA (F:FK->List W->HH->Option (W×HH)) (k:FK) (cs:List Cp) (ws:List W) (h:HH):ng F (some (some (.c k cs))) ws h=if noC ws then F k (ws++cs.map Cp.w) h else none:=rfl
noncomputable def vM (w:W) (h:HH):Option (W×HH):=match w with
 | .c _ _=>none
 | w=>some (w,h)
@[simp] theorem JI (d:D) (h:HH):vM (.p d) h=some (.p d,h):=rfl
@[simp] theorem JJ (n:Nat) (h:HH):vM (.r n) h=some (.r n,h):=rfl
@[simp] theorem JK (n:Nat) (h:HH):vM (.o n) h=some (.o n,h):=rfl
noncomputable def nh (F:FK->List W->HH->Option (W×HH)) (q:FK) (n:Nat) (L:Nat) (cs:Option (List Cp)) (ws:List W) (h:HH):Option (W×HH):=match cs with
 | some cs=>bnd (F q (.o n :: (ws++[.c (.l L) cs])) h) vM
 | none=>none
@[simp] theorem tY (F:FK->List W->HH->Option (W×HH)) (q:FK) (n:Nat) (L:Nat) (cs:List Cp) (ws:List W) (h:HH):nh F q n L (some cs) ws h=bnd (F q (.o n :: (ws++[.c (.l L) cs])) h) vM:=rfl
noncomputable def qx (F:FK->List W->HH->Option (W×HH)) (m:Str) (ea:HH->Option (List W×HH)) (L:Nat) (cs:Option (List Cp)) (x:W) (h:HH):Option (W×HH):=match x with
 | .o n=>match oat h n with
  | some (c,fs)=>if (bP m fs).isNone then bnd (ea h) (nh F (.m c m) n L cs) else none
  | none=>none
 | _=>none
@[simp] theorem vN (F:FK->List W->HH->Option (W×HH)) (m:Str) (ea:HH->Option (List W×HH)) (L:Nat) (cs:Option (List Cp)) (n:Nat) (h:HH):qx F m ea L cs (.o n) h=match oat h n with
 | some (c,fs)=>if (bP m fs).isNone then bnd (ea h) (nh F (.m c m) n L cs) else none
 | none=>none:=rfl
noncomputable def zy (n:Nat) (y z:W) (h:HH):Option (W×HH):=match y,z with
 | .p k,.p d=>(dat h n).bind fun kvs=>(oN k).map fun q=>(.p ((f9 kvs q).getD d),h)
 | _,_=>none
@[simp] theorem Dh (n:Nat) (k d:D) (h:HH):zy n (.p k) (.p d) h=(dat h n).bind fun kvs=>(oN k).map fun q=>(.p ((f9 kvs q).getD d),h):=rfl
noncomputable def Di (ed:EH) (n:Nat) (y:W) (h:HH):Option (W×HH):=bnd (ed h) (zy n y)
@[simp] theorem zA (ed:EH) (n:Nat) (y:W) (h:HH):Di ed n y h=bnd (ed h) (zy n y):=rfl
noncomputable def GB (ek ed:EH) (x:W) (h:HH):Option (W×HH):=match x with
 | .r n=>if (dat h n).isSome then bnd (ek h) (Di ed n) else none
 | _=>none
@[simp] theorem Dj (ek ed:EH) (n:Nat) (h:HH):GB ek ed (.r n) h=if (dat h n).isSome then bnd (ek h) (Di ed n) else none:=rfl
noncomputable def Dk (x:W) (h:HH):Option (W×HH):=match x with
 | .r n=>(dat h n).bind fun kvs=>if kvs.length<=1 then some (.p (.lst (d9 kvs)),h) else none
 | _=>none
@[simp] theorem Dl (n:Nat) (h:HH):Dk (.r n) h=(dat h n).bind fun kvs=>if kvs.length<=1 then some (.p (.lst (d9 kvs)),h) else none:=rfl
noncomputable def Dm (x:W) (h:HH):Option (W×HH):=match x with
 | .r n=>(dat h n).bind fun kvs=>if kvs.length<=lim then some (.p (.lst (d9 kvs)),h) else none
 | _=>none
@[simp] theorem Dn (n:Nat) (h:HH):Dm (.r n) h=(dat h n).bind fun kvs=>if kvs.length<=lim then some (.p (.lst (d9 kvs)),h) else none:=rfl
section
variable (F:FK->List W->HH->Option (W×HH)) (G:Str->Option W)
mutual
@[simp] noncomputable def ev:E->Sl->HH->Option (W×HH)
 | .var i _,s,h=>match s[i]? with | some (some w)=>some (w,h) | _=>none
 | .cst d,_,h=>some (.p d,h)
 | .glo x,_,h=>(G x).map fun w=>(w,h)
 | .bin o a b,s,h=>bnd (ev a s h) (k2 (ev b s) (lH o))
 | .neg a,s,h=>bnd (ev a s h) zk
 | .not a,s,h=>bnd (ev a s h) zm
 | .and a b,s,h=>bnd (ev a s h) (zo (ev b s))
 | .or a b,s,h=>bnd (ev a s h) (kOr (ev b s))
 | .cmp o a b,s,h=>bnd (ev a s h) (k2 (ev b s) (fY o))
 | .chain o o' a b c,s,h=>bnd (ev a s h) (k2 (ev b s) (oCh o o' (ev c s)))
 | .ite c a b,s,h=>bnd (ev c s h) (zu (ev a s) (ev b s))
 | .tup as,s,h=>bnd (evs as s h) Dd
 | .lst mu as,s,h=>bnd (evs as s h) (De mu)
 | .idx a i,s,h=>bnd (ev a s h) (k2 (ev i s) zj)
 | .slc a lo hi,s,h=>bnd (ev a s h) (Gs (evs lo s) (evs hi s))
 | .rvs a,s,h=>bnd (ev a s h) JE
 | .stp mu k a,s,h=>bnd (ev a s h) (Df mu k)
 | .call f as,s,h=>bnd (evs as s h) (F (.f f))
 | .fld a f,s,h=>bnd (ev a s h) (zw f)
 | .meth o m as,s,h=>bnd (ev o s h) (vJ F m (evs as s))
 | .make c as,s,h=>bnd (evs as s h) (BV F c)
 | .bi b mu as,s,h=>bnd (evs as s h) (kBi b mu)
 | .lsr mu sr as,s,h=>bnd (evs as s h) (kLs mu sr)
 | .me m o as,s,h=>bnd (ev o s h) (kMe m (evs as s))
 | .comp mu sr sa tg fv cond elt,s,h=>bnd (evs sa s h) (vL mu sr tg.length (frees s fv) (evs cond) (ev elt))
 | .callv i _ as,s,h=>bnd (evs as s h) (ng F s[i]?)
 | .methL o m as L fv,s,h=>bnd (ev o s h) (qx F m (evs as s) L (caps s fv))
 | .dnew,_,h=>some (.r h.length,h++[.d []])
 | .dgt o k d,s,h=>bnd (ev o s h) (GB (ev k s) (ev d s))
 | .dsi o,s,h=>bnd (ev o s h) Dk
 | .dli o,s,h=>bnd (ev o s h) Dm
@[simp] noncomputable def evs:Es->Sl->HH->Option (List W×HH)
 | .nil,_,h=>some ([],h)
 | .cons a as,s,h=>bnd (ev a s h) (jG (evs as s))
end
inductive Fl where
 | nx (s:Sl) (h:HH) | rt (w:W) (h:HH) | bk (s:Sl) (h:HH) | ct (s:Sl) (h:HH)
noncomputable def GC (k:Bool->HH->Option Fl) (w:W) (h:HH):Option Fl:=match w with | .p (.bl b)=>k b h | _=>none
noncomputable def tst (x:Option (W×HH)) (k:Bool->HH->Option Fl):Option Fl:=bnd x (GC k)
@[simp] theorem fN (b:Bool) (h:HH) (k:Bool->HH->Option Fl):tst (some (.p (.bl b),h)) k=k b h:=rfl
noncomputable def mw (x:Option Fl) (k:Sl->HH->Option Fl):Option Fl:=match x with
 | some (.nx s h)=>k s h
 | y=>y
@[simp] theorem GD (s:Sl) (h:HH) (k:Sl->HH->Option Fl):mw (some (.nx s h)) k=k s h:=rfl
@[simp] theorem GE (w:W) (h:HH) (k:Sl->HH->Option Fl):mw (some (.rt w h)) k=some (.rt w h):=rfl
@[simp] theorem GF (s:Sl) (h:HH) (k:Sl->HH->Option Fl):mw (some (.bk s h)) k=some (.bk s h):=rfl
@[simp] theorem GG (s:Sl) (h:HH) (k:Sl->HH->Option Fl):mw (some (.ct s h)) k=some (.ct s h):=rfl
@[simp] theorem Do (k:Sl->HH->Option Fl):mw none k=none:=rfl
noncomputable def fW (x:Option Fl) (k:Sl->HH->Option Fl):Option Fl:=match x with
 | some (.nx s h)=>k s h
 | some (.ct s h)=>k s h
 | some (.bk s h)=>some (.nx s h)
 | y=>y
@[simp] theorem dS (s:Sl) (h:HH) (k:Sl->HH->Option Fl):fW (some (.nx s h)) k=k s h:=rfl
@[simp] theorem GH (s:Sl) (h:HH) (k:Sl->HH->Option Fl):fW (some (.ct s h)) k=k s h:=rfl
@[simp] theorem GI (s:Sl) (h:HH) (k:Sl->HH->Option Fl):fW (some (.bk s h)) k=some (.nx s h):=rfl
@[simp] theorem GJ (w:W) (h:HH) (k:Sl->HH->Option Fl):fW (some (.rt w h)) k=some (.rt w h):=rfl
@[simp] theorem Dp (k:Sl->HH->Option Fl):fW none k=none:=rfl
@[simp] noncomputable def sets:List (Nat×Str)->List D->Sl->Sl
 | (i,_) :: r,d :: ds,s=>sets r ds (s.set i (some (.p d)))
 | _,_,s=>s
noncomputable def Dq (b:Sl->HH->Option Fl) (again:Sl->HH->Option Fl) (s:Sl) (t:Bool) (h:HH):Option Fl:=if t then fW (b s h) again else some (.nx s h)
@[simp] theorem kG (b again:Sl->HH->Option Fl) (s:Sl) (h:HH):Dq b again s true h=fW (b s h) again:=rfl
@[simp] theorem jr (b again:Sl->HH->Option Fl) (s:Sl) (h:HH):Dq b again s false h=some (.nx s h):=rfl
noncomputable def cZ (c:Sl->HH->Option (W×HH)) (b:Sl->HH->Option Fl):Nat->Sl->HH->Option Fl
 | 0,_,_=>none
 | n+1,s,h=>tst (c s h) (Dq b (cZ c b n) s)
@[simp] noncomputable def cg (b:Sl->HH->Option Fl) (tg:List (Nat×Str)):List D->Sl->HH->Option Fl
 | [],s,h=>some (.nx s h)
 | d :: r,s,h=>match target tg.length d with
  | some ds=>fW (b (sets tg ds s) h) (cg b tg r)
  | none=>none
noncomputable def turns:Nat:=100000
@[simp] noncomputable def qy (s:Sl) (i:Nat) (w:W) (h:HH):Option Fl:=some (.nx (s.set i (some w)) h)
@[simp] noncomputable def JL (s:Sl) (xs:List (Nat×Str)) (w:W) (h:HH):Option Fl:=match w with
 | .p d=>match unpack xs.length d with | some ds=>some (.nx (sets xs ds s) h) | none=>none
 | _=>none
@[simp] noncomputable def GK (s:Sl) (i:Nat) (o:Bin) (w:W) (h:HH):Option Fl:=match s[i]?,w with
 | some (some (.p d)),.p d'=>(jO o d d').map fun z=>.nx (s.set i (some (.p z))) h
 | _,_=>none
@[simp] noncomputable def BW (s:Sl) (n:Nat) (d:D) (q:W) (h:HH):Option Fl:=match q,lat h n with
 | .p (.int j),some xs=>match place xs.length j with
  | some m=>some (.nx s (h.set n (.l (xs.set m d))))
  | none=>none
 | _,_=>none
@[simp] noncomputable def Dr (ek:EH) (s:Sl) (i:Nat) (w:W) (h:HH):Option Fl:=match w,s[i]? with
 | .p d,some (some (.r n))=>bnd (ek h) (BW s n d)
 | _,_=>none
noncomputable def qz (s:Sl) (n:Nat) (d:D) (q:W) (h:HH):Option Fl:=match q with
 | .p k=>(dat h n).bind fun kvs=>(oN k).bind fun y=>if kvs.length < lim then some (.nx s (h.set n (.d (mh kvs y d)))) else none
 | _=>none
@[simp] theorem vO (s:Sl) (n:Nat) (d k:D) (h:HH):qz s n d (.p k) h=(dat h n).bind fun kvs=>(oN k).bind fun y=>if kvs.length < lim then some (.nx s (h.set n (.d (mh kvs y d)))) else none:=rfl
noncomputable def rD (ek:EH) (s:Sl) (i:Nat) (w:W) (h:HH):Option Fl:=match w,s[i]? with
 | .p d,some (some (.r n))=>bnd (ek h) (qz s n d)
 | _,_=>none
@[simp] theorem zB (ek:EH) (s:Sl) (i:Nat) (d:D) (h:HH):rD ek s i (.p d) h=match s[i]? with
 | some (some (.r n))=>bnd (ek h) (qz s n d)
 | _=>none:=by
 unfold rD
 cases s[i]? with
 | none=>rfl
 | some o=>cases o with
  | none=>rfl
  | some w=>cases w<;>rfl
noncomputable def nj (s:Sl) (f:Str) (v:W) (x:W) (h:HH):Option Fl:=match x with
 | .o n=>match oat h n with
  | some (c,fs)=>if attrOk v&&fs.length < 1000 then some (.nx s (h.set n (.o c (bN f v fs)))) else none
  | none=>none
 | _=>none
@[simp] theorem vP (s:Sl) (f:Str) (v:W) (n:Nat) (h:HH):nj s f v (.o n) h=match oat h n with
 | some (c,fs)=>if attrOk v&&fs.length < 1000 then some (.nx s (h.set n (.o c (bN f v fs)))) else none
 | none=>none:=rfl
noncomputable def vQ (eo:EH) (s:Sl) (f:Str) (v:W) (h:HH):Option Fl:=bnd (eo h) (nj s f v)
@[simp] theorem vR (eo:EH) (s:Sl) (f:Str) (v:W) (h:HH):vQ eo s f v h=bnd (eo h) (nj s f v):=rfl
noncomputable def nk (s:Sl) (f:Str) (op:Bin) (n:Nat) (c:Str) (d:D) (v:W) (h:HH):Option Fl:=match v,oat h n with
 | .p e,some (c',fs)=>match jO op d e with
  | some z=>if c'=c/\fs.length < 1000 then some (.nx s (h.set n (.o c' (bN f (.p z) fs)))) else none
  | none=>none
 | _,_=>none
@[simp] theorem vS (s:Sl) (f:Str) (op:Bin) (n:Nat) (c:Str) (d e:D) (h:HH):nk s f op n c d (.p e) h=match oat h n with
 | some (c',fs)=>match jO op d e with
  | some z=>if c'=c/\fs.length < 1000 then some (.nx s (h.set n (.o c' (bN f (.p z) fs)))) else none
  | none=>none
 | none=>none:=by unfold nk;cases oat h n<;>rfl
noncomputable def rE (ee:EH) (s:Sl) (f:Str) (op:Bin) (x:W) (h:HH):Option Fl:=match x with
 | .o n=>match oat h n with
  | some (c,fs)=>match bP f fs with
   | some (.p d)=>bnd (ee h) (nk s f op n c d)
   | _=>none
  | none=>none
 | _=>none
@[simp] theorem zC (ee:EH) (s:Sl) (f:Str) (op:Bin) (n:Nat) (h:HH):rE ee s f op (.o n) h=match oat h n with
 | some (c,fs)=>match bP f fs with
  | some (.p d)=>bnd (ee h) (nk s f op n c d)
  | _=>none
 | none=>none:=rfl
@[simp] noncomputable def kEx (s:Sl) (_:W) (h:HH):Option Fl:=some (.nx s h)
@[simp] noncomputable def vU (w:W) (h:HH):Option Fl:=some (.rt w h)
@[simp] noncomputable def kIf (fa fb:HH->Option Fl) (t:Bool) (h:HH):Option Fl:=if t then fa h else fb h
@[simp] noncomputable def kFor (b:Sl->HH->Option Fl) (tg:List (Nat×Str)) (sr:Sr) (s:Sl) (ws:List W) (h:HH):Option Fl:=match (rds ws h).bind (fq sr) with
 | some ds=>if gk ws then cg b tg ds s h else none
 | none=>none
@[simp] noncomputable def evS:S->Sl->HH->Option Fl
 | .nil,s,h=>some (.nx s h)
 | .seq a b,s,h=>mw (evS a s h) (evS b)
 | .set i _ e,s,h=>bnd (ev F G e s h) (qy s i)
 | .unp xs e,s,h=>bnd (ev F G e s h) (JL s xs)
 | .aug i _ o e,s,h=>bnd (ev F G e s h) (GK s i o)
 | .put i _ k e,s,h=>bnd (ev F G e s h) (Dr (ev F G k s) s i)
 | .putd i _ k e,s,h=>bnd (ev F G e s h) (rD (ev F G k s) s i)
 | .setf o f e,s,h=>bnd (ev F G e s h) (vQ (ev F G o s) s f)
 | .augf o f op e,s,h=>bnd (ev F G o s h) (rE (ev F G e s) s f op)
 | .ex e,s,h=>bnd (ev F G e s h) (kEx s)
 | .ret e,s,h=>bnd (ev F G e s h) vU
 | .ife c a b,s,h=>tst (ev F G c s h) (kIf (evS a s) (evS b s))
 | .whl c b,s,h=>cZ (ev F G c) (evS b) turns s h
 | .for tg sr sa b,s,h=>bnd (evs F G sa s h) (kFor (evS b) tg sr s)
 | .brk,s,h=>some (.bk s h)
 | .cnt,s,h=>some (.ct s h)
 | .bad,_,_=>none
open Classical in
noncomputable def fin (h:HH) (w:W) (h':HH):Option (W×HH) :=
 if h'.length=h.length then some (w,h')
 else if h'.take h.length=h then (match w with
  | .p d=>some (.p d,h)
  | .r n=>if n < h.length then some (.r n,h) else (lat h' n).map fun xs=>(.p (.lst xs),h)
  | .o n=>if n < h.length then some (.o n,h) else some (.o n,h')
  | .k _=>none
  | .c _ _=>none)
 else some (w,h')
@[simp] noncomputable def fu (n:Nat) (ws:List W):Sl:=ws.map some++List.replicate (n - ws.length) none
noncomputable def oV (x:Option Fl) (k:W->HH->Option (W×HH)):Option (W×HH):=match x with
 | some (.rt w h)=>k w h
 | some (.nx _ h)=>k (.p .non) h
 | _=>none
@[simp] theorem IE (w:W) (h:HH) (k:W->HH->Option (W×HH)):oV (some (.rt w h)) k=k w h:=rfl
@[simp] theorem IF (s:Sl) (h:HH) (k:W->HH->Option (W×HH)):oV (some (.nx s h)) k=k (.p .non) h:=rfl
@[simp] theorem Fb (k:W->HH->Option (W×HH)):oV none k=none:=rfl
end
section
variable (T:FK->Option Fn) (G:Str->Option W)
noncomputable def runN:Nat->FK->List W->HH->Option (W×HH)
 | 0,_,_,_=>none
 | k+1,f,ws,h=>match T f with
  | some fn=>if ws.length=fn.ps.length then oV (evS (runN k) G fn.body (fu fn.ns.length ws) h) (fin h) else none
  | none=>none
theorem run_eq {T:FK->Option Fn}{G:Str->Option W}{f:FK}{fn:Fn}{ws:List W}{h:HH}{k:Nat} (hT:T f=some fn) (hl:ws.length=fn.ps.length) :
 runN T G (k+1) f ws h=oV (evS (runN T G k) G fn.body (fu fn.ns.length ws) h) (fin h):=by
 rw[runN,hT];exact if_pos hl
end
end BT
end
section
namespace BT
open PySem
noncomputable def zD:Fn:=⟨["state","thing"],["state","thing"],.ret (.call "worth_in" (.cons (.var 0 "state") (.cons (.var 1 "thing") .nil)))⟩
noncomputable def zE:Fn:=⟨["state","thing","worth"],["state","thing","worth"],.ret (.cmp .ne (.call "worth_in" (.cons (.var 0 "state") (.cons (.var 1 "thing") .nil))) (.var 2 "worth"))⟩
noncomputable def JM:Fn:=⟨["state","thing","worth"],["state","thing","worth"],.ret (.cmp .ne (.call "worth_in" (.cons (.var 0 "state") (.cons (.var 1 "thing") .nil))) (.var 2 "worth"))⟩
noncomputable def JN:Fn:=⟨["state","term"],["state","term"],.ret (.call "reckoned" (.cons (.var 1 "term") (.cons (.var 0 "state") .nil)))⟩
noncomputable def JO:Fn:=⟨["state","term"],["state","term"],.ret (.cmp .ne (.call "reckoned" (.cons (.var 1 "term") (.cons (.var 0 "state") .nil))) (.cst (.int 0)))⟩
noncomputable def JP:Fn:=⟨["state","term"],["state","term"],.ret (.cmp .ne (.call "reckoned" (.cons (.var 1 "term") (.cons (.var 0 "state") .nil))) (.cst (.int 0)))⟩
noncomputable def JQ:Fn:=⟨["state"],["state"],.ret (.idx (.var 0 "state") (.glo "ROW"))⟩
noncomputable def JR:Fn:=⟨["state","row"],["state","row"],.ret (.cmp .eq (.idx (.var 0 "state") (.glo "ROW")) (.var 1 "row"))⟩
noncomputable def JS:Fn:=⟨["state","number"],["state","number"],.ret (.cmp .gt (.bi .len false (.cons (.idx (.var 0 "state") (.glo "SAID")) .nil)) (.var 1 "number"))⟩
noncomputable def JT:Fn:=⟨["state","bound"],["state","bound"],.ret (.cmp .le (.call "open_in" (.cons (.var 0 "state") .nil)) (.var 1 "bound"))⟩
noncomputable def GL:Fn:=⟨["state","bound"],["state","bound"],.ret (.cmp .le (.call "open_in" (.cons (.var 0 "state") .nil)) (.var 1 "bound"))⟩
noncomputable def GM:Fn:=⟨["state","wanted"],["state","wanted"],.ret (.and (.cmp .eq (.idx (.var 0 "state") (.glo "NAMES")) (.idx (.var 1 "wanted") (.glo "NAMES"))) (.cmp .eq (.idx (.var 0 "state") (.glo "CELLS")) (.idx (.var 1 "wanted") (.glo "CELLS"))))⟩
noncomputable def rF:Fn:=⟨["state","tape","thing"],["state","tape","thing"],.ret (.cmp .eq (.call "written_next" (.cons (.var 1 "tape") (.cons (.var 0 "state") .nil))) (.var 2 "thing"))⟩
noncomputable def GN:Fn:=⟨[],[],.ret (.cst .non)⟩
noncomputable def GO:Fn:=⟨[],[],.ret (.cst .non)⟩
noncomputable def nq (i:Nat):Option Fn:=([zD,zE,JM,JN,JO,JP,JQ,JR,JS,JT,GL,GM,rF,GN,GO]:List Fn)[i]?
noncomputable def dN:List Str:=["worths_of","last_change","next_change","moments_so","last_so","next_so","visits","last_visit","when_said","next_within","last_within","first_other","writer_of","judged","remade"]
noncomputable def vV (i:Nat):Str:=dN.getD i ""
noncomputable def cQ (x:Str):Str:="<"++x++">"
end BT
end
section
namespace BS
open PySem PySem.Spec PyProof.Rows L2
noncomputable def attrName (f:Str):Bool:=(["program","asked","gap","most","kept","farthest","front","now","origins","branches","tape","named"]:List Str).contains f
noncomputable def oW:BT.Bi->Option (String×(BT.D->Bool))
 | .isInt=>some ("int",BT.isI)
 | .isBool=>some ("bool",BT.isB)
 | .isStr=>some ("str",BT.isS)
 | .isTuple=>some ("tuple",BT.isT)
 | .isList=>some ("list",BT.isL)
 | _=>none
noncomputable def jH (sc:Scope) (x:Str):Bool:=match sc.names.lookup x with
 | some .local=>true
 | some .cell=>true
 | some .free=>true
 | _=>false
noncomputable def bB (sc:Scope) (x:Str):Bool:=sc.names.lookup x==some .globalImplicit
noncomputable def cR (x:Str):Bool:=!(x=="__debug__")&&!(x=="__classdict__")&&!(x=="__name__")
noncomputable def noStar:PySem.Expr->Bool
 | .Starred _ _=>false
 | _=>true
noncomputable def iT:PySem.Expr->Bool
 | .Slice _ _ _ _=>false
 | _=>true
noncomputable def aD:PySem.Expr->Bool
 | .Name _ _=>true
 | .Constant _ _ _=>true
 | .Subscript _ _ _=>true
 | .Attribute _ _ _=>true
 | .Call (.Attribute _ _ _) _ _ _=>true
 | _=>false
noncomputable def BX:BT.Bin->Operator->Bool
 | .add,.Add=>true
 | .sub,.Sub=>true
 | .mul,.Mult=>true
 | .mod,.Mod=>true
 | .fdiv,.FloorDiv=>true
 | .pow,.Pow=>true
 | _,_=>false
noncomputable def zF:BT.Cm->CmpOp->Bool
 | .eq,.Eq=>true
 | .ne,.NotEq=>true
 | .lt,.Lt=>true
 | .le,.LtE=>true
 | .gt,.Gt=>true
 | .ge,.GtE=>true
 | .isN,.Is=>true
 | .notN,.IsNot=>true
 | .mem,.In=>true
 | .nmem,.NotIn=>true
 | _,_=>false
noncomputable def BY:BT.D->Const->Bool
 | .non,.none=>true
 | .bl a,.bool b=>a==b
 | .int i,.int j=>i==j
 | .str x,.str y=>x==y&&PyData.strOk x
 | _,_=>false
noncomputable def vW:BT.Bi->Bool->Option Str
 | .len,false=>some "len"
 | .abs,false=>some "abs"
 | .int,false=>some "int"
 | .list,_=>some "list"
 | .tuple,false=>some "tuple"
 | _,_=>none
noncomputable def BZ (b:BT.Bi) (mu:Bool) (x:Str):Bool:=vW b mu==some x
noncomputable def vX:BT.Bi->Str->Bool
 | .min2,x=>x=="min"
 | .max2,x=>x=="max"
 | _,_=>false
noncomputable def qA (k:Int):PySem.Expr->Bool
 | .Constant (.int j) _ _=>k==j&&decide (0 < j)
 | .UnaryOp .USub (.Constant (.int j) _ _) _=>k==-j&&decide (0 < j)
 | _=>false
noncomputable def vY:BT.Me->Str
 | .append=>"append"
 | .pop=>"pop"
 | .extend=>"extend"
 | .tindex=>"index"
 | .sindex=>"index"
 | .dget=>"get"
noncomputable def vZ:BT.E->Bool
 | .glo _=>true
 | _=>false
noncomputable def v7 (m:BT.Me) (o:BT.E):Bool:=match m with
 | .append=>true
 | .pop=>true
 | .extend=>true
 | .sindex=>false
 | .tindex=>vZ o
 | .dget=>false
noncomputable def tOK:BT.E->Bool
 | .ite _ _ _=>false
 | .not a=>tOK a
 | .and a b=>tOK a&&tOK b
 | .or a b=>tOK a&&tOK b
 | .tup _=>false
 | .lst _ _=>false
 | .comp _ _ _ _ _ _ _=>false
 | _=>true
noncomputable def iE:PySem.Expr->Bool
 | .Set _ _ _=>false
 | _=>true
noncomputable def oX:BT.Sr->PySem.Expr->Bool
 | .zip2,.Tuple _ _ _=>true
 | .enu,.Tuple _ _ _=>true
 | .zip2,_=>false
 | .enu,_=>false
 | _,_=>true
noncomputable def bI (scope sc:Scope):Scope :=
 { scope with names:=scope.names.map fun (n,k)=>if (k==.free&&sc.kind==.function&&sc.names.lookup n==some .cell) then (n,.cell) else (n,k) }
noncomputable def oY (sc:Scope) (tg:List Str) (te:PySem.Expr):Bool:=match tg,te with
 | [x],.Name y _=>x==y&&sc.names.lookup x==some .local
 | [x,y],.Tuple [.Name a _,.Name b _] _ _=>x==a&&y==b&&sc.names.lookup x==some .local&&sc.names.lookup y==some .local
 | _,_=>false
noncomputable def iF:List Str->Bool
 | []=>true
 | x :: r=>!r.contains x&&iF r
noncomputable def iG (sc:Scope) (N:List Str) (tg:List Str) (fv:List (Nat×Str)) (scope:Scope):Bool :=
 scope.kind==.function&&sc.kind==.function&&scope.names.all (fun y=>!(y.2==.cell))&&scope.names.all (fun y=>!(y.2==.local)||scope.names.lookup y.1==some .local) &&
 scope.names.all (fun y=>!(y.2==.free)||sc.names.lookup y.1==some .cell) &&
 fv.all (fun q=>N[q.1]?==some q.2&&scope.names.contains (q.2,.free)&&sc.names.lookup q.2==some .cell&&(bI scope sc).names.lookup q.2==some .cell)&&iF (tg++fv.map (·.2))
mutual
inductive CE':Scope->List Str->BT.E->PySem.Expr->Prop where
 | var {sc:Scope}{N:List Str}{i:Nat}{x:Str}{p:Pos} (h1:N[i]?=some x) (h2:jH sc x=true) (h3:cR x=true):CE' sc N (.var i x) (.Name x p)
 | cst {sc:Scope}{N:List Str}{d:BT.D}{c:Const}{k:Nat}{p:Pos} (h:BY d c=true):CE' sc N (.cst d) (.Constant c k p)
 | glo {sc:Scope}{N:List Str}{x:Str}{p:Pos} (h2:bB sc x=true) (h3:cR x=true):CE' sc N (.glo x) (.Name x p)
 | bin {sc:Scope}{N:List Str}{o:BT.Bin}{op:Operator}{a b:BT.E}{l r:PySem.Expr}{p:Pos} (h:BX o op=true) (ha:CE' sc N a l) (hb:CE' sc N b r):CE' sc N (.bin o a b) (.BinOp l op r p)
 | neg {sc:Scope}{N:List Str}{a:BT.E}{x:PySem.Expr}{p:Pos} (ha:CE' sc N a x):CE' sc N (.neg a) (.UnaryOp .USub x p)
 | not {sc:Scope}{N:List Str}{a:BT.E}{x:PySem.Expr}{p:Pos} (ha:CE' sc N a x):CE' sc N (.not a) (.UnaryOp .Not x p)
 | and2 {sc:Scope}{N:List Str}{a b:BT.E}{x y:PySem.Expr}{p:Pos} (ha:CE' sc N a x) (hb:CE' sc N b y):CE' sc N (.and a b) (.BoolOp .And [x,y] p)
 | and3 {sc:Scope}{N:List Str}{a b:BT.E}{x y z:PySem.Expr}{r:List PySem.Expr}{p:Pos} (ha:CE' sc N a x) (hb:CE' sc N b (.BoolOp .And (y :: z :: r) p)):CE' sc N (.and a b) (.BoolOp .And (x :: y :: z :: r) p)
 | or2 {sc:Scope}{N:List Str}{a b:BT.E}{x y:PySem.Expr}{p:Pos} (ha:CE' sc N a x) (hb:CE' sc N b y):CE' sc N (.or a b) (.BoolOp .Or [x,y] p)
 | or3 {sc:Scope}{N:List Str}{a b:BT.E}{x y z:PySem.Expr}{r:List PySem.Expr}{p:Pos} (ha:CE' sc N a x) (hb:CE' sc N b (.BoolOp .Or (y :: z :: r) p)):CE' sc N (.or a b) (.BoolOp .Or (x :: y :: z :: r) p)
 | cmp {sc:Scope}{N:List Str}{o:BT.Cm}{op:CmpOp}{a b:BT.E}{l r:PySem.Expr}{p:Pos} (h:zF o op=true) (ha:CE' sc N a l) (hb:CE' sc N b r) (hm:behindInMarks op r=false):CE' sc N (.cmp o a b) (.Compare l [op] [r] p)
 | chain {sc:Scope}{N:List Str}{o o':BT.Cm}{op op':CmpOp}{a b c:BT.E}{l r r':PySem.Expr}{p:Pos} (h:zF o op=true) (h':zF o' op'=true) (ha:CE' sc N a l) (hb:CE' sc N b r) (hc:CE' sc N c r') (hm:lastMarks [op,op'] [r,r']=false):CE' sc N (.chain o o' a b c) (.Compare l [op,op'] [r,r'] p)
 | ite {sc:Scope}{N:List Str}{c a b:BT.E}{t x y:PySem.Expr}{p:Pos} (h:tOK c=true) (hc:CE' sc N c t) (ha:CE' sc N a x) (hb:CE' sc N b y):CE' sc N (.ite c a b) (.IfExp t x y p)
 | tup {sc:Scope}{N:List Str}{as:BT.Es}{es:List PySem.Expr}{k:Nat}{p:Pos} (h:CEs sc N as es):CE' sc N (.tup as) (.Tuple es k p)
 | lst {sc:Scope}{N:List Str}{mu:Bool}{as:BT.Es}{es:List PySem.Expr}{p:Pos} (h:CEs sc N as es):CE' sc N (.lst mu as) (.List es p)
 | idx {sc:Scope}{N:List Str}{a i:BT.E}{x sl:PySem.Expr}{p:Pos} (ha:CE' sc N a x) (hi:CE' sc N i sl) (hs:iT sl=true):CE' sc N (.idx a i) (.Subscript x sl p)
 | slc {sc:Scope}{N:List Str}{a:BT.E}{lo hi:BT.Es}{x:PySem.Expr}{l u:Option PySem.Expr}{p2 p:Pos} (ha:CE' sc N a x) (hl:CO sc N lo l) (hu:CO sc N hi u):CE' sc N (.slc a lo hi) (.Subscript x (.Slice l u none p2) p)
 | call {sc:Scope}{N:List Str}{f:Str}{as:BT.Es}{es:List PySem.Expr}{np p:Pos} (hg:bB sc f=true) (hn:cR f=true) (ha:CEs sc N as es):CE' sc N (.call f as) (.Call (.Name f np) es [] p)
 | nset {sc:Scope}{N:List Str}{a:BT.E}{e:PySem.Expr}{np zp p pos:Pos} (hg:bB sc "len"=true) (hg2:bB sc "set"=true) (hs:noStar e=true) (h:CE' sc N a e) :
  CE' sc N (.bi .nset false (.cons a .nil)) (.Call (.Name "len" np) [.Call (.Name "set" zp) [e] [] pos] [] p)
 | bi {sc:Scope}{N:List Str}{b:BT.Bi}{mu:Bool}{x:Str}{a:BT.E}{e:PySem.Expr}{np p:Pos} (hb:BZ b mu x=true) (hg:bB sc x=true) (hs:noStar e=true) (ha:CE' sc N a e):CE' sc N (.bi b mu (.cons a .nil)) (.Call (.Name x np) [e] [] p)
 | inst {sc:Scope}{N:List Str}{b:BT.Bi}{c:String}{f:BT.D->Bool}{a:BT.E}{e:PySem.Expr}{np p2 p:Pos} (hb:oW b=some (c,f)) (hg:bB sc "isinstance"=true) (hg2:bB sc (Str.ofString c)=true) (hs:noStar e=true) (ha:CE' sc N a e) :
  CE' sc N (.bi b false (.cons a .nil)) (.Call (.Name "isinstance" np) [e,.Name (Str.ofString c) p2] [] p)
 | me {sc:Scope}{N:List Str}{m:BT.Me}{o:BT.E}{as:BT.Es}{oe:PySem.Expr}{name:Str}{apos cpos:Pos}{es:List PySem.Expr} (h1:v7 m o=true) (h2:name=vY m) (h3:aD oe=true) (h6:(apos.endLine==cpos.line)=true) (h7:es.length < 20) (ho:CE' sc N o oe) (ha:CEs sc N as es) :
  CE' sc N (.me m o as) (.Call (.Attribute oe name apos) es [] cpos)
 | comp {sc:Scope}{N:List Str}{mu:Bool}{sr:BT.Sr}{sa:BT.Es}{tg:List Str}{fv:List (Nat×Str)}{cond:BT.Es}{elt:BT.E}{te iter elt':PySem.Expr}{ifs:List PySem.Expr}{scope:Scope}{pos:Pos}
  (hk:iG sc N tg fv scope=true) (ht:oY (bI scope sc) tg te=true) (hz:oX sr te=true) (hs:iE iter=true) (hi:CI sc N sr sa iter)
  (hc:CC (bI scope sc) (tg++fv.map (·.2)) cond ifs) (he:CE' (bI scope sc) (tg++fv.map (·.2)) elt elt'):CE' sc N (.comp mu sr sa tg fv cond elt) (.ListComp elt' [⟨te,iter,ifs,0⟩] scope pos)
 | fld {sc:Scope}{N:List Str}{a:BT.E}{f:Str}{x:PySem.Expr}{p:Pos} (hb:aD x=true) (hf:attrName f=true) (ha:CE' sc N a x):CE' sc N (.fld a f) (.Attribute x f p)
 | meth {sc:Scope}{N:List Str}{o:BT.E}{m:Str}{as:BT.Es}{oe:PySem.Expr}{apos cpos:Pos}{es:List PySem.Expr} (h3:aD oe=true) (h6:(apos.endLine==cpos.line)=true) (h7:es.length < 20) (ho:CE' sc N o oe) (ha:CEs sc N as es) :
  CE' sc N (.meth o m as) (.Call (.Attribute oe m apos) es [] cpos)
 | stp {sc:Scope}{N:List Str}{mu:Bool}{k:Int}{a:BT.E}{x se:PySem.Expr}{p2 p:Pos} (hk:qA k se=true) (ha:CE' sc N a x):CE' sc N (.stp mu k a) (.Subscript x (.Slice none none (some se) p2) p)
 | bi2 {sc:Scope}{N:List Str}{b:BT.Bi}{x:Str}{a1 a2:BT.E}{e1 e2:PySem.Expr}{np p:Pos} (hb:vX b x=true) (hg:bB sc x=true) (hs1:noStar e1=true) (hs2:noStar e2=true) (h1:CE' sc N a1 e1) (h2:CE' sc N a2 e2) :
  CE' sc N (.bi b false (.cons a1 (.cons a2 .nil))) (.Call (.Name x np) [e1,e2] [] p)
 | make {sc:Scope}{N:List Str}{c:Str}{as:BT.Es}{es:List PySem.Expr}{np p:Pos} (hg:bB sc c=true) (hn:cR c=true) (ha:CEs sc N as es):CE' sc N (.make c as) (.Call (.Name c np) es [] p)
 | callv {sc:Scope}{N:List Str}{i:Nat}{x:Str}{as:BT.Es}{e:PySem.Expr}{es:List PySem.Expr}{np p:Pos} (h1:N[i]?=some x) (h2:jH sc x=true) (h3:cR x=true) (ha:CEs sc N as (e :: es)):CE' sc N (.callv i x as) (.Call (.Name x np) (e :: es) [] p)
 | dnew {sc:Scope}{N:List Str}{p:Pos}:CE' sc N .dnew (.Dict [] [] p)
 | dgt {sc:Scope}{N:List Str}{o k d:BT.E}{oe ke de:PySem.Expr}{apos cpos:Pos} (h3:aD oe=true) (h6:(apos.endLine==cpos.line)=true) (hs1:noStar ke=true) (hs2:noStar de=true) (ho:CE' sc N o oe) (hk:CE' sc N k ke) (hd:CE' sc N d de):CE' sc N (.dgt o k d) (.Call (.Attribute oe "get" apos) [ke,de] [] cpos)
 | dsi {sc:Scope}{N:List Str}{o:BT.E}{oe:PySem.Expr}{np p apos pos:Pos} (hg:bB sc "sorted"=true) (h3:aD oe=true) (h6:(apos.endLine==pos.line)=true) (ho:CE' sc N o oe):CE' sc N (.dsi o) (.Call (.Name "sorted" np) [.Call (.Attribute oe "items" apos) [] [] pos] [] p)
inductive CEs:Scope->List Str->BT.Es->List PySem.Expr->Prop where
 | nil {sc:Scope}{N:List Str}:CEs sc N .nil []
 | cons {sc:Scope}{N:List Str}{a:BT.E}{as:BT.Es}{e:PySem.Expr}{es:List PySem.Expr} (hs:noStar e=true) (ha:CE' sc N a e) (hr:CEs sc N as es):CEs sc N (.cons a as) (e :: es)
inductive CO:Scope->List Str->BT.Es->Option PySem.Expr->Prop where
 | nil {sc:Scope}{N:List Str}:CO sc N .nil none
 | one {sc:Scope}{N:List Str}{a:BT.E}{e:PySem.Expr} (ha:CE' sc N a e):CO sc N (.cons a .nil) (some e)
inductive CC:Scope->List Str->BT.Es->List PySem.Expr->Prop where
 | nil {sc:Scope}{N:List Str}:CC sc N .nil []
 | one {sc:Scope}{N:List Str}{a:BT.E}{e:PySem.Expr} (ht:tOK a=true) (ha:CE' sc N a e):CC sc N (.cons a .nil) [e]
inductive CI:Scope->List Str->BT.Sr->BT.Es->PySem.Expr->Prop where
 | rng1 {sc:Scope}{N:List Str}{a:BT.E}{e:PySem.Expr}{p pos:Pos} (hg:bB sc "range"=true) (hs:noStar e=true) (h:CE' sc N a e):CI sc N .rng1 (.cons a .nil) (.Call (.Name "range" p) [e] [] pos)
 | rng2 {sc:Scope}{N:List Str}{a b:BT.E}{x y:PySem.Expr}{p pos:Pos} (hg:bB sc "range"=true) (hs:noStar x=true) (hs2:noStar y=true) (ha:CE' sc N a x) (hb:CE' sc N b y):CI sc N .rng2 (.cons a (.cons b .nil)) (.Call (.Name "range" p) [x,y] [] pos)
 | rev {sc:Scope}{N:List Str}{a:BT.E}{e:PySem.Expr}{p pos:Pos} (hg:bB sc "reversed"=true) (hs:noStar e=true) (h:CE' sc N a e):CI sc N .rev (.cons a .nil) (.Call (.Name "reversed" p) [e] [] pos)
 | seq {sc:Scope}{N:List Str}{a:BT.E}{x:PySem.Expr} (h:CE' sc N a x):CI sc N .seq (.cons a .nil) x
end
inductive LPa:Arguments->List Str->Prop where
 | one {p:Pos}:LPa ⟨[],[⟨"state",none,p⟩],none,[],[],none,[]⟩ ["state"]
 | two {p q:Pos}:LPa ⟨[],[⟨"row",none,p⟩,⟨"state",none,q⟩],none,[],[],none,[]⟩ ["row","state"]
noncomputable def mz (ps fs:List Str) (sc:Scope):Bool :=
 sc.kind==.function&&!sc.isCoroutine&&!sc.isGenerator&&sc.names.all (fun y=>!(y.2==.cell))&&ps.all (fun x=>sc.names.lookup x==some .local) &&
 fs.all (fun x=>sc.names.lookup x==some .free&&sc.names.contains (x,.free))&&sc.names.all (fun y=>!(y.2==.free)||fs.contains y.1)&&iF (ps++fs)
noncomputable def v8 (sc:Scope) (N:List Str) (fv:List (Nat×Str)):Bool:=fv.all fun q=>N[q.1]?==some q.2&&sc.names.lookup q.2==some .cell
inductive CL (sc:Scope) (N:List Str):BT.E->Str->BT.Es->Nat->List (Nat×Str)->PySem.Expr->Prop where
 | zero {o bt:BT.E}{m:Str}{L:Nat}{fv:List (Nat×Str)}{oe be:PySem.Expr}{apos cpos lp:Pos}{pa:Arguments}{scope:Scope}{ns ps:List Str} (hl:BT.nq L=some ⟨ns,ns,.ret bt⟩) (hp:LPa pa ps) (hn:ns=ps++fv.map (·.2)) (hk:mz ps (fv.map (·.2)) scope=true) (hv:v8 sc N fv=true)
  (ht:N.contains (BT.cQ (BT.vV L))=true) (hc:CE' scope ns bt be) (h3:aD oe=true) (h6:(apos.endLine==cpos.line)=true) (ho:CE' sc N o oe):CL sc N o m .nil L fv (.Call (.Attribute oe m apos) [.Lambda pa be scope lp] [] cpos)
 | one {o bt a:BT.E}{m:Str}{L:Nat}{fv:List (Nat×Str)}{oe be e:PySem.Expr}{apos cpos lp:Pos}{pa:Arguments}{scope:Scope}{ns ps:List Str} (hl:BT.nq L=some ⟨ns,ns,.ret bt⟩) (hp:LPa pa ps) (hn:ns=ps++fv.map (·.2)) (hk:mz ps (fv.map (·.2)) scope=true) (hv:v8 sc N fv=true)
  (ht:N.contains (BT.cQ (BT.vV L))=true) (hc:CE' scope ns bt be) (h3:aD oe=true) (h6:(apos.endLine==cpos.line)=true) (ho:CE' sc N o oe) (hs:noStar e=true) (ha:CE' sc N a e):CL sc N o m (.cons a .nil) L fv (.Call (.Attribute oe m apos) [e,.Lambda pa be scope lp] [] cpos)
end BS
end
section
namespace BS
open PySem PySem.Spec PyProof.Rows L2
noncomputable def KT (K:PySem.W.Frag) (a:Addr) (xs:List V):Prop :=
 ∃ (o:Obj) (its:Array Value) (n:Nat),(K.lookup a=some o/\o.cls=.type "tuple"/\o.data=.seq its n/\its.size<=sizeLine/\aq xs its.toList)/\o.dict=none
noncomputable def KL (K:PySem.W.Frag) (a:Addr) (xs:List V):Prop:=∃ (its:List Value) (n:Nat),K.lookup a=some { cls:=.type "list",data:=.seq its.toArray n }/\its.length<=sizeLine/\aq xs its
noncomputable def LL (K:PySem.W.Frag) (H:Hp) (a:Addr) (xs:List V):Prop:=Rd H a (.lst xs)\/KL K a xs
theorem LL.sq {K:PySem.W.Frag}{H:Hp}{a:Addr}{xs:List V} (h:LL K H a xs):SqL K H a xs:=by
 rcases h with h | ⟨its,n,h1,h2,h3⟩
 ·exact .inl h
 ·exact .inr ⟨_,its.toArray,n,h1,rfl,rfl,rfl,by simpa using h2,by simpa using h3⟩
noncomputable def KD (P:Program) (w:World) (K:PySem.W.Frag) (a:Addr) (es:List (Str×V)):Prop :=
 (a==sysModules)=false/\∃ vs:List (Key×Value),KV (es.map fun q=>(Sum.inr q.1,q.2)) vs/\∀ h:Heap,K.In h->h.DictOf (aU P w) a vs
mutual
inductive RD (K:PySem.W.Frag) (m:List Addr) (H:Hp):V->BT.D->Prop where
 | non:RD K m H .non .non
 | bl (b:Bool):RD K m H (.bl b) (.bl b)
 | int (i:Int):RD K m H (.int i) (.int i)
 | str (x:Str) (h:PyData.strOk x=true):RD K m H (.str x) (.str x)
 | tup {a:Addr}{vs:List V}{ds:List BT.D} (h:(Rd H a (.tup vs)/\a∉m)\/KT K a vs) (r:RDs K m H vs ds):RD K m H (.ref a) (.tup ds)
 | lst {a:Addr}{vs:List V}{ds:List BT.D} (h:(Rd H a (.lst vs)/\a∉m)\/KL K a vs) (r:RDs K m H vs ds):RD K m H (.ref a) (.lst ds)
inductive RDs (K:PySem.W.Frag) (m:List Addr) (H:Hp):List V->List BT.D->Prop where
 | nil:RDs K m H [] []
 | cons {v:V}{d:BT.D}{vs:List V}{ds:List BT.D} (r:RD K m H v d) (t:RDs K m H vs ds):RDs K m H (v :: vs) (d :: ds)
end
inductive RDk (K:PySem.W.Frag):List (Str×V)->List (Str×BT.D)->Prop where
 | nil:RDk K [] []
 | cons {x:Str}{v:V}{d:BT.D}{es:List (Str×V)}{kvs:List (Str×BT.D)} (r:∀ m H,RD K m H v d) (t:RDk K es kvs):RDk K ((x,v) :: es) ((x,d) :: kvs)
inductive RA (K:PySem.W.Frag) (m:List Addr) (H:Hp):V->BT.W->Prop where
 | p {v:V}{d:BT.D} (r:RD K m H v d):RA K m H v (.p d)
 | r {a:Addr}{n:Nat} (h:m[n]?=some a):RA K m H (.ref a) (.r n)
 | o {a:Addr}{n:Nat} (h:m[n]?=some a):RA K m H (.ref a) (.o n)
noncomputable def Tr (m:List Addr) (H:Hp) (a:Addr) (o:Obj):Prop:=H a=some (.frz o (.own 0))/\a∉m
noncomputable def tZ (x:Str):Str:=x++".<locals>."++"<lambda>"
inductive fZ (m:List Addr) (H:Hp) (cl:List (Str×Addr)):List Str->List V->Prop where
 | nil:fZ m H cl [] []
 | cons {x:Str}{c:Addr}{o:Obj}{u:Value}{v:V}{xs:List Str}{vs:List V} (h1:cl.lookup x=some c) (h2:Tr m H c o) (h3:o.data=.cell (some u)) (r:RelV v u) (t:fZ m H cl xs vs):fZ m H cl (x :: xs) (v :: vs)
noncomputable def gq (m:List Addr) (H:Hp) (f:Addr) (L:Nat) (vs:List V):Prop :=
 ∃ bt ps fs pa be sc cl pm ctv c' oc os t q,BT.nq L=some ⟨ps++fs,ps++fs,.ret bt⟩/\LPa pa ps/\mz ps fs sc=true/\CE' sc (ps++fs) bt be/\(∀ x y c,cl.lookup x=some c->cl.lookup y=some c->x=y)/\(∀ x c,cl.lookup x=some c->x∈fs) ∧
  Tr m H f (PySem.W.kla_obj "<lambda>" q pa be sc cl pm c' ctv)/\Tr m H c' oc/\oc.data=.fields os/\os[1]?=some (.str q t)/\fZ m H cl fs vs
inductive RCs (K:PySem.W.Frag) (m:List Addr) (H:Hp):List V->List BT.Cp->Prop where
 | nil:RCs K m H [] []
 | cons {v:V}{x:BT.Cp}{vs:List V}{xs:List BT.Cp} (r:RA K m H v x.w) (t:RCs K m H vs xs):RCs K m H (v :: vs) (x :: xs)
noncomputable def TB (K:PySem.W.Frag) (H:Hp):Prop:=∀ x∈BT.dN,∀ c P,PySem.W.tabIn K x=some (c,P)->∃ ps,H P=some (.tbl ps)/\TriplesOk ps.toList ∧
 ∀ pos v,codeAmong pos ps.toList=some v->∃ c' oc os t,v=.ref c'/\H c'=some (.frz oc (.own 0))/\oc.data=.fields os/\os[1]?=some (.str (tZ x) t)
theorem TB.mono {K:PySem.W.Frag}{H H':Hp} (h:TB K H) (h1:∀ P ps,H P=some (.tbl ps)->H' P=some (.tbl ps)) (h2:∀ a o vs,o.data=.fields vs->H a=some (.frz o (.own 0))->H' a=some (.frz o (.own 0))):TB K H':=fun x hx c P e=>by
 obtain ⟨ps,e1,e2,e3⟩:=h x hx c P e
 refine ⟨ps,h1 _ _ e1,e2,fun pos v q=>?_⟩
 obtain ⟨c',oc,os,t,q1,q2,q3⟩:=e3 pos v q
 exact ⟨c',oc,os,t,q1,h2 _ _ _ q3.1 q2,q3⟩
inductive RW (P:Program) (w:World) (K:PySem.W.Frag) (m:List Addr) (H:Hp):V->BT.W->Prop where
 | p {v:V}{d:BT.D} (r:RD K m H v d):RW P w K m H v (.p d)
 | r {a:Addr}{n:Nat} (h:m[n]?=some a):RW P w K m H (.ref a) (.r n)
 | k {a:Addr}{es:List (Str×V)}{kvs:List (Str×BT.D)} (h:KD P w K a es) (r:RDk K es kvs):RW P w K m H (.ref a) (.k kvs)
 | o {a:Addr}{n:Nat} (h:m[n]?=some a):RW P w K m H (.ref a) (.o n)
 | c {f:Addr}{L:Nat}{vs:List V}{cs:List BT.Cp} (h:gq m H f L vs) (r:RCs K m H vs cs):RW P w K m H (.ref f) (.c (.l L) cs)
 | g {f:Addr}{x:Str} (h:PySem.W.nsIn K mainGlobals x=some (some (.ref f))) (r:PySem.W.keepIn K (.ref f)=true):RW P w K m H (.ref f) (.c (.f x) [])
inductive RFs (K:PySem.W.Frag) (m:List Addr) (H:Hp):List (Str×V)->List (Str×BT.W)->Prop where
 | nil:RFs K m H [] []
 | cons {f:Str}{v:V}{x:BT.W}{vs:List (Str×V)}{fs:List (Str×BT.W)} (r:RA K m H v x) (t:RFs K m H vs fs):RFs K m H ((f,v) :: vs) ((f,x) :: fs)
inductive RKs (K:PySem.W.Frag) (m:List Addr) (H:Hp):List (Key×V)->List (BT.Ky×BT.D)->Prop where
 | nil:RKs K m H [] []
 | cons {k:Key}{v:V}{d:BT.D}{vs:List (Key×V)}{kvs:List (BT.Ky×BT.D)} (hk:RD K m H (kV k) (BT.qt k)) (r:RD K m H v d) (t:RKs K m H vs kvs):RKs K m H ((k,v) :: vs) ((k,d) :: kvs)
noncomputable def CN (K:PySem.W.Frag) (c:Str) (C:Addr):Prop:=PySem.W.nsIn K mainGlobals c=some (some (.ref C))
theorem CN.inj {K:PySem.W.Frag}{c:Str}{C C':Addr} (h:CN K c C) (h':CN K c C'):C=C':=by
 have e:=h.symm.trans h'
 simpa using e
structure kH (K:PySem.W.Frag) (c:Str) (C:Addr):Prop where
 cn:CN K c C
 cls:Cls K C
 no:∀ f,attrName f=true->f6 K C f
noncomputable def gr (K:PySem.W.Frag) (m:List Addr) (H:Hp) (a:Addr):BT.Cl->Prop
 | .l xs=>∃ vs,H a=some (.lst vs)/\RDs K m H vs xs
 | .o c fs=>∃ C dx vs,H a=some (.ins C dx vs)/\kH K c C/\RFs K m H vs fs
 | .d kvs=>∃ vs,H a=some (.dK vs)/\RKs K m H vs kvs
inductive RWs (P:Program) (w:World) (K:PySem.W.Frag) (m:List Addr) (H:Hp):List V->List BT.W->Prop where
 | nil:RWs P w K m H [] []
 | cons {v:V}{x:BT.W}{vs:List V}{xs:List BT.W} (r:RW P w K m H v x) (t:RWs P w K m H vs xs):RWs P w K m H (v :: vs) (x :: xs)
structure RH (K:PySem.W.Frag) (m:List Addr) (H:Hp) (h:BT.HH):Prop where
 nd:m.Nodup
 len:m.length=h.length
 cl:∀ (i:Nat) (a:Addr) (c:BT.Cl),m[i]?=some a->h[i]?=some c->gr K m H a c
 tb:TB K H
theorem v9 {h:BT.HH}{n:Nat}{xs:List BT.D} (e:BT.lat h n=some xs):h[n]?=some (.l xs):=by
 unfold BT.lat at e
 cases g:h[n]? with
 | none=>rw[g] at e;cases e
 | some c=>rw[g] at e;cases c<;>simp[BT.mZ] at e;rw[e]
theorem we {h:BT.HH}{n:Nat}{c:Str}{fs:List (Str×BT.W)} (e:BT.oat h n=some (c,fs)):h[n]?=some (.o c fs):=by
 unfold BT.oat at e
 cases g:h[n]? with
 | none=>rw[g] at e;cases e
 | some c=>rw[g] at e;cases c<;>simp[BT.oM] at e;rw[e.1,e.2]
theorem wg {h:BT.HH}{n:Nat}{kvs:List (BT.Ky×BT.D)} (e:BT.dat h n=some kvs):h[n]?=some (.d kvs):=by
 unfold BT.dat at e
 cases g:h[n]? with
 | none=>rw[g] at e;cases e
 | some c=>rw[g] at e;cases c<;>simp[BT.tT] at e;rw[e]
theorem RH.oZ {K:PySem.W.Frag}{m:List Addr}{H:Hp}{h:BT.HH} (R:RH K m H h) (i:Nat) (a:Addr) (kvs:List (BT.Ky×BT.D)) (e:m[i]?=some a) (g:BT.dat h i=some kvs):∃ vs,H a=some (.dK vs)/\RKs K m H vs kvs:=R.cl i a _ e (wg g)
theorem RH.cell {K:PySem.W.Frag}{m:List Addr}{H:Hp}{h:BT.HH} (R:RH K m H h) (i:Nat) (a:Addr) (xs:List BT.D) (e:m[i]?=some a) (g:BT.lat h i=some xs):∃ vs,H a=some (.lst vs)/\RDs K m H vs xs:=R.cl i a _ e (v9 g)
theorem RH.mC {K:PySem.W.Frag}{m:List Addr}{H:Hp}{h:BT.HH} (R:RH K m H h) (i:Nat) (a:Addr) (c:Str) (fs:List (Str×BT.W)) (e:m[i]?=some a) (g:BT.oat h i=some (c,fs)):∃ C dx vs,H a=some (.ins C dx vs)/\kH K c C/\RFs K m H vs fs:=R.cl i a _ e (we g)
structure RS (P:Program) (w:World) (K:PySem.W.Frag) (m:List Addr) (H:Hp) (σ:L2.St) (s:BT.Sl):Prop where
 len:σ.length=s.length
 get:∀ (i:Nat) (x:BT.W),s[i]?=some (some x)->∃ v,σ[i]?=some (some v)/\RW P w K m H v x
noncomputable def wk:HO->Bool
 | .tbl _=>true
 | _=>false
structure Ext (m:List Addr) (H:Hp) (m':List Addr) (H':Hp):Prop where
 pre:∃ e,m'=m++e/\∀ a∈e,H a=none
 keep:∀ a o,H a=some o->a∉m->wk o=false->H' a=some o
 live:∀ a,H' a=none->H a=none
theorem Ext.refl (m:List Addr) (H:Hp):Ext m H m H:=⟨⟨[],by simp,by simp⟩,fun _ _ h _ _=>h,fun _ h=>h⟩
theorem Ext.ef {m m':List Addr}{H H':Hp} (x:Ext m H m' H') {a:Addr}{o:HO} (h:H a=some o) (n:a∉m):a∉m':=by
 obtain ⟨e,rfl,he⟩:=x.pre
 intro q
 rcases List.mem_append.mp q with q | q
 ·exact n q
 ·rw[he a q] at h;cases h
theorem Ext.trans {m m1 m2:List Addr}{H H1 H2:Hp} (x:Ext m H m1 H1) (y:Ext m1 H1 m2 H2):Ext m H m2 H2:=by
 obtain ⟨e,rfl,he⟩:=x.pre
 obtain ⟨e',rfl,he'⟩:=y.pre
 refine ⟨⟨e++e',by rw[List.append_assoc],fun a ha=>?_⟩,fun a o h n t=>y.keep a o (x.keep a o h n t) (x.ef h n) t,fun a h=>x.live a (y.live a h)⟩
 rcases List.mem_append.mp ha with q | q
 ·exact he a q
 ·exact x.live a (he' a q)
theorem Rd.ext {m m':List Addr}{H H':Hp} (x:Ext m H m' H') {a:Addr}{u:HO} (h:Rd H a u) (n:a∉m) (t:wk u=false:=by rfl):Rd H' a u/\a∉m':=by
 rcases h with h | ⟨o,h⟩
 ·exact ⟨.inl (x.keep _ _ h n t),x.ef h n⟩
 ·exact ⟨.inr ⟨o,x.keep _ _ h n rfl⟩,x.ef h n⟩
theorem Tr.ext {m m':List Addr}{H H':Hp} (x:Ext m H m' H') {a:Addr}{o:Obj} (h:Tr m H a o):Tr m' H' a o:=⟨x.keep _ _ h.1 h.2 rfl,x.ef h.1 h.2⟩
theorem fZ.ext {m m':List Addr}{H H':Hp} (x:Ext m H m' H') {cl:List (Str×Addr)}{xs:List Str}{vs:List V} (r:fZ m H cl xs vs):fZ m' H' cl xs vs:=by
 induction r with
 | nil=>exact .nil
 | cons h1 h2 h3 r t ih=>exact .cons h1 (h2.ext x) h3 r ih
theorem gq.ext {m m':List Addr}{H H':Hp} (x:Ext m H m' H') {f:Addr}{L:Nat}{vs:List V} (h:gq m H f L vs):gq m' H' f L vs:=by
 obtain ⟨bt,ps,fs,pa,be,sc,cl,pm,ctv,c',oc,os,t,q,h0,h1,h2,h3,h4,h5,h6,h7,h8,h9,h10⟩:=h
 exact ⟨bt,ps,fs,pa,be,sc,cl,pm,ctv,c',oc,os,t,q,h0,h1,h2,h3,h4,h5,h6.ext x,h7.ext x,h8,h9,h10.ext x⟩
section
variable {P:Program}{w:World}{K:PySem.W.Frag}{m m':List Addr}{H H':Hp}
mutual
theorem RD.ext (x:Ext m H m' H'):∀ {v:V}{d:BT.D},RD K m H v d->RD K m' H' v d
 | _,_,.non=>.non
 | _,_,.bl b=>.bl b
 | _,_,.int i=>.int i
 | _,_,.str y h=>.str y h
 | _,_,.tup h r=>.tup (h.elim (fun q=>.inl (Rd.ext x q.1 q.2)) .inr) (RDs.ext x r)
 | _,_,.lst h r=>.lst (h.elim (fun q=>.inl (Rd.ext x q.1 q.2)) .inr) (RDs.ext x r)
theorem RDs.ext (x:Ext m H m' H'):∀ {vs:List V}{ds:List BT.D},RDs K m H vs ds->RDs K m' H' vs ds
 | _,_,.nil=>.nil
 | _,_,.cons r t=>.cons (RD.ext x r) (RDs.ext x t)
end
theorem RA.rw {v:V}{d:BT.W} (r:RA K m H v d):RW P w K m H v d:=by
 cases r with
 | p r=>exact .p r
 | r h=>exact .r h
 | o h=>exact .o h
theorem RW.ra {v:V}{d:BT.W} (r:RW P w K m H v d) (h0:BT.attrOk d=true):RA K m H v d:=by
 cases r with
 | p r=>exact .p r
 | r h=>exact .r h
 | o h=>exact .o h
 | k _ _=>cases h0
 | c _ _=>cases h0
 | g _ _=>cases h0
theorem Ext.ix (x:Ext m H m' H') {n:Nat}{a:Addr} (h:m[n]?=some a):m'[n]?=some a:=by
 obtain ⟨e,rfl,_⟩:=x.pre
 rw[List.getElem?_append_left (by rcases Nat.lt_or_ge _ m.length with q | q;exact q;rw[List.getElem?_eq_none q] at h;cases h)]
 exact h
theorem RA.ext (x:Ext m H m' H') {v:V}{d:BT.W} (r:RA K m H v d):RA K m' H' v d:=by
 cases r with
 | p r=>exact .p (r.ext x)
 | r h=>exact .r (x.ix h)
 | o h=>exact .o (x.ix h)
theorem RCs.ext (x:Ext m H m' H') {vs:List V}{cs:List BT.Cp} (r:RCs K m H vs cs):RCs K m' H' vs cs:=by
 induction r with
 | nil=>exact .nil
 | cons r t ih=>exact .cons (r.ext x) ih
theorem RW.ext (x:Ext m H m' H') {v:V}{d:BT.W} (r:RW P w K m H v d):RW P w K m' H' v d:=by
 cases r with
 | p r=>exact .p (r.ext x)
 | r h =>
  obtain ⟨e,rfl,_⟩:=x.pre
  refine .r ?_
  rw[List.getElem?_append_left (by rcases Nat.lt_or_ge _ m.length with q | q;exact q;rw[List.getElem?_eq_none q] at h;cases h)]
  exact h
 | k h r=>exact .k h r
 | c h r=>exact .c (h.ext x) (r.ext x)
 | g h r=>exact .g h r
 | o h =>
  obtain ⟨e,rfl,_⟩:=x.pre
  refine .o ?_
  rw[List.getElem?_append_left (by rcases Nat.lt_or_ge _ m.length with q | q;exact q;rw[List.getElem?_eq_none q] at h;cases h)]
  exact h
theorem RFs.ext (x:Ext m H m' H') {vs:List (Str×V)}{fs:List (Str×BT.W)} (r:RFs K m H vs fs):RFs K m' H' vs fs:=by
 induction r with
 | nil=>exact .nil
 | cons r t ih=>exact .cons (r.ext x) ih
theorem RKs.ext (x:Ext m H m' H') {vs:List (Key×V)}{kvs:List (BT.Ky×BT.D)} (r:RKs K m H vs kvs):RKs K m' H' vs kvs:=by
 induction r with
 | nil=>exact .nil
 | cons hk r t ih=>exact .cons (hk.ext x) (r.ext x) ih
theorem gr.ext (x:Ext m H m' H') {a:Addr} (e:H' a=H a) {c:BT.Cl} (r:gr K m H a c):gr K m' H' a c:=by
 cases c with
 | l xs=>obtain ⟨vs,h1,h2⟩:=r;exact ⟨vs,e.trans h1,h2.ext x⟩
 | o c fs=>obtain ⟨C,dx,vs,h1,h2,h3⟩:=r;exact ⟨C,dx,vs,e.trans h1,h2,h3.ext x⟩
 | d kvs=>obtain ⟨vs,h1,h2⟩:=r;exact ⟨vs,e.trans h1,h2.ext x⟩
theorem gr.some {a:Addr}{c:BT.Cl} (r:gr K m H a c):∃ o,H a=some o:=by
 cases c with
 | l xs=>obtain ⟨vs,h1,h2⟩:=r;exact ⟨_,h1⟩
 | o c fs=>obtain ⟨C,dx,vs,h1,h2,h3⟩:=r;exact ⟨_,h1⟩
 | d kvs=>obtain ⟨vs,h1,h2⟩:=r;exact ⟨_,h1⟩
theorem RWs.ext (x:Ext m H m' H') {vs:List V}{ds:List BT.W} (r:RWs P w K m H vs ds):RWs P w K m' H' vs ds:=by
 induction r with
 | nil=>exact .nil
 | cons r t ih=>exact .cons (r.ext x) ih
theorem RS.ext (x:Ext m H m' H') {σ:L2.St}{s:BT.Sl} (r:RS P w K m H σ s):RS P w K m' H' σ s :=
 ⟨r.len,fun i y e=>by obtain ⟨v,h,q⟩:=r.get i y e;exact ⟨v,h,q.ext x⟩⟩
theorem RDs.length:∀ {vs:List V}{ds:List BT.D},RDs K m H vs ds->vs.length=ds.length
 | _,_,.nil=>rfl
 | _,_,.cons _ t=>by rw[List.length_cons,List.length_cons,RDs.length t]
theorem RWs.length:∀ {vs:List V}{ds:List BT.W},RWs P w K m H vs ds->vs.length=ds.length
 | _,_,.nil=>rfl
 | _,_,.cons _ t=>by rw[List.length_cons,List.length_cons,RWs.length t]
theorem RDs.get:∀ {vs:List V}{ds:List BT.D}{i:Nat}{d:BT.D},RDs K m H vs ds->ds[i]?=some d->∃ v,vs[i]?=some v/\RD K m H v d
 | _,_,_,_,.nil,e=>by simp at e
 | _,_,0,_,.cons r _,e=>by simp at e;subst e;exact ⟨_,rfl,r⟩
 | _,_,i+1,d,.cons _ t,e=>by
  obtain ⟨u,h1,h2⟩:=RDs.get (i:=i) (d:=d) t (by simpa using e)
  exact ⟨u,by simpa using h1,h2⟩
theorem RDs.append:∀ {vs ws:List V}{ds es:List BT.D},RDs K m H vs ds->RDs K m H ws es->RDs K m H (vs++ws) (ds++es)
 | _,_,_,_,.nil,s=>s
 | _,_,_,_,.cons r t,s=>.cons r (RDs.append t s)
theorem RDs.take:∀ {vs:List V}{ds:List BT.D} (n:Nat),RDs K m H vs ds->RDs K m H (vs.take n) (ds.take n)
 | _,_,0,_=>.nil
 | _,_,_+1,.nil=>.nil
 | _,_,n+1,.cons r t=>.cons r (RDs.take n t)
theorem RDs.drop:∀ {vs:List V}{ds:List BT.D} (n:Nat),RDs K m H vs ds->RDs K m H (vs.drop n) (ds.drop n)
 | _,_,0,r=>r
 | _,_,_+1,.nil=>.nil
 | _,_,n+1,.cons _ t=>RDs.drop n t
theorem RDs.set {v:V}{d:BT.D} (r:RD K m H v d):∀ {vs:List V}{ds:List BT.D} (i:Nat),RDs K m H vs ds->RDs K m H (vs.set i v) (ds.set i d)
 | _,_,_,.nil=>.nil
 | _,_,0,.cons _ t=>.cons r t
 | _,_,i+1,.cons q t=>.cons q (RDs.set r i t)
theorem RDs.reverse {vs:List V}{ds:List BT.D} (r:RDs K m H vs ds):RDs K m H vs.reverse ds.reverse:=by
 match r with
 | .nil=>exact .nil
 | .cons r t=>rw[List.reverse_cons,List.reverse_cons];exact RDs.append (RDs.reverse t) (.cons r .nil)
theorem RDs.dropLast:∀ {vs:List V}{ds:List BT.D},RDs K m H vs ds->RDs K m H vs.dropLast ds.dropLast
 | _,_,.nil=>.nil
 | _,_,.cons _ .nil=>.nil
 | _,_,.cons r (.cons q t)=>.cons r (RDs.dropLast (.cons q t))
theorem RDs.rep {vs:List V}{ds:List BT.D} (r:RDs K m H vs ds):∀ k:Nat,RDs K m H (List.replicate k vs).flatten (List.replicate k ds).flatten
 | 0=>.nil
 | k+1=>by
  rw[List.replicate_succ,List.replicate_succ,List.flatten_cons,List.flatten_cons]
  exact RDs.append r (RDs.rep r k)
theorem mD {N:List Addr} (hN:N.Nodup) {i j:Nat}{x:Addr} (a:N[i]?=some x) (b:N[j]?=some x):i=j:=by
 have hi:i < N.length:=by
  rcases Nat.lt_or_ge i N.length with z | z
  ·exact z
  ·rw[List.getElem?_eq_none z] at a;cases a
 have hj:j < N.length:=by
  rcases Nat.lt_or_ge j N.length with z | z
  ·exact z
  ·rw[List.getElem?_eq_none z] at b;cases b
 rw[List.getElem?_eq_getElem hi] at a
 rw[List.getElem?_eq_getElem hj] at b
 exact (List.getElem_inj hN).mp ((Option.some.inj a).trans (Option.some.inj b).symm)
inductive RR (K:PySem.W.Frag) (m:List Addr) (H:Hp):V->BT.D->Prop where
 | d {v:V}{d:BT.D} (r:RD K m H v d):RR K m H v d
 | l {a:Addr}{vs:List V}{ds:List BT.D} (h:H a=some (.lst vs)) (r:RDs K m H vs ds):RR K m H (.ref a) (.lst ds)
theorem aP {h:BT.HH} (RHh:RH K m H h) {v:V}{x:BT.W}{d:BT.D} (r:RW P w K m H v x) (e:BT.rd x h=some d):RR K m H v d:=by
 cases r with
 | p r=>cases e;exact .d r
 | @r a n q =>
  simp only[BT.rd] at e
  cases g:BT.lat h n with
  | none=>rw[g] at e;cases e
  | some xs =>
   rw[g] at e
   cases e
   obtain ⟨vs,h1,h2⟩:=RHh.cell n a xs q g
   exact .l h1 h2
 | k _ _=>cases e
 | o _=>cases e
 | c _ _=>cases e
 | g _ _=>cases e
theorem RR.lst {v:V}{ds:List BT.D} (r:RR K m H v (.lst ds)):∃ a vs,v=.ref a/\LL K H a vs/\RDs K m H vs ds:=by
 cases r with
 | d r=>cases r with | lst h r=>exact ⟨_,_,rfl,h.elim (fun q=>.inl q.1) .inr,r⟩
 | l h r=>exact ⟨_,_,rfl,.inl (.inl h),r⟩
theorem RR.tup {v:V}{ds:List BT.D} (r:RR K m H v (.tup ds)):∃ a vs,v=.ref a/\SqT K H a vs/\RDs K m H vs ds:=by
 cases r with
 | d r=>cases r with | tup h r=>exact ⟨_,_,rfl,h.elim (fun q=>.inl q.1) (fun ⟨o,its,n,q,_⟩=>.inr ⟨o,its,n,q⟩),r⟩
theorem RR.int {v:V}{i:Int} (r:RR K m H v (.int i)):v=.int i:=by
 cases r with | d r=>cases r;rfl
theorem RR.str {v:V}{x:Str} (r:RR K m H v (.str x)):v=.str x/\PyData.strOk x=true:=by
 cases r with | d r=>cases r with | str _ h=>exact ⟨rfl,h⟩
theorem RR.bl {v:V}{b:Bool} (r:RR K m H v (.bl b)):v=.bl b:=by
 cases r with | d r=>cases r;rfl
theorem RR.non {v:V} (r:RR K m H v .non):v=.non:=by
 cases r with | d r=>cases r;rfl
theorem TB.new {p:Addr}{o:HO} (hp:H p=none) {K:PySem.W.Frag} (h:TB K H):TB K (upd H p o) :=
 h.mono (fun P ps e=>by rw[av (aC e hp)];exact e) fun a o _ _ e=>by rw[av (aC e hp)];exact e
theorem fO {p:Addr}{o:HO} (hp:H p=none):Ext m H m (upd H p o) :=
 ⟨⟨[],by simp,by simp⟩,fun a q h _ _=>by rw[av (aC h hp)];exact h,fun a h=>by
  by_cases e:a=p
  ·rw[e];exact hp
  ·rw[av e] at h;exact h⟩
theorem RH.ef {h:BT.HH} (R:RH K m H h) {p:Addr} (hp:H p=none):p∉m:=by
 intro q
 obtain ⟨i,hi⟩:=List.getElem?_of_mem q
 have hl:i < h.length:=by
  rw[← R.len]
  rcases Nat.lt_or_ge i m.length with z | z
  ·exact z
  ·rw[List.getElem?_eq_none z] at hi;cases hi
 obtain ⟨o,e⟩:=(R.cl i p h[i] hi (List.getElem?_eq_getElem hl)).some
 rw[e] at hp;cases hp
noncomputable def Le (H H':Hp):Prop:=∀ a u,H a=some u->H' a=some u
theorem Le.tb (q:Le H H') {K:PySem.W.Frag} (t:TB K H):TB K H':=t.mono (fun _ _ e=>q _ _ e) fun _ _ _ _ e=>q _ _ e
theorem wm {p:Addr}{o:HO} (hp:H p=none):Le H (upd H p o):=fun a u e=>by rw[av (aC e hp)];exact e
theorem RH.ext {h:BT.HH} (R:RH K m H h) (x:Ext m H m H') (k:Le H H'):RH K m H' h :=
 ⟨R.nd,R.len,fun i a c e1 e2=>by
  obtain ⟨o,e⟩:=(R.cl i a c e1 e2).some
  exact (R.cl i a c e1 e2).ext x (by rw[e];exact k _ _ e),k.tb R.tb⟩
noncomputable def Ds:HO->Bool
 | .lst _=>true
 | .ins _ _ _=>true
 | .dK _=>true
 | _=>false
theorem RH.mu {h:BT.HH} (R:RH K m H h) {a:Addr} (ha:a∈m):∃ o,H a=some o/\Ds o=true:=by
 obtain ⟨i,hi⟩:=List.getElem?_of_mem ha
 have hl:i < h.length:=by
  rw[← R.len]
  rcases Nat.lt_or_ge i m.length with z | z
  ·exact z
  ·rw[List.getElem?_eq_none z] at hi;cases hi
 have z:=R.cl i a h[i] hi (List.getElem?_eq_getElem hl)
 cases g:h[i] with
 | l xs=>rw[g] at z;obtain ⟨vs,h1,h2⟩:=z;exact ⟨_,h1,rfl⟩
 | o c fs=>rw[g] at z;obtain ⟨C,dx,vs,h1,h2,h3⟩:=z;exact ⟨_,h1,rfl⟩
 | d kvs=>rw[g] at z;obtain ⟨vs,h1,h2⟩:=z;exact ⟨_,h1,rfl⟩
theorem RH.nin {h:BT.HH} (R:RH K m H h) {a:Addr}{o:HO} (e:H a=some o) (n:Ds o=false):a∉m:=fun z=>by
 obtain ⟨u,h1,h2⟩:=R.mu z
 rw[e] at h1;cases h1
 rw[n] at h2;cases h2
theorem RH.new {h:BT.HH} (R:RH K m H h) {p:Addr}{o:HO} (hp:H p=none):RH K m (upd H p o) h :=
 R.ext (fO hp) (wm hp)
theorem gu {p:Addr}{o:HO} (hp:H p=none):Ext m H (m++[p]) (upd H p o) :=
 ⟨⟨[p],rfl,by simpa using hp⟩,fun a q h _ _=>by rw[av (aC h hp)];exact h,fun a h=>by
  by_cases e:a=p
  ·rw[e];exact hp
  ·rw[av e] at h;exact h⟩
theorem RH.Dt {h:BT.HH} (R:RH K m H h) {p:Addr}{o:HO}{c:BT.Cl} (hp:H p=none) (r:gr K (m++[p]) (upd H p o) p c):RH K (m++[p]) (upd H p o) (h++[c]):=by
 have np:=R.ef hp
 have x:Ext m H (m++[p]) (upd H p o):=gu hp
 refine ⟨List.nodup_append.mpr ⟨R.nd,by simp,fun a ha b hb=>by simp at hb;subst hb;exact fun e=>np (e ▸ ha)⟩,by simp[R.len],fun i a ys e1 e2=>?_,R.tb.new hp⟩
 by_cases c:i < m.length
 ·rw[List.getElem?_append_left c] at e1
  rw[List.getElem?_append_left (by rw[← R.len];exact c)] at e2
  have ne:a≠p:=by
   intro e
   subst e
   exact np (List.mem_of_getElem? e1)
  exact (R.cl i a ys e1 e2).ext x (av ne)
 ·have e:i=m.length:=by
   rcases Nat.lt_or_ge i (m++[p]).length with z | z
   ·simp at z;omega
   ·rw[List.getElem?_eq_none z] at e1;cases e1
  subst e
  simp at e1
  rw[R.len] at e2
  simp at e2
  subst e1 e2
  exact r
theorem RH.JU {h:BT.HH} (R:RH K m H h) {p:Addr}{vs:List V}{xs:List BT.D} (hp:H p=none) (r:RDs K m H vs xs):RH K (m++[p]) (upd H p (.lst vs)) (h++[.l xs]) :=
 R.Dt hp ⟨vs,aL,r.ext (gu hp)⟩
theorem TB.set {a:Addr}{o:HO} (hm:∃ u,H a=some u/\Ds u=true) {K:PySem.W.Frag} (h:TB K H):TB K (upd H a o):=by
 obtain ⟨w,hw,hu⟩:=hm
 refine h.mono (fun P ps e=>?_) fun b ob _ _ e=>?_
 ·rw[av (fun z=>by subst z;rw[hw] at e;cases e;cases hu)];exact e
 ·rw[av (fun z=>by subst z;rw[hw] at e;cases e;cases hu)];exact e
theorem iU {a:Addr}{o:HO} (ha:a∈m):Ext m H m (upd H a o) :=
 ⟨⟨[],by simp,by simp⟩,fun b u q n _=>by
  have ne:b≠a:=by
   intro e
   subst e
   exact n ha
  rw[av ne];exact q,fun b q=>by
  by_cases e:b=a
  ·subst e;rw[aL] at q;cases q
  ·rw[av e] at q;exact q⟩
theorem fG {a:Addr}{vs us:List V} (ha:a∈m) (h:H a=some (.lst us)):Ext m H m (upd H a (.lst vs)):=iU ha
theorem RH.setC {h:BT.HH} (R:RH K m H h) {n:Nat}{a:Addr}{o:HO}{c:BT.Cl} (hn:m[n]?=some a) (r:gr K m (upd H a o) a c):RH K m (upd H a o) (h.set n c):=by
 have x:Ext m H m (upd H a o):=iU (List.mem_of_getElem? hn)
 refine ⟨R.nd,by simp[R.len],fun i b ys e1 e2=>?_,R.tb.set (R.mu (List.mem_of_getElem? hn))⟩
 by_cases c:i=n
 ·subst c
  rw[hn] at e1;cases e1
  have hl:i < h.length:=by
   rw[← R.len]
   rcases Nat.lt_or_ge i m.length with z | z
   ·exact z
   ·rw[List.getElem?_eq_none z] at hn;cases hn
  rw[List.getElem?_set_self hl] at e2
  cases e2
  exact r
 ·rw[List.getElem?_set_ne (Ne.symm c)] at e2
  have ne:b≠a:=by
   intro e
   subst e
   exact c (mD R.nd e1 hn)
  exact (R.cl i b ys e1 e2).ext x (av ne)
theorem RH.set {h:BT.HH} (R:RH K m H h) {n:Nat}{a:Addr}{vs us:List V}{xs:List BT.D} (hn:m[n]?=some a) (hH:H a=some (.lst us)) (r:RDs K m H vs xs):RH K m (upd H a (.lst vs)) (h.set n (.l xs)) :=
 R.setC hn ⟨vs,aL,r.ext (fG (List.mem_of_getElem? hn) hH)⟩
end
end BS
end
section
namespace BS
open PySem PySem.Spec PyProof.Rows L2 PySem.SeqAt
theorem jP {M:Model}{A:Around}{E:Value->Shared->Prop}{s:Shared}{β:Type} (f:Nat->β->Sem (ForInStep β)) (n:Nat) (I:Nat->β->Shared->Prop) (Q:β->Shared->Prop)
 (turn:∀ i b s,i < n->I i b s->wpAny M A (f i b) (fun r s'=>match r with | .yield b'=>I (i+1) b' s' | .done b'=>Q b' s') E s)
 (fin:∀ b s,I n b s->Q b s) (b:β) (h:I 0 b s):wpAny M A (forIn [:n] b f) Q E s:=by
 rw[Std.Legacy.Range.forIn_eq_forIn_range']
 have e:List.range' [:n].start [:n].size [:n].step=List.range' 0 (n - 0):=by simp[Std.Legacy.Range.size]
 rw[e]
 refine wpAny_forIn_list f (fun rest b s=>∃ i,i<=n/\rest=List.range' i (n - i)/\I i b s) Q (fun x rest b s ⟨i,hi,hr,q⟩=>?_) (fun b s ⟨i,hi,hr,q⟩=>?_) _ b ⟨0,Nat.zero_le _,rfl,h⟩
 ·have hlt:i < n:=by
   rcases Nat.lt_or_ge i n with z | z
   ·exact z
   ·rw[show n - i=0 by omega] at hr;simp at hr
  rw[show n - i=(n - (i+1))+1 by omega,List.range'_succ] at hr
  injection hr with e1 e2
  subst e1
  refine wpAny_mono (turn x b s hlt q) (fun r s' z=>?_) fun _ _ z=>z
  cases r with
  | yield b'=>exact ⟨x+1,hlt,e2,z⟩
  | done b'=>exact z
 ·have:i=n:=by
   rcases Nat.lt_or_ge i n with z | z
   ·rw[show n - i=(n - (i+1))+1 by omega,List.range'_succ] at hr;simp at hr
   ·omega
  subst this
  exact fin b s q
theorem lI (l:Addr) (items:Array Value) (n:Nat) (dd:Option Addr) (sl:Array (Option Value)) (x:Value) (e:Value->Bool) (j:Nat) (hj:j < items.size)
 (hit:e items[j]=true) (hno:∀ m (hm:m < items.size),m < j->e items[m]=false) :
 Meets (Builtin.«tuple.index» ⟨[.ref l,x],[]⟩)
  (fun A R s=>s.heap.get? l=some { cls:=.type "tuple",dict:=dd,data:=.seq items n,slots:=sl }/\(∀ y,y∈items->EqAt A.in1 s y x (e y))/\R (.ok (.ret (.int j s.toks))) { s with toks:=s.toks+1 }) :=
 .of_wp fun prog w A R s h=>by
 obtain ⟨hp,g,d,tk,os⟩:=s;obtain ⟨hl,he,h⟩:=h
 wp_walk using wpAny_loadPart' hl,jP _ _ (fun i b s'=>i<=j/\b.1=none/\s'=⟨hp,g,d,tk,os⟩) _
 case turn =>
  rintro i b s' hi ⟨hij,hb,rfl⟩
  have hi':i < items.size:=by omega
  rw[Array.getElem?_eq_getElem hi']
  refine wpAny_bind (he _ (Array.getElem_mem hi') prog w _ _ ?_)
  by_cases c:i=j
  ·subst c
   rw[hit]
   wp_walk
   exact ⟨_,rfl,h⟩
  ·rw[hno i hi' (by omega)]
   wp_walk
   exact ⟨by omega,rfl,rfl⟩
 case fin =>
  rintro b s' ⟨hij,_,_⟩
  omega
 case h=>exact ⟨Nat.zero_le _,rfl,rfl⟩
theorem qB (l:Addr) (items:Array Value) (n:Nat) (dd:Option Addr) (sl:Array (Option Value)) (k:Int) (t:Tok) (h1:-1000<=k) (h2:k<=1000) (c1:¬ items.isEmpty=true) (c2:k≠1) (c3:0 < k) (hz:items.size*k.toNat<=sizeLine) :
 Meets (Builtin.«tuple.__mul__» ⟨[.ref l,.int k t],[]⟩)
  (fun A R s=>s.heap.get? l=some { cls:=.type "tuple",dict:=dd,data:=.seq items n,slots:=sl }/\R (.ok (.ret (.ref s.heap.objs.size))) { s with heap:=s.heap.push { cls:=.type "tuple",data:=.seq ((List.replicate k.toNat items).foldl (fun x1 x2=>x1++x2) #[]) } }) :=
 .of_wp fun prog w A R s h=>by
 obtain ⟨hp,g,d,tk,os⟩:=s;obtain ⟨hl,h⟩:=h
 have f1:=AutoSeq1.idx_int
 have a1:¬ (decide (k < -2 ^ 63)||decide (k ≥ 2 ^ 63))=true:=by simp;omega
 have a2:¬ (items.isEmpty||k==1)=true:=by simp at c1 ⊢;exact ⟨c1,c2⟩
 have a3:¬ (decide (k<=0)||items.isEmpty)=true:=by simp at c1 ⊢;exact ⟨by omega,c1⟩
 have kk:(k.toNat:Int)=k:=by omega
 have a4:¬ ((items.size:Int)*k > (2 ^ 63 - 1) / 8):=by
  have z:((items.size*k.toNat:Nat):Int)<=(sizeLine:Nat):=Int.ofNat_le.mpr hz
  rw[Int.natCast_mul,kk] at z
  have z2:((sizeLine:Nat):Int)<=(2 ^ 63 - 1) / 8:=by decide
  omega
 have a5:¬ Builtin.Tuple.tupleTooMany ((items.size:Int)*k)=true:=by
  have z:((items.size*k.toNat:Nat):Int)<=(sizeLine:Nat):=Int.ofNat_le.mpr hz
  rw[Int.natCast_mul,kk] at z
  simp only[Builtin.Tuple.tupleTooMany,decide_eq_true_eq]
  omega
 have hsz:sizeOk (.seq ((List.replicate k.toNat items).foldl (fun x1 x2=>x1++x2) #[])):=by
  show ((List.replicate k.toNat items).foldl (fun x1 x2=>x1++x2) #[]).size<=sizeLine
  rw[AutoListH.size_joined,Array.size_empty,Nat.mul_comm];omega
 wp_walk using wpAny_loadPart' hl
 rw[if_neg a1]
 wp_walk using wpAny_loadPart' hl
 refine wpAny_ite_split (fun c=>absurd c ?_) (fun _=>?_)
 ·intro c;have a6:=a4;simp at a6 c;omega
 wp_walk using wpAny_loadPart' hl
 refine wpAny_ite_false (decide_eq_false (Nat.not_lt.mpr hsz)) ?_
 wp_walk
 exact ⟨_,rfl,h⟩
theorem jt:fillsNumberSlot (.type "tuple") "mul"=pure false :=
 PySem.fillsNumberSlot_seq (id:="tuple.__mul__") (r:=some (.builtin "tuple.__rmul__")) F.slot_tuple_mul.lookup (by decide +kernel) F.slot_tuple_rmul.lookup (by decide +kernel)
theorem nu:seqRepeat? (.type "tuple")=pure (some (.builtin "tuple.__mul__")):=by
 unfold seqRepeat?
 rw[PySem.seqSlot_of (T:="tuple") (name:="__mul__") (id:="tuple.__mul__") F.slot_tuple_mul.lookup (by decide +kernel),PySem.seqSlot_of (T:="tuple") (name:="__rmul__") (id:="tuple.__rmul__") F.slot_tuple_rmul.lookup (by decide +kernel)]
 rfl
theorem kI (a:Int) (t:Tok) (l:Addr) (items:Array Value) (n:Nat) (dd:Option Addr) (sl:Array (Option Value)) :
 Meets (Builtin.«int.__rmul__» ⟨[.int a t,.ref l],[]⟩) (fun _ R s=>s.heap.get? l=some { cls:=.type "tuple",dict:=dd,data:=.seq items n,slots:=sl }/\R (.ok (.ret Value.notImplemented)) s) :=
 .of_wp fun prog w A R s h=>by obtain ⟨hp,g,d,tk,os⟩:=s;obtain ⟨hl,h⟩:=h;wp_walk;exact ⟨_,rfl,h⟩
theorem jQ (l:Addr) (items:Array Value) (n:Nat) (b:Addr) (items2:Array Value) (n2:Nat) (dd:Option Addr) (sl:Array (Option Value)) (hs0:¬(!items.isEmpty&&Builtin.List.listTooLong (items.size+items2.size))=true) (hs1:items.size<=sizeLine) (hs2:items.size+items2.size<=sizeLine+1) :
 Meets (Builtin.«list.extend» ⟨[.ref l,.ref b],[]⟩) (fun _ R s=>s.heap.get? l=some { cls:=.type "list",dict:=none,data:=.seq items n,slots:=#[] }/\s.heap.get? b=some { cls:=.type "tuple",dict:=dd,data:=.seq items2 n2,slots:=sl }/\R (.ok (.ret Value.none)) { s with heap:=s.heap.update l (Obj.mapSeq fun x=>x++items2),toks:=s.toks }) :=
 .of_wp fun prog w A R s h=>by
  obtain ⟨hp,g,d,tk,os⟩:=s;obtain ⟨hl,hb,h⟩:=h;have f1:=AutoSeq1.idx_int;have f2:=AutoSeq1.sub_tuple_tuple;have f3:=AutoSeq1.sub_list_list;have f4:=AutoSeq1.sub_tuple_list;have f5:=AutoSeq1.sub_list_tuple
  have hz':(items++items2).size<=sizeLine+1:=by rw[Array.size_append];exact hs2
  wp_walk using (wpAny_updateSeq hl rfl (hz:=hs1) (_hz':=hz')),wpAny_loadPart' hl,wpAny_loadPart' hb;exact ⟨_,rfl,h⟩
end BS
end
section
namespace BS
open PySem PySem.Spec PyProof.Rows L2
theorem ao {α β:Type}{x:Option (α×BT.HH)}{k:α->BT.HH->Option β}{r:β} (h:BT.bnd x k=some r):∃ a g,x=some (a,g)/\k a g=some r:=by
 cases x with
 | none=>cases h
 | some q=>exact ⟨q.1,q.2,rfl,h⟩
theorem aR {α β:Type}{x:Option α}{f:α->β}{r:β} (h:x.map f=some r):∃ a,x=some a/\f a=r:=by
 cases x with
 | none=>cases h
 | some a=>exact ⟨a,rfl,Option.some.inj h⟩
noncomputable def Post (P:Program) (w:World) (K:PySem.W.Frag) (m:List Addr) (H:Hp) (z:BT.W) (h':BT.HH) (Q:VK):Prop :=
 ∀ v H' m',Ext m H m' H'->RH K m' H' h'->RW P w K m' H' v z->Q v H'
noncomputable def rOp (P:Program) (w:World) (K:PySem.W.Frag) (f:BT.W->BT.W->BT.HH->Option (BT.W×BT.HH)):R2:=fun v u H Q =>
 ∃ m h x y z h',RH K m H h/\RW P w K m H v x/\RW P w K m H u y/\f x y h=some (z,h')/\Post P w K m H z h' Q
theorem gS {o:BT.Bin}{x y:BT.W}{h:BT.HH}{z:BT.W}{h':BT.HH} (e:BT.lH o x y h=some (z,h')):∃ d d' q,BT.rd x h=some d/\BT.rd y h=some d'/\BT.jo o d d'=some q/\z=.p q/\h'=h:=by
 unfold BT.lH at e
 cases e1:BT.rd x h with
 | none=>rw[e1] at e;cases e
 | some d =>
  cases e2:BT.rd y h with
  | none=>rw[e1,e2] at e;cases e
  | some d' =>
   rw[e1,e2] at e
   obtain ⟨q,eq,er⟩:=aR e
   cases er
   exact ⟨d,d',q,rfl,rfl,eq,rfl,rfl⟩
section
variable {X:Cx}
theorem dh:BT.lim<=sizeLine:=by decide
theorem rdL {pins:List (Addr×Obj)}{σ:L2.St}{H:Hp}{s:Shared}{a:Addr}{xs:List V} (I:Inv X pins σ H s) (r:LL X.K H a xs) :
 xs.length<=sizeLine/\∃ (its:List Value) (n:Nat),aq xs its/\xs.length=its.length/\s.heap.get? a=some { cls:=.type "list",data:=.seq its.toArray n }:=by
 rcases r with r | ⟨its,n,h1,h2,h3⟩
 ·obtain ⟨z,its,n,r,e⟩:=r.ok I.hok
  exact ⟨z,its,n,r,r.length,e⟩
 ·exact ⟨by rw[h3.length];exact h2,its,n,h3,h3.length,I.kIn a _ h1⟩
theorem wo {pins:List (Addr×Obj)}{s:Shared}{σ:L2.St}{H:Hp}{a b:Addr}{xs ys:List V}{Q:VK} (I:Inv X pins σ H s) (ha:LL X.K H a xs) (hb:LL X.K H b ys) (hz:xs.length+ys.length<=sizeLine)
 (q:∀ p,H p=none->Q (.ref p) (upd H p (.lst (xs++ys)))):wpAny (model X.prog X.w) X.A (binaryOp .Add (.ref a) (.ref b)) (EP X pins σ Q) X.xe s:=by
 obtain ⟨z,its,n,r,hl,e⟩:=rdL I ha
 obtain ⟨z2,its2,n2,r2,hl2,e2⟩:=rdL I hb
 refine PySem.P.add_list e e2 ?_ (by rw[List.size_toArray,List.size_toArray];omega)
 have ea:its.toArray++its2.toArray=(its++its2).toArray:=by simp
 rw[ea]
 exact ⟨.ref _,_,I.F3 (t':=s.toks) (r.append r2) (by rw[List.length_append];omega),rfl,q _ I.fresh⟩
theorem ua {pins:List (Addr×Obj)}{s:Shared}{σ:L2.St}{H:Hp}{a b:Addr}{xs ys:List V}{Q:VK} (I:Inv X pins σ H s) (ha:SqT X.K H a xs) (hb:SqT X.K H b ys) (hz:xs.length+ys.length<=sizeLine)
 (q0:xs=[]->Q (.ref b) H) (q1:ys=[]->Q (.ref a) H) (q:∀ p,H p=none->Q (.ref p) (upd H p (.tup (xs++ys)))):wpAny (model X.prog X.w) X.A (binaryOp .Add (.ref a) (.ref b)) (EP X pins σ Q) X.xe s:=by
 by_cases c:xs=[]
 ·obtain ⟨its,r1,p1,_⟩:=I.tuple ha
  obtain ⟨its2,r2,p2,_⟩:=I.tuple hb
  obtain ⟨⟨cls,dd,data,sl⟩,ho,hc,n,hd⟩:=id p1
  obtain ⟨⟨cls2,dd2,data2,sl2⟩,ho2,hc2,n2,hd2⟩:=id p2
  simp only at hc hd hc2 hd2
  subst hc hd hc2 hd2
  have z:its=[]:=r1.iP.mpr c
  exact concat_meets ⟨_,ho,rfl⟩ ⟨_,ho2,rfl⟩ noFill_tuple_add seq_tuple_add PySem.F.slot_tuple_add PySem.F.entry_tuple_add (PySem.F.args_tuple_add_2 _ _)
   (tuple_addW0 a b its.toArray its2.toArray n n2 dd dd2 sl sl2 (by simp[z])) ⟨ho,ho2,⟨.ref b,H,I,rfl,q0 c⟩⟩
 ·exact yW pins s σ H (.ref a) (.ref b) _ _ Q I rfl rfl ⟨a,b,xs,ys,rfl,rfl,ha,hb,c,hz,q1,fun _=>q⟩
theorem SqT.rep {m:List Addr}{H:Hp}{v:V}{ds:List BT.D} (r:RD X.K m H v (.tup ds)):RR X.K m H v (.tup ds):=.d r
theorem iV {m:List Addr}{H:Hp}{h:BT.HH}{p:Addr}{vs:List V}{ds:List BT.D}{Q:VK} (R:RH X.K m H h) (hp:H p=none) (r:RDs X.K m H vs ds) (post:Post X.prog X.w X.K m H (.p (.tup ds)) h Q):Q (.ref p) (upd H p (.tup vs)) :=
 post _ _ m (fO hp) (R.new hp) (.p (.tup (.inl ⟨.inl aL,R.ef hp⟩) (r.ext (fO hp))))
theorem iW {m:List Addr}{H:Hp}{h:BT.HH}{p:Addr}{vs:List V}{ds:List BT.D}{Q:VK} (R:RH X.K m H h) (hp:H p=none) (r:RDs X.K m H vs ds) (post:Post X.prog X.w X.K m H (.p (.lst ds)) h Q):Q (.ref p) (upd H p (.lst vs)) :=
 post _ _ m (fO hp) (R.new hp) (.p (.lst (.inl ⟨.inl aL,R.ef hp⟩) (r.ext (fO hp))))
theorem rG {m:List Addr}{H:Hp}{h:BT.HH}{p:Addr}{vs:List V}{ds:List BT.D}{Q:VK} (R:RH X.K m H h) (hp:H p=none) (r:RDs X.K m H vs ds) (post:Post X.prog X.w X.K m H (.r h.length) (h++[.l ds]) Q):Q (.ref p) (upd H p (.lst vs)) :=
 post _ _ (m++[p]) (gu hp) (R.JU hp r) (.r (by rw[← R.len];simp))
theorem nv {m:List Addr}{H:Hp}{h:BT.HH}{p:Addr}{vs:List V}{ds:List BT.D}{Q:VK}{mu:Bool} (R:RH X.K m H h) (hp:H p=none) (r:RDs X.K m H vs ds) (post:Post X.prog X.w X.K m H (BT.new mu ds h).1 (BT.new mu ds h).2 Q):Q (.ref p) (upd H p (.lst vs)):=by
 cases mu with
 | false=>exact iW R hp r post
 | true=>exact rG R hp r post
theorem Post.here {m:List Addr}{H:Hp}{h:BT.HH}{Q:VK}{v:V}{d:BT.D} (R:RH X.K m H h) (post:Post X.prog X.w X.K m H (.p d) h Q) (r:RD X.K m H v d):Q v H:=post v H m (.refl _ _) R (.p r)
theorem ny {x y:Str} (hx:PyData.strOk x=true) (hy:PyData.strOk y=true):PyData.strOk (x++y)=true:=by
 show (x.cps++y.cps).all _=true
 rw[Array.all_append]
 simp only[PyData.strOk] at hx hy
 rw[hx,hy];rfl
theorem Du:OpR X (binaryOp .Add) (rOp X.prog X.w X.K (BT.lH .add)):=by
 intro pins s σ H v u v' u' Q I rv ru h
 obtain ⟨m,h,x,y,z,h',R,rx,ry,e,post⟩:=h
 obtain ⟨d,d',q,e1,e2,e3,rfl,rfl⟩:=gS e
 have r1:=aP R rx e1
 have r2:=aP R ry e2
 cases d<;>cases d'<;>first | (cases e3;done) | simp only[BT.fB,BT.dF,BT.dG,BT.dH,BT.fC,BT.fD,BT.dI,BT.dJ,BT.fE,BT.dZ,BT.fF] at e3
 ·cases e3
  cases r1.int;cases r2.int
  exact Cw pins s σ H _ _ _ _ Q I rv ru ⟨_,_,rfl,rfl,post.here R (.int _)⟩
 ·split at e3
  ·rename_i c
   cases e3
   obtain ⟨ev,ov⟩:=r1.str
   obtain ⟨eu,ou⟩:=r2.str
   subst ev;subst eu
   have:=dh
   exact qe pins s σ H _ _ _ _ Q I rv ru ⟨_,_,rfl,rfl,by omega,post.here R (.str _ (ny ov ou))⟩
  ·cases e3
 ·split at e3
  ·rename_i c
   cases e3
   obtain ⟨a,vs,rfl,ha,ra⟩:=r1.tup
   obtain ⟨b,us,rfl,hb,rb⟩:=r2.tup
   cases rv;cases ru
   have l1:=ra.length
   have l2:=rb.length
   have:=dh
   refine ua I ha hb (by omega) (fun z=>?_) (fun z=>?_) fun p hp=>iV R hp (ra.append rb) post
   ·subst z;cases ra
    cases r2 with | d r=>exact post.here R r
   ·subst z;cases rb
    rw[List.append_nil] at post
    cases r1 with | d r=>exact post.here R r
  ·cases e3
 ·split at e3
  ·rename_i c
   cases e3
   obtain ⟨a,vs,rfl,ha,ra⟩:=r1.lst
   obtain ⟨b,us,rfl,hb,rb⟩:=r2.lst
   cases rv;cases ru
   have l1:=ra.length
   have l2:=rb.length
   have:=dh
   exact wo I ha hb (by omega) fun p hp=>iW R hp (ra.append rb) post
  ·cases e3
theorem Dv:OpR X (binaryOp .Sub) (rOp X.prog X.w X.K (BT.lH .sub)):=by
 intro pins s σ H v u v' u' Q I rv ru h
 obtain ⟨m,h,x,y,z,h',R,rx,ry,e,post⟩:=h
 obtain ⟨d,d',q,e1,e2,e3,rfl,rfl⟩:=gS e
 have r1:=aP R rx e1
 have r2:=aP R ry e2
 cases d<;>cases d'<;>first | (cases e3;done) | simp only[BT.fB,BT.dF,BT.dG,BT.dH,BT.fC,BT.fD,BT.dI,BT.dJ,BT.fE,BT.dZ,BT.fF] at e3
 cases e3
 cases r1.int;cases r2.int
 exact Cy pins s σ H _ _ _ _ Q I rv ru ⟨_,_,rfl,rfl,post.here R (.int _)⟩
theorem Dw:OpR X (binaryOp .Mod) (rOp X.prog X.w X.K (BT.lH .mod)):=by
 intro pins s σ H v u v' u' Q I rv ru h
 obtain ⟨m,h,x,y,z,h',R,rx,ry,e,post⟩:=h
 obtain ⟨d,d',q,e1,e2,e3,rfl,rfl⟩:=gS e
 have r1:=aP R rx e1
 have r2:=aP R ry e2
 cases d<;>cases d'<;>first | (cases e3;done) | simp only[BT.fB,BT.dF,BT.dG,BT.dH,BT.fC,BT.fD,BT.dI,BT.dJ,BT.fE,BT.dZ,BT.fF] at e3
 split at e3
 ·rename_i c
  cases e3
  cases r1.int;cases r2.int
  exact CA pins s σ H _ _ _ _ Q I rv ru ⟨_,_,rfl,rfl,c,post.here R (.int _)⟩
 ·cases e3
theorem zG:OpR X (binaryOp .FloorDiv) (rOp X.prog X.w X.K (BT.lH .fdiv)):=by
 intro pins s σ H v u v' u' Q I rv ru h
 obtain ⟨m,h,x,y,z,h',R,rx,ry,e,post⟩:=h
 obtain ⟨d,d',q,e1,e2,e3,rfl,rfl⟩:=gS e
 have r1:=aP R rx e1
 have r2:=aP R ry e2
 cases d<;>cases d'<;>first | (cases e3;done) | simp only[BT.fB,BT.dF,BT.dG,BT.dH,BT.fC,BT.fD,BT.dI,BT.dJ,BT.fE,BT.dZ,BT.fF] at e3
 split at e3
 ·rename_i c
  simp only[Bool.and_eq_true,decide_eq_true_eq] at c
  cases e3
  cases r1.int;cases r2.int
  exact yJ pins s σ H _ _ _ _ Q I rv ru ⟨_,_,rfl,rfl,⟨c.1,c.2⟩,post.here R (.int _)⟩
 ·cases e3
theorem nA {i:Int} (h:BT.big i=true):-(2 ^ 64) < i/\i < 2 ^ 64:=by
 unfold BT.big at h
 have:=of_decide_eq_true h
 omega
theorem Dy:OpR X (binaryOp .Pow) (rOp X.prog X.w X.K (BT.lH .pow)):=by
 intro pins s σ H v u v' u' Q I rv ru h
 obtain ⟨m,h,x,y,z,h',R,rx,ry,e,post⟩:=h
 obtain ⟨d,d',q,e1,e2,e3,rfl,rfl⟩:=gS e
 have r1:=aP R rx e1
 have r2:=aP R ry e2
 cases d<;>cases d'<;>first | (cases e3;done) | simp only[BT.fB,BT.dF,BT.dG,BT.dH,BT.fC,BT.fD,BT.dI,BT.dJ,BT.fE,BT.dZ,BT.fF] at e3
 split at e3
 ·rename_i c
  simp only[Bool.and_eq_true,decide_eq_true_eq] at c
  cases e3
  cases r1.int;cases r2.int
  refine CB pins s σ H _ _ _ _ Q I rv ru ⟨_,_,rfl,rfl,⟨c.1.1,by omega,?_⟩,post.here R (.int _)⟩
  exact of_decide_eq_true c.2
 ·cases e3
theorem uc {pins:List (Addr×Obj)}{s:Shared}{σ:L2.St}{H:Hp}{a:Addr}{xs:List V}{k:Int}{t:Tok}{Q:VK} (I:Inv X pins σ H s) (ha:SqT X.K H a xs) (h1:2<=k) (h2:k<=1000) (hne:xs≠[]) (hz:xs.length*k.toNat<=sizeLine)
 (q:∀ p,H p=none->Q (.ref p) (upd H p (.tup (List.replicate k.toNat xs).flatten))):wpAny (model X.prog X.w) X.A (binaryOp .Mult (.ref a) (.int k t)) (EP X pins σ Q) X.xe s:=by
 obtain ⟨its,r,p,_⟩:=I.tuple ha
 obtain ⟨⟨cls,dd,data,sl⟩,e,hc,n,hd⟩:=id p
 simp only at hc hd
 subst hc hd
 have hl:=r.length
 have hlen:its.toArray.size*k.toNat<=sizeLine:=by rw[List.size_toArray,← hl];exact hz
 have f0:List.foldl (fun x1 x2=>x1++x2) #[] (List.replicate k.toNat its.toArray)=(List.replicate k.toNat its).flatten.toArray:=by
  have:=foldl_rep its k.toNat []
  rw[List.nil_append] at this
  exact this
 have hi:¬ its.toArray.isEmpty=true:=by
  intro z
  have z2:its=[]:=by simpa using z
  exact hne (r.iP.mp z2)
 refine wpAny_binaryOp_repeat_ref (T:="tuple") (U:="int") (by decide) ⟨_,e,rfl⟩ (fun s'=>typeIs_int s' k t) jt F.fills_int_mul F.slot_int_rmul nu F.slot_int_index.lookup
  (call_meets F.slot_int_rmul (typeIs_int s k t) F.entry_int_rmul (F.args_int_rmul_2 _ _) (kI k t a its.toArray n dd sl)
   ⟨e,rfl,⟨_,e,rfl⟩,call_meets F.slot_tuple_mul ⟨_,e,rfl⟩ F.entry_tuple_mul (F.args_tuple_mul_2 _ _) (qB a its.toArray n dd sl k t (by omega) h2 hi (by omega) (by omega) hlen) ⟨e,?_⟩⟩)
 rw[f0]
 have hf:H s.heap.objs.size=none:=I.hok.fresh (Nat.le_refl _)
 refine ⟨.ref s.heap.objs.size,_,I.laid (t':=s.toks) (o:=.tup (List.replicate k.toNat xs).flatten) (fun b ob q=>Heap.get?_push_of_some _ q) (Nat.le_refl _) ?_,rfl,q _ hf⟩
 exact ⟨by rw[len_rep,Nat.mul_comm];exact hz,_,r.rep k.toNat,IsTup.new _ _⟩
theorem wu {pins:List (Addr×Obj)}{s:Shared}{σ:L2.St}{H:Hp}{l:Addr}{xs:List V}{k:Int}{t:Tok}{Q:VK} (I:Inv X pins σ H s) (hH:LL X.K H l xs) (h1:-(2 ^ 63)<=k) (h2:k<=1000) (hz:xs.length*k.toNat<=sizeLine)
 (q:∀ p,H p=none->Q (.ref p) (upd H p (.lst (List.replicate k.toNat xs).flatten))):wpAny (model X.prog X.w) X.A (binaryOp .Mult (.ref l) (.int k t)) (EP X pins σ Q) X.xe s:=by
 have h2':k < 2 ^ 63:=by omega
 obtain ⟨z,its,n,r,hl,e⟩:=rdL I hH
 have hlen:its.toArray.size*k.toNat<=sizeLine:=by rw[List.size_toArray,← hl];exact hz
 have hcap:¬ its.toArray.size*k.toNat > (2 ^ 63 - 1) / 8:=by
  have:(sizeLine:Nat)<=(2 ^ 63 - 1) / 8:=by decide
  omega
 have hfit:¬ (!Builtin.List.listFitsIndex k)=true:=by
  rw[fitsIndex_both h1 h2']
  exact Bool.false_ne_true
 have hlong:¬ Builtin.List.listTooLong (its.toArray.size*k.toNat)=true:=by
  rw[kB hlen]
  exact Bool.false_ne_true
 have hnew:List.foldl (fun x1 x2=>x1++x2) #[] (List.replicate (if its.toArray.isEmpty=true then 0 else k.toNat) its.toArray)=(List.replicate k.toNat its).flatten.toArray:=by
  have f0:∀ m:Nat,List.foldl (fun x1 x2=>x1++x2) #[] (List.replicate m its.toArray)=(List.replicate m its).flatten.toArray:=fun m=>by
   have:=foldl_rep its m []
   rw[List.nil_append] at this
   exact this
  rw[f0]
  cases its with
  | nil=>simp
  | cons a r'=>rw[if_neg (by simp)]
 refine wpAny_binaryOp_repeat_ref (T:="list") (U:="int") (by decide) ⟨_,e,rfl⟩ (fun s'=>typeIs_int s' k t) noFill_list_mul F.fills_int_mul F.slot_int_rmul repeat_list F.slot_int_index.lookup
  (call_meets F.slot_int_rmul (typeIs_int s k t) F.entry_int_rmul (F.args_int_rmul_2 _ _) (int___rmul___int_list k t l its.toArray n)
   ⟨e,rfl,⟨_,e,rfl⟩,call_meets F.slot_list_mul ⟨_,e,rfl⟩ F.entry_list_mul (F.args_list_mul_2 _ _) (AutoListH.list___mul___list_int_3 l its.toArray n k t hfit hcap hlong) ⟨e,?_⟩⟩)
 rw[hnew]
 exact ⟨.ref _,_,I.F3 (t':=s.toks) (r.rep k.toNat) (by rw[len_rep,Nat.mul_comm];exact hz),rfl,q _ I.fresh⟩
theorem Dz:OpR X (binaryOp .Mult) (rOp X.prog X.w X.K (BT.lH .mul)):=by
 intro pins s σ H v u v' u' Q I rv ru h
 obtain ⟨m,h,x,y,z,h',R,rx,ry,e,post⟩:=h
 obtain ⟨d,d',q,e1,e2,e3,rfl,rfl⟩:=gS e
 have r1:=aP R rx e1
 have r2:=aP R ry e2
 cases d<;>cases d'<;>first | (cases e3;done) | simp only[BT.fB,BT.dF,BT.dG,BT.dH,BT.fC,BT.fD,BT.dI,BT.dJ,BT.fE,BT.dZ,BT.fF] at e3
 ·split at e3
  ·rename_i c
   cases e3
   cases r1.int;cases r2.int
   refine Cz pins s σ H _ _ _ _ Q I rv ru ⟨_,_,rfl,rfl,?_,post.here R (.int _)⟩
   rcases Bool.or_eq_true _ _ ▸ c with c | c
   ·exact .inl (nA c)
   ·exact .inr (nA c)
  ·cases e3
 ·split at e3
  ·rename_i c
   simp only[Bool.and_eq_true,decide_eq_true_eq] at c
   cases e3
   obtain ⟨a,vs,rfl,ha,ra⟩:=r1.tup
   cases r2.int
   obtain ⟨t,rfl⟩:=ru
   cases rv
   have l1:=ra.length
   have:=dh
   simp only[Bool.not_eq_true',List.isEmpty_eq_false_iff] at c
   refine uc I ha (by omega) (by omega) (fun z=>?_) (by rw[l1];omega) fun p hp=>iV R hp (ra.rep _) post
   subst z
   cases ra
   exact c.1.2 rfl
  ·cases e3
 ·split at e3
  ·rename_i c
   simp only[Bool.and_eq_true,decide_eq_true_eq] at c
   cases e3
   obtain ⟨a,vs,rfl,ha,ra⟩:=r1.lst
   cases r2.int
   obtain ⟨t,rfl⟩:=ru
   cases rv
   have l1:=ra.length
   have:=dh
   refine wu I ha (by omega) (by omega) (by rw[l1];omega) fun p hp=>iW R hp (ra.rep _) post
  ·cases e3
end
end BS
end
section
namespace BS
open PySem PySem.Spec PyProof.Rows L2
mutual
noncomputable def pd:BT.D->PyData
 | .non=>.none
 | .bl b=>.bool b
 | .int i=>.int i
 | .str x=>.str x
 | .tup xs=>.tuple (pds xs)
 | .lst xs=>.list (pds xs)
noncomputable def pds:List BT.D->List PyData
 | []=>[]
 | x :: r=>pd x :: pds r
end
mutual
theorem kJ:∀ x y:BT.D,PyData.eqv (pd x) (pd y)=BT.eqv x y
 | .non,.non=>rfl
 | .non,.bl _=>rfl
 | .non,.int _=>rfl
 | .non,.str _=>rfl
 | .non,.tup _=>by simp[pd,PyData.eqv,BT.eqv]
 | .non,.lst _=>by simp[pd,PyData.eqv,BT.eqv]
 | .bl _,.non=>rfl
 | .bl _,.bl _=>rfl
 | .bl _,.int _=>rfl
 | .bl _,.str _=>rfl
 | .bl _,.tup _=>by simp[pd,PyData.eqv,BT.eqv]
 | .bl _,.lst _=>by simp[pd,PyData.eqv,BT.eqv]
 | .int _,.non=>rfl
 | .int _,.bl _=>rfl
 | .int _,.int _=>rfl
 | .int _,.str _=>rfl
 | .int _,.tup _=>by simp[pd,PyData.eqv,BT.eqv]
 | .int _,.lst _=>by simp[pd,PyData.eqv,BT.eqv]
 | .str _,.non=>rfl
 | .str _,.bl _=>rfl
 | .str _,.int _=>rfl
 | .str _,.str _=>rfl
 | .str _,.tup _=>by simp[pd,PyData.eqv,BT.eqv]
 | .str _,.lst _=>by simp[pd,PyData.eqv,BT.eqv]
 | .tup _,.non=>by simp[pd,PyData.eqv,BT.eqv]
 | .tup _,.bl _=>by simp[pd,PyData.eqv,BT.eqv]
 | .tup _,.int _=>by simp[pd,PyData.eqv,BT.eqv]
 | .tup _,.str _=>by simp[pd,PyData.eqv,BT.eqv]
 | .tup xs,.tup ys=>by simp only[pd,PyData.eqv,BT.eqv];exact nB xs ys
 | .tup _,.lst _=>by simp[pd,PyData.eqv,BT.eqv]
 | .lst _,.non=>by simp[pd,PyData.eqv,BT.eqv]
 | .lst _,.bl _=>by simp[pd,PyData.eqv,BT.eqv]
 | .lst _,.int _=>by simp[pd,PyData.eqv,BT.eqv]
 | .lst _,.str _=>by simp[pd,PyData.eqv,BT.eqv]
 | .lst _,.tup _=>by simp[pd,PyData.eqv,BT.eqv]
 | .lst xs,.lst ys=>by simp only[pd,PyData.eqv,BT.eqv];exact nB xs ys
theorem nB:∀ xs ys:List BT.D,PyData.eqvAll (pds xs) (pds ys)=BT.lG xs ys
 | [],[]=>by simp[pds,PyData.eqvAll,BT.lG]
 | [],_ :: _=>by simp[pds,PyData.eqvAll,BT.lG]
 | _ :: _,[]=>by simp[pds,PyData.eqvAll,BT.lG]
 | x :: xs,y :: ys=>by simp only[pds,PyData.eqvAll,BT.lG];rw[kJ x y,nB xs ys]
end
theorem gv {n:Nat}:∀ {xs:List BT.D},(∀ x∈xs,(pd x).depth<=n)->PyData.depthAll (pds xs)<=n
 | [],_=>by simp[pds,PyData.depthAll]
 | x :: xs,h=>by
  simp only[pds,PyData.depthAll]
  exact Nat.max_le.mpr ⟨h x List.mem_cons_self,gv fun y hy=>h y (List.mem_cons_of_mem _ hy)⟩
theorem gT:∀ (n:Nat) (d:BT.D),BT.dok n d=true->(pd d).depth<=n
 | n,.non,_=>by simp[pd,PyData.depth]
 | n,.bl _,_=>by simp[pd,PyData.depth]
 | n,.int _,_=>by simp[pd,PyData.depth]
 | n,.str _,_=>by simp[pd,PyData.depth]
 | 0,.tup _,h=>by simp[BT.dok] at h
 | 0,.lst _,h=>by simp[BT.dok] at h
 | n+1,.tup xs,h=>by
  simp only[pd,PyData.depth]
  rw[BT.rj,List.all_eq_true] at h
  exact Nat.succ_le_succ (gv fun x hx=>gT n x (h x hx))
 | n+1,.lst xs,h=>by
  simp only[pd,PyData.depth]
  rw[BT.rm,List.all_eq_true] at h
  exact Nat.succ_le_succ (gv fun x hx=>gT n x (h x hx))
section
variable {X:Cx}{pins:List (Addr×Obj)}{σ:L2.St}{s:Shared}{K:PySem.W.Frag}{m:List Addr}{H:Hp}
mutual
theorem d7:∀ {v:V}{d:BT.D},RD K m H v d->(pd d).canLay0=true
 | _,_,.non=>rfl
 | _,_,.bl _=>rfl
 | _,_,.int _=>rfl
 | _,_,.str _ h=>by simpa [pd,PyData.canLay0] using h
 | _,_,.tup _ r=>by simp only[pd,PyData.canLay0];exact fQ r
 | _,_,.lst _ r=>by simp only[pd,PyData.canLay0];exact fQ r
theorem fQ:∀ {vs:List V}{ds:List BT.D},RDs K m H vs ds->PyData.canLayAll0 (pds ds)=true
 | _,_,.nil=>by simp[pds,PyData.canLayAll0]
 | _,_,.cons r t=>by simp only[pds,PyData.canLayAll0];rw[d7 r,fQ t];rfl
end
mutual
theorem gx (I:Inv X pins σ H s):∀ {v:V}{d:BT.D}{u:Value},RD X.K m H v d->RelV v u->∃ as,Reads s.heap u (pd d) as
 | _,_,_,.non,r=>by cases r;exact ⟨_,.none⟩
 | _,_,_,.bl b,r=>by cases r;exact ⟨_,.bool b⟩
 | _,_,_,.int i,r=>by obtain ⟨t,rfl⟩:=r;exact ⟨_,.int i t⟩
 | _,_,_,.str x _,r=>by obtain ⟨t,rfl⟩:=r;exact ⟨_,.str x t⟩
 | _,_,_,.tup h r,q=>by
  cases q
  obtain ⟨its,r1,⟨o,e1,e2,n,e3⟩,_⟩:=I.tuple (h.elim (fun q=>.inl q.1) (fun ⟨o,its,n,q,_⟩=>.inr ⟨o,its,n,q⟩))
  obtain ⟨as,ra⟩:=gU I r r1
  exact ⟨_,.tuple e1 e2 e3 (by simpa using ra)⟩
 | _,_,_,.lst h r,q=>by
  cases q
  obtain ⟨z,its,n,r1,_,e⟩:=rdL I (h.elim (fun q=>.inl q.1) .inr)
  obtain ⟨as,ra⟩:=gU I r r1
  exact ⟨_,.list e rfl rfl (by simpa using ra)⟩
theorem gU (I:Inv X pins σ H s):∀ {vs:List V}{ds:List BT.D}{us:List Value},RDs X.K m H vs ds->aq vs us->∃ as,ReadsAll s.heap us (pds ds) as
 | _,_,_,.nil,q=>by cases q;exact ⟨_,.nil⟩
 | _,_,_,.cons r t,q=>by
  cases q with
  | cons q1 q2 =>
   obtain ⟨as,ra⟩:=gx I r q1
   obtain ⟨bs,rb⟩:=gU I t q2
   exact ⟨_,.cons ra rb⟩
end
theorem gy (I:Inv X pins σ H s) {v:V}{d:BT.D}{u:Value} (r:RR X.K m H v d) (q:RelV v u):∃ as,Reads s.heap u (pd d) as:=by
 cases r with
 | d r=>exact gx I r q
 | l h r =>
  cases q
  obtain ⟨z,its,n,r1,_,e⟩:=rdL I (.inl (.inl h))
  obtain ⟨as,ra⟩:=gU I r r1
  exact ⟨_,.list e rfl rfl (by simpa using ra)⟩
theorem fH {v:V}{d:BT.D} (r:RR K m H v d):(pd d).canLay0=true:=by
 cases r with
 | d r=>exact d7 r
 | l h r=>simp only[pd,PyData.canLay0];exact fQ r
theorem nC {x y:BT.D} (h:BT.bO x y=true):min (pd x).depth (pd y).depth<=100:=by
 unfold BT.bO at h
 rcases Bool.or_eq_true _ _ ▸ h with h | h
 ·have:=gT 100 x h;omega
 ·have:=gT 100 y h;omega
theorem dO {o:BT.Cm}{x y:BT.W}{h:BT.HH}{z:BT.W}{h':BT.HH} (e:BT.fY o x y h=some (z,h')) :
 (∃ kvs b,y=.k kvs/\BT.inK o x kvs=some b/\z=.p (.bl b)/\h'=h)\/∃ d d' b,BT.rd x h=some d/\BT.rd y h=some d'/\BT.fk o d d'=some b/\z=.p (.bl b)/\h'=h:=by
 unfold BT.fY at e
 split at e
 ·rename_i kvs
  obtain ⟨b,e1,e2⟩:=aR e
  cases e2
  exact .inl ⟨kvs,b,rfl,e1,rfl,rfl⟩
 ·refine .inr ?_
  cases e1:BT.rd x h with
  | none=>rw[e1] at e;cases e
  | some d =>
   cases e2:BT.rd y h with
   | none=>rw[e1,e2] at e;cases e
   | some d' =>
    rw[e1,e2] at e
    obtain ⟨q,eq,er⟩:=aR e
    cases er
    exact ⟨d,d',q,rfl,rfl,eq,rfl,rfl⟩
theorem GP (hu:X.A.units+150 < cLine):OpR X (compareOp .Eq) (rOp X.prog X.w X.K (BT.fY .eq)):=by
 intro pins s σ H v u v' u' Q I rv ru h
 obtain ⟨m,h,x,y,z,h',R,rx,ry,e,post⟩:=h
 rcases dO e with ⟨kvs,b,rfl,e1,_,_⟩ | ⟨d,d',b,e1,e2,e3,rfl,rfl⟩
 ·cases x with
  | p d=>cases d<;>simp[BT.inK] at e1
  | r n=>simp[BT.inK] at e1
  | k q=>simp[BT.inK] at e1
  | c _ _=>simp[BT.inK] at e1
  | o q=>simp[BT.inK] at e1
 ·have r1:=aP R rx e1
  have r2:=aP R ry e2
  rw[BT.zg] at e3
  split at e3
  ·rename_i c
   cases e3
   obtain ⟨as,ra⟩:=gy I r1 rv
   obtain ⟨bs,rb⟩:=gy I r2 ru
   have:=nC c
   refine SeqAt.compareEq_reads ra rb (fH r1) (fH r2) (by omega) ?_
   rw[kJ]
   exact ⟨.bl _,H,I,rfl,post.here R (.bl _)⟩
  ·cases e3
theorem GQ (hu:X.A.units+150 < cLine):OpR X (compareOp .NotEq) (rOp X.prog X.w X.K (BT.fY .ne)):=by
 intro pins s σ H v u v' u' Q I rv ru h
 obtain ⟨m,h,x,y,z,h',R,rx,ry,e,post⟩:=h
 rcases dO e with ⟨kvs,b,rfl,e1,_,_⟩ | ⟨d,d',b,e1,e2,e3,rfl,rfl⟩
 ·cases x with
  | p d=>cases d<;>simp[BT.inK] at e1
  | r n=>simp[BT.inK] at e1
  | k q=>simp[BT.inK] at e1
  | c _ _=>simp[BT.inK] at e1
  | o q=>simp[BT.inK] at e1
 ·have r1:=aP R rx e1
  have r2:=aP R ry e2
  rw[BT.zh] at e3
  split at e3
  ·rename_i c
   cases e3
   obtain ⟨as,ra⟩:=gy I r1 rv
   obtain ⟨bs,rb⟩:=gy I r2 ru
   have:=nC c
   refine SeqAt.compareNe_reads ra rb (fH r1) (fH r2) (by omega) ?_
   rw[kJ]
   exact ⟨.bl _,H,I,rfl,post.here R (.bl _)⟩
  ·cases e3
theorem GR:OpR X (compareOp .Lt) (rOp X.prog X.w X.K (BT.fY .lt)):=by
 intro pins s σ H v u v' u' Q I rv ru h
 obtain ⟨m,h,x,y,z,h',R,rx,ry,e,post⟩:=h
 rcases dO e with ⟨kvs,b,rfl,e1,_,_⟩ | ⟨d,d',b,e1,e2,e3,rfl,rfl⟩
 ·cases x with
  | p d=>cases d<;>simp[BT.inK] at e1
  | r n=>simp[BT.inK] at e1
  | k q=>simp[BT.inK] at e1
  | c _ _=>simp[BT.inK] at e1
  | o q=>simp[BT.inK] at e1
 ·have r1:=aP R rx e1
  have r2:=aP R ry e2
  cases d<;>cases d'<;>first | (cases e3;done) | simp only[BT.eU,BT.eV,BT.eW,BT.eX,BT.dR,BT.cY,BT.cj,BT.cu,BT.aX,BT.aO] at e3
  cases e3
  cases r1.int;cases r2.int
  exact FI pins s σ H _ _ _ _ Q I rv ru ⟨_,_,rfl,rfl,post.here R (.bl _)⟩
theorem GS:OpR X (compareOp .LtE) (rOp X.prog X.w X.K (BT.fY .le)):=by
 intro pins s σ H v u v' u' Q I rv ru h
 obtain ⟨m,h,x,y,z,h',R,rx,ry,e,post⟩:=h
 rcases dO e with ⟨kvs,b,rfl,e1,_,_⟩ | ⟨d,d',b,e1,e2,e3,rfl,rfl⟩
 ·cases x with
  | p d=>cases d<;>simp[BT.inK] at e1
  | r n=>simp[BT.inK] at e1
  | k q=>simp[BT.inK] at e1
  | c _ _=>simp[BT.inK] at e1
  | o q=>simp[BT.inK] at e1
 ·have r1:=aP R rx e1
  have r2:=aP R ry e2
  cases d<;>cases d'<;>first | (cases e3;done) | simp only[BT.eU,BT.eV,BT.eW,BT.eX,BT.dR,BT.cY,BT.cj,BT.cu,BT.aX,BT.aO] at e3
  cases e3
  cases r1.int;cases r2.int
  exact FJ pins s σ H _ _ _ _ Q I rv ru ⟨_,_,rfl,rfl,post.here R (.bl _)⟩
theorem GT:OpR X (compareOp .Gt) (rOp X.prog X.w X.K (BT.fY .gt)):=by
 intro pins s σ H v u v' u' Q I rv ru h
 obtain ⟨m,h,x,y,z,h',R,rx,ry,e,post⟩:=h
 rcases dO e with ⟨kvs,b,rfl,e1,_,_⟩ | ⟨d,d',b,e1,e2,e3,rfl,rfl⟩
 ·cases x with
  | p d=>cases d<;>simp[BT.inK] at e1
  | r n=>simp[BT.inK] at e1
  | k q=>simp[BT.inK] at e1
  | c _ _=>simp[BT.inK] at e1
  | o q=>simp[BT.inK] at e1
 ·have r1:=aP R rx e1
  have r2:=aP R ry e2
  cases d<;>cases d'<;>first | (cases e3;done) | simp only[BT.eU,BT.eV,BT.eW,BT.eX,BT.dR,BT.cY,BT.cj,BT.cu,BT.aX,BT.aO] at e3
  cases e3
  cases r1.int;cases r2.int
  exact FM pins s σ H _ _ _ _ Q I rv ru ⟨_,_,rfl,rfl,post.here R (.bl _)⟩
theorem GU:OpR X (compareOp .GtE) (rOp X.prog X.w X.K (BT.fY .ge)):=by
 intro pins s σ H v u v' u' Q I rv ru h
 obtain ⟨m,h,x,y,z,h',R,rx,ry,e,post⟩:=h
 rcases dO e with ⟨kvs,b,rfl,e1,_,_⟩ | ⟨d,d',b,e1,e2,e3,rfl,rfl⟩
 ·cases x with
  | p d=>cases d<;>simp[BT.inK] at e1
  | r n=>simp[BT.inK] at e1
  | k q=>simp[BT.inK] at e1
  | c _ _=>simp[BT.inK] at e1
  | o q=>simp[BT.inK] at e1
 ·have r1:=aP R rx e1
  have r2:=aP R ry e2
  cases d<;>cases d'<;>first | (cases e3;done) | simp only[BT.eU,BT.eV,BT.eW,BT.eX,BT.dR,BT.cY,BT.cj,BT.cu,BT.aX,BT.aO] at e3
  cases e3
  cases r1.int;cases r2.int
  exact FN pins s σ H _ _ _ _ Q I rv ru ⟨_,_,rfl,rfl,post.here R (.bl _)⟩
theorem rH {v:V}{d:BT.D} (r:RR K m H v d):decide (v=.non)=BT.gf d:=by
 cases r with
 | d r=>cases r<;>rfl
 | l h r=>rfl
theorem DA:OpR X (compareOp .Is) (rOp X.prog X.w X.K (BT.fY .isN)):=by
 intro pins s σ H v u v' u' Q I rv ru h
 obtain ⟨m,h,x,y,z,h',R,rx,ry,e,post⟩:=h
 rcases dO e with ⟨kvs,b,rfl,e1,_,_⟩ | ⟨d,d',b,e1,e2,e3,rfl,rfl⟩
 ·cases x with
  | p d=>cases d<;>simp[BT.inK] at e1
  | r n=>simp[BT.inK] at e1
  | k q=>simp[BT.inK] at e1
  | c _ _=>simp[BT.inK] at e1
  | o q=>simp[BT.inK] at e1
 ·have r1:=aP R rx e1
  have r2:=aP R ry e2
  cases d'<;>first | (cases e3;done) | simp only[BT.eU,BT.eV,BT.eW,BT.eX,BT.dR,BT.cY,BT.cj,BT.cu,BT.aX,BT.aO] at e3
  cases e3
  cases r2.non
  refine CD pins s σ H _ _ _ _ Q I rv ru ⟨rfl,?_⟩
  rw[rH r1]
  exact post.here R (.bl _)
theorem zH:OpR X (compareOp .IsNot) (rOp X.prog X.w X.K (BT.fY .notN)):=by
 intro pins s σ H v u v' u' Q I rv ru h
 obtain ⟨m,h,x,y,z,h',R,rx,ry,e,post⟩:=h
 rcases dO e with ⟨kvs,b,rfl,e1,_,_⟩ | ⟨d,d',b,e1,e2,e3,rfl,rfl⟩
 ·cases x with
  | p d=>cases d<;>simp[BT.inK] at e1
  | r n=>simp[BT.inK] at e1
  | k q=>simp[BT.inK] at e1
  | c _ _=>simp[BT.inK] at e1
  | o q=>simp[BT.inK] at e1
 ·have r1:=aP R rx e1
  have r2:=aP R ry e2
  cases d'<;>first | (cases e3;done) | simp only[BT.eU,BT.eV,BT.eW,BT.eX,BT.dR,BT.cY,BT.cj,BT.cu,BT.aX,BT.aO] at e3
  cases e3
  cases r2.non
  refine yK pins s σ H _ _ _ _ Q I rv ru ⟨rfl,?_⟩
  rw[rH r1]
  exact post.here R (.bl _)
open Classical in
noncomputable def dD (h:Heap) (dx:PyData) (y:Value):Bool:=if q:∃ db as,Reads h y db as/\db.canLay0=true then PyData.eqv (Classical.choose q) dx else false
theorem qC {h:Heap}{dx db:PyData}{y:Value}{as:List Addr} (r:Reads h y db as) (c:db.canLay0=true):dD h dx y=PyData.eqv db dx:=by
 have q:∃ db as,Reads h y db as/\db.canLay0=true:=⟨db,as,r,c⟩
 unfold dD
 rw[dif_pos q]
 obtain ⟨as',r',c'⟩:=Classical.choose_spec q
 rw[SeqAt.Reads.unique _ _ _ _ _ c r r']
theorem iX (I:Inv X pins σ H s) {d:BT.D}:∀ {vs:List V}{ds:List BT.D}{us:List Value},RDs X.K m H vs ds->aq vs us->us.any (dD s.heap (pd d))=ds.any fun y=>BT.eqv y d
 | _,_,_,.nil,q=>by cases q;rfl
 | _,_,_,.cons r t,q=>by
  cases q with
  | cons q1 q2 =>
   obtain ⟨as,ra⟩:=gx I r q1
   rw[List.any_cons,List.any_cons,iX I t q2,qC ra (d7 r),kJ]
theorem gW (hu:X.A.units+150 < cLine) (I:Inv X pins σ H s) {v:V}{d:BT.D}{u:Value} (rx:RR X.K m H v d) (rv:RelV v u):∀ {vs:List V}{ds:List BT.D}{us:List Value},RDs X.K m H vs ds->aq vs us->(ds.all fun y=>BT.bO y d)=true →
 ∀ y∈us,SeqAt.EqAt X.A.in1 s y u (dD s.heap (pd d) y)
 | _,_,_,.nil,q,_=>by cases q;intro y hy;simp at hy
 | _,_,_,.cons r t,q,c=>by
  cases q with
  | cons q1 q2 =>
   rw[List.all_cons,Bool.and_eq_true] at c
   intro y hy
   rcases List.mem_cons.mp hy with rfl | hy
   ·obtain ⟨as,ra⟩:=gx I r q1
    obtain ⟨bs,rb⟩:=gy I rx rv
    rw[qC ra (d7 r)]
    have:=nC c.1
    refine SeqAt.eqAt_reads _ _ _ _ _ _ _ _ ra rb (d7 r) (fH rx) ?_
    show X.A.units+1+_ < _
    omega
   ·exact gW hu I rx rv t q2 c.2 y hy
theorem DB (hu:X.A.units+150 < cLine) (hk:∀ {kvs:List (Str×BT.D)}{x:BT.W}{b:Bool}{m:List Addr}{H:Hp}{v u:V}{v' u':Value}{pins σ s Q},Inv X pins σ H s->RelV v v'->RelV u u'->RW X.prog X.w X.K m H v x->RW X.prog X.w X.K m H u (.k kvs)->BT.inK .mem x kvs=some b->Q (V.bl b) H →
 wpAny (model X.prog X.w) X.A (compareOp .In v' u') (EP X pins σ Q) X.xe s):OpR X (compareOp .In) (rOp X.prog X.w X.K (BT.fY .mem)):=by
 intro pins s σ H v u v' u' Q I rv ru h
 obtain ⟨m,h,x,y,z,h',R,rx,ry,e,post⟩:=h
 rcases dO e with ⟨kvs,b,rfl,e1,rfl,rfl⟩ | ⟨d,d',b,e1,e2,e3,rfl,rfl⟩
 ·exact hk I rv ru rx ry e1 (post.here R (.bl _))
 ·have r1:=aP R rx e1
  have r2:=aP R ry e2
  cases d'<;>first | (cases e3;done) | simp only[BT.eU,BT.eV,BT.eW,BT.eX,BT.dR,BT.cY,BT.cj,BT.cu,BT.aX,BT.aO] at e3
  ·split at e3
   ·rename_i c
    cases e3
    obtain ⟨a,vs,rfl,ha,ra⟩:=r2.tup
    cases ru
    obtain ⟨its,q1,q2,_⟩:=I.tuple ha
    refine SeqAt.in_tupleAt (dD s.heap (pd d)) q2 (fun y hy=>gW hu I r1 rv ra q1 c y (by simpa using hy)) ⟨.bl _,H,I,rfl,?_⟩
    rw[show its.toArray.any (dD s.heap (pd d))=its.any (dD s.heap (pd d)) by simp,iX I ra q1]
    exact post.here R (.bl _)
   ·cases e3
  ·split at e3
   ·rename_i c
    cases e3
    obtain ⟨a,vs,rfl,ha,ra⟩:=r2.lst
    cases ru
    obtain ⟨z,its,n,q1,_,q2⟩:=rdL I ha
    refine SeqAt.in_listAt (dD s.heap (pd d)) ⟨_,q2,rfl,_,rfl⟩ (fun y hy=>gW hu I r1 rv ra q1 c y (by simpa using hy)) ⟨.bl _,H,I,rfl,?_⟩
    rw[show its.toArray.any (dD s.heap (pd d))=its.any (dD s.heap (pd d)) by simp,iX I ra q1]
    exact post.here R (.bl _)
   ·cases e3
theorem zI (hu:X.A.units+150 < cLine) (hk:∀ {kvs:List (Str×BT.D)}{x:BT.W}{b:Bool}{m:List Addr}{H:Hp}{v u:V}{v' u':Value}{pins σ s Q},Inv X pins σ H s->RelV v v'->RelV u u'->RW X.prog X.w X.K m H v x->RW X.prog X.w X.K m H u (.k kvs)->BT.inK .nmem x kvs=some b->Q (V.bl b) H →
 wpAny (model X.prog X.w) X.A (compareOp .NotIn v' u') (EP X pins σ Q) X.xe s):OpR X (compareOp .NotIn) (rOp X.prog X.w X.K (BT.fY .nmem)):=by
 intro pins s σ H v u v' u' Q I rv ru h
 obtain ⟨m,h,x,y,z,h',R,rx,ry,e,post⟩:=h
 rcases dO e with ⟨kvs,b,rfl,e1,rfl,rfl⟩ | ⟨d,d',b,e1,e2,e3,rfl,rfl⟩
 ·exact hk I rv ru rx ry e1 (post.here R (.bl _))
 ·have r1:=aP R rx e1
  have r2:=aP R ry e2
  cases d'<;>first | (cases e3;done) | simp only[BT.eU,BT.eV,BT.eW,BT.eX,BT.dR,BT.cY,BT.cj,BT.cu,BT.aX,BT.aO] at e3
  ·split at e3
   ·rename_i c
    cases e3
    obtain ⟨a,vs,rfl,ha,ra⟩:=r2.tup
    cases ru
    obtain ⟨its,q1,q2,_⟩:=I.tuple ha
    refine SeqAt.notIn_tupleAt (dD s.heap (pd d)) q2 (fun y hy=>gW hu I r1 rv ra q1 c y (by simpa using hy)) ⟨.bl _,H,I,rfl,?_⟩
    rw[show its.toArray.any (dD s.heap (pd d))=its.any (dD s.heap (pd d)) by simp,iX I ra q1]
    exact post.here R (.bl _)
   ·cases e3
  ·split at e3
   ·rename_i c
    cases e3
    obtain ⟨a,vs,rfl,ha,ra⟩:=r2.lst
    cases ru
    obtain ⟨z,its,n,q1,_,q2⟩:=rdL I ha
    refine SeqAt.notIn_listAt (dD s.heap (pd d)) ⟨_,q2,rfl,_,rfl⟩ (fun y hy=>gW hu I r1 rv ra q1 c y (by simpa using hy)) ⟨.bl _,H,I,rfl,?_⟩
    rw[show its.toArray.any (dD s.heap (pd d))=its.any (dD s.heap (pd d)) by simp,iX I ra q1]
    exact post.here R (.bl _)
   ·cases e3
end
end BS
end
section
namespace BS
open PySem PySem.Spec PyProof.Rows L2
section
variable {X:Cx}
theorem RDs.atI {K:PySem.W.Frag}{m:List Addr}{H:Hp}{vs:List V}{ds:List BT.D}{i:Int}{d:BT.D} (r:RDs K m H vs ds) (e:BT.atP ds i=some d):∃ v,L2.atI vs i=some v/\RD K m H v d:=by
 unfold BT.atP at e
 unfold L2.atI
 obtain ⟨j,h1,h2⟩:=Option.bind_eq_some_iff.mp e
 obtain ⟨v,q1,q2⟩:=r.get h2
 refine ⟨v,?_,q2⟩
 rw[r.length]
 show ((BT.place ds.length i).bind fun j=>vs[j]?)=some v
 rw[h1]
 exact q1
theorem zJ {x y:BT.W}{h:BT.HH}{z:BT.W}{h':BT.HH} (e:BT.zj x y h=some (z,h')) :
 (∃ kvs k d,x=.k kvs/\y=.p (.str k)/\BT.dQ k kvs=some d/\z=.p d/\h'=h)\/∃ d d' b,BT.rd x h=some d/\BT.rd y h=some d'/\BT.cE d d'=some b/\z=.p b/\h'=h:=by
 unfold BT.zj at e
 split at e
 ·rename_i kvs
  obtain ⟨b,e1,e2⟩:=aR e
  cases e2
  cases y with
  | p d =>
   cases d<;>simp only[BT.atK] at e1<;>try contradiction
   exact .inl ⟨kvs,_,b,rfl,rfl,e1,rfl,rfl⟩
  | r n=>simp[BT.atK] at e1
  | k q=>simp[BT.atK] at e1
  | c _ _=>simp[BT.atK] at e1
  | o q=>simp[BT.atK] at e1
 ·refine .inr ?_
  cases e1:BT.rd x h with
  | none=>rw[e1] at e;cases e
  | some d =>
   cases e2:BT.rd y h with
   | none=>rw[e1,e2] at e;cases e
   | some d' =>
    rw[e1,e2] at e
    obtain ⟨q,eq,er⟩:=aR e
    cases er
    exact ⟨d,d',q,rfl,rfl,eq,rfl,rfl⟩
theorem wA {K:PySem.W.Frag}{k:Str}{d:BT.D}:∀ {es:List (Str×V)}{kvs:List (Str×BT.D)}{vs:List (Key×Value)},RDk K es kvs->KV (es.map fun q=>((Sum.inr q.1:Key),q.2)) vs->BT.dQ k kvs=some d →
 ∃ u v,valueAt vs (Sum.inr k)=some u/\RelV v u/\∀ m H,RD K m H v d
 | _,_,_,.nil,_,e=>by simp[BT.dQ] at e
 | _,_,_,@RDk.cons _ x v dd es kvs r t,q,e=>by
  cases q with
  | @cons p z l1 l2 q1 q2 =>
   obtain ⟨z1,z2⟩:=z
   obtain ⟨q11,q12⟩:=q1
   simp only at q11 q12
   subst q11
   rw[BT.dQ] at e
   by_cases c:k=x
   ·rw[if_pos c] at e
    cases e
    subst c
    exact ⟨z2,v,by simp[valueAt],q12,r⟩
   ·rw[if_neg c] at e
    obtain ⟨u,v',h1,h2,h3⟩:=wA t q2 e
    refine ⟨u,v',?_,h2,h3⟩
    have ne:¬ ((Sum.inr x:Key)=Sum.inr k):=fun z=>c (Sum.inr.inj z).symm
    simp only[valueAt] at h1 ⊢
    rw[List.find?_cons_of_neg (by simpa using ne)]
    exact h1
theorem ud {x:Str}{c:Nat} (h:PyData.strOk x=true) (hc:c∈x.cps.toList):PyData.strOk ⟨#[c]⟩=true:=by
 simp only[PyData.strOk,Array.all_eq_true_iff_forall_mem] at h ⊢
 intro y hy
 simp at hy
 subst hy
 exact h y (by simpa using hc)
theorem DC:IxR X (rOp X.prog X.w X.K BT.zj):=by
 intro value slice pins s σ H v u v' u' Q I rv ru h hs
 obtain ⟨m,h,x,y,z,h',R,rx,ry,e,post⟩:=h
 rcases zJ e with ⟨kvs,k,d,rfl,rfl,e1,rfl,rfl⟩ | ⟨d,d',b,e1,e2,e3,rfl,rfl⟩
 ·cases rx with
  | @k a es _ kd rk =>
   cases rv
   cases ry with
   | p ry =>
    cases ry with
    | str _ ok =>
     obtain ⟨t,rfl⟩:=ru
     obtain ⟨hm,vs,kv,dd⟩:=kd
     obtain ⟨w',z,h1,h2,h3⟩:=wA rk kv e1
     have D:=dd s.heap I.kIn
     refine tail_any (ops:=[.ref a,.str k t]) D.typeIs slot_dict_getitem.lookup ?_ hs
     exact wpAny_getItem_of (knd:=aU X.prog X.w) (eN _ _ k t) D.mapOf h1 ⟨z,H,I.tok _,h2,post.here R (h3 _ _)⟩
 ·have r1:=aP R rx e1
  have r2:=aP R ry e2
  cases d<;>cases d'<;>first | (cases e3;done) | simp only[BT.m8,BT.cI,BT.bK] at e3
  ·split at e3
   ·rename_i c
    obtain ⟨cc,e4,e5⟩:=aR e3
    subst e5
    obtain ⟨rfl,ok⟩:=r1.str
    cases r2.int
    have:=dh
    refine CU value slice pins s σ H _ _ _ _ Q I rv ru ⟨_,_,cc,rfl,rfl,by omega,e4,post.here R (.str _ (ud ok ?_))⟩ hs
    obtain ⟨j,h1,h2⟩:=Option.bind_eq_some_iff.mp e4
    exact List.mem_of_getElem? h2
   ·cases e3
  ·obtain ⟨a,vs,rfl,ha,ra⟩:=r1.tup
   cases r2.int
   obtain ⟨z,q1,q2⟩:=ra.atI e3
   exact CQ value slice pins s σ H _ _ _ _ Q I rv ru ⟨a,vs,_,z,rfl,rfl,ha,q1,post.here R q2⟩ hs
  ·obtain ⟨a,vs,rfl,ha,ra⟩:=r1.lst
   cases r2.int
   obtain ⟨z,q1,q2⟩:=ra.atI e3
   exact yX value slice pins s σ H _ _ _ _ Q I rv ru ⟨a,vs,_,z,rfl,rfl,ha.sq,q1,post.here R q2⟩ hs
theorem iY (n d:Nat) (o:Option Int):BT.clip n d o=HT.sIx n d o:=by
 cases o with
 | none=>rfl
 | some v =>
  simp only[BT.clip,HT.sIx]
  split
  ·rfl
  ·split
   ·omega
   ·omega
theorem lJ {prog:Program}{w:World}{A:Around}{E:Value->Shared->Prop}{s:Shared}{t sl:Addr}{items:Array Value}{vl vu:Value}{lo hi:Option Int}{Q:Value->Shared->Prop} (ht:IsTup s.heap t items) (hs:s.heap.IsSliceOf sl vl vu .none) (pl:IsPart vl lo) (pu:IsPart vu hi)
 (hw:HT.sIx items.size 0 lo=0/\HT.sIx items.size items.size hi=items.size) (h:Q (.ref t) s):wpAny (model prog w) A (getItem (.ref t) (.ref sl)) Q E s:=by
 obtain ⟨os,hos,hcs,hds⟩:=id hs
 have hTs:s.TypeIs (.ref sl) "slice":=⟨os,hos,hcs⟩
 unfold getItem
 try with_reducible refine wpAny_holding ?_
 first | refine wpAny_bind (wpAny_pure ?_) | skip
 refine wpAny_bind (wpAny_sequenceKey ht.typeIs (by decide) ?_)
 refine wpAny_bind (wpAny_callSpecial?_slot (name:=Str.ofString "__getitem__") ht.typeIs PyProof.Rows.slot_tuple_getitem
  (wpAny_call_entry PyProof.Rows.slot_tuple_getitem ht.typeIs entry_tuple_getitem ?_ (args_tuple_getitem _ _)))
 show wpAny _ _ (Builtin.Tuple.tupleItemsOf (.ref t) >>= _) _ _ s
 refine wpAny_bind (tupleItemsOf_ ht ?_)
 refine wpAny_bind (wpAny_typeOf hTs ?_)
 rw[if_pos (by decide)]
 refine wpAny_bind (HT.fz hs pl pu ?_)
 have hno:(((HT.sIx items.size 0 lo:Nat):Int)==0&&(1:Int)==1&&(HT.sIx items.size items.size hi - HT.sIx items.size 0 lo)==items.size)=true:=by
  rw[hw.1,hw.2];simp
 show wpAny _ _ (if (((HT.sIx items.size 0 lo:Nat):Int)==0&&(1:Int)==1&&(HT.sIx items.size items.size hi - HT.sIx items.size 0 lo)==items.size)=true then _ else _) _ _ s
 rw[if_pos hno]
 unfold Builtin.Tuple.tupleIsExact
 refine wpAny_bind (wpAny_bind (wpAny_typeOf ht.typeIs (wpAny_pure ?_)))
 rw[if_pos (by decide)]
 refine wpAny_bind (wpAny_rule ?_)
 first
  | exact wpAny_pure ⟨_,rfl,wpAny_pure h⟩
  | exact wpAny_pure ⟨_,rfl,h⟩
  | exact wpAny_bind (wpAny_pure (wpAny_pure ⟨_,rfl,wpAny_pure h⟩))
noncomputable def rSl (P:Program) (w:World) (K:PySem.W.Frag):V->Option Int->Option Int->Hp->VK->Prop:=fun v lo hi H Q =>
 ∃ m h x d b,RH K m H h/\RW P w K m H v x/\BT.rd x h=some d/\BT.oO d lo hi=some b/\Post P w K m H (.p b) h Q
theorem RDs.cut {K:PySem.W.Frag}{m:List Addr}{H:Hp}{vs:List V}{ds:List BT.D} (r:RDs K m H vs ds) (lo hi:Option Int):RDs K m H (oB vs lo hi) (BT.cut ds lo hi):=by
 unfold oB BT.cut
 rw[iY,iY,r.length]
 exact (r.drop _).take _
theorem ue {ds:List BT.D}{lo hi:Option Int} (h1:HT.sIx ds.length 0 lo=0) (h2:HT.sIx ds.length ds.length hi=ds.length):BT.cut ds lo hi=ds:=by
 unfold BT.cut
 rw[iY,iY,h1,h2]
 simp
theorem osl:SlR X (rSl X.prog X.w X.K):=by
 intro pins s σ H v v' vl vu lo hi sl Q I rv hs pl pu h
 obtain ⟨m,h,x,d,b,R,rx,e1,e2,post⟩:=h
 have r1:=aP R rx e1
 cases d<;>simp only[BT.oO] at e2<;>try contradiction
 ·cases e2
  obtain ⟨a,vs,rfl,ha,ra⟩:=r1.tup
  cases rv
  by_cases c:HT.sIx vs.length 0 lo=0/\HT.sIx vs.length vs.length hi=vs.length
  ·obtain ⟨its,q1,q2,_⟩:=I.tuple ha
   have hl:its.toArray.size=vs.length:=by rw[List.size_toArray];exact q1.length.symm
   refine ⟨"tuple",_,PyProof.Rows.slot_tuple_getitem.lookup,q2.typeIs,lJ q2 hs pl pu (by rw[hl];exact c) ⟨.ref a,H,I,rfl,?_⟩⟩
   cases r1 with
   | d r =>
    refine post.here R ?_
    rw[ue (by rw[← ra.length];exact c.1) (by rw[← ra.length];exact c.2)]
    exact r
  ·exact CP pins s σ H (.ref a) (.ref a) vl vu lo hi sl Q I rfl hs pl pu ⟨a,vs,rfl,ha,c,fun p hp=>iV R hp (ra.cut lo hi) post⟩
 ·cases e2
  obtain ⟨a,vs,rfl,ha,ra⟩:=r1.lst
  exact yY pins s σ H _ _ vl vu lo hi sl Q I rv hs pl pu ⟨a,vs,rfl,ha.sq,fun p hp=>iW R hp (ra.cut lo hi) post⟩
end
end BS
end
section
namespace BS
open PySem PySem.Spec PyProof.Rows L2
theorem rJ (m:BT.Me) (d:BT.D) (as:List BT.W) (h:BT.HH):BT.meW m (.p d) as h=(match BT.br as with | some ds=>(BT.meD m d ds).map fun x=>(.p x,h) | none=>none):=by cases m<;>rfl
section
variable {X:Cx}
noncomputable def rMe (P:Program) (w:World) (K:PySem.W.Frag) (me:BT.Me):V->List V->Hp->VK->Prop:=fun v vs H Q =>
 ∃ m h x ws z h',RH K m H h/\RW P w K m H v x/\RWs P w K m H vs ws/\BT.meW me x ws h=some (z,h')/\Post P w K m H z h' Q
theorem getD_some {α:Type}{xs:List α}{n:Nat}{a:α} (h:xs[n]?=some a):n < xs.length:=by
 rcases Nat.lt_or_ge n xs.length with z | z
 ·exact z
 ·rw[List.getElem?_eq_none z] at h;cases h
theorem uf:MtR X "list.append" (rMe X.prog X.w X.K .append):=by
 intro pins s σ H v vs v' us Q I rv rus h
 obtain ⟨m,h,x,ws,z,h',R,rx,rws,e,post⟩:=h
 cases x with
 | p d=>cases ws with
  | nil=>(first | (cases e;done) | simp[BT.meW,BT.meD,BT.br] at e)
  | cons _ _=>rw[rJ] at e;split at e<;>(try cases e)
 | k kvs=>(first | (cases e;done) | simp[BT.meW] at e)
 | c _ _=>(first | (cases e;done) | simp[BT.meW] at e)
 | o kvs=>(first | (cases e;done) | simp[BT.meW] at e)
 | r n =>
  cases rws with
  | nil=>(first | (cases e;done) | simp[BT.meW] at e)
  | @cons y wy _ _ ry t =>
   cases t with
   | cons _ _=>cases ry<;>(first | (cases e;done) | simp[BT.meW] at e)
   | nil =>
    cases ry with
    | r _=>(first | (cases e;done) | simp[BT.meW] at e)
    | k _ _=>(first | (cases e;done) | simp[BT.meW] at e)
    | c _ _=>(first | (cases e;done) | simp[BT.meW] at e)
    | g _ _=>(first | (cases e;done) | simp[BT.meW] at e)
    | o _=>(first | (cases e;done) | simp[BT.meW] at e)
    | p ry =>
     rw[BT.qu] at e
     cases g:BT.lat h n with
     | none=>rw[g] at e;cases e
     | some xs =>
      rw[g] at e
      simp only at e
      split at e
      ·rename_i c
       cases e
       cases rx with
       | @r a _ hn =>
        obtain ⟨us',hH,r⟩:=R.cell n a xs hn g
        have:=dh
        have hl:=r.length
        exact tP pins s σ H _ _ _ _ Q I rv rus ⟨a,us',y,rfl,rfl,hH,by omega,post _ _ m (fG (List.mem_of_getElem? hn) hH) (R.set hn hH (r.append (.cons ry .nil))) (.p .non)⟩
      ·cases e
theorem wB {α:Type}{xs:List α}{d:α} (h:xs.getLast?=some d):xs[xs.length - 1]?=some d:=by rw[← List.getLast?_eq_getElem?];exact h
theorem DE:MtR X "list.pop" (rMe X.prog X.w X.K .pop):=by
 intro pins s σ H v vs v' us Q I rv rus h
 obtain ⟨m,h,x,ws,z,h',R,rx,rws,e,post⟩:=h
 cases x with
 | p d=>cases ws with
  | nil=>(first | (cases e;done) | simp[BT.meW,BT.meD,BT.br] at e)
  | cons _ _=>rw[rJ] at e;split at e<;>(try cases e)
 | k kvs=>(first | (cases e;done) | simp[BT.meW] at e)
 | c _ _=>(first | (cases e;done) | simp[BT.meW] at e)
 | o kvs=>(first | (cases e;done) | simp[BT.meW] at e)
 | r n =>
  cases rws with
  | cons _ _=>(first | (cases e;done) | simp[BT.meW] at e)
  | nil =>
   rw[BT.zf] at e
   cases g:BT.lat h n with
   | none=>rw[g] at e;cases e
   | some xs =>
    rw[g] at e
    simp only at e
    cases gl:xs.getLast? with
    | none=>rw[gl] at e;cases e
    | some d =>
     rw[gl] at e
     cases e
     cases rx with
     | @r a _ hn =>
      obtain ⟨us',hH,r⟩:=R.cell n a xs hn g
      have hl:=r.length
      obtain ⟨y,hy,ry⟩:=r.get (wB gl)
      have x1:Ext m H m (upd H a (.lst us'.dropLast)):=fG (List.mem_of_getElem? hn) hH
      exact CY pins s σ H _ _ _ _ Q I rv rus ⟨a,us',y,rfl,rfl,hH,by rw[hl];exact hy,post _ _ m x1 (R.set hn hH r.dropLast) (.p (ry.ext x1))⟩
theorem wC {pins:List (Addr×Obj)}{s:Shared}{σ:L2.St}{H:Hp}{l b:Addr}{xs zs:List V}{Q:VK} (I:Inv X pins σ H s) (hH:H l=some (.lst xs)) (hB:LL X.K H b zs) (hz:xs.length+zs.length<=sizeLine) (q:Q .non (upd H l (.lst (xs++zs)))) :
 wpAny (model X.prog X.w) X.A (call (.builtin "list.extend") [.ref l,.ref b]) (EP X pins σ Q) X.xe s:=by
 obtain ⟨z,its,n,r,hl,e⟩:=I.y9 hH
 obtain ⟨z2,its2,n2,r2,hl2,e2⟩:=rdL I hB
 have hsz:its.toArray.size+its2.toArray.size<=sizeLine:=by rw[List.size_toArray,List.size_toArray];omega
 have hlong:¬ (!its.toArray.isEmpty&&Builtin.List.listTooLong (its.toArray.size+its2.toArray.size))=true:=by
  rw[kB hsz,Bool.and_false]
  exact Bool.false_ne_true
 refine call_meets F.slot_list_extend ⟨_,e,rfl⟩ F.entry_list_extend (F.args_list_extend_2 _ _)
  (AutoSeq1.list_extend_list_list_0 l its.toArray n b its2.toArray n2 hlong (by rw[List.size_toArray];omega) (by omega)) ⟨e,e2,?_⟩
 refine ⟨.non,_,I.yZ (its':=its++its2) hH e (by simp) (r.append r2) ?_,rfl,q⟩
 rw[List.length_append]
 omega
theorem zK {pins:List (Addr×Obj)}{s:Shared}{σ:L2.St}{H:Hp}{l b:Addr}{xs zs:List V}{Q:VK} (I:Inv X pins σ H s) (hH:H l=some (.lst xs)) (hB:SqT X.K H b zs) (hz:xs.length+zs.length<=sizeLine) (q:Q .non (upd H l (.lst (xs++zs)))) :
 wpAny (model X.prog X.w) X.A (call (.builtin "list.extend") [.ref l,.ref b]) (EP X pins σ Q) X.xe s:=by
 obtain ⟨z,its,n,r,hl,e⟩:=I.y9 hH
 obtain ⟨its2,r2,p2,_⟩:=I.tuple hB
 obtain ⟨⟨cls,dd,data,sl⟩,e2,hc,n2,hd⟩:=id p2
 simp only at hc hd
 subst hc hd
 have hl2:=r2.length
 have hsz:its.toArray.size+its2.toArray.size<=sizeLine:=by rw[List.size_toArray,List.size_toArray];omega
 have hlong:¬ (!its.toArray.isEmpty&&Builtin.List.listTooLong (its.toArray.size+its2.toArray.size))=true:=by
  rw[kB hsz,Bool.and_false]
  exact Bool.false_ne_true
 refine call_meets F.slot_list_extend ⟨_,e,rfl⟩ F.entry_list_extend (F.args_list_extend_2 _ _)
  (jQ l its.toArray n b its2.toArray n2 dd sl hlong (by rw[List.size_toArray];omega) (by omega)) ⟨e,e2,?_⟩
 refine ⟨.non,_,I.yZ (its':=its++its2) hH e (by simp) (r.append r2) ?_,rfl,q⟩
 rw[List.length_append]
 omega
theorem ug:MtR X "list.extend" (rMe X.prog X.w X.K .extend):=by
 intro pins s σ H v vs v' us Q I rv rus h
 obtain ⟨m,h,x,ws,z,h',R,rx,rws,e,post⟩:=h
 cases x with
 | p d=>cases ws with
  | nil=>(first | (cases e;done) | simp[BT.meW,BT.meD,BT.br] at e)
  | cons _ _=>rw[rJ] at e;split at e<;>(try cases e)
 | k kvs=>(first | (cases e;done) | simp[BT.meW] at e)
 | c _ _=>(first | (cases e;done) | simp[BT.meW] at e)
 | o kvs=>(first | (cases e;done) | simp[BT.meW] at e)
 | r n =>
  cases rws with
  | nil=>(first | (cases e;done) | simp[BT.meW] at e)
  | @cons y wy _ _ ry t =>
   cases t with
   | cons _ _=>(first | (cases e;done) | simp[BT.meW] at e)
   | nil =>
    rw[BT.qv] at e
    cases g:BT.lat h n with
    | none=>rw[g] at e;cases e
    | some xs =>
     cases g2:(BT.rd wy h).bind BT.m7 with
     | none=>rw[g,g2] at e;cases e
     | some ys =>
      rw[g,g2] at e
      simp only at e
      split at e
      ·rename_i c
       cases e
       obtain ⟨d,e1,e2⟩:=Option.bind_eq_some_iff.mp g2
       have r2:=aP R ry e1
       cases rx with
       | @r a _ hn =>
        obtain ⟨us',hH,r⟩:=R.cell n a xs hn g
        cases rv
        obtain ⟨u,rfl,ru⟩:=rus.one
        have:=dh
        have hl:=r.length
        cases d<;>simp only[BT.m7] at e2<;>try contradiction
        ·cases e2
         obtain ⟨b,vb,rfl,hb,rb⟩:=r2.tup
         cases ru
         have hl2:=rb.length
         exact zK I hH hb (by omega) (post _ _ m (fG (List.mem_of_getElem? hn) hH) (R.set hn hH (r.append rb)) (.p .non))
        ·cases e2
         obtain ⟨b,vb,rfl,hb,rb⟩:=r2.lst
         cases ru
         have hl2:=rb.length
         exact wC I hH hb (by omega) (post _ _ m (fG (List.mem_of_getElem? hn) hH) (R.set hn hH (r.append rb)) (.p .non))
      ·cases e
theorem RWs.pure {P:Program}{w:World}{K:PySem.W.Frag}{m:List Addr}{H:Hp}:∀ {vs:List V}{ws:List BT.W}{ds:List BT.D},RWs P w K m H vs ws->BT.br ws=some ds->RDs K m H vs ds:=by
 intro vs ws
 induction ws generalizing vs with
 | nil =>
  intro ds r e
  cases r
  cases e
  exact .nil
 | cons x ws ih =>
  intro ds r e
  cases r with
  | cons r t =>
   cases r with
   | p r =>
    simp only[BT.br] at e
    obtain ⟨q,e1,e2⟩:=aR e
    subst e2
    exact .cons r (ih t e1)
   | _=>cases e
theorem kK {x:BT.D}:∀ {ds:List BT.D}{k j:Nat},BT.kD x ds k=some j->∃ i,j=k+i/\∃ (hi:i < ds.length),BT.eqv ds[i] x=true/\∀ m (hm:m < ds.length),m < i->BT.eqv ds[m] x=false
 | [],_,_,e=>by cases e
 | y :: r,k,j,e=>by
  simp only[BT.kD] at e
  split at e
  ·rename_i c
   cases e
   exact ⟨0,rfl,by simp,c,fun m _ h=>by omega⟩
  ·rename_i c
   obtain ⟨i,rfl,hi,h1,h2⟩:=kK e
   refine ⟨i+1,by omega,by simp;omega,by simpa using h1,fun m hm hlt=>?_⟩
   cases m with
   | zero=>simpa using c
   | succ m=>simpa using h2 m (by simpa using hm) (by omega)
theorem nE {pins:List (Addr×Obj)}{σ:L2.St}{s:Shared}{m:List Addr}{H:Hp}{d:BT.D} (I:Inv X pins σ H s):∀ {vs:List V}{ds:List BT.D}{us:List Value},RDs X.K m H vs ds->aq vs us->∀ (i:Nat) (h1:i < us.length) (h2:i < ds.length),dD s.heap (pd d) us[i]=BT.eqv ds[i] d
 | _,_,_,.nil,q=>by cases q;intro i h1;simp at h1
 | _,_,_,.cons r t,q=>by
  cases q with
  | cons q1 q2 =>
   intro i h1 h2
   cases i with
   | zero =>
    obtain ⟨as,ra⟩:=gx I r q1
    simp only[List.getElem_cons_zero]
    rw[qC ra (d7 r),kJ]
   | succ i=>simpa using nE I t q2 i (by simpa using h1) (by simpa using h2)
theorem uh (hu:X.A.units+150 < cLine):MtR X "tuple.index" (fun v vs H Q=>(∃ m h x ws z h',RH X.K m H h/\RW X.prog X.w X.K m H v x/\RWs X.prog X.w X.K m H vs ws/\BT.meW .tindex x ws h=some (z,h')/\Post X.prog X.w X.K m H z h' Q)):=by
 intro pins s σ H v vs v' us Q I rv rus h
 obtain ⟨m,h,x,ws,z,h',R,rx,rws,e,post⟩:=h
 cases x with
 | r n=>cases ws with
  | nil=>(first | (cases e;done) | simp[BT.meW] at e)
  | cons _ _=>(first | (cases e;done) | simp[BT.meW] at e)
 | k kvs=>(first | (cases e;done) | simp[BT.meW] at e)
 | c _ _=>(first | (cases e;done) | simp[BT.meW] at e)
 | o kvs=>(first | (cases e;done) | simp[BT.meW] at e)
 | p d =>
  rw[BT.kE] at e
  cases g:BT.br ws with
  | none=>rw[g] at e;cases e
  | some ds =>
   rw[g] at e
   obtain ⟨b,e1,e2⟩:=aR e
   cases e2
   have rds:=rws.pure g
   cases d<;>simp only[BT.meD] at e1<;>try contradiction
   rename_i xs
   cases ds with
   | nil=>simp[BT.meD] at e1
   | cons d0 dr =>
    cases dr with
    | cons _ _=>simp[BT.meD] at e1
    | nil =>
     simp only[BT.meD] at e1
     split at e1
     ·rename_i c
      obtain ⟨j,e3,e4⟩:=aR e1
      subst e4
      obtain ⟨i,rfl,hi,h1,h2⟩:=kK e3
      cases rds with
      | cons r0 rn =>
       cases rn
       obtain ⟨u,rfl,ru⟩:=rus.one
       cases rx with
       | p rx =>
        obtain ⟨a,vt,rfl,ha,ra⟩:=RR.tup (.d rx)
        cases rv
        obtain ⟨its,q1,q2,_⟩:=I.tuple ha
        obtain ⟨⟨cls,dd,data,sl⟩,ho,hc,n,hd⟩:=id q2
        simp only at hc hd
        subst hc hd
        have hl:=q1.length
        have hl2:=ra.length
        have hi':i < its.toArray.size:=by rw[List.size_toArray];omega
        refine call_meets F.slot_tuple_index ⟨_,ho,rfl⟩ F.entry_tuple_index (F.args_tuple_index_2 _ _)
         (lI a its.toArray n dd sl u (dD s.heap (pd d0)) i hi' ?_ ?_) ⟨ho,?_,?_⟩
        ·rw[show its.toArray[i]=its[i]'(by omega) by simp,nE I ra q1 i (by omega) hi];exact h1
        ·intro k hk hlt
         have hk':k < its.length:=by simpa using hk
         rw[show its.toArray[k]=its[k]'hk' by simp,nE I ra q1 k hk' (by omega)];exact h2 k (by omega) hlt
        ·intro y hy
         exact gW hu I (.d r0) ru ra q1 c y (by simpa using hy)
        ·refine ⟨.int (((0+i:Nat):Nat):Int),H,I.tok _,⟨s.toks,?_⟩,post.here R (.int _)⟩
         simp
     ·cases e1
end
end BS
end
section
namespace BS
open PySem PySem.Spec PyProof.Rows L2
section
variable {X:Cx}
noncomputable def rBi (P:Program) (w:World) (K:PySem.W.Frag) (b:BT.Bi) (mu:Bool):List V->Hp->VK->Prop:=fun vs H Q =>
 ∃ m h ws z h',RH K m H h/\RWs P w K m H vs ws/\BT.kBi b mu ws h=some (z,h')/\Post P w K m H z h' Q
inductive RRs (K:PySem.W.Frag) (m:List Addr) (H:Hp):List V->List BT.D->Prop where
 | nil:RRs K m H [] []
 | cons {v:V}{d:BT.D}{vs:List V}{ds:List BT.D} (r:RR K m H v d) (t:RRs K m H vs ds):RRs K m H (v :: vs) (d :: ds)
theorem fR {P:Program}{w:World}{K:PySem.W.Frag}{m:List Addr}{H:Hp}{h:BT.HH} (R:RH K m H h):∀ {vs:List V}{ws:List BT.W}{ds:List BT.D},RWs P w K m H vs ws->BT.rds ws h=some ds->RRs K m H vs ds
 | _,_,_,.nil,e=>by cases e;exact .nil
 | _,_,_,.cons r t,e=>by
  simp only[BT.rds] at e
  obtain ⟨d,e1,e2⟩:=Option.bind_eq_some_iff.mp e
  obtain ⟨q,e3,e4⟩:=aR e2
  subst e4
  exact .cons (aP R r e1) (fR R t e3)
theorem gA {b:BT.Bi}{mu:Bool}{ws:List BT.W}{h:BT.HH}{z:BT.W}{h':BT.HH} (e:BT.kBi b mu ws h=some (z,h')) :
 ∃ ds d,BT.rds ws h=some ds/\BT.biD b ds=some d/\((mu=false/\z=.p d/\h'=h)\/∃ xs,mu=true/\d=.lst xs/\z=.r h.length/\h'=h++[.l xs]):=by
 unfold BT.kBi at e
 cases e1:BT.rds ws h with
 | none=>rw[e1] at e;cases e
 | some ds =>
  rw[e1] at e
  simp only at e
  cases e2:BT.biD b ds with
  | none=>rw[e2] at e;cases e
  | some d =>
   rw[e2] at e
   simp only at e
   cases mu with
   | false=>cases e;exact ⟨ds,d,rfl,e2,.inl ⟨rfl,rfl,rfl⟩⟩
   | true =>
    simp only[if_true] at e
    cases d<;>simp only at e<;>try contradiction
    cases e
    exact ⟨ds,_,rfl,e2,.inr ⟨_,rfl,rfl,rfl,rfl⟩⟩
theorem RRs.one {K:PySem.W.Frag}{m:List Addr}{H:Hp}{vs:List V}{d:BT.D} (r:RRs K m H vs [d]):∃ v,vs=[v]/\RR K m H v d:=by
 cases r with
 | cons r t=>cases t;exact ⟨_,rfl,r⟩
theorem DF:cG X (.builtin "len") (rBi X.prog X.w X.K .len false):=by
 intro pins s σ H vs us Q I rus h
 obtain ⟨m,h,ws,z,h',R,rws,e,post⟩:=h
 obtain ⟨ds,d,e1,e2,⟨_,rfl,rfl⟩ | ⟨_,q,_⟩⟩:=gA e
 ·have rr:=fR R rws e1
  match ds,e2 with
  | [.tup xs],e2 =>
   cases e2
   obtain ⟨v,rfl,r⟩:=rr.one
   obtain ⟨a,vt,rfl,ha,ra⟩:=r.tup
   exact iQ pins s σ H _ us Q I rus ⟨a,vt,rfl,.inr ha,by rw[ra.length];exact post.here R (.int _)⟩
  | [.lst xs],e2 =>
   cases e2
   obtain ⟨v,rfl,r⟩:=rr.one
   obtain ⟨a,vt,rfl,ha,ra⟩:=r.lst
   exact iQ pins s σ H _ us Q I rus ⟨a,vt,rfl,.inl ha.sq,by rw[ra.length];exact post.here R (.int _)⟩
  | [.str x],e2 =>
   rw[BT.tU] at e2
   split at e2
   ·rename_i c
    cases e2
    obtain ⟨v,rfl,r⟩:=rr.one
    obtain ⟨rfl,_⟩:=r.str
    have:=dh
    exact mX pins s σ H _ us Q I rus ⟨x,rfl,by omega,post.here R (.int _)⟩
   ·cases e2
 ·cases q
theorem DG:cG X (.builtin "abs") (rBi X.prog X.w X.K .abs false):=by
 intro pins s σ H vs us Q I rus h
 obtain ⟨m,h,ws,z,h',R,rws,e,post⟩:=h
 obtain ⟨ds,d,e1,e2,⟨_,rfl,rfl⟩ | ⟨_,q,_⟩⟩:=gA e
 ·have rr:=fR R rws e1
  match ds,e2 with
  | [.int i],e2 =>
   cases e2
   obtain ⟨v,rfl,r⟩:=rr.one
   cases r.int
   exact vf pins s σ H _ us Q I rus ⟨i,rfl,post.here R (.int _)⟩
 ·cases q
theorem DH:cG X (.type "int") (rBi X.prog X.w X.K .int false):=by
 intro pins s σ H vs us Q I rus h
 obtain ⟨m,h,ws,z,h',R,rws,e,post⟩:=h
 obtain ⟨ds,d,e1,e2,⟨_,rfl,rfl⟩ | ⟨_,q,_⟩⟩:=gA e
 ·have rr:=fR R rws e1
  match ds,e2 with
  | [.int i],e2 =>
   cases e2
   obtain ⟨v,rfl,r⟩:=rr.one
   cases r.int
   exact lV pins s σ H _ us Q I rus (.inl ⟨i,rfl,post.here R (.int _)⟩)
  | [.bl i],e2 =>
   cases e2
   obtain ⟨v,rfl,r⟩:=rr.one
   cases r.bl
   exact lV pins s σ H _ us Q I rus (.inr ⟨i,rfl,post.here R (.int _)⟩)
 ·cases q
theorem rK {mu:Bool}:cG X (.type "list") (rBi X.prog X.w X.K .list mu):=by
 intro pins s σ H vs us Q I rus h
 obtain ⟨m,h,ws,z,h',R,rws,e,post⟩:=h
 obtain ⟨ds,d,e1,e2,hz⟩:=gA e
 have rr:=fR R rws e1
 have fin:∀ {p:Addr}{vt:List V}{xs:List BT.D},d=.lst xs->H p=none->RDs X.K m H vt xs->Q (.ref p) (upd H p (.lst vt)):=by
  intro p vt xs ed hp r
  rcases hz with ⟨_,rfl,rfl⟩ | ⟨ys,_,e3,rfl,rfl⟩
  ·subst ed;exact iW R hp r post
  ·rw[ed] at e3;cases e3;exact rG R hp r post
 match ds,e2 with
 | [.tup xs],e2 =>
  cases e2
  obtain ⟨v,rfl,r⟩:=rr.one
  obtain ⟨a,vt,rfl,ha,ra⟩:=r.tup
  exact iR pins s σ H _ us Q I rus ⟨a,vt,rfl,.inr ha,fun p hp=>fin rfl hp ra⟩
 | [.lst xs],e2 =>
  cases e2
  obtain ⟨v,rfl,r⟩:=rr.one
  obtain ⟨a,vt,rfl,ha,ra⟩:=r.lst
  exact iR pins s σ H _ us Q I rus ⟨a,vt,rfl,.inl ha.sq,fun p hp=>fin rfl hp ra⟩
theorem kL:∀ {xs:List BT.D}{ns:List Int},BT.intsOf xs=some ns->xs=ns.map BT.D.int
 | [],ns,h=>by cases h;rfl
 | .int i :: r,ns,h=>by
  simp only[BT.intsOf] at h
  obtain ⟨q,e1,e2⟩:=aR h
  subst e2
  rw[kL e1];rfl
 | .non :: _,_,h=>by cases h
 | .bl _ :: _,_,h=>by cases h
 | .str _ :: _,_,h=>by cases h
 | .tup _ :: _,_,h=>by cases h
 | .lst _ :: _,_,h=>by cases h
theorem gB {K:PySem.W.Frag}{m:List Addr}{H:Hp}:∀ {ns:List Int}{vs:List V},RDs K m H vs (ns.map BT.D.int)->vs=ns.map V.int
 | [],vs,r=>by cases r;rfl
 | n :: ns,vs,r=>by
  cases r with
  | cons r t=>cases r;rw[gB t];rfl
theorem wD:cG X (.type "tuple") (rBi X.prog X.w X.K .tuple false):=by
 intro pins s σ H vs us Q I rus h
 obtain ⟨m,h,ws,z,h',R,rws,e,post⟩:=h
 obtain ⟨ds,d,e1,e2,⟨_,rfl,rfl⟩ | ⟨_,q,_⟩⟩:=gA e
 ·have rr:=fR R rws e1
  match ds,e2 with
  | [.tup xs],e2 =>
   cases e2
   obtain ⟨v,rfl,r⟩:=rr.one
   obtain ⟨a,vt,rfl,ha,ra⟩:=r.tup
   refine iw pins s σ H _ us Q I rus ⟨a,vt,rfl,.inr ⟨ha,?_⟩⟩
   cases r with
   | d r=>exact post.here R r
  | [.lst xs],e2 =>
   cases e2
   obtain ⟨v,rfl,r⟩:=rr.one
   obtain ⟨a,vt,rfl,ha,ra⟩:=r.lst
   exact iw pins s σ H _ us Q I rus ⟨a,vt,rfl,.inl ⟨ha.sq,fun p hp=>iV R hp ra post⟩⟩
 ·cases q
noncomputable def tyD:BT.D->String
 | .non=>"NoneType"
 | .bl _=>"bool"
 | .int _=>"int"
 | .str _=>"str"
 | .tup _=>"tuple"
 | .lst _=>"list"
theorem zL {pins:List (Addr×Obj)}{σ:L2.St}{s:Shared}{H:Hp}{m:List Addr}{v:V}{u:Value}{d:BT.D}{c:String}{b:Bool}{Q:Value->Shared->Prop}{A:Around}{E:Value->Shared->Prop}
 (I:Inv X pins σ H s) (r:RR X.K m H v d) (rv:RelV v u) (e:PySem.W.kitOne X.K (.type (tyD d)) (.type c)=some b) (h:∀ tk,Q (.bool b) { s with toks:=tk }) :
 wpAny (model X.prog X.w) A (call (.builtin "isinstance") [u,.type c]) Q E s:=by
 cases d with
 | non=>cases r.non;cases rv;exact PySem.W.kia_one PySem.W.kitx_none I.kIn True.intro e (fun z=>nomatch z) h
 | bl y=>cases r.bl;cases rv;exact PySem.W.kia_one PySem.W.kitx_bool I.kIn True.intro e (fun z=>nomatch z) h
 | int i=>cases r.int;obtain ⟨t,rfl⟩:=rv;exact PySem.W.kia_one PySem.W.kitx_int I.kIn True.intro e (fun z=>nomatch z) h
 | str y=>obtain ⟨rfl,_⟩:=r.str;obtain ⟨t,rfl⟩:=rv;exact PySem.W.kia_one PySem.W.kitx_str I.kIn True.intro e (fun z=>nomatch z) h
 | tup xs =>
  obtain ⟨a,vt,rfl,ha,_⟩:=r.tup
  cases rv
  obtain ⟨its,_,⟨o,h1,h2,_⟩,_⟩:=I.tuple ha
  exact PySem.W.kia_one PySem.W.kitx_tuple I.kIn ⟨o,h1,h2⟩ e (fun z=>nomatch z) h
 | lst xs =>
  obtain ⟨a,vt,rfl,ha,_⟩:=r.lst
  cases rv
  obtain ⟨_,its,n,_,_,h1⟩:=rdL I ha
  exact PySem.W.kia_one PySem.W.kitx_list I.kIn ⟨_,h1,rfl⟩ e (fun z=>nomatch z) h
theorem wF (K:PySem.W.Frag) (t:String):PySem.W.kitOne K (.type t) (.type t)=some true:=by
 unfold PySem.W.kitOne
 rw[if_pos (by simp)]
theorem wG {b:BT.Bi}{c:String}{f:BT.D->Bool} (h:oW b=some (c,f)) (d:BT.D):BT.biD b [d]=some (.bl (f d)):=by
 cases b<;>simp only[oW] at h<;>try contradiction
 all_goals (cases h;rfl)
theorem wH {b:BT.Bi}{c:String}{f:BT.D->Bool} (h:oW b=some (c,f)) (K:PySem.W.Frag) (d:BT.D):PySem.W.kitOne K (.type (tyD d)) (.type c)=some (f d):=by
 cases b<;>simp only[oW] at h<;>try contradiction
 all_goals (cases h;cases d)
 all_goals first
  | exact wF K _
  | (simp only[tyD];unfold PySem.W.kitOne;rw[if_neg (by decide)];unfold PySem.W.kitCls;first | rfl | kernel_rfl | decide +kernel)
end
end BS
end
section
namespace BS
open PySem PySem.Spec PyProof.Rows L2
noncomputable abbrev FT:=BT.FK->List BT.W->BT.HH->Option (BT.W×BT.HH)
noncomputable def spF (P:Program) (w:World) (K:PySem.W.Frag) (g:List BT.W->BT.HH->Option (BT.W×BT.HH)):Sp:=fun vs H Q _ =>
 ∃ m ws h z h',RH K m H h/\RWs P w K m H vs ws/\g ws h=some (z,h')/\Post P w K m H z h' Q
noncomputable def tD (X:Cx) (F:FT) (G:Str->Option BT.W) (e:BT.E):TE:=fun σ H Q =>
 ∃ m s h z h',RH X.K m H h/\RS X.prog X.w X.K m H σ s/\BT.ev F G e s h=some (z,h')/\Post X.prog X.w X.K m H z h' Q
noncomputable def tDs (X:Cx) (F:FT) (G:Str->Option BT.W) (es:BT.Es):TA:=fun σ H Q =>
 ∃ m s h zs h',RH X.K m H h/\RS X.prog X.w X.K m H σ s/\BT.evs F G es s h=some (zs,h')/\∀ vs H' m',Ext m H m' H'->RH X.K m' H' h'->RWs X.prog X.w X.K m' H' vs zs->Q vs H'
noncomputable def tDT (X:Cx) (F:FT) (G:Str->Option BT.W) (e:BT.E):TT:=fun σ H Q =>
 ∃ m s h b h',RH X.K m H h/\RS X.prog X.w X.K m H σ s/\BT.ev F G e s h=some (.p (.bl b),h')/\∀ H' m',Ext m H m' H'->RH X.K m' H' h'->Q b H'
noncomputable def o4 (P:Program) (w:World) (K:PySem.W.Frag) (mg:Str->Option Value) (base:Heap) (k L:Nat) (g:List BT.W->BT.HH->Option (BT.W×BT.HH)):Prop :=
 ∀ (A:Around) (outer:List Env) (s:Shared) (H:Hp) (f:Addr) (us:List Value) (vs cvs:List V) (m:List Addr) (ws:List BT.W) (cs:List BT.Cp) (h:BT.HH) (z:BT.W) (h':BT.HH) (Q:VK) (E:XK),bJ k A->iN P w K mg base A outer s H->aq vs us →
  RH K m H h->RWs P w K m H vs ws->BT.noC ws=true->gq m H f L cvs->RCs K m H cvs cs->g (ws++cs.map BT.Cp.w) h=some (z,h')->Post P w K m H z h' Q->codeAny (model P w) A (.call (.ref f) ⟨us,[]⟩) (CR CX0 outer P w H s Q E) s
structure LX (X:Cx) (x:Str):Prop where
 mem:x∈BT.dN
 ex:∃ c P,PySem.W.tabIn X.K x=some (c,P)/\X.env.code=.ref c/\PySem.W.CodeHd X.base c P/\∀ y∈BT.dN,∀ c2,PySem.W.tabIn X.K y=some (c2,P)->y=x
 ql:X.env.qual=x++".<locals>."
 bm:∃ bm ob,X.mg "__builtins__"=some (.ref bm)/\bm≠builtinsNs/\X.base.get? bm=some ob/\ob.cls=.type "module"/\ob.dict=some builtinsNs/\ob.data=.plain
noncomputable def DI:List Str:=["len","abs","int","list","tuple","isinstance","str","bool","range","reversed","enumerate","zip","min","max","sorted","sum","all","any","set"]
structure Ok (X:Cx) (F:FT) (G:Str->Option BT.W) (sc:Scope) (N:List Str):Prop where
 hsc:X.env.scope=sc
 hN:X.N=N
 nd:X.N.Nodup
 calm:X.calm=true
 hu:X.A.units+150 < cLine
 own:PassesOwn (model X.prog X.w) X.A X.env X.xe
 glob:∀ x z,G x=some z->∃ u v,X.mg x=some u/\RelV v u/\∀ m H,RW X.prog X.w X.K m H v z
 call:∀ (f:Str) ws h r,F (.f f) ws h=some r->∃ (fa:Addr) (fd:FuncData) (ps:List Str) (k:Nat),X.mg f=some (.ref fa)/\PySem.W.keepIn X.K (.ref fa)=true/\Binds X.K fd ps []/\bJ k X.A ∧
  dg X.prog X.w X.K X.mg X.base CX0 k fa fd ps (spF X.prog X.w X.K (F (.f f)))
 meth:∀ (c m:Str) ws h r,F (.m c m) ws h=some r->∃ (C g:Addr) (fd:FuncData) (ps:List Str) (k:Nat),kH X.K c C/\tM X.K C m g/\Binds X.K fd ps []/\bJ k X.A ∧
  dg X.prog X.w X.K X.mg X.base CX0 k g fd ps (spF X.prog X.w X.K (F (.m c m)))
 mkc:∀ (c:Str) ws h r,F (.m c "__init__") ws h=some r->∃ (C g:Addr) (fd:FuncData) (ps:List Str) (k:Nat),kH X.K c C/\X.mg c=some (.ref C)/\Mk X.K C g/\Binds X.K fd ps []/\bJ (k+1) X.A ∧
  dg X.prog X.w X.K X.mg X.base CX0 k g fd ps (spF X.prog X.w X.K (F (.m c "__init__")))
 blt:∀ x∈DI,X.mg x=none
 lam:∀ (L:Nat) ws h r,F (.l L) ws h=some r->∃ k,bJ k X.A/\o4 X.prog X.w X.K X.mg X.base k L (F (.l L))
 lamx:(∀ x,X.fn x=true)->∀ x,N.contains (BT.cQ x)=true->LX X x
theorem PE.weak {X:Cx}{e:PySem.Expr}{t t':TE} (h:PE X e t) (q:∀ σ H Q,t' σ H Q->t σ H Q):PE X e t':=fun pins s σ H Q I hw=>h pins s σ H Q I (q _ _ _ hw)
theorem PT.weak {X:Cx}{e:PySem.Expr}{t t':TT} (h:PT X e t) (q:∀ σ H Q,t' σ H Q->t σ H Q):PT X e t':=fun pins s σ H Q I hw=>h pins s σ H Q I (q _ _ _ hw)
theorem PW.weak {X:Cx}{e:PySem.Expr}{t t':TT} (h:PW X e t) (q:∀ σ H Q,t' σ H Q->t σ H Q):PW X e t':=fun wh pins s σ H Q I hw=>h wh pins s σ H Q I (q _ _ _ hw)
theorem PA.weak {X:Cx}{es:List PySem.Expr}{t t':TA} (h:PA X es t) (q:∀ σ H Q,t' σ H Q->t σ H Q):PA X es t':=fun pos pins s σ H Q I hw=>h pos pins s σ H Q I (q _ _ _ hw)
theorem ak {e:PySem.Expr}{es:List PySem.Expr}{env:Env} (h:noStar e=true):starEach (e :: es) env=(false,eval e env) :: starEach es env:=by
 cases e<;>first | rfl | cases h
theorem wI {b:PySem.Expr} (h:iT b=true):q9 b:=fun o i=>by
 cases b<;>first | rfl | cases h
theorem gX {o:PySem.Expr}{name:Str}{env:Env} (h:aD o=true):attributeBase o name env (eval o env)=eval o env:=by
 cases o with
 | Call fn as ks p =>
  cases fn with
  | Attribute _ _ _=>rfl
  | _=>cases h
 | _=>first | rfl | cases h
noncomputable def au:List PySem.Expr->Bool
 | []=>true
 | e :: es=>noStar e&&au es
theorem aS {pos:Pos}{env:Env}:∀ {es:List PySem.Expr},au es=true->(backTo pos (starEach es env)).any (·.1)=false
 | [],_=>rfl
 | e :: es,h=>by
  simp only[au,Bool.and_eq_true] at h
  rw[ak h.1]
  show (false||(backTo pos (starEach es env)).any (·.1))=false
  rw[aS h.2];rfl
theorem gC {pos:Pos}{env:Env}:∀ {es:List PySem.Expr},au es=true->(backTo pos (starEach es env)).all (fun x=>!x.1)=true
 | [],_=>rfl
 | e :: es,h=>by
  simp only[au,Bool.and_eq_true] at h
  rw[ak h.1]
  show (!false&&(backTo pos (starEach es env)).all (fun x=>!x.1))=true
  rw[gC h.2];rfl
theorem dM:∀ {sc:Scope}{N:List Str}{as:BT.Es}{es:List PySem.Expr},CEs sc N as es->au es=true
 | _,_,_,_,.nil=>rfl
 | _,_,_,_,.cons hs _ hr=>by
  simp only[au,Bool.and_eq_true]
  exact ⟨hs,dM hr⟩
section
variable {X:Cx}{F:FT}{G:Str->Option BT.W}{sc:Scope}{N:List Str}
theorem nF {f:BT.OpW}{e a b:BT.E} (he:∀ s h,BT.ev F G e s h=BT.bnd (BT.ev F G a s h) (BT.k2 (BT.ev F G b s) f)) (σ:L2.St) (H:Hp) (Q:VK) (q:tD X F G e σ H Q) :
 tOp (rOp X.prog X.w X.K f) (tD X F G a) (tD X F G b) σ H Q:=by
 obtain ⟨m,s,h,z,h',R,S,ee,post⟩:=q
 rw[he] at ee
 obtain ⟨x,h1,e1,e2⟩:=ao ee
 simp only[BT.k2] at e2
 obtain ⟨y,h2,e3,e4⟩:=ao e2
 refine ⟨m,s,h,x,h1,R,S,e1,fun v H1 m1 x1 R1 r1=>?_⟩
 refine ⟨m1,s,h1,y,h2,R1,S.ext x1,e3,fun u H2 m2 x2 R2 r2=>?_⟩
 exact ⟨m2,h2,x,y,z,h',R2,r1.ext x2,r2,e4,fun w' H3 m3 x3 R3 r3=>post w' H3 m3 ((x1.trans x2).trans x3) R3 r3⟩
theorem o5 {e:BT.E}{t:TE} (h:∀ σ H Q,tD X F G e σ H Q->t σ H Q) (σ:L2.St) (H:Hp) (Q:Bool->Hp->Prop) (q:tDT X F G e σ H Q):vc t σ H Q:=by
 obtain ⟨m,s,h0,b,h',R,S,ee,post⟩:=q
 refine h σ H _ ⟨m,s,h0,_,h',R,S,ee,fun v H' m' x R' r=>?_⟩
 cases r with
 | p r=>cases r;exact ⟨b,rfl,post H' m' x R'⟩
theorem opB {o:BT.Bin}{op:Operator} (h:BX o op=true):OpR X (binaryOp op) (rOp X.prog X.w X.K (BT.lH o)):=by
 cases o<;>cases op<;>cases h
 ·exact Du
 ·exact Dv
 ·exact Dz
 ·exact Dw
 ·exact zG
 ·exact Dy
theorem B0 {vs:List (Key×Value)}{k:Str}:∀ {es:List (Str×V)}{kvs:List (Str×BT.D)}{K:PySem.W.Frag},RDk K es kvs->KV (es.map fun q=>((Sum.inr q.1:Key),q.2)) vs->(valueAt vs (Sum.inr k)).isSome=(BT.dQ k kvs).isSome:=by
 intro es
 induction es generalizing vs with
 | nil =>
  intro kvs K r q
  cases r
  cases q
  rfl
 | cons p es ih =>
  intro kvs K r q
  cases r with
  | @cons x v dd _ kvs r t =>
   cases q with
   | @cons p z l1 l2 q1 q2 =>
    obtain ⟨z1,z2⟩:=z
    obtain ⟨q11,q12⟩:=q1
    simp only at q11 q12
    subst q11
    rw[BT.dQ]
    by_cases c:k=x
    ·subst c
     simp[valueAt]
    ·rw[if_neg c]
     have ne:¬ ((Sum.inr x:Key)=Sum.inr k):=fun z=>c (Sum.inr.inj z).symm
     have:=ih t q2
     simp only[valueAt] at this ⊢
     rw[List.find?_cons_of_neg (by simpa using ne)]
     exact this
theorem opC (O:Ok X F G sc N) {o:BT.Cm}{op:CmpOp} (h:zF o op=true):OpR X (compareOp op) (rOp X.prog X.w X.K (BT.fY o)):=by
 cases o<;>cases op<;>cases h
 ·exact GP O.hu
 ·exact GQ O.hu
 ·exact GR
 ·exact GS
 ·exact GT
 ·exact GU
 ·exact DA
 ·exact zH
 ·refine DB O.hu ?_
  intro kvs x b m H v u v' u' pins σ s Q I rv ru rx rk e q
  cases x with
  | r n=>simp[BT.inK] at e
  | k q=>simp[BT.inK] at e
  | c _ _=>simp[BT.inK] at e
  | o q=>simp[BT.inK] at e
  | p d =>
   cases d<;>simp only[BT.inK] at e<;>try contradiction
   cases e
   cases rk with
   | @k a es _ kd rk =>
    cases ru
    cases rx with
    | p rx =>
     cases rx with
     | str x ok =>
      obtain ⟨t,rfl⟩:=rv
      obtain ⟨hm,vs,kv,dd⟩:=kd
      have D:=dd s.heap I.kIn
      refine wpAny_in_of (knd:=aU X.prog X.w) (eN _ _ _ t) hm D.mapOf ?_
      rw[B0 rk kv]
      exact ⟨.bl _,H,I.tok _,rfl,q⟩
 ·refine zI O.hu ?_
  intro kvs x b m H v u v' u' pins σ s Q I rv ru rx rk e q
  cases x with
  | r n=>simp[BT.inK] at e
  | k q=>simp[BT.inK] at e
  | c _ _=>simp[BT.inK] at e
  | o q=>simp[BT.inK] at e
  | p d =>
   cases d<;>simp only[BT.inK] at e<;>try contradiction
   cases e
   cases rk with
   | @k a es _ kd rk =>
    cases ru
    cases rx with
    | p rx =>
     cases rx with
     | str x ok =>
      obtain ⟨t,rfl⟩:=rv
      obtain ⟨hm,vs,kv,dd⟩:=kd
      have D:=dd s.heap I.kIn
      refine wpAny_notIn_of (knd:=aU X.prog X.w) (eN _ _ _ t) hm D.mapOf ?_
      rw[B0 rk kv]
      exact ⟨.bl _,H,I.tok _,rfl,q⟩
end
end BS
end
section
namespace BS
open PySem PySem.Spec PyProof.Rows L2
section
variable {X:Cx}{F:FT}{G:Str->Option BT.W}{sc:Scope}{N:List Str}
theorem zM (O:Ok X F G sc N) (x:Str):X.env.kindOf x=sc.names.lookup x:=by rw[← O.hsc];rfl
theorem dU {x:Str} (h:cR x=true):(x==("__debug__":Str))=false/\(x==("__classdict__":Str))=false/\x≠"__name__":=by
 simp only[cR,Bool.and_eq_true,Bool.not_eq_true'] at h
 exact ⟨h.1.1,h.1.2,fun e=>by rw[e] at h;simp at h⟩
theorem bL (O:Ok X F G sc N) {x:Str} (h:bB sc x=true):Gl X x:=by
 show X.env.kindOf x=_
 rw[zM O]
 exact eq_of_beq h
theorem wJ (O:Ok X F G sc N) {x:Str} (h:jH sc x=true):Vis X.env.scope x:=by
 rw[O.hsc]
 unfold jH at h
 unfold Vis
 cases e:sc.names.lookup x with
 | none=>rw[e] at h;cases h
 | some k=>rw[e] at h;cases k<;>first | (exact .inl rfl) | (exact .inr (.inl rfl)) | (exact .inr (.inr rfl)) | cases h
theorem nG (O:Ok X F G sc N) {i:Nat}{y:Str}{pos:Pos} (h2:N[i]?=some y) (h3:jH sc y=true) (h4:cR y=true):PE X (.Name y pos) (tD X F G (.var i y)):=by
 obtain ⟨d1,d2,_⟩:=dU h4
 refine PE.weak (uP (i:=i) (by rw[O.hN];exact h2) (wJ O h3) d1 d2) fun σ H Q q=>?_
 obtain ⟨m,s,h,z,h',R,S,ee,post⟩:=q
 simp only[BT.ev] at ee
 split at ee
 ·rename_i w e
  cases ee
  obtain ⟨v,hv,r⟩:=S.get i _ e
  exact ⟨v,hv,post v H m (.refl _ _) R r⟩
 ·cases ee
theorem zN {d:BT.D}{c:Const}{k:Nat}{pos:Pos} (h:BY d c=true):PE X (.Constant c k pos) (tD X F G (.cst d)):=by
 have fin:∀ {v:V},(∀ m H,RD X.K m H v d)->∀ σ H Q,tD X F G (.cst d) σ H Q->tC v σ H Q:=fun r σ H Q q=>by
  obtain ⟨m,s,h,z,h',R,S,ee,post⟩:=q
  simp only[BT.ev] at ee
  cases ee
  exact post _ H m (.refl _ _) R (.p (r m H))
 cases d<;>cases c<;>first | (cases h;done) | skip
 ·exact PE.weak Cc (fin fun _ _=>.non)
 ·cases eq_of_beq h;exact PE.weak Fk (fin fun _ _=>.bl _)
 ·cases eq_of_beq h;exact PE.weak p9 (fin fun _ _=>.int _)
 ·have h:=Bool.and_eq_true_iff.mp h
  cases eq_of_beq h.1;exact PE.weak Cd (fin fun _ _=>.str _ h.2)
theorem zO (O:Ok X F G sc N) {y:Str}{pos:Pos} (h2:bB sc y=true) (h3:cR y=true):PE X (.Name y pos) (tD X F G (.glo y)):=by
 obtain ⟨d1,d2,_⟩:=dU h3
 intro pins s σ H Q I q
 obtain ⟨m,s',h,z,h',R,S,ee,post⟩:=q
 simp only[BT.ev] at ee
 obtain ⟨w,e1,e2⟩:=aR ee
 cases e2
 obtain ⟨u,v,hm,r,rw⟩:=O.glob _ _ e1
 exact qW (bL O h2) hm r d1 pins s σ H Q I (post v H m (.refl _ _) R (rw m H))
theorem B3 {e a:BT.E}{k:BT.W->BT.HH->Option (BT.W×BT.HH)} (he:∀ s h,BT.ev F G e s h=BT.bnd (BT.ev F G a s h) k) {σ:L2.St}{H:Hp}{Q:VK} (q:tD X F G e σ H Q) {R':V->Hp->Prop}
 (h1:∀ m h x z h' v H1,RH X.K m H1 h->RW X.prog X.w X.K m H1 v x->k x h=some (z,h')->Post X.prog X.w X.K m H1 z h' Q->R' v H1):tD X F G a σ H R':=by
 obtain ⟨m,s,h,z,h',R,S,ee,post⟩:=q
 rw[he] at ee
 obtain ⟨x,g,e1,e2⟩:=ao ee
 exact ⟨m,s,h,x,g,R,S,e1,fun v H1 m1 x1 R1 r1=>h1 m1 g x z h' v H1 R1 r1 e2 fun w' H3 m3 x3 R3 r3=>post w' H3 m3 (x1.trans x3) R3 r3⟩
theorem jX {e:BT.E}{as:BT.Es}{k:List BT.W->BT.HH->Option (BT.W×BT.HH)} (he:∀ s h,BT.ev F G e s h=BT.bnd (BT.evs F G as s h) k) {σ:L2.St}{H:Hp}{Q:VK} (q:tD X F G e σ H Q) {R':List V->Hp->Prop}
 (h1:∀ m h xs z h' vs H1,RH X.K m H1 h->RWs X.prog X.w X.K m H1 vs xs->k xs h=some (z,h')->Post X.prog X.w X.K m H1 z h' Q->R' vs H1):tDs X F G as σ H R':=by
 obtain ⟨m,s,h,z,h',R,S,ee,post⟩:=q
 rw[he] at ee
 obtain ⟨x,g,e1,e2⟩:=ao ee
 exact ⟨m,s,h,x,g,R,S,e1,fun v H1 m1 x1 R1 r1=>h1 m1 g x z h' v H1 R1 r1 e2 fun w' H3 m3 x3 R3 r3=>post w' H3 m3 (x1.trans x3) R3 r3⟩
theorem ty_list {m:List Addr}{H:Hp}{h:BT.HH}{v:V}{n:Nat} (R:RH X.K m H h) (r:RW X.prog X.w X.K m H v (.r n)) (ok:BT.oU (.r n) h=true):tyV X.K "list" v H:=by
 cases r with
 | @r a _ hn =>
  obtain ⟨xs,e⟩:=Option.isSome_iff_exists.mp ok
  obtain ⟨vs,e,_⟩:=R.cell n a xs hn e
  exact .inl ⟨rfl,vs,.inl (.inl e)⟩
theorem rL {m:BT.Me}{ea:BT.HH->Option (List BT.W×BT.HH)}{x:BT.W}{h:BT.HH}{r:BT.W×BT.HH} (e:BT.kMe m ea x h=some r):BT.oU x h=true/\BT.bnd (ea h) (BT.meW m x)=some r:=by
 unfold BT.kMe at e
 split at e
 ·rename_i c;exact ⟨c,e⟩
 ·cases e
theorem JV {m:BT.Me}{x:BT.W}{ws:List BT.W}{h:BT.HH}{z:BT.W}{h':BT.HH} (hm:m=.append\/m=.pop\/m=.extend) (e:BT.meW m x ws h=some (z,h')):∃ n,x=.r n:=by
 cases x with
 | r n=>exact ⟨n,rfl⟩
 | p d =>
  rcases hm with rfl | rfl | rfl<;>cases ws<;>rw[rJ] at e<;>(split at e<;>(try cases e))<;>simp[BT.meD] at e
 | k q =>
  rcases hm with rfl | rfl | rfl<;>cases ws<;>(first | (cases e;done) | simp[BT.meW] at e)
 | c _ _ =>
  rcases hm with rfl | rfl | rfl<;>cases ws<;>(first | (cases e;done) | simp[BT.meW] at e)
 | o q =>
  rcases hm with rfl | rfl | rfl<;>cases ws<;>(first | (cases e;done) | simp[BT.meW] at e)
end
end BS
end
section
namespace BS
open PySem PySem.Spec PyProof.Rows L2
section
variable {F:FT}{G:Str->Option BT.W}
theorem nH {X:Cx}{e a:BT.E}{k:BT.Sl->BT.W->BT.HH->Option (BT.W×BT.HH)} (he:∀ s h,BT.ev F G e s h=BT.bnd (BT.ev F G a s h) (k s)) {σ:L2.St}{H:Hp}{Q:VK} (q:tD X F G e σ H Q) {R':V->Hp->Prop}
 (h1:∀ m s h x z h' v H1,RH X.K m H1 h->RS X.prog X.w X.K m H1 σ s->RW X.prog X.w X.K m H1 v x->k s x h=some (z,h')->Post X.prog X.w X.K m H1 z h' Q->R' v H1):tD X F G a σ H R':=by
 obtain ⟨m,s,h,z,h',R,S,ee,post⟩:=q
 rw[he] at ee
 obtain ⟨x,g,e1,e2⟩:=ao ee
 exact ⟨m,s,h,x,g,R,S,e1,fun v H1 m1 x1 R1 r1=>h1 m1 s g x z h' v H1 R1 (S.ext x1) r1 e2 fun w' H3 m3 x3 R3 r3=>post w' H3 m3 (x1.trans x3) R3 r3⟩
theorem DJ {X:Cx}{e a:BT.E}{k:BT.Sl->Bool->BT.HH->Option (BT.W×BT.HH)}{kk:BT.Sl->BT.W->BT.HH->Option (BT.W×BT.HH)} (he:∀ s h,BT.ev F G e s h=BT.bnd (BT.ev F G a s h) (kk s))
 (hk:∀ s x h r,kk s x h=some r->∃ b,x=.p (.bl b)/\k s b h=some r) {σ:L2.St}{H:Hp}{Q:VK} (q:tD X F G e σ H Q) {R':Bool->Hp->Prop}
 (h1:∀ m s h b z h' H1,RH X.K m H1 h->RS X.prog X.w X.K m H1 σ s->k s b h=some (z,h')->Post X.prog X.w X.K m H1 z h' Q->R' b H1):tDT X F G a σ H R':=by
 obtain ⟨m,s,h,z,h',R,S,ee,post⟩:=q
 rw[he] at ee
 obtain ⟨x,g,e1,e2⟩:=ao ee
 obtain ⟨b,rfl,e3⟩:=hk _ _ _ _ e2
 exact ⟨m,s,h,b,g,R,S,e1,fun H1 m1 x1 R1=>h1 m1 s g b z h' H1 R1 (S.ext x1) e3 fun w' H3 m3 x3 R3 r3=>post w' H3 m3 (x1.trans x3) R3 r3⟩
theorem ju {P:Program}{w:World}{K:PySem.W.Frag}{m:List Addr}{H:Hp}{v:V}{b:Bool} (r:RW P w K m H v (.p (.bl b))):v=.bl b:=by
 cases r with | p r=>cases r;rfl
theorem rM {eb:BT.EH}{x:BT.W}{h:BT.HH}{r:BT.W×BT.HH} (e:BT.zo eb x h=some r):∃ b,x=.p (.bl b)/\(if b=true then eb h else some (.p (.bl false),h))=some r:=by
 cases x with
 | p d =>
  cases d<;>simp only[BT.zo] at e<;>try contradiction
  exact ⟨_,rfl,e⟩
 | r n=>cases e
 | k q=>cases e
 | c _ _=>cases e
 | o q=>cases e
theorem wK {eb:BT.EH}{x:BT.W}{h:BT.HH}{r:BT.W×BT.HH} (e:BT.kOr eb x h=some r):∃ b,x=.p (.bl b)/\(if b=true then some (.p (.bl true),h) else eb h)=some r:=by
 cases x with
 | p d =>
  cases d<;>simp only[BT.kOr] at e<;>try contradiction
  exact ⟨_,rfl,e⟩
 | r n=>cases e
 | k q=>cases e
 | c _ _=>cases e
 | o q=>cases e
theorem zP {ea eb:BT.EH}{x:BT.W}{h:BT.HH}{r:BT.W×BT.HH} (e:BT.zu ea eb x h=some r):∃ b,x=.p (.bl b)/\(if b=true then ea h else eb h)=some r:=by
 cases x with
 | p d =>
  cases d<;>simp only[BT.zu] at e<;>try contradiction
  exact ⟨_,rfl,e⟩
 | r n=>cases e
 | k q=>cases e
 | c _ _=>cases e
 | o q=>cases e
theorem rN {x:BT.W}{h:BT.HH}{r:BT.W×BT.HH} (e:BT.zm x h=some r):∃ b,x=.p (.bl b)/\r=(.p (.bl (!b)),h):=by
 cases x with
 | p d =>
  cases d<;>simp only[BT.zm] at e<;>try contradiction
  cases e;exact ⟨_,rfl,rfl⟩
 | r n=>cases e
 | k q=>cases e
 | c _ _=>cases e
 | o q=>cases e
theorem zQ {x:BT.W}{h:BT.HH}{r:BT.W×BT.HH} (e:BT.zk x h=some r):∃ i,x=.p (.int i)/\r=(.p (.int (-i)),h):=by
 cases x with
 | p d =>
  cases d<;>simp only[BT.zk] at e<;>try contradiction
  cases e;exact ⟨_,rfl,rfl⟩
 | r n=>cases e
 | k q=>cases e
 | c _ _=>cases e
 | o q=>cases e
theorem rO {X:Cx}{a b:BT.E} (σ:L2.St) (H:Hp) (Q:VK) (q:tD X F G (.and a b) σ H Q):BA (tD X F G a) (tD X F G b) σ H Q:=by
 refine nH (k:=fun s=>BT.zo (BT.ev F G b s)) (fun s h=>by simp only[BT.ev]) q fun m s h x z h' v H1 R S r e post=>?_
 obtain ⟨c,rfl,e2⟩:=rM e
 refine ⟨c,ju r,?_⟩
 cases c with
 | true=>rw[if_pos rfl] at e2 ⊢;exact ⟨m,s,h,z,h',R,S,e2,post⟩
 | false=>rw[if_neg (by decide)] at e2 ⊢;cases e2;exact post.here R (.bl _)
theorem wL {X:Cx}{a b:BT.E} (σ:L2.St) (H:Hp) (Q:VK) (q:tD X F G (.or a b) σ H Q):Fq (tD X F G a) (tD X F G b) σ H Q:=by
 refine nH (k:=fun s=>BT.kOr (BT.ev F G b s)) (fun s h=>by simp only[BT.ev]) q fun m s h x z h' v H1 R S r e post=>?_
 obtain ⟨c,rfl,e2⟩:=wK e
 refine ⟨c,ju r,?_⟩
 cases c with
 | true=>rw[if_pos rfl] at e2 ⊢;cases e2;exact post.here R (.bl _)
 | false=>rw[if_neg (by decide)] at e2 ⊢;exact ⟨m,s,h,z,h',R,S,e2,post⟩
theorem rP {X:Cx}{a b:BT.E} (σ:L2.St) (H:Hp) (Q:Bool->Hp->Prop) (q:tDT X F G (.and a b) σ H Q):Fo (tDT X F G a) (tDT X F G b) σ H Q:=by
 obtain ⟨m,s,h,c,h',R,S,ee,post⟩:=q
 simp only[BT.ev] at ee
 obtain ⟨x,g,e1,e2⟩:=ao ee
 obtain ⟨d,rfl,e3⟩:=rM e2
 refine ⟨m,s,h,d,g,R,S,e1,fun H1 m1 x1 R1=>?_⟩
 cases d with
 | true=>rw[if_pos rfl] at e3 ⊢;exact ⟨m1,s,g,c,h',R1,S.ext x1,e3,fun H2 m2 x2 R2=>post H2 m2 (x1.trans x2) R2⟩
 | false=>rw[if_neg (by decide)] at e3 ⊢;cases e3;exact post H1 m1 x1 R1
theorem wM {X:Cx}{a b:BT.E} (σ:L2.St) (H:Hp) (Q:Bool->Hp->Prop) (q:tDT X F G (.or a b) σ H Q):tOr (tDT X F G a) (tDT X F G b) σ H Q:=by
 obtain ⟨m,s,h,c,h',R,S,ee,post⟩:=q
 simp only[BT.ev] at ee
 obtain ⟨x,g,e1,e2⟩:=ao ee
 obtain ⟨d,rfl,e3⟩:=wK e2
 refine ⟨m,s,h,d,g,R,S,e1,fun H1 m1 x1 R1=>?_⟩
 cases d with
 | true=>rw[if_pos rfl] at e3 ⊢;cases e3;exact post H1 m1 x1 R1
 | false=>rw[if_neg (by decide)] at e3 ⊢;exact ⟨m1,s,g,c,h',R1,S.ext x1,e3,fun H2 m2 x2 R2=>post H2 m2 (x1.trans x2) R2⟩
theorem zR {X:Cx}{a:BT.E} (σ:L2.St) (H:Hp) (Q:Bool->Hp->Prop) (q:tDT X F G (.not a) σ H Q):Fp (tDT X F G a) σ H Q:=by
 obtain ⟨m,s,h,c,h',R,S,ee,post⟩:=q
 simp only[BT.ev] at ee
 obtain ⟨x,g,e1,e2⟩:=ao ee
 obtain ⟨d,rfl,e3⟩:=rN e2
 cases e3
 exact ⟨m,s,h,d,h',R,S,e1,fun H1 m1 x1 R1=>post H1 m1 x1 R1⟩
theorem zS {X:Cx}{a:BT.E} (σ:L2.St) (H:Hp) (Q:VK) (q:tD X F G (.not a) σ H Q):BB (tD X F G a) σ H Q:=by
 refine nH (k:=fun s=>BT.zm) (fun s h=>by simp only[BT.ev]) q fun m s h x z h' v H1 R S r e post=>?_
 obtain ⟨c,rfl,e2⟩:=rN e
 cases e2
 exact ⟨c,ju r,post.here R (.bl _)⟩
theorem DK {X:Cx}{c a b:BT.E} (σ:L2.St) (H:Hp) (Q:VK) (q:tD X F G (.ite c a b) σ H Q):tIf (tDT X F G c) (tD X F G a) (tD X F G b) σ H Q:=by
 refine DJ (k:=fun s t h=>if t=true then BT.ev F G a s h else BT.ev F G b s h) (kk:=fun s=>BT.zu (BT.ev F G a s) (BT.ev F G b s)) (fun s h=>by simp only[BT.ev]) (fun s x h r e=>zP e) q fun m s h t z h' H1 R S e post=>?_
 cases t with
 | true=>rw[if_pos rfl] at e ⊢;exact ⟨m,s,h,z,h',R,S,e,post⟩
 | false=>rw[if_neg (by decide)] at e ⊢;exact ⟨m,s,h,z,h',R,S,e,post⟩
theorem DL {X:Cx}{a:BT.E} (σ:L2.St) (H:Hp) (Q:VK) (q:tD X F G (.neg a) σ H Q):tUn (rU fun i=>.int (-i)) (tD X F G a) σ H Q:=by
 refine nH (k:=fun s=>BT.zk) (fun s h=>by simp only[BT.ev]) q fun m s h x z h' v H1 R S r e post=>?_
 obtain ⟨c,rfl,e2⟩:=zQ e
 cases e2
 cases r with | p r=>cases r;exact ⟨c,rfl,post.here R (.int _)⟩
theorem o6 {X:Cx}{o o':BT.Cm}{a b c:BT.E} (σ:L2.St) (H:Hp) (Q:VK) (q:tD X F G (.chain o o' a b c) σ H Q) :
 qd (rOp X.prog X.w X.K (BT.fY o)) (rOp X.prog X.w X.K (BT.fY o')) (tD X F G a) (tD X F G b) (tD X F G c) σ H Q:=by
 obtain ⟨m,s,h,z,h',R,S,ee,post⟩:=q
 simp only[BT.ev] at ee
 obtain ⟨x,h1,e1,e2⟩:=ao ee
 simp only[BT.k2] at e2
 obtain ⟨y,h2,e3,e4⟩:=ao e2
 refine ⟨m,s,h,x,h1,R,S,e1,fun v H1 m1 x1 R1 r1=>?_⟩
 refine ⟨m1,s,h1,y,h2,R1,S.ext x1,e3,fun u H2 m2 x2 R2 r2=>?_⟩
 unfold BT.oCh at e4
 cases g1:BT.rd x h2 with
 | none=>rw[g1] at e4;cases e4
 | some d =>
  cases y with
  | r _=>rw[g1] at e4;cases e4
  | k _=>rw[g1] at e4;cases e4
  | c _ _=>rw[g1] at e4;cases e4
  | o _=>rw[g1] at e4;cases e4
  | p d' =>
   rw[g1] at e4
   simp only at e4
   have ho:∀ (o:BT.Cm) (x':BT.W) (hh:BT.HH) dd,BT.rd x' hh=some dd->∀ y' dd',BT.rd y' hh=some dd'->BT.fY o x' y' hh=(BT.fk o dd dd').map fun z=>(.p (.bl z),hh):=by
    intro o x' hh dd q1 y' dd' q2
    unfold BT.fY
    cases y' with
    | p _=>simp only[q1,q2]
    | r _=>simp only[q1,q2]
    | k _=>cases q2
    | c _ _=>cases q2
    | o _=>cases q2
   cases g3:BT.fk o d d' with
   | none=>rw[g3] at e4;cases e4
   | some t =>
    rw[g3] at e4
    refine ⟨m2,h2,x,.p d',.p (.bl t),h2,R2,r1.ext x2,r2,by rw[ho o x h2 d g1 (.p d') d' rfl,g3];rfl,fun v3 H3 m3 x3 R3 r3=>⟨t,ju r3,?_⟩⟩
    cases t with
    | false =>
     rw[if_neg (by decide)]
     cases e4
     exact post _ H3 m3 ((x1.trans x2).trans x3) R3 (.p (.bl _))
    | true =>
     rw[if_pos rfl]
     obtain ⟨w3,h3,e5,e6⟩:=ao e4
     refine ⟨m3,s,h2,w3,h3,R3,((S.ext x1).ext x2).ext x3,e5,fun v4 H4 m4 x4 R4 r4=>?_⟩
     unfold BT.Gn at e6
     cases g4:BT.rd w3 h3 with
     | none=>rw[g4] at e6;cases e6
     | some f =>
      rw[g4] at e6
      simp only at e6
      refine ⟨m4,h3,.p d',w3,z,h',R4,(r2.ext x3).ext x4,r4,by rw[ho o' (.p d') h3 d' rfl w3 f g4];exact e6,fun v5 H5 m5 x5 R5 r5=>post v5 H5 m5 ((((x1.trans x2).trans x3).trans x4).trans x5) R5 r5⟩
theorem DM {X:Cx}{a:BT.E}{lo hi:BT.Es}{tl th:TO} (hl:∀ σ H (Q:Option Int->Hp->Prop),(∃ m s h l zs h',RH X.K m H h/\RS X.prog X.w X.K m H σ s/\BT.evs F G lo s h=some (zs,h')/\(BT.br zs).bind BT.m6=some l/\∀ H' m',Ext m H m' H'->RH X.K m' H' h'->Q l H')->tl σ H Q)
 (hh:∀ σ H (Q:Option Int->Hp->Prop),(∃ m s h l zs h',RH X.K m H h/\RS X.prog X.w X.K m H σ s/\BT.evs F G hi s h=some (zs,h')/\(BT.br zs).bind BT.m6=some l/\∀ H' m',Ext m H m' H'->RH X.K m' H' h'->Q l H')->th σ H Q)
 (σ:L2.St) (H:Hp) (Q:VK) (q:tD X F G (.slc a lo hi) σ H Q):tSl (rSl X.prog X.w X.K) (tD X F G a) tl th σ H Q:=by
 obtain ⟨m,s,h,z,h',R,S,ee,post⟩:=q
 simp only[BT.ev] at ee
 obtain ⟨x,h1,e1,e2⟩:=ao ee
 simp only[BT.Gs] at e2
 obtain ⟨ls,h2,e3,e4⟩:=ao e2
 simp only[BT.Gq] at e4
 obtain ⟨us,h3,e5,e6⟩:=ao e4
 unfold BT.Gp at e6
 cases g1:BT.rd x h3 with
 | none=>rw[g1] at e6;cases e6
 | some d =>
  cases g2:(BT.br ls).bind BT.m6 with
  | none=>rw[g1,g2] at e6;cases e6
  | some l =>
   cases g3:(BT.br us).bind BT.m6 with
   | none=>rw[g1,g2,g3] at e6;cases e6
   | some u =>
    rw[g1,g2,g3] at e6
    simp only at e6
    obtain ⟨b,e7,e8⟩:=aR e6
    cases e8
    refine ⟨m,s,h,x,h1,R,S,e1,fun v H1 m1 x1 R1 r1=>hl σ H1 _ ⟨m1,s,h1,l,ls,h2,R1,S.ext x1,e3,g2,fun H2 m2 x2 R2=>hh σ H2 _ ⟨m2,s,h2,u,us,h',R2,(S.ext x1).ext x2,e5,g3,fun H3 m3 x3 R3=>?_⟩⟩⟩
    exact ⟨m3,h',x,d,b,R3,(r1.ext x2).ext x3,g1,e7,fun v5 H5 m5 x5 R5 r5=>post v5 H5 m5 (((x1.trans x2).trans x3).trans x5) R5 r5⟩
end
end BS
end
section
namespace BS
open PySem PySem.Spec PyProof.Rows L2
section
variable {F:FT}{G:Str->Option BT.W}
theorem rQ {X:Cx}{f:Str}{as:BT.Es}{sp:Sp} (hs:sp=spF X.prog X.w X.K (F (.f f))) {σ:L2.St}{H:Hp}{Q:VK} (q:tD X F G (.call f as) σ H Q):vm sp [] E0 (tDs X F G as) σ H Q:=by
 subst hs
 refine jX (k:=fun ws h=>F (.f f) ws h) (fun s h=>by simp only[BT.ev]) q fun m h xs z h' vs H1 R r e post=>?_
 rw[List.append_nil]
 exact ⟨m,xs,h,z,h',R,r,e,post⟩
theorem fS {X:Cx}{σ:L2.St}{H:Hp}{Q:List V->Hp->Prop} (q:tDs X F G .nil σ H Q):vj σ H Q:=by
 obtain ⟨m,s,h,zs,h',R,S,ee,post⟩:=q
 simp only[BT.evs] at ee
 cases ee
 exact post [] H m (.refl _ _) R .nil
theorem wN {X:Cx}{sc:Scope}{N:List Str} (O:Ok X F G sc N) {f:Str}{as:BT.Es}{es:List PySem.Expr}{p pos:Pos} (hg:bB sc f=true) (hn:cR f=true) (hc:CEs sc N as es) (ha:PA X es (tDs X F G as)) :
 PE X (.Call (.Name f p) es [] pos) (tD X F G (.call f as)):=by
 have hst:=dM hc
 intro pins s σ H Q I q
 have q0:=q
 obtain ⟨m,s',h,z,h',R,S,ee,post⟩:=q
 simp only[BT.ev] at ee
 obtain ⟨ws,h1,e1,e2⟩:=ao ee
 obtain ⟨fa,fd,ps,k,hm,hk,hb,hr,ok⟩:=O.call _ _ _ _ e2
 cases es with
 | nil =>
  cases as with
  | cons a r=>cases hc
  | nil=>exact (PE.weak (vp ok hr (bL O hg) hm hk hb .nil kC (dU hn).1) (fun σ H Q z=>fS (rQ (X:=X) rfl z))) pins s σ H Q I q0
 | cons e es =>
  simp only[au,Bool.and_eq_true] at hst
  exact (PE.weak (yP ok hr (bL O hg) hm hk hb .nil kC ha (dU hn).1 (ak hst.1) (aS hst.2)) (fun σ H Q z=>rQ rfl z)) pins s σ H Q I q0
theorem qD {X:Cx}{sc:Scope}{N:List Str}{me:BT.Me}{o:BT.E}{as:BT.Es}{oe:PySem.Expr}{es:List PySem.Expr}{name:Str}{apos cpos:Pos}{T id:String} (pa:PlainAttrs T) (slot:Slot T name id)
 (hty:typeOf (.builtin id)=pure (.type "method_descriptor")) (hm:MtR X id (rMe X.prog X.w X.K me)) (hb:aD oe=true) (hl:(apos.endLine==cpos.line)=true) (hlen:es.length < 20) (ho:PE X oe (tD X F G o)) (hc:CEs sc N as es) (ha:PA X es (tDs X F G as))
 (ty:∀ (m:List Addr) (h h2:BT.HH) (H:Hp) (v:V) (x:BT.W) ws r,RH X.K m H h->RW X.prog X.w X.K m H v x->BT.oU x h=true->BT.meW me x ws h2=some r->(∃ σ s,RS X.prog X.w X.K m H σ s/\∃ h0,BT.ev F G o s h0=some (x,h))->tyV X.K T v H) :
 PE X (.Call (.Attribute oe name apos) es [] cpos) (tD X F G (.me me o as)):=by
 have hst:=dM hc
 have key:∀ σ H Q,tD X F G (.me me o as) σ H Q->tBM X.K T (rMe X.prog X.w X.K me) (tD X F G o) (tDs X F G as) σ H Q:=by
  intro σ H Q q
  obtain ⟨m,s,h,z,h',R,S,ee,post⟩:=q
  simp only[BT.ev] at ee
  obtain ⟨x,h1,e1,e2⟩:=ao ee
  obtain ⟨ok,e2⟩:=rL e2
  obtain ⟨ws,h2,e3,e4⟩:=ao e2
  refine ⟨m,s,h,x,h1,R,S,e1,fun v H1 m1 x1 R1 r1=>⟨ty m1 h1 h2 H1 v x ws _ R1 r1 ok e4 ⟨σ,s,S.ext x1,h,e1⟩,m1,s,h1,ws,h2,R1,S.ext x1,e3,fun vs H2 m2 x2 R2 r2=>?_⟩⟩
  exact ⟨m2,h2,x,ws,z,h',R2,r1.ext x2,r2,e4,fun v5 H5 m5 x5 R5 r5=>post v5 H5 m5 ((x1.trans x2).trans x5) R5 r5⟩
 cases es with
 | nil =>
  cases as with
  | cons a r=>cases hc
  | nil =>
   refine PE.weak (CW pa slot hty hm ho (gX hb) hl) fun σ H Q q=>?_
   obtain ⟨m,s,h,z,h',R,S,ee,post⟩:=key σ H Q q
   exact ⟨m,s,h,z,h',R,S,ee,fun v H1 m1 x1 R1 r1=>⟨(post v H1 m1 x1 R1 r1).1,fS (post v H1 m1 x1 R1 r1).2⟩⟩
 | cons e es =>
  simp only[au,Bool.and_eq_true] at hst
  refine PE.weak (vB pa slot hty hm ho ha (gX hb) ?_ hl (ak hst.1) (aS hst.2)) key
  rw[gC (es:=e :: es) (by simp only[au,Bool.and_eq_true];exact hst)]
  have h30:decide ((e :: es).length+([]:List Keyword).length+(if ([]:List Keyword).isEmpty then 0 else 1) < 30)=true:=decide_eq_true (by
   simp only[List.length_cons,List.length_nil,List.isEmpty_nil,if_true] at hlen ⊢;omega)
  rw[h30];rfl
theorem iZ {X:Cx}{b:BT.Bi}{mu:Bool}{as:BT.Es}{σ:L2.St}{H:Hp}{Q:VK} (q:tD X F G (.bi b mu as) σ H Q):tCB (rBi X.prog X.w X.K b mu) (tDs X F G as) σ H Q:=by
 refine jX (k:=fun ws h=>BT.kBi b mu ws h) (fun s h=>by simp only[BT.ev]) q fun m h xs z h' vs H1 R r e post=>?_
 exact ⟨m,h,xs,z,h',R,r,e,post⟩
theorem DN {X:Cx}{sc:Scope}{N:List Str} (O:Ok X F G sc N) {b:BT.Bi}{mu:Bool}{as:BT.Es}{x:Str}{e:PySem.Expr}{es:List PySem.Expr}{p pos:Pos} (hb:BZ b mu x=true) (hg:bB sc x=true) (hst:au (e :: es)=true) (ha:PA X (e :: es) (tDs X F G as)) :
 PE X (.Call (.Name x p) (e :: es) [] pos) (tD X F G (.bi b mu as)):=by
 simp only[au,Bool.and_eq_true] at hst
 have hx:vW b mu=some x:=eq_of_beq hb
 have hB:=O.blt
 cases b<;>cases mu<;>first | (cases hx;done) | (change some _=some _ at hx)
 all_goals (cases hx)
 ·exact PE.weak (f7 DF (bL O hg) (hB _ (by decide)) PySem.boot_len ha (by decide) (by decide) (ak hst.1) (aS hst.2)) (fun σ H Q z=>iZ z)
 ·exact PE.weak (f7 DG (bL O hg) (hB _ (by decide)) (by decide +kernel) ha (by decide) (by decide) (ak hst.1) (aS hst.2)) (fun σ H Q z=>iZ z)
 ·exact PE.weak (gQ DH (bL O hg) (hB _ (by decide)) (by decide +kernel) ha (by decide) (by decide) (ak hst.1) (aS hst.2)) (fun σ H Q z=>iZ z)
 ·exact PE.weak (gQ rK (bL O hg) (hB _ (by decide)) (by decide +kernel) ha (by decide) (by decide) (ak hst.1) (aS hst.2)) (fun σ H Q z=>iZ z)
 ·exact PE.weak (gQ rK (bL O hg) (hB _ (by decide)) (by decide +kernel) ha (by decide) (by decide) (ak hst.1) (aS hst.2)) (fun σ H Q z=>iZ z)
 ·exact PE.weak (gQ wD (bL O hg) (hB _ (by decide)) (by decide +kernel) ha (by decide) (by decide) (ak hst.1) (aS hst.2)) (fun σ H Q z=>iZ z)
theorem um {X:Cx}{c:String}{f:BT.D->Bool}{b:BT.Bi} (hb:oW b=some (c,f)):cG X (.builtin "isinstance") (fun vs H Q=>∃ v,vs=[v,.ty c]/\rBi X.prog X.w X.K b false [v] H Q):=by
 intro pins s σ H vs us Q I rus h
 obtain ⟨v,rfl,m,h,ws,z,h',R,rws,e,post⟩:=h
 obtain ⟨u,u2,rfl,ru,ru2⟩:=rus.two
 cases ru2
 obtain ⟨ds,d,e1,e2,⟨_,rfl,rfl⟩ | ⟨_,q,_⟩⟩:=gA e
 ·have rr:=fR R rws e1
  cases rr with
  | cons r t =>
   cases t
   rw[wG hb] at e2
   cases e2
   exact zL I r ru (wH hb X.K _) fun tk=>⟨.bl _,H,I.tok tk,rfl,post.here R (.bl _)⟩
 ·cases q
theorem wO {X:Cx}{sc:Scope}{N:List Str} (O:Ok X F G sc N) {b:BT.Bi}{c:String}{f:BT.D->Bool}{a:BT.E}{e:PySem.Expr}{p p2 pos:Pos} (hb:oW b=some (c,f)) (hg:bB sc "isinstance"=true) (hg2:bB sc (Str.ofString c)=true) (hst:noStar e=true) (ha:PE X e (tD X F G a)) :
 PE X (.Call (.Name "isinstance" p) [e,.Name (Str.ofString c) p2] [] pos) (tD X F G (.bi b false (.cons a .nil))):=by
 have hB:=O.blt
 have hc:PE X (.Name (Str.ofString c) p2) (tC (.ty c)):=by
  cases b<;>simp only[oW] at hb<;>try contradiction
  all_goals (cases hb)
  ·exact iL (bL O hg2) (hB _ (by decide)) (u:=.type "int") (by decide +kernel) rfl (by decide) (by decide)
  ·exact iL (bL O hg2) (hB _ (by decide)) (u:=.type "bool") (by decide +kernel) rfl (by decide) (by decide)
  ·exact iL (bL O hg2) (hB _ (by decide)) (u:=.type "str") (by decide +kernel) rfl (by decide) (by decide)
  ·exact iL (bL O hg2) (hB _ (by decide)) (u:=.type "tuple") (by decide +kernel) rfl (by decide) (by decide)
  ·exact iL (bL O hg2) (hB _ (by decide)) (u:=.type "list") (by decide +kernel) rfl (by decide) (by decide)
 refine PE.weak (f7 (um hb) (bL O hg) (hB _ (by decide)) (by decide +kernel) (eS ha (eS hc kq) (ak hst)) (by decide) (by decide) (ak hst) rfl) fun σ H Q q=>?_
 obtain ⟨m,s,h,z,h',R,S,ee,post⟩:=q
 simp only[BT.ev,BT.evs] at ee
 obtain ⟨ws,h1,e1,e2⟩:=ao ee
 obtain ⟨x,h2,e3,e4⟩:=ao e1
 simp only[BT.jG,BT.bZ,BT.gn] at e4
 cases e4
 refine ⟨m,s,h,x,h1,R,S,e3,fun v H1 m1 x1 R1 r1=>?_⟩
 exact ⟨v,rfl,m1,h1,[x],z,h',R1,.cons r1 .nil,e2,fun v5 H5 m5 x5 R5 r5=>post v5 H5 m5 (x1.trans x5) R5 r5⟩
theorem DO {X:Cx}{as:BT.Es} (σ:L2.St) (H:Hp) (Q:VK) (q:tD X F G (.tup as) σ H Q):FQ (tDs X F G as) σ H Q:=by
 refine jX (k:=fun ws h=>BT.Dd ws h) (fun s h=>by simp only[BT.ev]) q fun m h xs z h' vs H1 R r e post=>?_
 unfold BT.Dd at e
 cases g:BT.br xs with
 | none=>rw[g] at e;cases e
 | some ds =>
  rw[g] at e
  simp only at e
  split at e
  ·rename_i c
   cases e
   have rd:=r.pure g
   have:=dh
   have hl:=rd.length
   exact ⟨by omega,fun p hp=>iV R hp rd post⟩
  ·cases e
theorem DP {X:Cx}{mu:Bool}{as:BT.Es} (σ:L2.St) (H:Hp) (Q:VK) (q:tD X F G (.lst mu as) σ H Q):FU (tDs X F G as) σ H Q:=by
 refine jX (k:=fun ws h=>BT.De mu ws h) (fun s h=>by simp only[BT.ev]) q fun m h xs z h' vs H1 R r e post=>?_
 unfold BT.De at e
 cases g:BT.br xs with
 | none=>rw[g] at e;cases e
 | some ds =>
  rw[g] at e
  simp only at e
  split at e
  ·rename_i c
   have rd:=r.pure g
   have:=dh
   have hl:=rd.length
   have ez:BT.new mu ds h=(z,h'):=Option.some.inj e
   exact ⟨by omega,fun p hp=>nv (mu:=mu) R hp rd (by rw[ez];exact post)⟩
  ·cases e
theorem cons_of {X:Cx}{a:BT.E}{as:BT.Es} (σ:L2.St) (H:Hp) (Q:List V->Hp->Prop) (q:tDs X F G (.cons a as) σ H Q):BJ (tD X F G a) (tDs X F G as) σ H Q:=by
 obtain ⟨m,s,h,zs,h',R,S,ee,post⟩:=q
 simp only[BT.evs] at ee
 obtain ⟨x,h1,e1,e2⟩:=ao ee
 simp only[BT.jG] at e2
 obtain ⟨xs,h2,e3,e4⟩:=ao e2
 simp only[BT.gn] at e4
 cases e4
 exact ⟨m,s,h,x,h1,R,S,e1,fun v H1 m1 x1 R1 r1=>⟨m1,s,h1,xs,h',R1,S.ext x1,e3,fun vs H2 m2 x2 R2 r2=>post _ H2 m2 (x1.trans x2) R2 (.cons (r1.ext x2) r2)⟩⟩
end
end BS
end
section
namespace BS
open PySem PySem.Spec PyProof.Rows L2
section
variable {K:PySem.W.Frag}{m:List Addr}{H:Hp}
theorem RFs.get {f:Str}{x:BT.W}:∀ {vs:List (Str×V)}{fs:List (Str×BT.W)},RFs K m H vs fs->BT.bP f fs=some x->∃ v,vs.lookup f=some v/\RA K m H v x
 | _,_,.nil,e=>by cases e
 | _,_,.cons (f:=g) r t,e=>by
  rw[BT.mq] at e
  by_cases c:f=g
  ·rw[if_pos c] at e;cases e;subst c;exact ⟨_,by simp,r⟩
  ·rw[if_neg c] at e
   obtain ⟨v,h1,h2⟩:=RFs.get t e
   exact ⟨v,by rw[List.lookup_cons];rw[beq_false_of_ne c];exact h1,h2⟩
theorem RFs.none {f:Str}:∀ {vs:List (Str×V)}{fs:List (Str×BT.W)},RFs K m H vs fs->(BT.bP f fs).isNone=true->vs.lookup f=none
 | _,_,.nil,_=>rfl
 | _,_,.cons (f:=g) r t,e=>by
  rw[BT.mq] at e
  by_cases c:f=g
  ·rw[if_pos c] at e;cases e
  ·rw[if_neg c] at e
   rw[List.lookup_cons,beq_false_of_ne c]
   exact RFs.none t e
theorem RFs.put {f:Str}{v:V}{x:BT.W} (q:RA K m H v x):∀ {vs:List (Str×V)}{fs:List (Str×BT.W)},RFs K m H vs fs->RFs K m H (L2.bN f v vs) (BT.bN f x fs)
 | _,_,.nil=>.cons q .nil
 | _,_,.cons (f:=g) r t=>by
  rw[L2.bN,BT.tW]
  by_cases c:f=g
  ·rw[if_pos c,if_pos c.symm];subst c;exact .cons q t
  ·rw[if_neg c,if_neg (Ne.symm c)];exact .cons r (RFs.put q t)
theorem RFs.length:∀ {vs:List (Str×V)}{fs:List (Str×BT.W)},RFs K m H vs fs->vs.length=fs.length
 | _,_,.nil=>rfl
 | _,_,.cons _ t=>by rw[List.length_cons,List.length_cons,RFs.length t]
end
section
variable {F:FT}{G:Str->Option BT.W}
theorem zT {f:Str}{x:BT.W}{h:BT.HH}{r:BT.W×BT.HH} (e:BT.zw f x h=some r):∃ n c fs w,x=.o n/\BT.oat h n=some (c,fs)/\BT.bP f fs=some w/\r=(w,h):=by
 cases x with
 | o n =>
  rw[BT.Dg] at e
  cases g:BT.oat h n with
  | none=>rw[g] at e;cases e
  | some q =>
   obtain ⟨c,fs⟩:=q
   rw[g] at e
   obtain ⟨w,e1,e2⟩:=aR e
   exact ⟨n,c,fs,w,rfl,g,e1,e2.symm⟩
 | p d=>cases e
 | r n=>cases e
 | k q=>cases e
 | c _ _=>cases e
theorem zU {X:Cx}{sc:Scope}{N:List Str}{a:BT.E}{f:Str}{x:PySem.Expr}{p:Pos} (hb:aD x=true) (hf:attrName f=true) (ha:PE X x (tD X F G a)):PE X (.Attribute x f p) (tD X F G (.fld a f)):=by
 refine PE.weak (CF ha (gX hb)) fun σ H Q q=>?_
 refine B3 (k:=BT.zw f) (fun s h=>by simp only[BT.ev]) q fun m h x z h' v H1 R r e post=>?_
 obtain ⟨n,c,fs,w,rfl,e1,e2,e3⟩:=zT e
 cases e3
 cases r with
 | o hn =>
  obtain ⟨C,dx,vs,h1,h2,h3⟩:=R.mC _ _ _ _ hn e1
  obtain ⟨u,l,ra⟩:=h3.get e2
  exact ⟨_,C,dx,vs,u,rfl,h1,h2.cls,h2.no f hf,l,post u H1 m (.refl _ _) R ra.rw⟩
theorem jv {o:PySem.Expr}{m:Str}{apos pos:Pos}{args:List PySem.Expr}{env:Env} (hb:aD o=true) (hst:au args=true) (hlen:args.length < 20) (hl:(apos.endLine==pos.line)=true) :
 eval (.Call (.Attribute o m apos) args [] pos) env=(do
  let ov ← eval o env
  standAt apos.atName
  let (f,first) ← holding [ov] (getMethod ov m (do return (← importBound o env).getD true))
  callWith pos f first (backTo pos (starEach args env)) (backToKw pos (keywordEach [] env))):=by
 have hf:methodCallForm (args.length+([]:List Keyword).length) (backTo pos (starEach args env)) (backToKw pos (keywordEach [] env))=true:=by
  unfold methodCallForm
  have h30:decide (args.length+([]:List Keyword).length+(if (backToKw pos (keywordEach [] env)).isEmpty then 0 else 1) < 30)=true:=decide_eq_true (by
   show args.length+0+0 < 30
   omega)
  rw[h30,gC hst];rfl
 rw[arm_eval_Call,gX hb]
 unfold methodCall
 rw[hf]
 have hp:methodCallPos true o env apos pos=pure pos:=by
  unfold methodCallPos
  rw[hl];rfl
 rw[hp]
 rfl
theorem wQ {m:Str}{ea:BT.HH->Option (List BT.W×BT.HH)}{x:BT.W}{h:BT.HH}{r:BT.W×BT.HH} (e:BT.vJ F m ea x h=some r) :
 ∃ n c fs ws g,x=.o n/\BT.oat h n=some (c,fs)/\(BT.bP m fs).isNone=true/\ea h=some (ws,g)/\F (.m c m) (.o n :: ws) g=some r:=by
 cases x with
 | o n =>
  rw[BT.zx] at e
  cases g:BT.oat h n with
  | none=>rw[g] at e;cases e
  | some q =>
   obtain ⟨c,fs⟩:=q
   rw[g] at e
   simp only at e
   split at e
   ·rename_i c1
    obtain ⟨ws,g2,e1,e2⟩:=ao e
    exact ⟨n,c,fs,ws,g2,rfl,g,c1,e1,e2⟩
   ·cases e
 | p d=>cases e
 | r n=>cases e
 | k q=>cases e
 | c _ _=>cases e
theorem wR {X:Cx}{sc:Scope}{N:List Str} (O:Ok X F G sc N) {o:BT.E}{m:Str}{as:BT.Es}{oe:PySem.Expr}{apos cpos:Pos}{es:List PySem.Expr} (hb:aD oe=true) (hl:(apos.endLine==cpos.line)=true) (hlen:es.length < 20) (ho:PE X oe (tD X F G o)) (hc:CEs sc N as es) (ha:PA X es (tDs X F G as)) :
 PE X (.Call (.Attribute oe m apos) es [] cpos) (tD X F G (.meth o m as)):=by
 have hst:=dM hc
 intro pins s σ H Q I q
 obtain ⟨m0,s',h,z,h',R,S,ee,post⟩:=q
 simp only[BT.ev] at ee
 obtain ⟨x,h1,e1,e2⟩:=ao ee
 obtain ⟨n,c,fs,ws,g,rfl,e3,e4,e5,e6⟩:=wQ e2
 obtain ⟨C,ga,fd,ps,k,hC,hM,hB,hR,ok⟩:=O.meth _ _ _ _ _ e6
 have key:vn C m (spF X.prog X.w X.K (F (.m c m))) [] E0 (tD X F G o) (tDs X F G as) σ H Q:=by
  refine ⟨m0,s',h,.o n,h1,R,S,e1,fun v H1 m1 x1 R1 r1=>?_⟩
  cases r1 with
  | @o a _ hn =>
   obtain ⟨C',dx,vs,q1,q2,q3⟩:=R1.mC _ _ _ _ hn e3
   cases q2.cn.inj hC.cn
   refine ⟨a,dx,vs,rfl,q1,q3.none e4,m1,s',h1,ws,g,R1,S.ext x1,e5,fun us H2 m2 x2 R2 r2=>?_⟩
   show spF X.prog X.w X.K (F (.m c m)) (V.ref a :: (us++[])) H2 Q E0
   rw[List.append_nil]
   exact ⟨m2,.o n :: ws,g,z,h',R2,.cons (.o (x2.ix hn)) r2,e6,fun v5 H5 m5 x5 R5 r5=>post v5 H5 m5 ((x1.trans x2).trans x5) R5 r5⟩
 cases es with
 | nil =>
  cases as with
  | cons a r=>cases hc
  | nil =>
   refine vq ho hC.cls hM ok hR hB .nil kC (jv hb hst hlen hl) pins s σ H Q I ?_
   obtain ⟨m,s,h,z,h',R,S,ee,post⟩:=key
   refine ⟨m,s,h,z,h',R,S,ee,fun v H1 m1 x1 R1 r1=>?_⟩
   obtain ⟨a,dx,fs,q1,q2,q3,q4⟩:=post v H1 m1 x1 R1 r1
   exact ⟨a,dx,fs,q1,q2,q3,fS q4⟩
 | cons e es =>
  have hst':=hst
  simp only[au,Bool.and_eq_true] at hst'
  exact yQ ho hC.cls hM ok hR hB .nil kC ha (ak hst'.1) (aS hst'.2) (jv hb hst hlen hl) pins s σ H Q I key
theorem wU {X:Cx}{sc:Scope}{N:List Str} (O:Ok X F G sc N) {c:Str}{as:BT.Es}{es:List PySem.Expr}{p pos:Pos} (hg:bB sc c=true) (hn:cR c=true) (hc:CEs sc N as es) (ha:PA X es (tDs X F G as)) :
 PE X (.Call (.Name c p) es [] pos) (tD X F G (.make c as)):=by
 have hst:=dM hc
 intro pins s σ H Q I q
 obtain ⟨m0,s',h,z,h',R,S,ee,post⟩:=q
 simp only[BT.ev] at ee
 obtain ⟨ws,h1,e1,e2⟩:=ao ee
 rw[BT.vK] at e2
 obtain ⟨y,h2,e3,e4⟩:=ao e2
 have e5:y=.p .non/\(z,h')=(.o h1.length,h2):=by
  cases y with
  | p d=>cases d<;>simp[BT.rC] at e4;exact ⟨rfl,by rw[e4.1,e4.2]⟩
  | r n=>cases e4
  | k q=>cases e4
  | c _ _=>cases e4
  | o n=>cases e4
 obtain ⟨rfl,e5⟩:=e5
 cases e5
 obtain ⟨C,ga,fd,ps,k,hC,hmg,hM,hB,hR,ok⟩:=O.mkc _ _ _ _ e3
 have key:vo C (spF X.prog X.w X.K (F (.m c "__init__"))) [] E0 (tDs X F G as) σ H Q:=by
  refine ⟨m0,s',h,ws,h1,R,S,e1,fun us H1 m1 x1 R1 r1 x dx nx ndx ne=>?_⟩
  rw[List.append_nil]
  have xa:Ext m1 H1 m1 (upd H1 dx (.own x)):=fO ndx
  have Ra:RH X.K m1 (upd H1 dx (.own x)) h1:=R1.new ndx
  have nx':upd H1 dx (.own x) x=none:=by rw[av (Ne.symm ne)];exact nx
  have xb:Ext m1 (upd H1 dx (.own x)) (m1++[x]) (upd (upd H1 dx (.own x)) x (.ins C dx [])):=gu nx'
  have Rb:RH X.K (m1++[x]) (upd (upd H1 dx (.own x)) x (.ins C dx [])) (h1++[.o c []]):=Ra.Dt nx' ⟨C,dx,[],aL,hC,.nil⟩
  have ix:(m1++[x])[h1.length]?=some x:=by rw[← R1.len];simp
  refine ⟨m1++[x],.o h1.length :: ws,h1++[.o c []],.p .non,h',Rb,.cons (.o ix) (r1.ext (xa.trans xb)),e3,fun v H2 m2 x2 R2 r2=>?_⟩
  cases r2 with
  | p r2 =>
   cases r2
   exact ⟨rfl,post _ H2 m2 (((x1.trans xa).trans xb).trans x2) R2 (.o (x2.ix ix))⟩
 cases es with
 | nil =>
  cases as with
  | cons a r=>cases hc
  | nil =>
   refine vv hM ok hR (bL O hg) hmg hB .nil kC (dU hn).1 pins s σ H Q I ?_
   exact fS key
 | cons e es =>
  simp only[au,Bool.and_eq_true] at hst
  exact yR hM ok hR (bL O hg) hmg hB .nil kC ha (dU hn).1 (ak hst.1) (aS hst.2) pins s σ H Q I key
noncomputable def DQ (o:BT.Bin):TIp:=fun x y H Q=>∃ i j z,x=.int i/\y=.int j/\BT.jO o (.int i) (.int j)=some (.int z)/\Q (.int z) H
noncomputable def wV:BT.Bin->Operator->Bool
 | .add,.Add=>true
 | .sub,.Sub=>true
 | .mul,.Mult=>true
 | _,_=>false
theorem rR {X:Cx}{o:BT.Bin}{op:Operator} (h:wV o op=true):PIp X op (DQ o):=by
 rintro pins s σ H x y u v Q I rx ry ⟨i,j,z,rfl,rfl,e,q⟩
 obtain ⟨t,rfl⟩:=(show ∃ t,u=Value.int i t from rx)
 obtain ⟨t',rfl⟩:=(show ∃ t',v=Value.int j t' from ry)
 cases o<;>cases op<;>cases h
 ·cases e;exact PyProof.Rows.iadd_int ⟨.int (i+j),H,I.tok _,⟨_,rfl⟩,q⟩
 ·cases e;exact PyProof.Rows.isub_int ⟨.int (i - j),H,I.tok _,⟨_,rfl⟩,q⟩
 ·rw[BT.vE] at e
  split at e
  ·rename_i c
   cases e
   have hc:yI i j:=by
    rcases Bool.or_eq_true _ _ ▸ c with c | c
    ·exact .inl (nA c)
    ·exact .inr (nA c)
   exact PyProof.Rows.imul_int ⟨.int (i*j),H,I.tok _,⟨_,rfl⟩,q⟩ hc.ok
  ·cases e
theorem rS {o:BT.Bin}{d e z:BT.D} (h:BT.jO o d e=some z):∃ i j k,d=.int i/\e=.int j/\z=.int k:=by
 cases o<;>cases d<;>cases e<;>simp[BT.jO] at h<;>first | exact ⟨_,_,_,rfl,rfl,h.symm⟩ | exact ⟨_,_,_,rfl,rfl,h.2.symm⟩
end
end BS
end
section
namespace BS
open PySem PySem.Spec PyProof.Rows L2
section
variable {K:PySem.W.Frag}{m:List Addr}{H:Hp}
theorem RDs.pick {vs:List V}{ds:List BT.D} (r:RDs K m H vs ds):∀ l:List Nat,RDs K m H (l.filterMap fun i=>vs[i]?) (l.filterMap fun i=>ds[i]?)
 | []=>.nil
 | i :: l=>by
  rw[List.filterMap_cons,List.filterMap_cons]
  cases g:ds[i]? with
  | none =>
   have:vs[i]?=none:=by
    have h:=r.length
    rw[List.getElem?_eq_none_iff] at g ⊢
    omega
   rw[this]
   exact RDs.pick r l
  | some d =>
   obtain ⟨v,e,q⟩:=r.get g
   rw[e]
   exact .cons q (RDs.pick r l)
end
theorem jw {vs:List V}{us:List Value} (r:aq vs us):∀ l:List Nat,aq (l.filterMap fun i=>vs[i]?) (l.filterMap fun i=>us[i]?)
 | []=>.nil
 | i :: l=>by
  rw[List.filterMap_cons,List.filterMap_cons]
  cases g:vs[i]? with
  | none =>
   have:us[i]?=none:=by
    have h:=r.length
    rw[List.getElem?_eq_none_iff] at g ⊢
    omega
   rw[this]
   exact jw r l
  | some d =>
   obtain ⟨v,e,q⟩:=r.get g
   rw[e]
   exact .cons q (jw r l)
noncomputable def o7 (k:Int) (xs:List V):List V:=(sliceRange (sliceBounds none none (some k) xs.length).1 (sliceBounds none none (some k) xs.length).2.1 (sliceBounds none none (some k) xs.length).2.2).filterMap fun i=>xs[i]?
section
variable {F:FT}{G:Str->Option BT.W}
theorem DR {X:Cx}{e se:PySem.Expr}{te:TE}{k:Int}{p2 pos:Pos} (hk:k≠0) (he:PE X e te) (hs:PE X se (tC (.int k))) :
 PE X (.Subscript e (.Slice none none (some se) p2) pos) (fun σ H Q=>te σ H fun x H1=>∃ a xs,x=.ref a/\SqL X.K H1 a xs/\∀ p,H1 p=none->Q (.ref p) (upd H1 p (.lst (o7 k xs)))):=by
 intro pins s σ H Q I h
 refine Subscript_ (thn (he pins s σ H _ I h) fun v s1 ⟨x,H1,I1,r1,a,xs,ex,hx,q⟩=>?_)
 subst ex
 cases r1
 refine wpAny_Slice ?_
 rw[evalPart_none]
 refine wpAny_pure (wpAny_pure ?_)
 rw[evalPart_some]
 refine thn (hs pins s1 σ H1 (fun v H'=>v=.int k/\H'=H1) I1 ⟨rfl,rfl⟩) fun vs s3 ⟨y,H3,I3,r3,hy,hh⟩=>?_
 subst hy hh
 obtain ⟨t,rfl⟩:=r3
 have I4:Inv X pins σ H3 { s3 with heap:=s3.heap.push { cls:=.type "slice",data:=.fields #[.none,.none,.int k t] } }:=I3.kept (t':=s3.toks) fun b ob q=>Heap.get?_push_of_some _ q
 obtain ⟨its,rv,p,hz⟩:=I4.list hx
 have hg:wpAny (model X.prog X.w) X.A (getItem (.ref a) (.ref s3.heap.objs.size)) (EP X pins σ Q) X.xe { s3 with heap:=s3.heap.push { cls:=.type "slice",data:=.fields #[.none,.none,.int k t] } }:=by
  have hlen:=rv.length
  refine wpAny_getItem_list_slice p.isList (Heap.IsSliceOf.new ..) .none .none (.int k t) (by intro z;exact hk (Option.some.inj z)) ?_ (by rw[List.size_toArray];omega)
  have hp:slicePick its.toArray none none (some k)=((sliceRange (sliceBounds none none (some k) xs.length).1 (sliceBounds none none (some k) xs.length).2.1 (sliceBounds none none (some k) xs.length).2.2).filterMap fun i=>its[i]?).toArray:=by
   unfold slicePick
   rw[List.size_toArray,← hlen]
   simp
  rw[hp]
  have hq:=jw rv (sliceRange (sliceBounds none none (some k) xs.length).1 (sliceBounds none none (some k) xs.length).2.1 (sliceBounds none none (some k) xs.length).2.2)
  have hz':(o7 k xs).length<=xs.length:=by
   have:=slicePick_size_le its.toArray none none (some k)
   rw[hp,List.size_toArray,List.size_toArray] at this
   have e:=hq.length
   unfold o7
   omega
  refine ⟨.ref (s3.heap.push { cls:=.type "slice",data:=.fields #[.none,.none,.int k t] }).objs.size,_,I4.laid (t':=s3.toks) (o:=.lst (o7 k xs)) (fun b ob q=>Heap.get?_push_of_some _ q) (Nat.le_refl _) ?_,rfl,q _ (I4.hok.fresh (Nat.le_refl _))⟩
  exact ⟨by omega,_,0,hq,Heap.get?_push_size _ rfl⟩
 show wpAny (model X.prog X.w) X.A (subscriptTail e (.Slice none none (some se) p2) (.ref a) (.ref s3.heap.objs.size)) (EP X pins σ Q) X.xe { s3 with heap:=s3.heap.push { cls:=.type "slice",data:=.fields #[.none,.none,.int k t] } }
 exact tail_any (ops:=[.ref a,.ref s3.heap.objs.size]) p.isList.typeIs slot_list_getitem.lookup hg (by with_unfolding_all rfl)
theorem zV {X:Cx}{a:BT.E}{mu:Bool}{k:Int}{x se:PySem.Expr}{p2 p:Pos} (hk:qA k se=true) (ha:PE X x (tD X F G a)):PE X (.Subscript x (.Slice none none (some se) p2) p) (tD X F G (.stp mu k a)):=by
 have hs:k≠0/\PE X se (tC (.int k)):=by
  unfold qA at hk
  split at hk
  ·simp only[Bool.and_eq_true,beq_iff_eq,decide_eq_true_eq] at hk
   obtain ⟨rfl,h2⟩:=hk
   exact ⟨by omega,p9⟩
  ·simp only[Bool.and_eq_true,beq_iff_eq,decide_eq_true_eq] at hk
   obtain ⟨rfl,h2⟩:=hk
   exact ⟨by omega,PE.weak (BH u6 p9) fun σ H Q q=>⟨_,rfl,q⟩⟩
  ·cases hk
 refine PE.weak (DR hs.1 ha hs.2) fun σ H Q q=>?_
 refine B3 (k:=BT.Df mu k) (fun s h=>by simp only[BT.ev]) q fun m h x z h' v H1 R r e post=>?_
 unfold BT.Df at e
 cases g:BT.rd x h with
 | none=>rw[g] at e;cases e
 | some d =>
  rw[g] at e
  cases d with
  | lst xs =>
   simp only at e
   have r1:=aP R r g
   obtain ⟨a,vs,rfl,hl,rr⟩:=r1.lst
   have ez:BT.new mu (BT.oS k xs) h=(z,h'):=Option.some.inj e
   refine ⟨a,vs,rfl,hl.sq,fun p hp=>nv (mu:=mu) R hp ?_ (by rw[ez];exact post)⟩
   unfold o7 BT.oS
   rw[rr.length]
   exact RDs.pick rr _
  | _=>cases e
theorem wW {X:Cx}{b:BT.Bi}{g:Int->Int->Int} (hb:∀ ds d,BT.biD b ds=some d->∃ i j,ds=[.int i,.int j]/\d=.int (g i j)) {id:String} (hc:cG X (.builtin id) (fun xs H Q=>∃ i j,xs=[.int i,.int j]/\Q (.int (g i j)) H)):cG X (.builtin id) (rBi X.prog X.w X.K b false):=by
 intro pins s σ H vs us Q I rus h
 obtain ⟨m,h,ws,z,h',R,rws,e,post⟩:=h
 obtain ⟨ds,d,e1,e2,⟨_,rfl,rfl⟩ | ⟨_,q,_⟩⟩:=gA e
 ·have rr:=fR R rws e1
  obtain ⟨i,j,rfl,rfl⟩:=hb _ _ e2
  cases rr with
  | cons r t =>
   cases t with
   | cons r' t' =>
    cases t'
    cases r.int
    cases r'.int
    exact hc pins s σ H _ us Q I rus ⟨i,j,rfl,post.here R (.int _)⟩
 ·cases q
theorem zW {X:Cx}{sc:Scope}{N:List Str} (O:Ok X F G sc N) {b:BT.Bi}{as:BT.Es}{x:Str}{e:PySem.Expr}{es:List PySem.Expr}{p pos:Pos} (hb:vX b x=true) (hg:bB sc x=true) (hst:au (e :: es)=true) (ha:PA X (e :: es) (tDs X F G as)) :
 PE X (.Call (.Name x p) (e :: es) [] pos) (tD X F G (.bi b false as)):=by
 simp only[au,Bool.and_eq_true] at hst
 have hB:=O.blt
 cases b<;>first | (cases hb;done) | (replace hb:=eq_of_beq hb)
 ·subst hb
  refine PE.weak (f7 (wW (b:=.min2) (g:=fun i j=>if j < i then j else i) (fun ds d h=>?_) (tH O.calm)) (bL O hg) (hB _ (by decide +kernel)) (by decide +kernel) ha (by decide) (by decide) (ak hst.1) (aS hst.2)) (fun σ H Q z=>iZ z)
  match ds,h with
  | [.int i,.int j],h=>exact ⟨i,j,rfl,(Option.some.inj h).symm⟩
 ·subst hb
  refine PE.weak (f7 (wW (b:=.max2) (g:=fun i j=>if j > i then j else i) (fun ds d h=>?_) (tG O.calm)) (bL O hg) (hB _ (by decide +kernel)) (by decide +kernel) ha (by decide) (by decide) (ak hst.1) (aS hst.2)) (fun σ H Q z=>iZ z)
  match ds,h with
  | [.int i,.int j],h=>exact ⟨i,j,rfl,(Option.some.inj h).symm⟩
end
end BS
end
section
namespace BS
open PySem PySem.Spec PyProof.Rows L2
section
variable {P:Program}{w:World}{K:PySem.W.Frag}{m:List Addr}{H H':Hp}
noncomputable def kM (H H':Hp):Prop:=(∀ a vs,Rd H a (.tup vs)->Rd H' a (.tup vs))/\∀ a vs,Rd H a (.lst vs)->Rd H' a (.lst vs)
mutual
theorem RD.tr (q:kM H H'):∀ {v:V}{d:BT.D},RD K m H v d->RD K m H' v d
 | _,_,.non=>.non
 | _,_,.bl b=>.bl b
 | _,_,.int i=>.int i
 | _,_,.str y h=>.str y h
 | _,_,.tup h r=>.tup (h.elim (fun z=>.inl ⟨q.1 _ _ z.1,z.2⟩) .inr) (RDs.tr q r)
 | _,_,.lst h r=>.lst (h.elim (fun z=>.inl ⟨q.2 _ _ z.1,z.2⟩) .inr) (RDs.tr q r)
theorem RDs.tr (q:kM H H'):∀ {vs:List V}{ds:List BT.D},RDs K m H vs ds->RDs K m H' vs ds
 | _,_,.nil=>.nil
 | _,_,.cons r t=>.cons (RD.tr q r) (RDs.tr q t)
end
theorem RA.tr (q:kM H H') {v:V}{x:BT.W} (r:RA K m H v x):RA K m H' v x:=by
 cases r with
 | p r=>exact .p (r.tr q)
 | r h=>exact .r h
 | o h=>exact .o h
theorem RFs.tr (q:kM H H') {vs:List (Str×V)}{fs:List (Str×BT.W)} (r:RFs K m H vs fs):RFs K m H' vs fs:=by
 induction r with
 | nil=>exact .nil
 | cons r t ih=>exact .cons (r.tr q) ih
theorem RCs.tr (q:kM H H') {vs:List V}{cs:List BT.Cp} (r:RCs K m H vs cs):RCs K m H' vs cs:=by
 induction r with
 | nil=>exact .nil
 | cons r t ih=>exact .cons (r.tr q) ih
theorem RWs.tr (q:kM H H') {vs:List V}{ws:List BT.W} (r:RWs P w K m H vs ws) (n:BT.noC ws=true):RWs P w K m H' vs ws:=by
 induction r with
 | nil=>exact .nil
 | cons r t ih =>
  cases r with
  | p r=>exact .cons (.p (r.tr q)) (ih n)
  | r h=>exact .cons (.r h) (ih n)
  | k h r=>exact .cons (.k h r) (ih n)
  | o h=>exact .cons (.o h) (ih n)
  | c _ _=>cases n
  | g _ _=>cases n
theorem RCs.ws {vs:List V}{cs:List BT.Cp} (r:RCs K m H vs cs):RWs P w K m H vs (cs.map BT.Cp.w):=by
 induction r with
 | nil=>exact .nil
 | cons r t ih=>exact .cons r.rw ih
theorem RWs.app {vs us:List V}{ws zs:List BT.W} (r:RWs P w K m H vs ws) (t:RWs P w K m H us zs):RWs P w K m H (vs++us) (ws++zs):=by
 induction r with
 | nil=>exact t
 | cons r _ ih=>exact .cons r ih
theorem RKs.tr (q:kM H H') {vs:List (Key×V)}{kvs:List (BT.Ky×BT.D)} (r:RKs K m H vs kvs):RKs K m H' vs kvs:=by
 induction r with
 | nil=>exact .nil
 | cons hk r t ih=>exact .cons (hk.tr q) (r.tr q) ih
theorem RH.tr {h:BT.HH} (R:RH K m H h) (q:kM H H') (k:∀ a∈m,H' a=H a) (tb:TB K H'):RH K m H' h:=by
 refine ⟨R.nd,R.len,fun i a c e1 e2=>?_,tb⟩
 have z:=R.cl i a c e1 e2
 have e:=k a (List.mem_of_getElem? e1)
 cases c with
 | l xs=>obtain ⟨vs,h1,h2⟩:=z;exact ⟨vs,e.trans h1,h2.tr q⟩
 | o c fs=>obtain ⟨C,dx,vs,h1,h2,h3⟩:=z;exact ⟨C,dx,vs,e.trans h1,h2,h3.tr q⟩
 | d kvs=>obtain ⟨vs,h1,h2⟩:=z;exact ⟨vs,e.trans h1,h2.tr q⟩
theorem Le.sq (q:Le H H'):kM H H':=⟨fun a vs r=>r.elim (fun z=>.inl (q _ _ z)) fun ⟨o,z⟩=>.inr ⟨o,q _ _ z⟩,fun a vs r=>r.elim (fun z=>.inl (q _ _ z)) fun ⟨o,z⟩=>.inr ⟨o,q _ _ z⟩⟩
theorem RH.le {h:BT.HH} (R:RH K m H h) (q:Le H H'):RH K m H' h:=R.tr q.sq (fun a ha=>by
 obtain ⟨o,e,_⟩:=R.mu ha
 rw[e];exact q _ _ e) (q.tb R.tb)
theorem fZ.le (q:Le H H') {cl:List (Str×Addr)}{xs:List Str}{vs:List V} (r:fZ m H cl xs vs):fZ m H' cl xs vs:=by
 induction r with
 | nil=>exact .nil
 | cons h1 h2 h3 r t ih=>exact .cons h1 ⟨q _ _ h2.1,h2.2⟩ h3 r ih
theorem gq.le (q:Le H H') {f:Addr}{L:Nat}{vs:List V} (h:gq m H f L vs):gq m H' f L vs:=by
 obtain ⟨bt,ps,fs,pa,be,sc,cl,pm,ctv,c',oc,os,t,ql,h0,h1,h2,h3,h4,h5,h6,h7,h8,h9,h10⟩:=h
 exact ⟨bt,ps,fs,pa,be,sc,cl,pm,ctv,c',oc,os,t,ql,h0,h1,h2,h3,h4,h5,⟨q _ _ h6.1,h6.2⟩,⟨q _ _ h7.1,h7.2⟩,h8,h9,h10.le q⟩
theorem RW.le (q:Le H H') {v:V}{x:BT.W} (r:RW P w K m H v x):RW P w K m H' v x:=by
 cases r with
 | p r=>exact .p (r.tr q.sq)
 | r h=>exact .r h
 | k h r=>exact .k h r
 | o h=>exact .o h
 | c h r=>exact .c (h.le q) (r.tr q.sq)
 | g h r=>exact .g h r
end
noncomputable def cS (cl:List (Str×Addr)) (H:Hp):Prop:=∀ x c,cl.lookup x=some c->∃ o u,H c=some (.frz o (.own 0))/\o.data=.cell u
open Classical in
noncomputable def hid (cl:List (Str×Addr)) (H:Hp):Hp:=fun b=>if ∃ x,cl.lookup x=some b then none else H b
open Classical in
noncomputable def ret (cl:List (Str×Addr)) (H0 H:Hp):Hp:=fun b=>if ∃ x,cl.lookup x=some b then H0 b else H b
section
variable {cl:List (Str×Addr)}{H H':Hp}{b:Addr}{u:HO}
theorem qE {x:Str} (e:cl.lookup x=some b):hid cl H b=none:=if_pos ⟨x,e⟩
theorem dP (e:¬ ∃ x,cl.lookup x=some b):hid cl H b=H b:=if_neg e
theorem eg (e:H b=none):hid cl H b=none:=by
 unfold hid;split<;>first | rfl | exact e
theorem nI {x:Str} (e:cl.lookup x=some b):ret cl H H' b=H b:=if_pos ⟨x,e⟩
theorem eZ (e:¬ ∃ x,cl.lookup x=some b):ret cl H H' b=H' b:=if_neg e
theorem DS (e:hid cl H b=some u):H b=some u/\¬ ∃ x,cl.lookup x=some b:=by
 unfold hid at e
 split at e
 ·cases e
 ·rename_i c;exact ⟨e,c⟩
noncomputable def jY:HO->Bool
 | .frz o (.own _)=>match o.data with | .cell _=>true | _=>false
 | _=>false
theorem cS.out (C:cS cl H) (e:H b=some u) (n:jY u=false):¬ ∃ x,cl.lookup x=some b:=fun ⟨x,q⟩=>by
 obtain ⟨o,v,h1,h2⟩:=C x b q
 rw[e] at h1;cases h1
 simp[jY,h2] at n
theorem cS.hid (C:cS cl H) (e:H b=some u) (n:jY u=false):BS.hid cl H b=some u:=by rw[dP (C.out e n)];exact e
theorem cS.sq (C:cS cl H):kM H (BS.hid cl H):=⟨fun a vs r=>r.elim (fun z=>.inl (C.hid z rfl)) fun ⟨o,z⟩=>.inr ⟨o,C.hid z rfl⟩,fun a vs r=>r.elim (fun z=>.inl (C.hid z rfl)) fun ⟨o,z⟩=>.inr ⟨o,C.hid z rfl⟩⟩
theorem cS.tb (C:cS cl H) {K:PySem.W.Frag} (t:TB K H):TB K (BS.hid cl H):=t.mono (fun P ps e=>C.hid e rfl) fun a o vs d e=>C.hid e (by simp[jY,d])
theorem cS.rh (C:cS cl H) {K:PySem.W.Frag}{m:List Addr}{h:BT.HH} (R:RH K m H h):RH K m (BS.hid cl H) h:=R.tr C.sq (fun a ha=>by
 obtain ⟨o,e,z⟩:=R.mu ha
 rw[e];exact C.hid e (by cases o<;>first | rfl | cases z)) (C.tb R.tb)
theorem DT (N:∀ x c,cl.lookup x=some c->H' c=none):Le H' (ret cl H H'):=fun a u e=>by
 rw[eZ (fun ⟨x,q⟩=>by rw[N x a q] at e;cases e)];exact e
theorem cS.DU (C:cS cl H) (N:∀ x c,cl.lookup x=some c->H' c=none) {K:PySem.W.Frag}{m m':List Addr}{h':BT.HH} (x:Ext m (BS.hid cl H) m' H') (R:RH K m' H' h'):Ext m H m' (ret cl H H'):=by
 obtain ⟨e,hm,he⟩:=x.pre
 refine ⟨⟨e,hm,fun a ha=>?_⟩,fun a o h n t=>?_,fun a h=>?_⟩
 ·have z:=he a ha
  have hne:¬ ∃ y,cl.lookup y=some a:=fun ⟨y,q⟩=>by
   obtain ⟨o,e1,_⟩:=R.mu (a:=a) (by rw[hm];exact List.mem_append_right _ ha)
   rw[N y a q] at e1;cases e1
  rw[dP hne] at z;exact z
 ·by_cases c:∃ y,cl.lookup y=some a
  ·obtain ⟨y,q⟩:=c;rw[nI q];exact h
  ·rw[eZ c];exact x.keep a o (by rw[dP c];exact h) n t
 ·by_cases c:∃ y,cl.lookup y=some a
  ·obtain ⟨y,q⟩:=c;rw[nI q] at h;exact h
  ·rw[eZ c] at h;have z:=x.live a h;rw[dP c] at z;exact z
end
theorem fZ.get {m:List Addr}{H:Hp}{cl:List (Str×Addr)}{fs:List Str}{vs:List V} (r:fZ m H cl fs vs):∀ {i:Nat}{x:Str},fs[i]?=some x->∃ c o u v,cl.lookup x=some c/\Tr m H c o/\o.data=.cell (some u)/\vs[i]?=some v/\RelV v u:=by
 induction r with
 | nil=>intro i x e;simp at e
 | cons h1 h2 h3 r t ih =>
  intro i x e
  cases i with
  | zero=>simp at e;subst e;exact ⟨_,_,_,_,h1,h2,h3,rfl,r⟩
  | succ i=>simpa using ih (by simpa using e)
theorem fZ.len {m:List Addr}{H:Hp}{cl:List (Str×Addr)}{fs:List Str}{vs:List V} (r:fZ m H cl fs vs):vs.length=fs.length:=by
 induction r with
 | nil=>rfl
 | cons h1 h2 h3 r t ih=>simp[ih]
theorem fZ.cells {m:List Addr}{H:Hp}{cl:List (Str×Addr)}{fs:List Str}{vs:List V} (r:fZ m H cl fs vs) (hf:∀ x c,cl.lookup x=some c->x∈fs):cS cl H:=fun x c e=>by
 obtain ⟨i,hi⟩:=List.getElem?_of_mem (hf x c e)
 obtain ⟨c',o,u,v,h1,h2,h3,_⟩:=r.get hi
 rw[e] at h1;cases h1
 exact ⟨o,_,h2.1,h3⟩
theorem zX {pa:Arguments}{ps:List Str} (hp:LPa pa ps) {name q:Str}{be:PySem.Expr}{sc:Scope}{cl:List (Str×Addr)}{pm cdv ctv:Value}{us:List Value} (hl:us.length=ps.length):bindArgs (PySem.W.kla_fn name q pa be sc cl pm cdv ctv) ⟨us,[]⟩=pure (ps.zip us):=by
 cases hp with
 | one=>match us,hl with | [_],_=>rfl
 | two=>match us,hl with | [_,_],_=>rfl
theorem DV {pa:Arguments}{ps:List Str} (hp:LPa pa ps) (nd:ps.Nodup) {us:List Value} (hl:us.length=ps.length) {i:Nat}{x:Str} (e:ps[i]?=some x):∃ u,us[i]?=some u/\(ps.zip us).reverse.lookup x=some u:=by
 cases hp with
 | one =>
  match us,hl,i,e with
  | [u],_,0,e=>simp at e;subst e;exact ⟨u,rfl,by simp⟩
  | [u],_,i+1,e=>simp at e
 | two =>
  match us,hl,i,e with
  | [u,v],_,0,e =>
   simp at e;subst e
   simp at nd
   exact ⟨u,rfl,by simp[List.lookup_cons,beq_false_of_ne nd]⟩
  | [u,v],_,1,e=>simp at e;subst e;exact ⟨v,rfl,by simp⟩
  | [u,v],_,i+2,e=>simp at e
end BS
end
section
namespace BS
open PySem PySem.Spec PyProof.Rows L2
structure LF (ps fs:List Str) (sc:Scope):Prop where
 kd:sc.kind=.function
 co:sc.isCoroutine=false
 ge:sc.isGenerator=false
 cell:∀ y∈sc.names,y.2≠.cell
 loc:∀ x∈ps,sc.names.lookup x=some .local
 fre:∀ x∈fs,sc.names.lookup x=some .free/\(x,NameKind.free)∈sc.names
 all:∀ y∈sc.names,y.2=.free->y.1∈fs
 nd:(ps++fs).Nodup
theorem kN:∀ {l:List Str},iF l=true->l.Nodup
 | [],_=>List.nodup_nil
 | x :: r,h=>by
  simp only[iF,Bool.and_eq_true,Bool.not_eq_true'] at h
  refine List.nodup_cons.mpr ⟨fun z=>?_,kN h.2⟩
  have:=h.1
  simp[z] at this
theorem GV {ps fs:List Str}{sc:Scope} (h:mz ps fs sc=true):LF ps fs sc:=by
 simp only[mz,Bool.and_eq_true,Bool.not_eq_true'] at h
 obtain ⟨⟨⟨⟨⟨⟨⟨h1,h2⟩,h3⟩,h4⟩,h5⟩,h6⟩,h7⟩,h8⟩:=h
 rw[List.all_eq_true] at h4 h5 h6 h7
 refine ⟨eq_of_beq h1,h2,h3,fun y hy e=>?_,fun x hx=>eq_of_beq (h5 x hx),fun x hx=>?_,fun y hy e=>?_,kN h8⟩
 ·have:=h4 y hy;rw[e] at this;cases this
 ·have:=h6 x hx
  simp only[Bool.and_eq_true] at this
  exact ⟨eq_of_beq this.1,by simpa using this.2⟩
 ·have:=h7 y hy
  rw[e] at this
  simpa using this
noncomputable def wX (P:Program) (w:World) (K:PySem.W.Frag) (mg:Str->Option Value) (base:Heap) (N:List Str) (q:Str) (sc:Scope) (cl:List (Str×Addr)) (f c':Addr) (A:Around) (outer:List Env) (s:Shared) (H:Hp):Cx where
 prog:=P
 w:=w
 K:=K
 mg:=mg
 base:=base
 A:=A.deeper (PySem.W.envX q sc s.heap.objs.size f (.ref c') cl)
 N:=N
 s₀:=s
 H₀:=hid cl H
 env:=PySem.W.envX q sc s.heap.objs.size f (.ref c') cl
 outer:=outer
 stack:=PySem.W.envX q sc s.heap.objs.size f (.ref c') cl :: outer
 ex:=[]
 calm:=true
 fn:=fun _=>false
 pn:=[]
 xe:=fun _ _=>False
theorem rT {P:Program}{w:World}{cl:List (Str×Addr)}{H:Hp}{h h1:Heap} (C:cS cl H) (ok:HOk P w H h) (k:∀ b o,h.get? b=some o->h1.get? b=some o):HOk P w (hid cl H) h1:=fun b u e=>by
 obtain ⟨e1,_⟩:=DS e
 exact (ok b u e1).stay (fun c o _ q=>k c o q) (fun c q=>C.hid q rfl) fun c xs q=>C.hid q rfl
theorem zY {P:Program}{w:World}{K:PySem.W.Frag}{mg:Str->Option Value}{base:Heap}{A:Around}{outer:List Env}{s:Shared}{H:Hp}{f c':Addr}{us:List Value}{vs cvs:List V}{m:List Addr}{ps fs:List Str}{pa:Arguments}{sc:Scope}{cl:List (Str×Addr)}{q:Str}{h1:Heap}{tk:Nat}
 (hp:LPa pa ps) (F:LF ps fs sc) (inj:∀ x y c,cl.lookup x=some c->cl.lookup y=some c->x=y) (hfs:∀ x c,cl.lookup x=some c->x∈fs) (cp:fZ m H cl fs cvs) (hd:A.handled=none) (e0:iN P w K mg base A outer s H) (r:aq vs us) (hl:us.length=ps.length)
 (hns:h1.Ns s.heap.objs.size (fun y=>(ps.zip us).reverse.lookup y)) (hk1:∀ b o,s.heap.get? b=some o->h1.get? b=some o) :
 Inv (wX P w K mg base (ps++fs) q sc cl f c' A outer s H) [] (vs.map some++cvs.map some) (hid cl H) { s with heap:=h1,toks:=tk }:=by
 have C:=cp.cells hfs
 have lv:vs.length=ps.length:=r.length.trans hl
 have lc:=cp.len
 have noA:∀ b:Addr,b∉(wX P w K mg base (ps++fs) q sc cl f c' A outer s H).ex:=fun b z=>absurd (show b∈([]:List Addr) from z) (by simp)
 have cel:∀ x c,cl.lookup x=some c->∃ u,s.heap.IsCell c (some u):=fun x c e=>by
  obtain ⟨i,hi⟩:=List.getElem?_of_mem (hfs x c e)
  obtain ⟨c2,o,u,v,g1,g2,g3,_⟩:=cp.get hi
  rw[e] at g1;cases g1
  exact ⟨u,o,(e0.hok _ _ g2.1).1,g3⟩
 refine ⟨⟨e0.mod,F.kd,rfl,rfl,Nat.le_refl _,inj,fun x hx=>?_,fun x c z=>absurd (show false=true from z) (by decide),fun _=>hd,Around.frames_deeper e0.frames,.inr ⟨rfl,rfl⟩,fun b z=>absurd z (noA b),fun b o e=>⟨(e0.bs b o e).1,eg (e0.bs b o e).2⟩,e0.bsz,fun b _ _=>noA b,fun b z=>absurd z (noA b),e0.ig,fun b hb=>eg (e0.frf b hb)⟩,
  rfl,e0.bare,Un.kept hk1,⟨_,hns,fun i x v g1 g2 g3=>?_⟩,fun x c e=>?_,eg (e0.hok.fresh (Nat.le_refl _)),fun x c e=>qE e,fun p hp=>absurd (show p∈([]:List (Addr×Obj)) from hp) (by simp),rT C e0.hok hk1,?_⟩
 ·have hx:sc.names.lookup x=some .cell\/sc.names.lookup x=some .free:=hx
  rcases hx with hx | hx
  ·exact absurd rfl (F.cell _ (PySem.mem_of_lookup hx))
  ·obtain ⟨i,hi⟩:=List.getElem?_of_mem (F.all _ (PySem.mem_of_lookup hx) rfl)
   obtain ⟨c,_,_,_,g1,_⟩:=cp.get hi
   exact ⟨c,g1⟩
 ·have g1:(ps++fs)[i]?=some x:=g1
  by_cases c:i < ps.length
  ·rw[List.getElem?_append_left c] at g1
   rw[List.getElem?_append_left (by simpa [lv] using c),List.getElem?_map] at g2
   obtain ⟨u,g4,g5⟩:=DV hp (F.nd.sublist (List.sublist_append_left _ _)) hl g1
   obtain ⟨v',g6,g7⟩:=Option.map_eq_some_iff.mp g2
   cases g7
   obtain ⟨u',g8,rv⟩:=r.get g6
   rw[g4] at g8;cases g8
   exact ⟨u,rv,.inl ⟨F.loc x (List.mem_of_getElem? g1),g5⟩⟩
  ·rw[List.getElem?_append_right (by omega)] at g1
   rw[List.getElem?_append_right (by simp[lv];omega),List.getElem?_map] at g2
   simp only[List.length_map,lv] at g2
   obtain ⟨c2,o,u,v2,k1,k2,k3,k4,k5⟩:=cp.get g1
   rw[k4] at g2
   cases g2
   exact ⟨u,k5,.inr ⟨.inr (F.fre x (List.mem_of_getElem? g1)).1,c2,k1,o,hk1 _ _ (e0.hok _ _ k2.1).1,k3⟩⟩
 ·obtain ⟨u,o,z1,z2⟩:=cel x c e
  exact ⟨some u,o,hk1 _ _ z1,z2⟩
 ·show _=(ps++fs).length
  simp[lv,lc]
section
variable {F:FT}{G:Str->Option BT.W}
theorem uo {o:Option (Option BT.W)}{ws:List BT.W}{h:BT.HH}{r:BT.W×BT.HH} (e:BT.ng F o ws h=some r):∃ k cs,o=some (some (.c k cs))/\BT.noC ws=true/\F k (ws++cs.map BT.Cp.w) h=some r:=by
 unfold BT.ng at e
 split at e
 ·rename_i k cs
  split at e
  ·rename_i c;exact ⟨k,cs,rfl,c,e⟩
  ·cases e
 ·cases e
theorem gq.fnAt {P:Program}{w:World}{m:List Addr}{H:Hp}{f:Addr}{L:Nat}{vs:List V}{h:Heap} (l:gq m H f L vs) (ok:HOk P w H h):PySem.W.FnAt f h:=by
 obtain ⟨bt,ps,fs,pa,be,sc,cl,pm,ctv,c',oc,os,t,ql,h0,h1,h2,h3,h4,h5,h6,_⟩:=l
 exact ⟨_,_,_,_,(ok _ _ h6.1).1⟩
theorem Post.ext {P:Program}{w:World}{K:PySem.W.Frag}{m m':List Addr}{H H':Hp}{z:BT.W}{h':BT.HH}{Q:VK} (p:Post P w K m H z h' Q) (x:Ext m H m' H'):Post P w K m' H' z h' Q:=fun v H2 m2 y R r=>p v H2 m2 (x.trans y) R r
theorem wY {X:Cx}{sc:Scope}{N:List Str} (O:Ok X F G sc N) {i:Nat}{x:Str}{as:BT.Es}{e:PySem.Expr}{es:List PySem.Expr}{np pos:Pos} (h1:N[i]?=some x) (h2:jH sc x=true) (h3:cR x=true) (hc:CEs sc N as (e :: es)) (ha:PA X (e :: es) (tDs X F G as)) :
 PE X (.Call (.Name x np) (e :: es) [] pos) (tD X F G (.callv i x as)):=by
 have hst:=dM hc
 simp only[au,Bool.and_eq_true] at hst
 intro pins s σ H Q I q
 obtain ⟨m,s',h,z,h',R,S,ee,post⟩:=q
 simp only[BT.ev] at ee
 obtain ⟨ws,g,e1,e2⟩:=ao ee
 obtain ⟨k,cs,k1,k2,k3⟩:=uo e2
 obtain ⟨v,hv,rv⟩:=S.get i _ k1
 obtain ⟨d1,d2,_⟩:=dU h3
 refine wpAny_Call_Name_kw ?_
 refine thn (uP (i:=i) (by rw[O.hN];exact h1) (wJ O h2) d1 d2 pins s σ H (fun v2 H2=>v2=v/\H2=H) I ⟨v,hv,rfl,rfl⟩) fun u s1 ⟨v2,H2,I2,r2,ev,eh⟩=>?_
 subst ev eh
 have hA:tDs X F G as σ H2 (fun vs2 H3=>∃ m3,Ext m H2 m3 H3/\RH X.K m3 H3 g/\RWs X.prog X.w X.K m3 H3 vs2 ws):=⟨m,s',h,ws,g,R,S,e1,fun vs2 H3 m3 x3 R3 r3=>⟨m3,x3,R3,r3⟩⟩
 cases rv with
 | @c f L cvs _ hL rc =>
  obtain rfl:u=.ref f:=r2
  refine PySem.W.callWith_F (hL.fnAt I2.hok) (thn (ha pos pins s1 σ H2 _ I2 hA) fun us s2 ⟨vs2,H3,I3,r3,m3,x3,R3,w3⟩=>⟨(hL.ext x3).fnAt I3.hok,?_⟩) (ak hst.1) (aS hst.2)
  obtain ⟨k,hr,lo⟩:=O.lam _ _ _ _ k3
  refine wpAny_call (codeAny_mono (lo X.A X.stack s2 H3 f us vs2 cvs m3 ws cs g z h' Q E0 hr I3.CK r3 R3 w3 k2 (hL.ext x3) (rc.ext x3) k3 (post.ext x3)) fun r s' hq=>?_)
  cases r with
  | error e=>exact False.elim hq
  | ok fl =>
   cases fl with
   | ret u=>exact I3.after hq
   | next=>exact False.elim hq
   | brk=>exact False.elim hq
   | cont=>exact False.elim hq
 | @g f x' hn hk =>
  obtain rfl:u=.ref f:=r2
  have k3':F (.f x') ws g=some (z,h'):=by simpa using k3
  obtain ⟨fa,fd,ps,k,hm,_,hb,hr,ok⟩:=O.call _ _ _ _ k3'
  have hm':=PySem.W.mg_of I2.ok.mod.kin I2.ok.mod.glob hn
  rw[hm] at hm'
  cases hm'
  refine PySem.W.callWith_K (h₀:=X.base) I2.ok.mod.kin hk (thn (ha pos pins s1 σ H2 _ I2 hA) fun us s2 ⟨vs2,H3,I3,r3,m3,x3,R3,w3⟩=>⟨I3.kIn,?_⟩) (ak hst.1) (aS hst.2)
  refine kr (E:=E0) ok hr hb .nil kC I3 r3 ?_
  rw[List.append_nil]
  exact ⟨m3,ws,g,z,h',R3,w3,k3',post.ext x3⟩
end
end BS
end
section
namespace BS
open PySem PySem.Spec PyProof.Rows L2
structure uq (K:PySem.W.Frag) (J:It) (m0:List Addr) (H0:Hp) (ds:List BT.D):Prop where
 go:∀ m H (i:Nat),Ext m0 H0 m H->i < ds.length->J.go i H
 yld:∀ m H h (i:Nat) x H' d,Ext m0 H0 m H->RH K m H h->ds[i]?=some d->J.yld i H x H'->Ext m H m H'/\Le H H'/\RD K m H' x d
 stop:∀ m H,Ext m0 H0 m H->J.stop ds.length H
noncomputable def Itv (K:PySem.W.Frag) (a:Addr) (n:Nat):It :=
 ⟨fun i H=>i < n/\∃ xs,SqL K H a xs/\xs.length=n,fun i H x H'=>H'=H/\∀ xs,SqL K H a xs->xs[n - 1 - i]?=some x,fun i H=>i=n⟩
theorem wZ {P:Program}{w:World}{K:PySem.W.Frag}{tg:PySem.Expr} (a it:Addr) (n:Nat):Turn P w K tg (Itv K a n) [it] it (fun i h=>h.IsRevIter it a ((n:Int) - 1 - i)) where
 mem:=by simp
 obj:=fun i h st b hb=>by
  have e:b=it:=by simpa using hb
  subst e
  obtain ⟨o,e,c,d⟩:=st
  exact ⟨o,e,fun v z=>by rw[d] at z;cases z⟩
 keep:=fun i h h' st k=>st.at fun o e=>k it (by simp) o e
 item:=by
  intro X hP hw hK hc i pins s σ H E I hf st hg
  subst hP hw hK
  obtain ⟨hi,xs,hq,hx⟩:=hg
  obtain ⟨its,rv,p,hz⟩:=I.list hq
  have hl:=rv.length
  have hj:n - 1 - i < xs.length:=by omega
  obtain ⟨u,hu,ru⟩:=rv.get (List.getElem?_eq_getElem hj)
  obtain ⟨f0,f1,f2,f3,f4,f5⟩:=hf it (by simp)
  have ei:((n:Int) - 1 - (i:Int))=(((n - 1 - i:Nat)):Int):=by omega
  have st':s.heap.IsRevIter it a (((n - 1 - i:Nat)):Int):=by rw[← ei];exact st
  refine wpAny_pyNext_rev_item st' p.isList (x:=u) (by simpa using hu) fun h' st'' sb=>?_
  have I1:Inv X pins σ H { s with heap:=h' }:=I.turned (t':=s.toks) (fun b o hb e=>(sb.2 b hb).trans e) f0 f1 f3 f4 f5
  obtain ⟨o,e,c,d⟩:=id st''
  refine ⟨u,rfl,qX (s:={ s with heap:=h' }) e c d (by decide) ⟨_,H,I1,ru,⟨rfl,fun ys hy=>by rw[I.n9 hy hq];exact List.getElem?_eq_getElem hj⟩,?_,fun b hb=>(hf b hb).1⟩⟩
  have e2:(((n - 1 - i:Nat)):Int) - 1=(n:Int) - 1 - ((i+1:Nat):Int):=by omega
  rw[e2] at st''
  exact st''
 done:=by
  intro X hP hw hK hc i pins s σ H E I hf st hg
  subst hP hw hK
  have hg:i=n:=hg
  subst hg
  obtain ⟨f0,f1,f2,f3,f4,f5⟩:=hf it (by simp)
  have e1:(i:Int) - 1 - (i:Int)=-1:=by omega
  have st':s.heap.IsRevIter it a (-1):=by rw[← e1];exact st
  exact wpAny_pyNext_rev_end (I.ok.hd hc) st' fun h' eb=>⟨rfl,I.turned (t':=s.toks) (fun b o hb e=>eb b o hb e) f0 f1 f3 f4 f5⟩
 self:=fun _ _ _ _ _ st h=>wpAny_pyIter_revIter st h
theorem Inv.zZ {X:Cx}{pins:List (Addr×Obj)}{σ:L2.St}{H H':Hp}{s:Shared}{h':Heap}{fp:List Addr}{tk:Nat} (I:Inv X pins σ H s) (hf:∀ b∈fp,lD X pins H b)
 (k:∀ b o,b∉fp->s.heap.get? b=some o->h'.get? b=some o) (hs:∀ b,b < s.heap.objs.size->H' b=H b) (hok:HOk X.prog X.w H' h'):Inv X pins σ H' { s with heap:=h',toks:=tk }:=by
 have hlt:∀ b u,H b=some u->H' b=some u:=fun b u e=>by rw[hs b (I.hok.lt e)];exact e
 refine I.step (g':=s.gens) (d':=s.drawn) (ch:=fp) (fun b hb=>?_) (fun b o _ _ hc e _=>k b o hc e) (fun b o _ _ hc e _=>⟨o.slots,k b o hc e⟩) (fun b o _ e n=>by rw[hs b (Heap.lt_size e)];exact n)
  (fun b o hc e=>⟨o,k b o hc e⟩) (fun b xs e=>hlt b _ e) (fun b o u e=>hlt b _ e) (fun b ps e=>⟨#[],by rw[hlt b _ e];simp⟩) (fun m hm=>?_) hok I.bare
 ·obtain ⟨_,f1,_,f3,f4,f5⟩:=hf b hb
  exact ⟨f3,f1,f4,f5⟩
 ·obtain ⟨o,es,ep,ho,r⟩:=hm
  exact ⟨o,es,ep,k _ o (fun z=>(hf _ z).2.1 rfl) ho,r⟩
noncomputable def iD (X:Cx) (F:FT) (G:Str->Option BT.W) (sr:BT.Sr) (sa:BT.Es):TI:=fun σ H R =>
 ∃ m s h ws h' ds,RH X.K m H h/\RS X.prog X.w X.K m H σ s/\BT.evs F G sa s h=some (ws,h')/\(BT.rds ws h').bind (BT.fq sr)=some ds/\BT.gk ws=true ∧
  ∀ H' m' J,Ext m H m' H'->RH X.K m' H' h'->uq X.K J m' H' ds->R J H'
theorem PI.weak {X:Cx}{tg e:PySem.Expr}{t t':TI} (h:PI X tg e t) (q:∀ σ H R,t' σ H R->t σ H R):PI X tg e t':=fun pins s σ H R I hw=>h pins s σ H R I (q _ _ _ hw)
section
variable {F:FT}{G:Str->Option BT.W}
theorem z4 {K:PySem.W.Frag}{m0:List Addr}{H0:Hp}{a:Addr}{vs:List V}{ds:List BT.D} (h:(Rd H0 a (.lst vs)/\a∉m0)\/KL K a vs) (r:RDs K m0 H0 vs ds):uq K (Itl K a) m0 H0 ds:=by
 have k:∀ {m H},Ext m0 H0 m H->SqL K H a vs:=fun x=>LL.sq (h.elim (fun q=>.inl (Rd.ext x q.1 q.2).1) .inr)
 refine ⟨fun m H i x hi=>?_,fun m H hh i v H' d x RR hd y=>?_,fun m H x=>⟨vs,k x,by rw[r.length];exact Nat.le_refl _⟩⟩
 ·exact ⟨vs,_,k x,List.getElem?_eq_getElem (by rw[r.length];exact hi)⟩
 ·obtain ⟨rfl,y⟩:=y
  obtain ⟨u,h1,h2⟩:=(r.ext x).get hd
  have:=y vs (k x)
  rw[h1] at this
  cases this
  exact ⟨.refl _ _,fun _ _ e=>e,h2⟩
theorem DW {K:PySem.W.Frag}{m0:List Addr}{H0:Hp}{a:Addr}{vs:List V}{ds:List BT.D} (h:(Rd H0 a (.tup vs)/\a∉m0)\/KT K a vs) (r:RDs K m0 H0 vs ds):uq K (Itt K a) m0 H0 ds:=by
 have k:∀ {m H},Ext m0 H0 m H->SqT K H a vs:=fun x=>h.elim (fun q=>.inl (Rd.ext x q.1 q.2).1) fun ⟨o,its,n,q,_⟩=>.inr ⟨o,its,n,q⟩
 refine ⟨fun m H i x hi=>?_,fun m H hh i v H' d x RR hd y=>?_,fun m H x=>⟨vs,k x,by rw[r.length];exact Nat.le_refl _⟩⟩
 ·exact ⟨vs,_,k x,List.getElem?_eq_getElem (by rw[r.length];exact hi)⟩
 ·obtain ⟨rfl,y⟩:=y
  obtain ⟨u,h1,h2⟩:=(r.ext x).get hd
  have:=y vs (k x)
  rw[h1] at this
  cases this
  exact ⟨.refl _ _,fun _ _ e=>e,h2⟩
theorem DX {K:PySem.W.Frag}{m0:List Addr}{H0:Hp}{a:Addr}{vs:List V}{ds:List BT.D} (h:(Rd H0 a (.lst vs)/\a∉m0)\/KL K a vs) (r:RDs K m0 H0 vs ds):uq K (Itv K a ds.length) m0 H0 ds.reverse:=by
 have k:∀ {m H},Ext m0 H0 m H->SqL K H a vs:=fun x=>LL.sq (h.elim (fun q=>.inl (Rd.ext x q.1 q.2).1) .inr)
 refine ⟨fun m H i x hi=>?_,fun m H hh i v H' d x RR hd y=>?_,fun m H x=>by show ds.reverse.length=ds.length;simp⟩
 ·exact ⟨by simpa using hi,vs,k x,r.length⟩
 ·obtain ⟨rfl,y⟩:=y
  have hi:i < ds.length:=by
   have:=getD_some hd
   simpa using this
  have hd':ds[ds.length - 1 - i]?=some d:=by
   rw[List.getElem?_reverse hi] at hd
   exact hd
  obtain ⟨u,h1,h2⟩:=(r.ext x).get hd'
  have:=y vs (k x)
  rw[h1] at this
  cases this
  exact ⟨.refl _ _,fun _ _ e=>e,h2⟩
theorem w5 {K:PySem.W.Frag}{m0:List Addr}{H0:Hp} (lo:Int) (n:Nat):uq K (Itr lo n) m0 H0 (BT.upto lo n):=by
 have hl:(BT.upto lo n).length=n:=by simp[BT.upto]
 refine ⟨fun m H i x hi=>by rw[hl] at hi;exact hi,fun m H hh i v H' d x RR hd y=>?_,fun m H x=>by rw[hl];exact Nat.le_refl n⟩
 obtain ⟨rfl,rfl⟩:=y
 have:d=.int (lo+i):=by
  have hi:i < n:=by
   have:=getD_some hd
   rw[hl] at this
   exact this
  simp only[BT.upto,List.getElem?_map] at hd
  rw[List.getElem?_range hi] at hd
  simpa using hd.symm
 subst this
 exact ⟨.refl _ _,fun _ _ e=>e,.int _⟩
theorem rV:∀ {ws:List BT.W},BT.gk ws=true->∃ ds:List BT.D,ws=ds.map BT.W.p:=by
 intro ws
 induction ws with
 | nil=>exact fun _=>⟨[],rfl⟩
 | cons w ws ih =>
  intro h
  cases w with
  | p d =>
   obtain ⟨ds,rfl⟩:=ih h
   exact ⟨d :: ds,rfl⟩
  | _=>cases h
theorem w9 (h:BT.HH) (ds:List BT.D):BT.rds (ds.map BT.W.p) h=some ds:=by
 induction ds with
 | nil=>rfl
 | cons d ds ih =>
  show (BT.rds (ds.map BT.W.p) h).map (d :: ·)=_
  rw[ih];rfl
theorem xg {ws:List BT.W}{h:BT.HH}{sr:BT.Sr}{ds:List BT.D} (hs:sr=.seq\/sr=.rev\/sr=.rng1) (e:(BT.rds ws h).bind (BT.fq sr)=some ds) (ha:BT.gk ws=true):∃ d,ws=[.p d]/\BT.fq sr [d]=some ds:=by
 obtain ⟨xs,rfl⟩:=rV ha
 rw[w9,Option.bind_some] at e
 cases xs with
 | nil=>rcases hs with rfl | rfl | rfl<;>cases e
 | cons d xs =>
  cases xs with
  | nil=>exact ⟨d,rfl,e⟩
  | cons d2 xs=>rcases hs with rfl | rfl | rfl<;>cases d<;>cases e
theorem rW {a:BT.E}{s:BT.Sl}{h h':BT.HH}{ws:List BT.W} (e:BT.evs F G (.cons a .nil) s h=some (ws,h')):∃ w,ws=[w]/\BT.ev F G a s h=some (w,h'):=by
 simp only[BT.evs] at e
 obtain ⟨w,g,e1,e2⟩:=ao e
 simp only[BT.jG,BT.bZ,BT.gn] at e2
 cases e2
 exact ⟨w,rfl,e1⟩
theorem rX {X:Cx}{tg x:PySem.Expr}{a:BT.E} (he:PE X x (tD X F G a)):PI X tg x (iD X F G .seq (.cons a .nil)):=by
 intro pins s σ H R I q
 obtain ⟨m,s',h,ws,h',ds,RR,S,e,e2,ha,post⟩:=q
 obtain ⟨d,rfl,e3⟩:=xg (.inl rfl) e2 ha
 obtain ⟨w,ew,e4⟩:=rW e
 cases ew
 rw[BT.vG] at e3
 cases d<;>simp only[BT.m7] at e3<;>try contradiction
 ·cases e3
  refine Ct he pins s σ H R I ⟨m,s',h,_,h',RR,S,e4,fun v H1 m1 x1 R1 r1=>?_⟩
  cases r1 with
  | p r1 =>
   cases r1 with
   | @tup a vs _ h r=>exact ⟨a,rfl,⟨vs,h.elim (fun q=>.inl q.1) fun ⟨o,its,n,q,_⟩=>.inr ⟨o,its,n,q⟩⟩,post H1 m1 _ x1 R1 (DW h r)⟩
 ·cases e3
  refine yG he pins s σ H R I ⟨m,s',h,_,h',RR,S,e4,fun v H1 m1 x1 R1 r1=>?_⟩
  cases r1 with
  | p r1 =>
   cases r1 with
   | @lst a vs _ h r=>exact ⟨a,rfl,⟨vs,LL.sq (h.elim (fun q=>.inl q.1) .inr)⟩,post H1 m1 _ x1 R1 (z4 h r)⟩
theorem o8 {X:Cx}{sc:Scope}{N:List Str} (O:Ok X F G sc N) {tg e:PySem.Expr}{sa:BT.Es}{p pos:Pos} (hg:bB sc "range"=true) (hs:noStar e=true) (ha:PA X [e] (tDs X F G sa)):PI X tg (.Call (.Name "range" p) [e] [] pos) (iD X F G .rng1 sa):=by
 refine PI.weak (tw (bL O hg) (O.blt _ (by decide)) ha (ak hs)) fun σ H R q=>?_
 obtain ⟨m,s',h,ws,h',ds,RR,S,e,e2,ha,post⟩:=q
 obtain ⟨d,rfl,e3⟩:=xg (.inr (.inr rfl)) e2 ha
 refine ⟨m,s',h,_,h',RR,S,e,fun vs H1 m1 x1 R1 r1=>?_⟩
 cases d<;>simp only[BT.fq] at e3<;>try contradiction
 split at e3
 ·rename_i j c
  simp only[Bool.and_eq_true,decide_eq_true_eq] at c
  cases e3
  cases r1 with
  | cons r t =>
   cases t
   cases r with
   | p r =>
    cases r
    exact ⟨j,rfl,by omega,by omega,post H1 m1 _ x1 R1 (w5 0 j.toNat)⟩
 ·cases e3
theorem GW {ws:List BT.W}{h:BT.HH}{ds:List BT.D} (e:(BT.rds ws h).bind (BT.fq .rng2)=some ds) (ha:BT.gk ws=true):∃ i j:Int,ws=[.p (.int i),.p (.int j)]/\(-100000<=i/\i<=100000/\-100000<=j/\j<=100000)/\ds=BT.upto i (j - i).toNat:=by
 obtain ⟨xs,rfl⟩:=rV ha
 rw[w9,Option.bind_some] at e
 have hx:∃ i j:Int,xs=[.int i,.int j]:=by
  match xs,e with
  | [.int i,.int j],_=>exact ⟨i,j,rfl⟩
 obtain ⟨i,j,rfl⟩:=hx
 rw[BT.gR] at e
 split at e
 ·rename_i c
  simp only[Bool.and_eq_true,decide_eq_true_eq] at c
  cases e
  exact ⟨i,j,rfl,⟨c.1.1.1,c.1.1.2,c.1.2,c.2⟩,rfl⟩
 ·cases e
theorem o9 {X:Cx}{sc:Scope}{N:List Str} (O:Ok X F G sc N) {tg x y:PySem.Expr}{sa:BT.Es}{p pos:Pos} (hg:bB sc "range"=true) (hs:noStar x=true) (hs2:noStar y=true) (ha:PA X [x,y] (tDs X F G sa)):PI X tg (.Call (.Name "range" p) [x,y] [] pos) (iD X F G .rng2 sa):=by
 refine PI.weak (tE (bL O hg) (O.blt _ (by decide)) ha (by rw[ak hs,ak hs2];rfl) (by rw[ak hs2];rfl)) fun σ H R q=>?_
 obtain ⟨m,s',h,ws,h',ds,RR,S,e,e2,ha,post⟩:=q
 obtain ⟨i,j,rfl,c,rfl⟩:=GW e2 ha
 refine ⟨m,s',h,_,h',RR,S,e,fun vs H1 m1 x1 R1 r1=>?_⟩
 cases r1 with
 | cons r t =>
  cases t with
  | cons r2 t2 =>
   cases t2
   cases r with
   | p r =>
    cases r
    cases r2 with
    | p r2 =>
     cases r2
     exact ⟨i,j,rfl,⟨by omega,by omega,by omega,by omega⟩,post H1 m1 _ x1 R1 (w5 i (j - i).toNat)⟩
theorem rY {X:Cx}{sc:Scope}{N:List Str} (O:Ok X F G sc N) {tg e:PySem.Expr}{a:BT.E}{p pos:Pos} (hg:bB sc "reversed"=true) (hs:noStar e=true) (he:PE X e (tD X F G a)):PI X tg (.Call (.Name "reversed" p) [e] [] pos) (iD X F G .rev (.cons a .nil)):=by
 intro pins s σ H R I q
 obtain ⟨m,s',h,ws,h',ds,RR,S,e,e2,ha,post⟩:=q
 obtain ⟨d,rfl,e3⟩:=xg (.inr (.inl rfl)) e2 ha
 obtain ⟨w,ew,e4⟩:=rW e
 cases ew
 cases d<;>simp only[BT.fq] at e3<;>try contradiction
 rename_i xs
 ·cases e3
  refine Call_ (fh (u:=.type "reversed") I (bL O hg) (O.blt _ (by decide)) (by decide +kernel) (PyProof.Rows.callWith_type1 (thn (eS he kq (ak hs) pos pins s σ H (fun vs H1=>∃ a vt,vs=[.ref a]/\∃ m1,Ext m H m1 H1/\RH X.K m1 H1 h'/\((Rd H1 a (.lst vt)/\a∉m1)\/KL X.K a vt)/\RDs X.K m1 H1 vt xs) I ?_) fun us s1 ⟨vs,H1,I1,r1,q1⟩=>?_) (ak hs) rfl))
  ·refine ⟨m,s',h,_,h',RR,S,e4,fun v H1 m1 x1 R1 r1=>?_⟩
   cases r1 with
   | p r1 =>
    cases r1 with
    | @lst a vt _ hh r=>exact ⟨a,vt,rfl,m1,x1,R1,hh,r⟩
  ·obtain ⟨a,vt,rfl,m1,x1,R1,hh,r⟩:=q1
   obtain ⟨u,rfl,ru⟩:=vals1 r1
   cases ru
   obtain ⟨z,its,nn,rv,hl,ee⟩:=rdL I1 (hh.elim (fun q=>.inl q.1) .inr)
   have hL:s1.heap.IsList a its.toArray:=⟨_,ee,rfl,_,rfl⟩
   have hlen:=r.length
   refine call_reversed_list hL ?_
   have stt:({ s1 with heap:=s1.heap.push (revObj a ((its.toArray.size:Int) - 1)) }:Shared).heap.IsRevIter s1.heap.objs.size a ((xs.length:Int) - 1 - ((0:Nat):Int)):=by
    refine ⟨_,Heap.get?_push_size _ rfl,rfl,?_⟩
    show Data.fields #[.ref a,rawInt ((its.toArray.size:Int) - 1)]=_
    rw[List.size_toArray,← hl,hlen]
    simp
   refine wpAny_pyIter_revIter stt ?_
   refine ⟨s1.heap.objs.size,[s1.heap.objs.size],_,_,H1,rfl,I1.kept (t':=s1.toks) fun b o e=>Heap.get?_push_of_some _ e,wZ a _ xs.length,stt,fun b hb=>?_,post H1 m1 _ x1 R1 (DX hh r)⟩
   have e:b=s1.heap.objs.size:=by simpa using hb
   subst e
   exact I1.yF (Nat.le_refl _) (I1.hok.fresh (Nat.le_refl _))
end
end BS
end
section
namespace BS
open PySem PySem.Spec PyProof.Rows L2
section
variable {P:Program}{w:World}{K:PySem.W.Frag}{m m':List Addr}{H H':Hp}
theorem RKs.length {vs:List (Key×V)}{kvs:List (BT.Ky×BT.D)} (r:RKs K m H vs kvs):vs.length=kvs.length:=by
 induction r with
 | nil=>rfl
 | cons _ _ _ ih=>simp[ih]
theorem ur {p:BT.Ky×BT.D}{r:List (BT.Ky×BT.D)}{k:BT.Ky} (e:p.1=k):BT.f9 (p :: r) k=some p.2:=by simp[BT.f9,List.find?_cons,e]
theorem uv {p:BT.Ky×BT.D}{r:List (BT.Ky×BT.D)}{k:BT.Ky} (e:¬ p.1=k):BT.f9 (p :: r) k=BT.f9 r k:=by simp[BT.f9,List.find?_cons,e]
theorem RKs.get {vs:List (Key×V)}{kvs:List (BT.Ky×BT.D)} (r:RKs K m H vs kvs) (k:Key):(BT.f9 kvs k=none/\mY vs k=none)\/∃ v d,BT.f9 kvs k=some d/\mY vs k=some v/\RD K m H v d:=by
 induction r with
 | nil=>exact .inl ⟨rfl,rfl⟩
 | @cons j v d vs kvs hk r t ih =>
  by_cases c:j=k
  ·exact .inr ⟨v,d,ur c,oF c,r⟩
  ·rw[uv (p:=(j,d)) c,oG (p:=(j,v)) c];exact ih
theorem RKs.any {vs:List (Key×V)}{kvs:List (BT.Ky×BT.D)} (r:RKs K m H vs kvs) (k:Key):(vs.any fun kv=>decide (kv.1=k))=kvs.any fun kv=>decide (kv.1=k):=by
 induction r with
 | nil=>rfl
 | cons _ _ _ ih=>rw[List.any_cons,List.any_cons,ih]
theorem RKs.snoc {vs:List (Key×V)}{kvs:List (BT.Ky×BT.D)} (r:RKs K m H vs kvs) (k:Key) {v:V}{d:BT.D} (hk:RD K m H (kV k) (BT.qt k)) (q:RD K m H v d):RKs K m H (vs++[(k,v)]) (kvs++[(k,d)]):=by
 induction r with
 | nil=>exact .cons hk q .nil
 | cons h r _ ih=>exact .cons h r ih
theorem RKs.repl {vs:List (Key×V)}{kvs:List (BT.Ky×BT.D)} (r:RKs K m H vs kvs) (k:Key) {v:V}{d:BT.D} (q:RD K m H v d):RKs K m H (vs.map fun kv=>if kv.1=k then (kv.1,v) else kv) (kvs.map fun kv=>if kv.1=k then (kv.1,d) else kv):=by
 induction r with
 | nil=>exact .nil
 | @cons j v1 d1 vs kvs hk r t ih =>
  rw[List.map_cons,List.map_cons]
  by_cases c:j=k
  ·rw[if_pos c,if_pos c];exact .cons hk q ih
  ·rw[if_neg c,if_neg c];exact .cons hk r ih
theorem RKs.put {vs:List (Key×V)}{kvs:List (BT.Ky×BT.D)} (r:RKs K m H vs kvs) (k:Key) {v:V}{d:BT.D} (hk:RD K m H (kV k) (BT.qt k)) (q:RD K m H v d):RKs K m H (putK vs k v) (BT.mh kvs k d):=by
 unfold putK BT.mh
 rw[r.any k]
 split
 ·exact r.repl k q
 ·exact r.snoc k hk q
theorem xh {v:V}{d:BT.D}{k:Key} (r:RD K m H v d) (e:BT.oN d=some k):v=kV k:=by
 cases r<;>cases e<;>rfl
theorem DY {v:V}{d:BT.D}{k:Key} (r:RD K m H v d) (e:BT.oN d=some k):RD K m H (kV k) (BT.qt k):=by
 cases r with
 | int i=>cases e;exact .int i
 | str x h=>cases e;exact .str x h
 | _=>cases e
end
section
variable {X:Cx}{F:FT}{G:Str->Option BT.W}
theorem z8 {p:Pos}:PE X (.Dict [] [] p) (tD X F G .dnew):=by
 intro pins s σ H Q I q
 obtain ⟨m,sl,h,z,h',R,S,ee,post⟩:=q
 simp only[BT.ev] at ee
 cases ee
 have hp:H s.heap.objs.size=none:=I.hok.fresh (Nat.le_refl _)
 refine wpAny_Dict_empty ⟨.ref s.heap.objs.size,_,I.laid (a:=s.heap.objs.size) (o:=.dK []) (t':=s.toks) (fun _ _ q=>Heap.get?_push_of_some _ q) (Nat.le_refl _) (vD s.heap I.big),rfl,?_⟩
 refine post _ _ (m++[s.heap.objs.size]) (gu hp) (R.Dt hp ⟨[],aL,.nil⟩) (.r ?_)
 rw[← R.len];simp
noncomputable def rDg (P:Program) (w:World) (K:PySem.W.Frag):V->List V->Hp->VK->Prop:=fun v vs H Q =>
 ∃ m h n y x z h' v1 v2,RH K m H h/\RW P w K m H v (.r n)/\vs=[v1,v2]/\RW P w K m H v1 y/\RW P w K m H v2 x/\BT.zy n y x h=some (z,h')/\Post P w K m H z h' Q
theorem DZ:MtR X "dict.get" (rDg X.prog X.w X.K):=by
 intro pins s σ H v vs v' us Q I rv rus q
 obtain ⟨m,h,n,y,x,z,h',v1,v2,R,rn,rfl,ry,rx,e,post⟩:=q
 cases rn with
 | @r a _ hn =>
  obtain ⟨u1,u2,rfl,r1,r2⟩:=rus.two
  cases y with
  | r _=>cases e
  | k _=>cases e
  | o _=>cases e
  | c _ _=>cases e
  | p kd =>
   cases x with
   | r _=>cases e
   | k _=>cases e
   | o _=>cases e
   | c _ _=>cases e
   | p dd =>
    rw[BT.Dh] at e
    obtain ⟨kvs,e1,e2⟩:=Option.bind_eq_some_iff.mp e
    obtain ⟨k,e3,e4⟩:=aR e2
    cases e4
    obtain ⟨ws,hH,rk⟩:=R.oZ n a kvs hn e1
    cases ry with
    | p ry =>
     cases rx with
     | p rx =>
      have ek:=xh ry e3
      subst ek
      cases rv
      obtain ⟨zl,hd,vs,rel,dd'⟩:=oJ I.hok hH
      refine call_meetsIn PySem.F.slot_dict_get dd'.typeIs PySem.F.entry_dict_get (PySem.F.args_dict_get_3 _ _ _) (meets_dict_get_default (aU X.prog X.w) a (BO r1) hd u2) ⟨_,dd'.mapOf,?_⟩
      refine ⟨(mY ws k).getD v2,H,I.tok _,(rel.val k).getD r2,?_⟩
      rcases rk.get k with ⟨g1,g2⟩ | ⟨v3,d3,g1,g2,g3⟩
      ·rw[g2];rw[g1] at post;exact post.here R rx
      ·rw[g2];rw[g1] at post;exact post.here R g3
theorem D0 {o k d:BT.E}{oe ke de:PySem.Expr}{apos cpos:Pos} (hb:aD oe=true) (hl:(apos.endLine==cpos.line)=true) (hs1:noStar ke=true) (hs2:noStar de=true) (ho:PE X oe (tD X F G o)) (hk:PE X ke (tD X F G k)) (hd:PE X de (tD X F G d)) :
 PE X (.Call (.Attribute oe "get" apos) [ke,de] [] cpos) (tD X F G (.dgt o k d)):=by
 have ha:PA X [ke,de] (tDs X F G (.cons k (.cons d .nil))):=by
  have h1:PA X [de] (tDs X F G (.cons d .nil)):=PA.weak (eS hd kq (ak hs2)) fun σ H Q q=>by
   obtain ⟨m,s,h,z0,h',R,S,ee,post⟩:=cons_of σ H Q q
   exact ⟨m,s,h,z0,h',R,S,ee,fun v H1 m1 x1 R1 r1=>fS (post v H1 m1 x1 R1 r1)⟩
  exact PA.weak (eS hk h1 (ak hs1)) cons_of
 refine PE.weak (vB PySem.F.plainAttrs_dict PySem.F.slot_dict_get PySem.F.type_dict_get DZ ho ha (gX hb) ?_ hl (ak hs1) (aS (by simp[au,hs2]))) fun σ H Q q=>?_
 ·rw[gC (es:=[ke,de]) (by simp only[au,Bool.and_eq_true];exact ⟨hs1,hs2,trivial⟩)];rfl
 ·obtain ⟨m,s,h,z,h',R,S,ee,post⟩:=q
  simp only[BT.ev] at ee
  obtain ⟨x,h1,e1,e2⟩:=ao ee
  cases x with
  | p _=>cases e2
  | k _=>cases e2
  | o _=>cases e2
  | c _ _=>cases e2
  | r n =>
   rw[BT.Dj] at e2
   split at e2
   case isFalse=>cases e2
   rename_i c
   obtain ⟨y,h2,e3,e4⟩:=ao e2
   rw[BT.zA] at e4
   obtain ⟨x2,h3,e5,e6⟩:=ao e4
   refine ⟨m,s,h,.r n,h1,R,S,e1,fun v H1 m1 x1 R1 r1=>⟨?_,m1,s,h1,[y,x2],h3,R1,S.ext x1,by simp only[BT.evs,e3,e5,BT.bZ,BT.jG,BT.gn],fun vs H2 m2 xx2 R2 r2=>?_⟩⟩
   ·obtain ⟨kvs,g⟩:=Option.isSome_iff_exists.mp c
    cases r1 with
    | @r a _ hn =>
     obtain ⟨ws,hH,_⟩:=R1.oZ n a kvs hn g
     exact .inr (.inr (.inl ⟨rfl,.inl ⟨_,hH⟩⟩))
   ·cases r2 with
    | cons q1 t =>
     cases t with
     | cons q2 t =>
      cases t
      exact ⟨m2,h3,n,y,x2,z,h',_,_,R2,r1.ext xx2,rfl,q1,q2,e6,fun v5 H5 m5 x5 R5 r5=>post v5 H5 m5 ((x1.trans xx2).trans x5) R5 r5⟩
noncomputable def B4:V->V->V->Hp->(Hp->Prop)->Prop:=fun o i v H Q=>∃ p kvs k,o=.ref p/\i=kV k/\H p=some (.dK kvs)/\kvs.length < sizeLine/\Q (upd H p (.dK (putK kvs k v)))
theorem set_dict:Cn X B4:=by
 intro pins s σ H o i v ov iv u Q I ro ri rv q
 obtain ⟨a,kvs,k,rfl,rfl,e,l,q⟩:=q
 cases ro
 obtain ⟨z,hd,vs,rel,dd⟩:=oJ I.hok e
 have hz:vs.length<=sizeLine:=by rw[← rel.length];exact z
 have hl:(putK kvs k v).length<=sizeLine:=by have:=oH kvs k v;omega
 refine wpAny_setItem_pairs (hsz:=hz) (BO ri) dd fun h' dd' hs=>⟨_,?_,q⟩
 have he:∃ q,h'.get? a=some q:=let ⟨q,_,_,hq,_⟩:=dd';⟨q,hq⟩
 exact zd I (by rw[e];exact True.intro) hs he (C1 hl hd (rel.put k rv) dd')
end
section
variable {prog:Program}{w:World}{A:Around}{E:Value->Shared->Prop}{s:Shared}
theorem qF {a:Addr}{vs:List Value}{n:Nat}{Q:Fin->Shared->Prop} (he:s.heap.get? a=some (seqObj "list" vs.toArray n)) (h1:vs.length < 2) (hQ:∀ h' n',(∀ b o,b≠a->s.heap.get? b=some o->h'.get? b=some o)->h'.get? a=some (seqObj "list" vs.toArray n')->Q (.done (.ret .none)) { s with heap:=h' }) :
 wpAny (model prog w) A (Builtin.«list.sort» { pos:=[.ref a] }) Q E s:=by
 rw[list_sort_plain]
 have sl:sizeLine=16777216:=sizeLine_eq
 have hz:vs.toArray.size<=sizeLine:=by rw[List.size_toArray];omega
 refine wpAny_bind (listItems_at he rfl ?_)
 refine wpAny_bind (listUpdate_at he rfl ?_ hz (by simp))
 have g1:=get?_update_seq he (fun _=>#[])
 refine wpAny_bind (seqEpoch_at g1 rfl ?_)
 have hs:vs.toArray.size < 2:=by rw[List.size_toArray];exact h1
 simp only[newTuple,newList]
 refine wpAny_bind (wpAny_newObj_type ?_ (by first | size_fits | exact hz))
 refine wpAny_bind (wpAny_newObj_type ?_ (by size_fits))
 refine wpAny_holding ?_
 rw[if_pos hs,if_pos hs]
 refine wpAny_bind (wpAny_pure ?_)
 refine wpAny_bind (wpAny_pure ?_)
 have g2:((((s.heap.update a (Obj.mapSeq fun _=>#[])).push { cls:=.type "tuple",data:=.seq vs.toArray }).push { cls:=.type "list",data:=.seq #[] })).get? a=some (seqObj "list" #[] (if ((#[]:Array Value).size==vs.toArray.size)=true then n else n+1)) :=
  Heap.get?_push_of_some _ (Heap.get?_push_of_some _ g1)
 refine wpAny_bind (seqEpoch_at g2 rfl ?_)
 refine wpAny_bind (listUpdate_at g2 rfl ?_ (by simp) (by simp[arrOf,SortSt.mk'];omega))
 show wpAny _ _ (if ((if ((#[]:Array Value).size==vs.toArray.size)=true then n else n+1) != if ((#[]:Array Value).size==vs.toArray.size)=true then n else n+1)=true then _ else PySem.ret Value.none) _ _ _
 rw[if_neg (by simp)]
 have eo:Array.map (fun x=>x.snd) (arrOf (SortSt.mk' general' (vs.toArray.zip vs.toArray) #[] 7 none))=vs.toArray:=by
  show Array.map (fun x=>x.snd) (vs.toArray.zip vs.toArray)=vs.toArray
  simp only[List.zip_toArray,List.map_toArray]
  rw[List.map_snd_zip (Nat.le_refl _)]
 obtain ⟨e,he'⟩:=sortedHeap_at (out:=vs.toArray) he
 refine wpAny_pure (hQ _ e (fun b o hb q=>?_) ?_)
 ·rw[eo];exact (sortedHeap_old (vs:=vs) (out:=vs.toArray) hb (Heap.lt_size q)).trans q
 ·rw[eo];exact he'
theorem pq {v:Value}{Q:Value->Shared->Prop} (hc:wpAny (model prog w) A.in1 (collect v) (fun vs s1=>vs.length<=sizeLine/\wpAny (model prog w) A.in1.in1 (Builtin.«list.sort» { pos:=[.ref s1.heap.objs.size] }) (fun fin s2=>∃ u,fin=.done (.ret u)/\Q (.ref s1.heap.objs.size) s2) E
 { s1 with heap:=s1.heap.push (seqObj "list" vs.toArray 0) }) E s):wpAny (model prog w) A (call (.builtin "sorted") [v]) Q E s:=by
 refine Calls.call_function_entry kind_sorted plain_sorted entry_sorted (args_sorted1 v) ?_
 show wpAny _ _ (Builtin.sorted { pos:=[v] }) _ _ s
 unfold Builtin.sorted
 refine wpAny_bind (wpAny_pure ?_)
 refine wpAny_bind (wpAny_mono hc (fun vs s1 h1=>?_) fun _ _ x=>x)
 obtain ⟨hz,h1⟩:=h1
 simp only[newList]
 refine wpAny_bind (wpAny_newObj_type ?_ (by first | size_fits | (rw[List.size_toArray];exact hz) | exact hz))
 refine wpAny_bind (wpAny_holding (wpAny_call_entry slot_list_sort ⟨_,Heap.get?_push_size _ rfl,rfl⟩ entry_list_sort ?_ (args_list_sort _)))
 refine wpAny_mono h1 (fun fin s2 q=>?_) fun _ _ x=>x
 obtain ⟨u,rfl,q⟩:=q
 exact ⟨u,rfl,wpAny_pure ⟨_,rfl,q⟩⟩
end
noncomputable def hpk (H:Hp) (n S:Addr) (as:List Addr) (ps:List (Key×V)):Hp:=fun b=>if b < n then H b else if b=S then some (.lst (as.map V.ref)) else ((as.zip ps).lookup b).map fun p=>HO.tup [kV p.1,p.2]
theorem uw {α:Type}{as:List Addr}{ps:List α}{b:Addr}{p:α} (h:(as.zip ps).lookup b=some p):∃ j:Nat,as[j]?=some b/\ps[j]?=some p:=by
 induction as generalizing ps with
 | nil=>cases h
 | cons a as ih =>
  cases ps with
  | nil=>cases h
  | cons q ps =>
   rw[List.zip_cons_cons,List.lookup_cons] at h
   by_cases e:b=a
   ·subst e
    simp at h
    subst h
    exact ⟨0,rfl,rfl⟩
   ·rw[beq_eq_false_iff_ne.mpr e] at h
    obtain ⟨j,h1,h2⟩:=ih h
    exact ⟨j+1,by simpa using h1,by simpa using h2⟩
theorem xj {α:Type}{as:List Addr}{ps:List α} (hr:as.Pairwise (· < ·)) {j:Nat}{b:Addr}{p:α} (h1:as[j]?=some b) (h2:ps[j]?=some p):(as.zip ps).lookup b=some p:=by
 induction as generalizing ps j with
 | nil=>simp at h1
 | cons a as ih =>
  cases ps with
  | nil=>simp at h2
  | cons q ps =>
   rw[List.zip_cons_cons,List.lookup_cons]
   cases j with
   | zero=>simp at h1 h2;subst h1 h2;simp
   | succ j =>
    simp at h1 h2
    have hb:=List.mem_of_getElem? h1
    rw[List.pairwise_cons] at hr
    have ne:b≠a:=Nat.ne_of_gt (hr.1 b hb)
    rw[beq_eq_false_iff_ne.mpr ne]
    exact ih hr.2 h1 h2
theorem mE {K:PySem.W.Frag}{m:List Addr}{H:Hp}:∀ {as:List Addr}{vs:List (Key×V)}{kvs:List (BT.Ky×BT.D)},as.length=vs.length->RKs K m H vs kvs →
 (∀ (j:Nat) a p,as[j]?=some a->vs[j]?=some p->H a=some (.tup [kV p.1,p.2])/\a∉m)->RDs K m H (as.map V.ref) (BT.d9 kvs)
 | [],_,_,h1,r1,_=>by
  cases r1 with
  | nil=>exact .nil
  | cons _ _ _=>simp at h1
 | a :: as,_,_,h1,r1,k=>by
  cases r1 with
  | nil=>simp at h1
  | @cons key v d vs kvs hk q1 t1 =>
   obtain ⟨k1,k2⟩:=k 0 a _ rfl rfl
   exact .cons (.tup (.inl ⟨.inl k1,k2⟩) (.cons hk (.cons q1 .nil))) (mE (by simpa using h1) t1 fun j a p e1 e2=>k (j+1) a p (by simpa using e1) (by simpa using e2))
section
variable {X:Cx}{F:FT}{G:Str->Option BT.W}
theorem pA {pins:List (Addr×Obj)}{s:Shared}{σ:L2.St}{H:Hp}{o:BT.E}{oe:PySem.Expr}{apos pos:Pos}{RQ:Addr->List (Key×V)->Hp->Prop}{Q':Value->Shared->Prop} (hb:aD oe=true) (hl:(apos.endLine==pos.line)=true) (hO:PE X oe (tD X F G o)) (I:Inv X pins σ H s)
 (q:tD X F G o σ H fun x H1=>∃ a vs,x=.ref a/\H1 a=some (.dK vs)/\RQ a vs H1) (k:∀ a vs H1 s2 r,Inv X pins σ H1 s2->H1 a=some (.dK vs)->RQ a vs H1->s2.heap.IsItemsView r a->s2.heap.objs.size=r+1->Q' (.ref r) s2) :
 wpAny (model X.prog X.w) X.A (eval (.Call (.Attribute oe "items" apos) [] [] pos) X.env) Q' X.xe s:=by
 refine wpAny_Call_method0_late (gX hb) hl (thn (hO pins s σ H _ I q) fun v s1 ⟨x,H1,I1,r1,a,vs,ex,e,q1⟩=>?_)
 subst ex
 cases r1
 obtain ⟨h1,h2⟩:=qo I1 (x:=.ref a) rfl (T:="dict") (.inr (.inr (.inl ⟨rfl,.inl ⟨_,e⟩⟩)))
 obtain ⟨z,hd,us,rel,dd⟩:=oJ I1.hok e
 refine ⟨"dict","dict.items",PySem.F.plainAttrs_dict,PySem.F.slot_dict_items,PySem.F.type_dict_items,h1,h2,Calls.callWith_builtin rfl (PySem.evalArgs_none ?_)⟩
 refine call_meetsIn PySem.F.slot_dict_items h1 PySem.F.entry_dict_items (PySem.F.args_dict_items_1 _) (meets_dict_items (aU X.prog X.w) a hd) ⟨⟨us,dd⟩,?_⟩
 refine k a vs H1 _ _ (I1.kept (t':=s1.toks) fun b o q=>Heap.get?_push_of_some _ q) e q1 ⟨_,Heap.get?_push_size _ rfl,rfl,rfl⟩ (Heap.size_push ..)
theorem D3 {vs:List (Key×V)}{us:List (Key×Value)} (rel:KV vs us):∀ {j:Nat}{p:Key×V},vs[j]?=some p->∃ q,us[j]?=some q/\p.1=q.1/\RelV p.2 q.2:=by
 unfold KV at rel
 induction rel with
 | nil=>intro j p h;simp at h
 | cons h t ih =>
  intro j p e
  cases j with
  | zero=>simp at e;subst e;exact ⟨_,rfl,h⟩
  | succ j =>
   obtain ⟨q,q1,q2⟩:=ih (j:=j) (p:=p) (by simpa using e)
   exact ⟨q,by simpa using q1,q2⟩
theorem mF {pins:List (Addr×Obj)}{s1:Shared}{σ:L2.St}{H1:Hp}{h':Heap}{tk:Nat}{S:Addr}{acc:Array Value}{c:Nat}{as:List Addr}{vs:List (Key×V)}{us:List (Key×Value)}{m:List Addr}{h:BT.HH}{kvs:List (BT.Ky×BT.D)}{lo:Addr} (I1:Inv X pins σ H1 s1) (rel:KV vs us) (R:RH X.K m H1 h) (rk:RKs X.K m H1 vs kvs)
 (hS:s1.heap.objs.size<=S) (hlo:s1.heap.objs.size<=lo) (hSl:S∉as) (hz:as.length<=sizeLine) (k:∀ b o,s1.heap.get? b=some o->h'.get? b=some o) (g1:h'.get? S=some { cls:=.type "list",data:=.seq acc c }) (g2:as.length=us.length) (g3:PySem.W.KdxG (aU X.prog X.w) us lo h' as) (g4:acc.toList=as.map Value.ref) :
 ∃ H2,Inv X pins σ H2 { s1 with heap:=h',toks:=tk }/\H2 S=some (.lst (as.map V.ref))/\Ext m H1 m H2/\Le H1 H2/\H1 S=none/\RDs X.K m H2 (as.map V.ref) (BT.d9 kvs):=by
 have low:∀ c:Addr,c < s1.heap.objs.size->hpk H1 s1.heap.objs.size S as vs c=H1 c:=fun c hc=>if_pos hc
 have nS:¬ (S < s1.heap.objs.size):=Nat.not_lt.mpr hS
 have atS:hpk H1 s1.heap.objs.size S as vs S=some (.lst (as.map V.ref)):=by
  unfold hpk
  rw[if_neg nS,if_pos rfl]
 have atA:∀ (j:Nat) a p,as[j]?=some a->vs[j]?=some p->hpk H1 s1.heap.objs.size S as vs a=some (.tup [kV p.1,p.2]):=fun j a p q1 q2=>by
  have ha:=List.mem_of_getElem? q1
  have ab:=g3.above a ha
  unfold hpk
  rw[if_neg (Nat.not_lt.mpr (Nat.le_trans hlo (Nat.le_of_lt ab))),if_neg (show ¬ a=S from fun e=>hSl (by rw[← e];exact ha)),xj g3.rise q1 q2]
  rfl
 have fresh:∀ c:Addr,s1.heap.objs.size<=c->H1 c=none:=fun c hc=>I1.hok.fresh hc
 have live:Le H1 (hpk H1 s1.heap.objs.size S as vs):=fun c u q=>by rw[low c (I1.hok.lt q)];exact q
 have hok:HOk X.prog X.w (hpk H1 s1.heap.objs.size S as vs) h':=fun c u q=>by
  by_cases lc:c < s1.heap.objs.size
  ·rw[low c lc] at q
   exact (I1.hok c u q).stay (fun b o _ w=>k b o w) (fun b w=>live b _ w) fun b l w=>live b _ w
  ·by_cases ec:c=S
   ·subst ec
    rw[atS] at q
    cases q
    refine ⟨by rw[List.length_map];exact hz,acc.toList,_,?_,by simpa using g1⟩
    rw[g4]
    clear g1 g2 g3 g4 atA atS low live hSl hz
    induction as with
    | nil=>exact .nil
    | cons a as ih=>exact .cons rfl ih
   ·have hx:=q
    unfold hpk at hx
    rw[if_neg lc,if_neg ec] at hx
    cases hL:(as.zip vs).lookup c with
    | none=>rw[hL] at hx;cases hx
    | some pr =>
     rw[hL] at hx
     cases hx
     obtain ⟨j,j1,j2⟩:=uw hL
     obtain ⟨key,kk,x,x1,hk,pa⟩:=g3.pairs j c j1
     have rp:pr.1=kk/\RelV pr.2 x:=by
      obtain ⟨q,q1,q2⟩:=D3 rel j2
      rw[x1] at q1
      cases q1
      exact q2
     obtain ⟨rp1,rp2⟩:=rp
     refine ⟨by show 2<=sizeLine;decide,[key,x],.cons ?_ (.cons rp2 .nil),_,pa,rfl,_,rfl⟩
     rw[rp1]
     rcases bq (show j8 kk key=true from hk) with ⟨i,t,rfl,rfl⟩ | ⟨x,t,rfl,rfl⟩
     ·exact ⟨t,rfl⟩
     ·exact ⟨t,rfl⟩
 have x:Ext m H1 m (hpk H1 s1.heap.objs.size S as vs):=⟨⟨[],by simp,by simp⟩,fun c o q _ _=>live c o q,fun c q=>by
  cases g:H1 c with
  | none=>rfl
  | some o=>rw[live c o g] at q;cases q⟩
 have ni:∀ c:Addr,s1.heap.objs.size<=c->c∉m:=fun c hc=>R.ef (fresh c hc)
 have ln:=rel.length
 refine ⟨_,Inv.zZ (s:=s1) (tk:=tk) (fp:=[]) I1 (fun b hb=>nomatch hb) (fun b o _ e=>k b o e) low hok,atS,x,live,fresh S hS,mE (by omega) (rk.ext x) fun j a p q1 q2=>⟨atA j a p q1 q2,ni a (Nat.le_trans hlo (Nat.le_of_lt (g3.above a (List.mem_of_getElem? q1))))⟩⟩
theorem xm {h:Heap}{a:Addr}{us:List (Key×Value)} (dd:h.DictOf (aU X.prog X.w) a us):∃ ep,h.DictAt (aU X.prog X.w) a us ep:=by
 obtain ⟨o,es,ep,z⟩:=dd
 exact ⟨ep,o,es,z⟩
theorem z9 {x z:BT.W}{h h':BT.HH} (e:BT.Dm x h=some (z,h')):∃ n kvs,x=.r n/\BT.dat h n=some kvs/\kvs.length<=BT.lim/\z=.p (.lst (BT.d9 kvs))/\h'=h:=by
 cases x with
 | p _=>cases e
 | k _=>cases e
 | o _=>cases e
 | c _ _=>cases e
 | r n =>
  rw[BT.Dn] at e
  obtain ⟨kvs,e1,e2⟩:=Option.bind_eq_some_iff.mp e
  split at e2
  case isFalse=>cases e2
  rename_i c
  cases e2
  exact ⟨n,kvs,rfl,e1,c,rfl,rfl⟩
theorem Aa {x z:BT.W}{h h':BT.HH} (e:BT.Dk x h=some (z,h')):∃ n kvs,x=.r n/\BT.dat h n=some kvs/\kvs.length<=1/\z=.p (.lst (BT.d9 kvs))/\h'=h:=by
 cases x with
 | p _=>cases e
 | k _=>cases e
 | o _=>cases e
 | c _ _=>cases e
 | r n =>
  rw[BT.Dl] at e
  obtain ⟨kvs,e1,e2⟩:=Option.bind_eq_some_iff.mp e
  split at e2
  case isFalse=>cases e2
  rename_i c
  cases e2
  exact ⟨n,kvs,rfl,e1,c,rfl,rfl⟩
theorem JW {sc:Scope}{N:List Str} (O:Ok X F G sc N) {o:BT.E}{oe:PySem.Expr}{np p apos pos:Pos} (hg:bB sc "list"=true) (hb:aD oe=true) (hl:(apos.endLine==pos.line)=true) (hO:PE X oe (tD X F G o)) :
 PE X (.Call (.Name "list" np) [.Call (.Attribute oe "items" apos) [] [] pos] [] p) (tD X F G (.dli o)):=by
 intro pins s σ H Q I q
 refine Call_ (fh (u:=.type "list") I (bL O hg) (O.blt _ (by decide)) (by decide +kernel) (PyProof.Rows.callWith_type1 ?_ (ak rfl) rfl))
 rw[ak (show noStar (.Call (.Attribute oe "items" apos) [] [] pos)=true from rfl)]
 show wpAny _ _ (spliced ((false,eval (.Call (.Attribute oe "items" apos) [] [] pos) X.env) :: backTo p (starEach [] X.env))) _ _ s
 obtain ⟨m,sl,h,z,h',R,S,ee,post⟩:=q
 simp only[BT.ev] at ee
 obtain ⟨x,h1,e1,e2⟩:=ao ee
 obtain ⟨n,kvs,rfl,e3,e4,rfl,rfl⟩:=z9 e2
 refine Calls.spliced_cons (pA hb hl hO I (RQ:=fun a vs H1=>∃ m1,RH X.K m1 H1 h'/\RKs X.K m1 H1 vs kvs/\Post X.prog X.w X.K m1 H1 (.p (.lst (BT.d9 kvs))) h' Q) ⟨m,sl,h,.r n,h',R,S,e1,fun v H1 m1 x1 R1 r1=>?_⟩ fun a vs H1 s2 r I2 e q1 iv hsz=>Calls.spliced_nil ?_)
 ·cases r1 with
  | @r a _ hn =>
   obtain ⟨vs,hH,rk⟩:=R1.oZ n a kvs hn e3
   exact ⟨a,vs,rfl,hH,m1,R1,rk,fun v5 H5 m5 x5 R5 r5=>post v5 H5 m5 (x1.trans x5) R5 r5⟩
 ·obtain ⟨m1,R1,rk,post⟩:=q1
  obtain ⟨zz,hd,us,rel,dd⟩:=oJ I2.hok e
  obtain ⟨ep,da⟩:=xm dd
  have l1:=rel.length
  refine PySem.W.kdx_call (I2.ok.hd O.calm) iv da (by omega) fun h2 tk acc c as k g1 g2 g3 g4=>?_
  obtain ⟨H2,I3,atS,x,le,fr,rr⟩:=mF (tk:=tk) I2 rel R1 rk (Nat.le_refl _) (Nat.le_refl _) (fun hm=>Nat.lt_irrefl _ (g3.above _ hm)) (by omega) k g1 g2 g3 g4
  have ni:s2.heap.objs.size∉m1:=R1.ef fr
  exact ⟨.ref s2.heap.objs.size,H2,I3,rfl,post _ _ m1 x (R1.ext x le) (.p (.lst (.inl ⟨.inl atS,ni⟩) rr))⟩
theorem D4 {sc:Scope}{N:List Str} (O:Ok X F G sc N) {o:BT.E}{oe:PySem.Expr}{np p apos pos:Pos} (hg:bB sc "sorted"=true) (hb:aD oe=true) (hl:(apos.endLine==pos.line)=true) (hO:PE X oe (tD X F G o)) :
 PE X (.Call (.Name "sorted" np) [.Call (.Attribute oe "items" apos) [] [] pos] [] p) (tD X F G (.dsi o)):=by
 intro pins s σ H Q I q
 refine Call_ (fh (u:=.builtin "sorted") I (bL O hg) (O.blt _ (by decide)) (by decide +kernel) (PyProof.Rows.callWith_builtin1 ?_ (ak rfl) rfl))
 rw[ak (show noStar (.Call (.Attribute oe "items" apos) [] [] pos)=true from rfl)]
 show wpAny _ _ (spliced ((false,eval (.Call (.Attribute oe "items" apos) [] [] pos) X.env) :: backTo p (starEach [] X.env))) _ _ s
 obtain ⟨m,sl,h,z,h',R,S,ee,post⟩:=q
 simp only[BT.ev] at ee
 obtain ⟨x,h1,e1,e2⟩:=ao ee
 obtain ⟨n,kvs,rfl,e3,e4,rfl,rfl⟩:=Aa e2
 refine Calls.spliced_cons (pA hb hl hO I (RQ:=fun a vs H1=>∃ m1,RH X.K m1 H1 h'/\RKs X.K m1 H1 vs kvs/\Post X.prog X.w X.K m1 H1 (.p (.lst (BT.d9 kvs))) h' Q) ⟨m,sl,h,.r n,h',R,S,e1,fun v H1 m1 x1 R1 r1=>?_⟩ fun a vs H1 s2 r I2 e q1 iv hsz=>Calls.spliced_nil ?_)
 ·cases r1 with
  | @r a _ hn =>
   obtain ⟨vs,hH,rk⟩:=R1.oZ n a kvs hn e3
   exact ⟨a,vs,rfl,hH,m1,R1,rk,fun v5 H5 m5 x5 R5 r5=>post v5 H5 m5 (x1.trans x5) R5 r5⟩
 ·obtain ⟨m1,R1,rk,post⟩:=q1
  obtain ⟨zz,hd,us,rel,dd⟩:=oJ I2.hok e
  obtain ⟨ep,da⟩:=xm dd
  have l1:=rel.length
  have l2:=rk.length
  refine pq (PySem.W.kdx_collect (I2.ok.hd O.calm) iv da (by omega) fun h2 tk as k g2 g3=>⟨by rw[List.length_map];omega,?_⟩)
  have big:s2.heap.objs.size<=h2.objs.size:=by
   obtain ⟨ov,hv,_⟩:=iv
   rw[hsz]
   exact Nat.succ_le_of_lt (Heap.lt_size (k _ _ hv))
  have lt:∀ b∈as,b < h2.objs.size:=fun b hb=>by
   obtain ⟨j,hj⟩:=List.getElem?_of_mem hb
   obtain ⟨_,_,_,_,_,pa⟩:=g3.pairs j b hj
   exact Heap.lt_size pa
  refine qF (Heap.get?_push_size _ rfl) (by rw[List.length_map];omega) fun h3 n' k3 g1=>⟨_,rfl,?_⟩
  have pre:∀ b o,h2.get? b=some o->h3.get? b=some o:=fun b o q=>k3 b o (Nat.ne_of_lt (Heap.lt_size q)) (Heap.get?_push_of_some _ q)
  obtain ⟨H2,I3,atS,x,le,fr,rr⟩:=mF (tk:=tk) (acc:=(as.map Value.ref).toArray) (S:=h2.objs.size) (lo:=s2.heap.objs.size) (as:=as) (h':=h3) I2 rel R1 rk big (Nat.le_refl _) (fun hm=>Nat.lt_irrefl _ (lt _ hm)) (by omega) (fun b o q=>pre b o (k b o q)) g1 g2 ⟨g3.rise,g3.above,fun j a hj=>by
   obtain ⟨key,kk,x,q1,q2,q3⟩:=g3.pairs j a hj
   exact ⟨key,kk,x,q1,q2,pre _ _ q3⟩⟩ rfl
  exact ⟨.ref h2.objs.size,H2,I3,rfl,post _ _ m1 x (R1.ext x le) (.p (.lst (.inl ⟨.inl atS,R1.ef fr⟩) rr))⟩
end
end BS
end
section
namespace BS
open PySem PySem.Spec PyProof.Rows L2
theorem kO:∀ (ns:List Int),(List.range ns.length).map (fun i=>ns.getD i 0)=ns:=by
 intro ns
 refine List.ext_getElem (by simp) fun i h1 h2=>?_
 simp only[List.getElem_map,List.getElem_range]
 rw[List.getD_eq_getElem?_getD,List.getElem?_eq_getElem h2];rfl
theorem Ab (ns:List Int):firstMet (fun i=>ns.getD i 0) ns.length=BT.ded ns:=by
 unfold firstMet
 rw[kO];rfl
section
variable {F:FT}{G:Str->Option BT.W}
theorem xo {X:Cx}{sc:Scope}{N:List Str} (O:Ok X F G sc N) {ex:PySem.Expr}{sa:BT.Es}{np zp p pos:Pos} (hg:bB sc "len"=true) (hg2:bB sc "set"=true) (hs:noStar ex=true) (hA:PA X [ex] (tDs X F G sa)) :
 PE X (.Call (.Name "len" np) [.Call (.Name "set" zp) [ex] [] pos] [] p) (tD X F G (.bi .nset false sa)):=by
 intro pins s σ H Q I q
 have q:=iZ q
 refine Call_ (fh (u:=.builtin "len") I (bL O hg) (O.blt _ (by decide)) (by decide +kernel) (PyProof.Rows.callWith_builtin1 ?_ (ak rfl) rfl))
 rw[ak (show noStar (.Call (.Name "set" zp) [ex] [] pos)=true from rfl)]
 show wpAny _ _ (spliced ((false,eval (.Call (.Name "set" zp) [ex] [] pos) X.env) :: backTo p (starEach [] X.env))) _ _ s
 refine Calls.spliced_cons (Call_ (fh (u:=.type "set") I (bL O hg2) (O.blt _ (by decide)) (by decide +kernel) (PyProof.Rows.callWith_type1 (thn (hA pos pins s σ H _ I q) fun us s1 ⟨vs,H1,I1,r1,q1⟩=>?_) (ak hs) rfl)))
 obtain ⟨m,h,ws,z,h',R,rws,e,post⟩:=q1
 obtain ⟨ds,d,e1,e2,⟨_,rfl,rfl⟩ | ⟨_,q,_⟩⟩:=gA e
 rotate_left
 ·cases q
 have rr:=fR R rws e1
 have hd:∃ xs,ds=[.lst xs]:=by
  match ds,e2 with
  | [.lst xs],_=>exact ⟨xs,rfl⟩
 obtain ⟨xs,rfl⟩:=hd
 rw[BT.oQ] at e2
 obtain ⟨ns,g1,g2⟩:=Option.bind_eq_some_iff.mp e2
 by_cases c:ns.length < 1000
 rotate_left
 ·rw[if_neg c] at g2;cases g2
 rw[if_pos c] at g2
 cases g2
 obtain ⟨v,rfl,r⟩:=rr.one
 obtain ⟨a,vt,rfl,ha,ra⟩:=r.lst
 rw[kL g1] at ra
 have ev:=gB ra
 subst ev
 obtain ⟨u,rfl,eu⟩:=vals1 r1
 cases eu
 obtain ⟨its,rv,pl,hz⟩:=I1.list ha.sq
 have hi:=intsAre_of rv
 have ln:=rv.length
 rw[List.length_map] at ln
 have sz:its.toArray.size=ns.length:=by simp;omega
 refine call_set_list (items:=its.toArray) (ns:=ns) (I1.ok.hd O.calm) pl.isList (by simpa using hi) (by rw[sz];unfold scanBound;omega) fun h2 tk hS hk=>?_
 rw[sz,Ab] at hS
 refine Calls.spliced_nil ?_
 obtain ⟨o,es,ep,t,ho,hex,hd,_,_,hb,hf,hn⟩:=hS
 refine call_len_set (s:={ s1 with heap:=h2,toks:=tk }) ho hex hd hf (by unfold scanBound at hb;omega) ?_
 rw[hn]
 exact ⟨.int _,H1,(I1.kept (h':=h2) (t':=tk+1+1) fun b u q=>hk b u (Heap.lt_size q) q),⟨_,rfl⟩,post.here R (.int _)⟩
end
end BS
end
section
namespace BS
open PySem PySem.Spec PyProof.Rows L2
noncomputable def jR (sc:Scope) (x:Str):Bool:=match sc.names.lookup x with
 | some .local=>true
 | some .cell=>true
 | _=>false
inductive CT (sc:Scope) (N:List Str):List (Nat×Str)->PySem.Expr->Prop where
 | one {i:Nat}{x:Str}{p:Pos} (h1:N[i]?=some x) (h2:jR sc x=true):CT sc N [(i,x)] (.Name x p)
 | two {i j:Nat}{x y:Str}{p p1 p2:Pos}{k:Nat} (h1:N[i]?=some x) (h2:jR sc x=true) (h3:N[j]?=some y) (h4:jR sc y=true):CT sc N [(i,x),(j,y)] (.Tuple [.Name x p1,.Name y p2] k p)
section
variable {F:FT}{G:Str->Option BT.W}
theorem RS.set {P:Program}{w:World}{K:PySem.W.Frag}{m:List Addr}{H:Hp}{σ:L2.St}{s:BT.Sl}{i:Nat}{v:V}{z:BT.W} (S:RS P w K m H σ s) (r:RW P w K m H v z):RS P w K m H (σ.set i (some v)) (s.set i (some z)):=by
 refine ⟨by simp[S.len],fun j y e=>?_⟩
 by_cases c:i=j
 ·subst c
  have hl:i < s.length:=by
   rcases Nat.lt_or_ge i s.length with q | q
   ·exact q
   ·rw[List.getElem?_eq_none (by simpa using q)] at e;cases e
  rw[List.getElem?_set_self hl] at e
  cases e
  exact ⟨v,by rw[List.getElem?_set_self (by rw[S.len];exact hl)],r⟩
 ·rw[List.getElem?_set_ne c] at e
  obtain ⟨u,h1,h2⟩:=S.get j y e
  exact ⟨u,by rw[List.getElem?_set_ne c];exact h1,h2⟩
theorem iH {X:Cx}{sc:Scope}{N:List Str} (O:Ok X F G sc N) {x:Str} (h:jR sc x=true):L2.Loc X.env.scope x:=by
 rw[O.hsc]
 unfold jR at h
 unfold L2.Loc
 cases e:sc.names.lookup x with
 | none=>rw[e] at h;cases h
 | some k=>rw[e] at h;cases k<;>first | (exact .inl rfl) | (exact .inr rfl) | cases h
theorem rZ {e:PySem.Expr}{env:Env} (h:iE e=true):∀ x,foldedSetIterable e env x=pure x:=by
 intro x
 cases e<;>first | rfl | cases h
noncomputable def GOk (X:Cx) (tg:List (Nat×Str)) (g:TG):Prop:=∀ (m:List Addr) (H:Hp) (σ:L2.St) (s:BT.Sl) (x:V) (d:BT.D) (ds:List BT.D) (Q:L2.St->Hp->Prop),RS X.prog X.w X.K m H σ s->RD X.K m H x d->BT.target tg.length d=some ds →
 (∀ σ',RS X.prog X.w X.K m H σ' (BT.sets tg ds s)->Q σ' H)->g x σ H Q
theorem sCT {X:Cx}{sc:Scope}{N:List Str} (O:Ok X F G sc N) {tg:List (Nat×Str)}{te:PySem.Expr} (h:CT sc N tg te) (hf:∀ q∈tg,X.fn q.2=true\/X.env.scope.names.lookup q.2=some .local):∃ g,PG X te g/\GOk X tg g:=by
 cases h with
 | @one i x p h1 h2 =>
  refine ⟨_,mT (i:=i) O.nd (by rw[O.hN];exact h1) (iH O h2) (hf (i,x) (by simp)),?_⟩
  intro m H σ s v d ds Q S r e q
  simp only[List.length_cons,List.length_nil,Nat.zero_add,BT.gj] at e
  cases e
  exact q _ (S.set (.p r))
 | @two i j x y p p1 p2 k h1 h2 h3 h4 =>
  refine ⟨_,Cq (n:=2) O.calm (oj (mT (i:=i) O.nd (by rw[O.hN];exact h1) (iH O h2) (hf (i,x) (by simp))) (oj (mT (i:=j) O.nd (by rw[O.hN];exact h3) (iH O h4) (hf (j,y) (by simp))) yE)),?_⟩
  intro m H σ s v d ds Q S r e q
  have e:BT.unpack 2 d=some ds:=e
  cases r with
  | @tup a vs dd h r =>
   rw[BT.vH] at e
   split at e
   ·rename_i c
    cases e
    have hl:=r.length
    refine ⟨a,vs,rfl,h.elim (fun q=>.inl q.1) fun ⟨o,its,n,q,_⟩=>.inr ⟨o,its,n,q⟩,by rw[hl];exact c,?_⟩
    cases r with
    | nil=>simp at c
    | @cons v1 d1 vs' ds' ra t =>
     cases t with
     | nil=>simp at c
     | @cons v2 d2 vs2 ds2 rb t2 =>
      cases t2 with
      | cons _ _=>simp at c
      | nil =>
       refine ⟨v1,[v2],rfl,?_⟩
       show BE (oi j) Co [v2] (σ.set i (some v1)) H Q
       refine ⟨v2,[],rfl,?_⟩
       show Co [] ((σ.set i (some v1)).set j (some v2)) H Q
       refine ⟨rfl,q _ ?_⟩
       show RS X.prog X.w X.K m H ((σ.set i (some v1)).set j (some v2)) ((s.set i (some (.p d1))).set j (some (.p d2)))
       exact RS.set (RS.set S (.p ra)) (.p rb)
   ·cases e
  | _=>cases e
end
end BS
end
section
namespace BC
open PySem
section
variable {prog:Program}{w:World}{A:Around}{s:Shared}
theorem ux {elt target iter:PySem.Expr}{ifs:List PySem.Expr}{scope:Scope}{pos:Pos}{it acc:Value}{env:Env}{R:Result->Shared->Prop} (I:Nat->Shared->Prop)
 (turn:∀ n s,I n s->wpAny (model prog w) A (pyNext it) (fun r s₁=>match r with
  | none=>R (.ok .next) s₁
  | some v=>wpAny (model prog w) A (letOwnedTupleGo target it v) (fun _ s₀=>wpAny (model prog w) A (assign target env v) (fun _ s₂ =>
   wpAny (model prog w) A (forIn ifs true fun c r=>if r=true then do let ok ← isTrue c env (eval c env);pure (ForInStep.yield ok) else pure (ForInStep.yield r)) (fun ok s₃ =>
    if ok=true then wpAny (model prog w) A (eval elt env) (fun x s₄ =>
     wpAny (model prog w) A (call (.builtin "list.append") [acc,x]) (fun _ s₅=>∃ m,m < n/\I m s₅) (fun _ _=>False) s₄) (fun _ _=>False) s₃
    else ∃ m,m < n/\I m s₃) (fun _ _=>False) s₂) (fun _ _=>False) s₀) (fun _ _=>False) s₁) (fun _ _=>False) s)
 (n:Nat) (h:I n s):codeAny (model prog w) A (.compLoop (.ListComp elt [⟨target,iter,ifs,0⟩] scope pos) 0 it acc env) R s:=by
 refine codeAny_loop rfl I (fun n s hI=>?_) n h
 show wpAny _ A ((compTurn (.ListComp elt [⟨target,iter,ifs,0⟩] scope pos) 0 it acc env).onRaise (fun x=>do noteFrame x env;theTreesLotGoes x)) _ _ s
 refine wpAny_noted ?_
 rw[compTurn_list]
 refine wpAny_bind (wpAny_standAt (wpAny_bind (wpAny_mono (turn n s hI) (fun r s₁ h₁=>?_) fun _ _ h'=>h'.elim)))
 cases r with
 | none=>exact wpAny_pure h₁
 | some v =>
  refine wpAny_bind (wpAny_mono h₁ (fun _ s₀ h₀'=>?_) fun _ _ h'=>h'.elim)
  refine wpAny_bind (wpAny_mono h₀' (fun _ s₂ h₂=>wpAny_bind (wpAny_mono h₂ (fun ok s₃ h₃=>?_) fun _ _ h'=>h'.elim)) fun _ _ h'=>h'.elim)
  cases ok with
  | false=>exact wpAny_pure ⟨rfl,h₃⟩
  | true =>
   exact wpAny_bind (wpAny_bind (wpAny_mono h₃ (fun x s₄ h₄=>wpAny_bind (wpAny_mono h₄ (fun _ s₅ h₅=>wpAny_pure (wpAny_pure ⟨rfl,h₅⟩)) fun _ _ h'=>h'.elim)) fun _ _ h'=>h'.elim))
end
noncomputable def cT (cells:List (Str×Addr)):List (Str×NameKind)->List (Str×Addr)->List (Str×Addr)
 | [],acc=>acc
 | (n,k) :: r,acc=>if k==.free then (match cells.lookup n with | some c=>cT cells r ((n,c) :: acc) | none=>cT cells r acc) else cT cells r acc
noncomputable def qG (cells:List (Str×Addr)) (names:List (Str×NameKind)):Prop:=∀ x∈names,x.2=.free->∃ c,cells.lookup x.1=some c
theorem kP {env:Env}:∀ (names:List (Str×NameKind)) (acc:List (Str×Addr)),qG env.cells names →
 (forIn names acc fun x (r:List (Str×Addr))=>(if x.2==.free then do let c ← cellOf env x.1;pure (ForInStep.yield ((x.1,c) :: r)) else pure (ForInStep.yield r):Sem (ForInStep (List (Str×Addr)))))=pure (cT env.cells names acc)
 | [],acc,_=>rfl
 | (n,k) :: r,acc,h=>by
  have ih:=fun acc=>kP (env:=env) r acc fun x hx=>h x (List.mem_cons_of_mem _ hx)
  rw[List.forIn_cons]
  by_cases c:k=.free
  ·subst c
   obtain ⟨a,e⟩:=h (n,.free) List.mem_cons_self rfl
   have e:env.cells.lookup n=some a:=e
   simp only[cT,e]
   show (cellOf env n >>= _) >>= _=_
   unfold cellOf
   rw[e]
   exact ih _
  ·have cb:(k==NameKind.free)=false:=by simpa using c
   simp only[cT,cb]
   exact ih _
theorem jx {α β:Type}{m m':Sem α}{f:α->Sem β} (h:m=m'):(m >>= f)=(m' >>= f):=by rw[h]
theorem kQ {scope:Scope}{env:Env} (h:qG env.cells scope.names):closureFor scope env=pure (cT env.cells scope.names []):=by
 have:=kP (env:=env) scope.names [] h
 unfold closureFor
 exact (jx this).trans rfl
theorem kR {cells:List (Str×Addr)}:∀ {names:List (Str×NameKind)}{acc:List (Str×Addr)},(∀ x c,acc.lookup x=some c->cells.lookup x=some c)->∀ x c,(cT cells names acc).lookup x=some c->cells.lookup x=some c
 | [],acc,h,x,c,e=>h x c e
 | (n,k) :: r,acc,h,x,c,e=>by
  rw[cT] at e
  split at e
  ·split at e
   ·rename_i a ea
    refine kR (fun y b q=>?_) x c e
    rw[List.lookup_cons] at q
    split at q
    ·rename_i hy
     have:y=n:=by simpa using hy
     subst this
     cases q;exact ea
    ·exact h y b q
   ·exact kR h x c e
  ·exact kR h x c e
theorem jZ {cells:List (Str×Addr)}{x:Str}:∀ {names:List (Str×NameKind)}{acc:List (Str×Addr)},(∃ c,acc.lookup x=some c)->∃ c,(cT cells names acc).lookup x=some c
 | [],acc,h=>h
 | (n,k) :: r,acc,h=>by
  rw[cT]
  split
  ·split
   ·refine jZ ?_
    rw[List.lookup_cons]
    split
    ·exact ⟨_,rfl⟩
    ·exact h
   ·exact jZ h
  ·exact jZ h
theorem kT {cells:List (Str×Addr)}{x:Str}:∀ {names:List (Str×NameKind)}{acc:List (Str×Addr)},(x,NameKind.free)∈names->(∃ c,cells.lookup x=some c)->∃ c,(cT cells names acc).lookup x=some c
 | [],acc,h,_=>nomatch h
 | (n,k) :: r,acc,h,q=>by
  rw[cT]
  rcases List.mem_cons.mp h with e | e
  ·cases e
   obtain ⟨c,ec⟩:=q
   rw[if_pos (by rfl),ec]
   refine jZ ?_
   exact ⟨c,by simp⟩
  ·split
   ·split
    ·exact kT e q
    ·exact kT e q
   ·exact kT e q
end BC
end
section
namespace BS
open PySem PySem.Spec PyProof.Rows L2
noncomputable def kU (F:FT) (G:Str->Option BT.W) (sc:Scope) (N:List Str) (cond:BT.Es) (ifs:List PySem.Expr):Prop :=
 (cond=.nil/\ifs=[])\/∃ c c',cond=.cons c .nil/\ifs=[c']/\∀ X',Ok X' F G sc N->PT X' c' (tDT X' F G c)
structure pB (sc:Scope) (N tg:List Str) (fv:List (Nat×Str)) (scope:Scope):Prop where
 k1:scope.kind=.function
 k2:sc.kind=.function
 cell:∀ y∈scope.names,y.2≠.cell
 loc:∀ y∈scope.names,y.2=.local->scope.names.lookup y.1=some .local
 free:∀ y∈scope.names,y.2=.free->sc.names.lookup y.1=some .cell
 fvs:∀ q∈fv,N[q.1]?=some q.2/\(q.2,NameKind.free)∈scope.names/\sc.names.lookup q.2=some .cell/\(bI scope sc).names.lookup q.2=some .cell
 nd:(tg++fv.map (·.2)).Nodup
theorem mG:∀ {l:List Str},iF l=true->l.Nodup
 | [],_=>List.nodup_nil
 | x :: r,h=>by
  simp only[iF,Bool.and_eq_true,Bool.not_eq_true'] at h
  refine List.nodup_cons.mpr ⟨fun z=>?_,mG h.2⟩
  have:=h.1
  simp[z] at this
theorem GX {sc:Scope}{N tg:List Str}{fv:List (Nat×Str)}{scope:Scope} (h:iG sc N tg fv scope=true):pB sc N tg fv scope:=by
 simp only[iG,Bool.and_eq_true] at h
 obtain ⟨⟨⟨⟨⟨⟨h1,h2⟩,h3⟩,h4⟩,h5⟩,h6⟩,h7⟩:=h
 rw[List.all_eq_true] at h3 h4 h5 h6
 refine ⟨eq_of_beq h1,eq_of_beq h2,fun y hy e=>?_,fun y hy e=>?_,fun y hy e=>?_,fun q hq=>?_,mG h7⟩
 ·have:=h3 y hy
  rw[e] at this;simp at this
 ·have:=h4 y hy
  rw[e] at this;simpa using this
 ·have:=h5 y hy
  rw[e] at this;simpa using this
 ·have:=h6 q hq
  simp only[Bool.and_eq_true] at this
  obtain ⟨⟨⟨a,b⟩,c⟩,d⟩:=this
  exact ⟨by simpa using a,by simpa using b,by simpa using c,by simpa using d⟩
theorem iI {sc:Scope}{x:Str}{k:NameKind} (hk:k=.cell\/k=.free):∀ {names:List (Str×NameKind)},(∀ y∈names,y.2≠.cell) →
 (names.map fun (n,k)=>if (k==NameKind.free&&sc.kind==.function&&sc.names.lookup n==some .cell) then (n,NameKind.cell) else (n,k)).lookup x=some k->(x,NameKind.free)∈names
 | [],_,h=>by simp at h
 | (n,q) :: r,hc,h=>by
  have ih:=iI (sc:=sc) (x:=x) hk (names:=r) fun y hy=>hc y (List.mem_cons_of_mem _ hy)
  replace h:List.lookup x ((if (q==NameKind.free&&sc.kind==.function&&sc.names.lookup n==some .cell)=true then (n,NameKind.cell) else (n,q)) :: (r.map fun (n,k)=>if (k==NameKind.free&&sc.kind==.function&&sc.names.lookup n==some .cell) then (n,NameKind.cell) else (n,k)))=some k:=h
  have go:∀ (q':NameKind),(q'=q\/(q'=.cell/\q=.free))->List.lookup x ((n,q') :: (r.map fun (n,k)=>if (k==NameKind.free&&sc.kind==.function&&sc.names.lookup n==some .cell) then (n,NameKind.cell) else (n,k)))=some k->(x,NameKind.free)∈(n,q) :: r:=by
   intro q' hq gl
   rw[List.lookup_cons] at gl
   split at gl
   ·rename_i hx
    have hx:x=n:=by simpa using hx
    subst hx
    have e:q'=k:=Option.some.inj gl
    have hqf:q=.free:=by
     rcases hq with rfl | ⟨_,e2⟩
     ·rcases hk with z | z
      ·exact absurd (e.trans z) (hc (x,q') List.mem_cons_self)
      ·exact e.trans z
     ·exact e2
    rw[hqf];exact List.mem_cons_self
   ·exact List.mem_cons_of_mem _ (ih gl)
  by_cases c:(q==NameKind.free&&sc.kind==.function&&sc.names.lookup n==some .cell)=true
  ·rw[if_pos c] at h
   refine go .cell (.inr ⟨rfl,?_⟩) h
   simp only[Bool.and_eq_true] at c
   exact eq_of_beq c.1.1
  ·rw[if_neg c] at h
   exact go q (.inl rfl) h
noncomputable def blk (X:Cx) (N':List Str) (s2:Shared) (H1:Hp) (scope:Scope) (C:Addr) (fp:List Addr):Cx :=
 { X with N:=N',s₀:=s2,H₀:=H1,env:=compEnvC scope (BC.cT X.env.cells scope.names []) C X.env,outer:=X.stack,stack:=X.stack,ex:=fp,fn:=fun _=>false,pn:=[],xe:=fun _ _=>False }
section
variable {X:Cx}{F:FT}{G:Str->Option BT.W}{sc:Scope}{N:List Str}{pins:List (Addr×Obj)}{σ:L2.St}{H1:Hp}{s2:Shared}
theorem jI {scope:Scope}{x:Str}{c:Addr} (e:(BC.cT X.env.cells scope.names []).lookup x=some c):X.env.cells.lookup x=some c :=
 BC.kR (fun _ _ z=>by simp at z) x c e
theorem pC (hsc:X.env.scope=sc) {scope:Scope}{C:Addr} (x:Str):(compEnvC scope (BC.cT X.env.cells scope.names []) C X.env).kindOf x=(bI scope sc).names.lookup x:=by
 subst hsc;rfl
theorem r8 (I1:Inv X pins σ H1 s2) (hsc:X.env.scope=sc) {scope:Scope}{tg:List Str}{fv:List (Nat×Str)} (cf:pB sc N tg fv scope) {x:Str} (hx:(x,NameKind.free)∈scope.names):∃ c,(BC.cT X.env.cells scope.names []).lookup x=some c:=by
 refine BC.kT hx (I1.ok.has x (.inl ?_))
 have:=cf.free _ hx rfl
 rw[← hsc] at this
 exact this
theorem D5 (I1:Inv X pins σ H1 s2) (hsc:X.env.scope=sc) {scope:Scope}{tg:List Str}{fv:List (Nat×Str)} (cf:pB sc N tg fv scope) {N':List Str}{C:Addr}{fp:List Addr} (hC:C=s2.heap.objs.size+1)
 (hf:∀ b∈fp,lD X pins H1 b) (hlt:∀ b∈fp,b < s2.heap.objs.size):(blk X N' s2 H1 scope C fp).Ok where
 mod:=I1.ok.mod
 kind:=cf.k1
 glob:=I1.ok.glob
 blt:=I1.ok.blt
 above:=by show s2.heap.objs.size<=C;rw[hC];exact Nat.le_succ _
 inj:=fun x y c a b=>I1.ok.inj x y c (jI a) (jI b)
 has:=fun x hx=>by
  refine r8 I1 hsc cf ?_
  have hx':(bI scope sc).names.lookup x=some .cell\/(bI scope sc).names.lookup x=some .free:=by
   rw[← pC hsc (C:=C)];exact hx
  rcases hx' with e | e
  ·exact iI (.inl rfl) cf.cell e
  ·exact iI (.inr rfl) cf.cell e
 cab:=fun x c z=>by cases z
 hd:=I1.ok.hd
 frames:=I1.ok.frames
 stk:=.inl rfl
 exf:=fun b hb=>⟨fun z=>by
  have l:=hlt b hb
  have z:b=C:=z
  rw[z,hC] at l
  exact absurd l (Nat.not_lt.mpr (Nat.le_succ _)),fun x c e=>(hf b hb).2.2.2.2.1 x c (jI e)⟩
 bs:=I1.bs
 bsz:=Nat.le_trans I1.ok.bsz I1.sz
 noex:=fun b o e hb=>by
  have q:=(I1.ok.bs b o e).1
  rcases (hf b hb).2.2.2.1 with z | z
  ·exact I1.ok.noex b o e z
  ·exact absurd (Heap.lt_size q) (Nat.not_lt.mpr z)
 exfs:=fun b hb z=>by
  rcases List.mem_cons.mp (I1.kg b z) with e | e
  ·exact (hf b hb).2.1 e
  ·exact (hf b hb).2.2.1 e
 ig:=I1.stack
 frf:=I1.mS
end
noncomputable def lobj (us:List Value) (n:Nat):Obj:={ cls:=.type "list",data:=.seq us.toArray n }
section
variable {X:Cx}{F:FT}{G:Str->Option BT.W}{sc:Scope}{N:List Str}{pins:List (Addr×Obj)}{σ:L2.St}{H1:Hp}{s2:Shared}
noncomputable def iJ (n:Nat) (σ:L2.St) (fv:List (Nat×Str)):L2.St:=List.replicate n none++fv.map fun q=>(σ[q.1]?).getD none
theorem Ac (I1:Inv X pins σ H1 s2) (hsc:X.env.scope=sc) (hN:X.N=N) {scope:Scope}{tg:List Str}{fv:List (Nat×Str)} (cf:pB sc N tg fv scope) {C:Addr}{fp:List Addr} (hC:C=s2.heap.objs.size+1)
 (hf:∀ b∈fp,lD X pins H1 b) (hlt:∀ b∈fp,b < s2.heap.objs.size) {h1:Heap}{tk:Nat}{m:Str->Option Value} (old:∀ b o,s2.heap.get? b=some o->h1.get? b=some o) (hns:h1.Ns C m) (hD:h1.get? s2.heap.objs.size=some (lobj [] 0)) :
 Inv (blk X (tg++fv.map (·.2)) s2 H1 scope C fp) [(s2.heap.objs.size,lobj [] 0)] (iJ tg.length σ fv) H1 { s2 with heap:=h1,toks:=tk } where
 ok:=D5 I1 hsc cf hC hf hlt
 os:=rfl
 bare:=I1.bare
 base:=Un.kept old
 loc:=by
  refine ⟨m,hns,fun i x v e1 e2 e3=>?_⟩
  have e1:(tg++fv.map (·.2))[i]?=some x:=e1
  unfold iJ at e2
  by_cases c:i < tg.length
  ·rw[List.getElem?_append_left (by simpa using c),List.getElem?_replicate,if_pos c] at e2
   cases e2
  ·rw[List.getElem?_append_right (by simpa using c)] at e2
   rw[List.getElem?_append_right (by simpa using c)] at e1
   simp only[List.length_replicate,List.getElem?_map] at e1 e2
   cases g:fv[i - tg.length]? with
   | none=>rw[g] at e1;cases e1
   | some q =>
    rw[g] at e1 e2
    simp only[Option.map_some,Option.some.injEq] at e1 e2
    subst e1
    obtain ⟨f1,f2,f3,f4⟩:=cf.fvs q (List.mem_of_getElem? g)
    have e2':σ[q.1]?=some (some v):=by
     cases gg:σ[q.1]? with
     | none=>rw[gg] at e2;cases e2
     | some o=>rw[gg] at e2;simp only[Option.getD_some] at e2;rw[e2]
    obtain ⟨m0,hn0,hl0⟩:=I1.loc
    obtain ⟨u,ru,lk⟩:=hl0 q.1 q.2 v (by rw[hN];exact f1) e2' (by rw[hsc];exact .inr (.inl f3))
    refine ⟨u,ru,?_⟩
    have kc:X.env.kindOf q.2=some .cell:=by
     show X.env.scope.names.lookup q.2=_
     rw[hsc];exact f3
    rcases lk with ⟨k,_⟩ | ⟨k,c,ec,o,ho,hd⟩
    ·rw[kc] at k;cases k
    ·obtain ⟨c',ec'⟩:=r8 I1 hsc cf f2
     have:=jI ec'
     rw[ec] at this
     cases this
     refine .inr ⟨.inl ?_,c,ec',o,old c o ho,hd⟩
     show (compEnvC scope (BC.cT X.env.cells scope.names []) C X.env).kindOf q.2=_
     rw[pC hsc];exact f4
 cell:=fun x c e=>by
  obtain ⟨v,o,ho,hd⟩:=I1.cell x c (jI e)
  exact ⟨v,o,old c o ho,hd⟩
 free:=I1.hok.fresh (by show s2.heap.objs.size<=C;rw[hC];exact Nat.le_succ _)
 freeC:=fun x c e=>I1.freeC x c (jI e)
 pin:=fun p hp=>by
  have e:p=(s2.heap.objs.size,lobj [] 0):=by
   have:p∈[]++[(s2.heap.objs.size,lobj [] 0)]:=hp
   simpa using this
  subst e
  refine ⟨hD,I1.hok.fresh (Nat.le_refl _),?_,?_,fun v z=>by cases (show Data.seq _ _=Data.cell v from z)⟩
  ·show s2.heap.objs.size≠C
   rw[hC];exact Nat.ne_of_lt (Nat.lt_succ_self _)
  ·intro z
   obtain ⟨_,o,ho,_⟩:=I1.stack.mem z
   exact absurd (Heap.lt_size ho) (Nat.lt_irrefl _)
 hok:=I1.hok.kept old
 len:=by
  show (iJ tg.length σ fv).length=(tg++fv.map (·.2)).length
  simp[iJ]
end
noncomputable def tgI:List Str->List (Nat×Str)
 | [x]=>[(0,x)]
 | [x,y]=>[(0,x),(1,y)]
 | _=>[]
theorem Ad {sc:Scope}{tg:List Str}{fs:List Str}{te:PySem.Expr} (h:oY sc tg te=true):CT sc (tg++fs) (tgI tg) te/\(tgI tg).length=tg.length/\∀ q∈tgI tg,sc.names.lookup q.2=some .local:=by
 have st:∀ {x:Str},sc.names.lookup x=some .local->jR sc x=true:=fun e=>by unfold jR;rw[e]
 unfold oY at h
 split at h
 ·rename_i x y p
  simp only[Bool.and_eq_true] at h
  have e:=eq_of_beq h.1
  have l:sc.names.lookup x=some .local:=eq_of_beq h.2
  subst e
  exact ⟨.one rfl (st l),rfl,fun q hq=>by simp[tgI] at hq;subst hq;exact l⟩
 ·rename_i x y a p1 b p2 k p
  simp only[Bool.and_eq_true] at h
  obtain ⟨⟨⟨h1,h2⟩,h3⟩,h4⟩:=h
  have e1:=eq_of_beq h1
  have e2:=eq_of_beq h2
  have l1:sc.names.lookup x=some .local:=eq_of_beq h3
  have l2:sc.names.lookup y=some .local:=eq_of_beq h4
  subst e1 e2
  exact ⟨.two rfl (st l1) rfl (st l2),rfl,fun q hq=>by
   simp[tgI] at hq
   rcases hq with rfl | rfl
   ·exact l1
   ·exact l2⟩
 ·cases h
theorem Ae {tg:List Str}{d0:BT.D}{ds:List BT.D}{sl fs:BT.Sl} (h:(tgI tg).length=tg.length) (h0:tg≠[]) (hd:BT.target tg.length d0=some ds) (hl:sl.length=tg.length+fs.length) (hr:sl.drop tg.length=fs) :
 BT.sets (tgI tg) ds sl=ds.map BT.dX++fs/\(ds.map BT.dX++fs).length=tg.length+fs.length/\(ds.map BT.dX++fs).drop tg.length=fs:=by
 match tg,h,h0 with
 | [],_,h0=>exact absurd rfl h0
 | [x],_,_ =>
  simp only[List.length_cons,List.length_nil,Nat.zero_add,BT.gj] at hd hl hr
  cases hd
  match sl,hl,hr with
  | a :: r,hl,hr =>
   simp only[List.drop_succ_cons,List.drop_zero] at hr
   subst hr
   exact ⟨rfl,by simp[Nat.add_comm],rfl⟩
 | [x,y],_,_ =>
  have hd:BT.unpack 2 d0=some ds:=hd
  cases d0<;>simp only[BT.unpack] at hd<;>try contradiction
  split at hd
  ·rename_i c
   cases hd
   match ds,c with
   | [d1,d2],_ =>
    simp only[List.length_cons,List.length_nil,Nat.zero_add] at hl hr
    match sl,hl,hr with
    | a :: b :: r,hl,hr =>
     simp only[List.drop_succ_cons,List.drop_zero] at hr
     subst hr
     exact ⟨rfl,by simp;omega,rfl⟩
    | [a],hl,_=>simp at hl;omega
    | [],hl,_=>simp at hl;omega
  ·cases hd
 | x :: y :: z :: r,h,_=>simp[tgI] at h
theorem jy {s:BT.Sl}:∀ {fv:List (Nat×Str)}{fs:BT.Sl},BT.frees s fv=some fs->fs.length=fv.length/\∀ (i:Nat) (q:Nat×Str),fv[i]?=some q->fs[i]?=s[q.1]?
 | [],fs,e=>by simp[BT.frees] at e;subst e;exact ⟨rfl,fun i q z=>by simp at z⟩
 | q :: r,fs,e=>by
  simp only[BT.frees] at e
  cases g:s[q.1]? with
  | none=>rw[g] at e;cases e
  | some w =>
   rw[g] at e
   obtain ⟨fs',e1,e2⟩:=aR e
   subst e2
   obtain ⟨h1,h2⟩:=jy e1
   refine ⟨by simp[h1],fun i p z=>?_⟩
   cases i with
   | zero=>simp at z;subst z;simp[g]
   | succ i=>simpa using h2 i p (by simpa using z)
theorem uy {P:Program}{w:World}{K:PySem.W.Frag}{m:List Addr}{H:Hp}{σ:L2.St}{s fs:BT.Sl}{fv:List (Nat×Str)}{n:Nat} (S:RS P w K m H σ s) (hf:BT.frees s fv=some fs):RS P w K m H (iJ n σ fv) (List.replicate n none++fs):=by
 obtain ⟨h1,h2⟩:=jy hf
 refine ⟨by simp[iJ,h1],fun i y e=>?_⟩
 by_cases c:i < n
 ·rw[List.getElem?_append_left (by simpa using c),List.getElem?_replicate,if_pos c] at e
  cases e
 ·rw[List.getElem?_append_right (by simpa using c)] at e
  simp only[List.length_replicate] at e
  have hi:i - n < fv.length:=by
   rw[← h1]
   rcases Nat.lt_or_ge (i - n) fs.length with z | z
   ·exact z
   ·rw[List.getElem?_eq_none z] at e;cases e
  have g:=List.getElem?_eq_getElem hi
  rw[h2 _ _ g] at e
  obtain ⟨v,hv,r⟩:=S.get _ _ e
  refine ⟨v,?_,r⟩
  unfold iJ
  rw[List.getElem?_append_right (by simpa using c)]
  simp only[List.length_replicate,List.getElem?_map,g,Option.map_some,hv,Option.getD_some]
theorem Af {f:List BT.D->BT.HH->Option (Option BT.D×BT.HH)}{n:Nat}{d:BT.D}{r rest:List BT.D}{h h2:BT.HH} (e:BT.b9 f n (d :: r) h=some (rest,h2)) :
 ∃ xs o hA rest',BT.target n d=some xs/\f xs h=some (o,hA)/\BT.b9 f n r hA=some (rest',h2)/\rest=(match o with | some x=>x :: rest' | none=>rest'):=by
 rw[BT.b9] at e
 cases g:BT.target n d with
 | none=>rw[g] at e;cases e
 | some xs =>
  rw[g] at e
  obtain ⟨o,hA,e1,e2⟩:=ao e
  unfold BT.vI at e2
  obtain ⟨rest',h3,e3,e4⟩:=ao e2
  unfold BT.rA at e4
  cases e4
  exact ⟨xs,o,hA,rest',rfl,e1,e3,rfl⟩
theorem Un.behind {fs ex:List Addr}{H H' H2:Hp}{h h1 h2:Heap} (u:Un fs ex H H' h h1) (a:∀ b,b < h.objs.size->H2 b=H' b) (lt:∀ b o,H b=some o->b < h.objs.size) (k:∀ b o,b < h.objs.size->h1.get? b=some o->h2.get? b=some o):Un fs ex H H2 h h2 where
 keep:=fun b o e n c d=>k b o (Heap.lt_size e) (u.keep b o e n c d)
 slot:=fun b o e n c d=>by obtain ⟨sl,q⟩:=u.slot b o e n c d;exact ⟨sl,k b _ (Heap.lt_size e) q⟩
 free:=fun b o e n d=>by rw[a b (Heap.lt_size e)];exact u.free b o e n d
 there:=fun b o e d=>by obtain ⟨o',q⟩:=u.there b o e d;exact ⟨o',k b o' (Heap.lt_size e) q⟩
 tups:=fun b xs e=>by rw[a b (lt b _ e)];exact u.tups b xs e
 frzs:=fun b o w e=>by rw[a b (lt b _ e)];exact u.frzs b o w e
 tbls:=fun b ps e=>by rw[a b (lt b _ e)];exact u.tbls b ps e
section
variable {X:Cx}{F:FT}{G:Str->Option BT.W}{sc:Scope}{N:List Str}
theorem D6 (O:Ok X F G sc N) {scope:Scope}{tg:List Str}{fv:List (Nat×Str)} (cf:pB sc N tg fv scope) {s2:Shared}{H1:Hp}{C:Addr}{fp:List Addr} :
 Ok (blk X (tg++fv.map (·.2)) s2 H1 scope C fp) F G (bI scope sc) (tg++fv.map (·.2)) where
 hsc:=by have:=O.hsc;subst this;rfl
 hN:=rfl
 nd:=cf.nd
 calm:=O.calm
 hu:=O.hu
 own:=PassesOwn.never
 glob:=O.glob
 call:=O.call
 meth:=O.meth
 mkc:=O.mkc
 blt:=O.blt
 lam:=O.lam
 lamx:=fun h=>absurd (show false=true from h "") (by decide)
noncomputable abbrev LI (X:Cx) (F:FT) (G:Str->Option BT.W) (scope:Scope) (tg:List Str) (fv:List (Nat×Str)) (cond:BT.Es) (elt:BT.E) (s2:Shared) (H1:Hp) (C:Addr) (fp:List Addr) (tn:Nat->Heap->Prop) (m1:List Addr) (ds outs:List BT.D) (fs:BT.Sl) (h2:BT.HH) (n:Nat) (s:Shared):Prop :=
 ∃ (i:Nat) (σ':L2.St) (H':Hp) (m':List Addr) (hh:BT.HH) (out rest:List BT.D) (vs:List V) (us:List Value) (nn:Nat) (sl:BT.Sl),
  i<=ds.length/\n=ds.length - i/\Inv (blk X (tg++fv.map (·.2)) s2 H1 scope C fp) [(s2.heap.objs.size,lobj us nn)] σ' H' s/\tn i s.heap/\(∀ b∈fp,H' b=none)/\Ext m1 H1 m' H'/\RH X.K m' H' hh ∧
  RS X.prog X.w X.K m' H' σ' sl/\sl.length=tg.length+fs.length/\sl.drop tg.length=fs/\aq vs us/\RDs X.K m' H' vs out/\BT.b9 (BT.eY (BT.evs F G cond) (BT.ev F G elt) fs) tg.length (ds.drop i) hh=some (rest,h2)/\out++rest=outs
structure Apart (X:Cx) (pins:List (Addr×Obj)) (H:Hp) (C:Addr):Prop where
 fr:H C=none
 lo:C≠X.env.locals
 ab:X.s₀.heap.objs.size<=C
 ce:∀ x c,X.env.cells.lookup x=some c->c≠C
 pi:∀ p∈X.pn++pins,p.1≠C
theorem mH (O:Ok X F G sc N) {mu:Bool}{sr:BT.Sr}{sa:BT.Es}{tg:List Str}{fv:List (Nat×Str)}{cond:BT.Es}{elt:BT.E}{te iter elt':PySem.Expr}{ifs:List PySem.Expr}{scope:Scope}{pos:Pos}
 (hk:iG sc N tg fv scope=true) (ht:oY (bI scope sc) tg te=true) (hset:iE iter=true) (hI:PI X te iter (iD X F G sr sa)) (hC:kU F G (bI scope sc) (tg++fv.map (·.2)) cond ifs)
 (hE:∀ X',Ok X' F G (bI scope sc) (tg++fv.map (·.2))->PE X' elt' (tD X' F G elt)):∀ (pins:List (Addr×Obj)) (s:Shared) (σ:L2.St) (H:Hp) (Q:VK) (use:Option (Value->Sem Unit)) (Q':Value->Shared->Prop),Inv X pins σ H s->tD X F G (.comp mu sr sa tg fv cond elt) σ H Q →
 (∀ (s6:Shared) (H6:Hp) (C D:Addr) (m:Str->Option Value),Inv X pins σ H6 s6->s6.heap.Ns C m->Apart X pins H6 C->Q (.ref D) H6->compPost (model X.prog X.w) X.A X.xe use Q' (.ref D) C (.ok .next) s6) →
 wpAny (model X.prog X.w) X.A (comprehension (.ListComp elt' [⟨te,iter,ifs,0⟩] scope pos) scope X.env (firstIterPos [⟨te,iter,ifs,0⟩] pos) (newList []) false (eval iter X.env) use) Q' X.xe s:=by
 have cf:=GX hk
 obtain ⟨ct,tl,tloc⟩:=Ad (fs:=fv.map (·.2)) ht
 have t0:tg≠[]:=by
  rintro rfl
  simp[oY] at ht
 intro pins s σ H Q use Q' I q hfin
 obtain ⟨m,s',h,z,h',R,S,ee,post⟩:=q
 simp only[BT.ev] at ee
 obtain ⟨ws,h1,e1,e2⟩:=ao ee
 unfold BT.vL at e2
 cases g1:(BT.rds ws h1).bind (BT.fq sr) with
 | none=>rw[g1] at e2;cases e2
 | some ds =>
  cases g2:BT.frees s' fv with
  | none=>rw[g1,g2] at e2;cases e2
  | some fs =>
   rw[g1,g2] at e2
   simp only at e2
   by_cases ca:BT.gk ws=true
   case neg=>rw[if_neg ca] at e2;cases e2
   rw[if_pos ca] at e2
   obtain ⟨outs,h2,e3,e4⟩:=ao e2
   unfold BT.kF at e4
   by_cases cl:outs.length<=BT.lim
   case neg=>rw[if_neg cl] at e4;cases e4
   rw[if_pos cl] at e4
   have ez:BT.new mu outs h2=(z,h'):=Option.some.inj e4
   have hfree:BC.qG X.env.cells scope.names:=fun x hx e=>I.ok.has x.1 (.inl (by
    have:=cf.free x hx e
    show X.env.scope.names.lookup x.1=_
    rw[O.hsc];exact this))
   refine wpAny_comprehension_free (use:=use) rfl (rZ hset) (BC.kQ hfree) cf.k1 cf.loc
    (thn (hI pins s σ H (fun J H1=>∃ m1,Ext m H m1 H1/\RH X.K m1 H1 h1/\uq X.K J m1 H1 ds) I ⟨m,s',h,ws,h1,ds,R,S,e1,g1,ca,fun H1 m1 J x1 R1 it=>⟨m1,x1,R1,it⟩⟩) fun v s1 hv=>thn hv fun itv s2 h2'=>?_)
   obtain ⟨it,fp,tn,J,H1,rfl,I1,T,st,hf,m1,x1,R1,ito⟩:=h2'
   have hlt:∀ b∈fp,b < s2.heap.objs.size:=fun b hb=>by
    obtain ⟨o,ho,_⟩:=T.obj 0 _ st b hb
    exact Heap.lt_size ho
   refine wpAny_newObj_type (wpAny_newFunctionEnv cf.cell (by intro y hy;simp at hy) (fun h3 hns hsb=>?_) cf.k1)
   dsimp only at hns hsb ⊢
   generalize hH2:s2.heap.push { cls:=.type "list",dict:=none,data:=.seq ([]:List Value).toArray }=H2 at hns hsb ⊢
   have hCs:H2.objs.size=s2.heap.objs.size+1:=by rw[← hH2,Heap.size_push]
   have old:∀ b o,s2.heap.get? b=some o->h3.get? b=some o:=fun b o e=>hsb.extBut b o (by rw[hCs];exact Nat.ne_of_lt (Nat.lt_succ_of_lt (Heap.lt_size e))) (Heap.get?_push_of_some _ (hH2 ▸ Heap.get?_push_of_some _ e))
   have hacc:h3.get? s2.heap.objs.size=some (lobj [] 0):=hsb.extBut _ _ (by rw[hCs];exact Nat.ne_of_lt (Nat.lt_succ_self _)) (Heap.get?_push_of_some _ (hH2 ▸ Heap.get?_push_size _ rfl))
   have I4:=Ac (tk:=s2.toks+([]:List (Str×Value)).length) I1 O.hsc O.hN cf hCs hf hlt old hns hacc
   have O':=D6 (s2:=s2) (H1:=H1) (C:=H2.objs.size) (fp:=fp) O cf
   obtain ⟨g,hg1,hg2⟩:=sCT O' ct fun q hq=>.inr (by rw[O'.hsc];exact tloc q hq)
   have hfl:fs.length=fv.length:=(jy g2).1
   have stat:∀ {H':Hp}{o:Obj},(∀ b∈fp,H' b=none)->∀ b∈fp,lD (blk X (tg++fv.map (·.2)) s2 H1 scope H2.objs.size fp) [(s2.heap.objs.size,o)] H' b:=fun {H' o} hn b hb=>by
    refine ⟨hn b hb,?_,?_,.inl hb,fun x c e=>(hf b hb).2.2.2.2.1 x c (jI e),fun p hp=>?_⟩
    ·show b≠H2.objs.size
     rw[hCs];exact Nat.ne_of_lt (Nat.lt_succ_of_lt (hlt b hb))
    ·intro zz
     rcases List.mem_cons.mp (I1.kg b zz) with e | e
     ·exact (hf b hb).2.1 e
     ·exact (hf b hb).2.2.1 e
    ·have hp':p=(s2.heap.objs.size,o):=by
      have:p∈[]++[(s2.heap.objs.size,o)]:=hp
      simpa using this
     rw[hp']
     show s2.heap.objs.size≠b
     exact Nat.ne_of_gt (hlt b hb)
   have loop:∀ s4:Shared,s4={ s2 with heap:=h3,toks:=s2.toks+([]:List (Str×Value)).length } →
    codeAny (model X.prog X.w) X.A (.compLoop (.ListComp elt' [⟨te,iter,ifs,0⟩] scope pos) 0 (.ref it) (.ref s2.heap.objs.size) (compEnvC scope (BC.cT X.env.cells scope.names []) H2.objs.size X.env))
     (compPost (model X.prog X.w) X.A X.xe use Q' (.ref s2.heap.objs.size) H2.objs.size) s4:=by
    rintro s4 rfl
    refine BC.ux (LI X F G scope tg fv cond elt s2 H1 H2.objs.size fp tn m1 ds outs fs h2) ?_
     ds.length ⟨0,_,H1,m1,h1,[],outs,[],[],0,_,Nat.zero_le _,rfl,I4,T.keep 0 _ _ st (fun b hb o e=>old b o e),fun b hb=>(hf b hb).1,.refl _ _,R1,uy (S.ext x1) g2,by simp,by simp,.nil,.nil,by rw[List.drop_zero];exact e3,rfl⟩
    rintro n s5 ⟨i,σ5,H5,m5,hh,out,rest,vs,us,nn,sl,hi,rfl,I5,st5,fr5,x5,R5,S5,sl1,sl2,rv5,rd5,go5,ou5⟩
    by_cases c:i < ds.length
    ·rw[List.drop_eq_getElem_cons c] at go5
     obtain ⟨xs,o,hA,rest',eT,eF,eG,eR⟩:=Af go5
     refine thn (T.item (blk X (tg++fv.map (·.2)) s2 H1 scope H2.objs.size fp) rfl rfl rfl O.calm i _ s5 σ5 H5 _ I5 (stat fr5) st5 (ito.go m5 H5 i x5 c)) fun r s6 hr=>?_
     obtain ⟨u,rfl,hr⟩:=hr
     refine thn hr fun _ s7 ⟨x,H7,I7,r7,y7,st7,fr7⟩=>?_
     obtain ⟨x7,k7,rd7⟩:=ito.yld m5 H5 hh i x H7 ds[i] x5 R5 (List.getElem?_eq_getElem c) y7
     have R7:=R5.ext x7 k7
     have I7':=I7.pinned (stat fr7) (T.obj _ _ st7)
     obtain ⟨sq1,sq2,sq3⟩:=Ae tl t0 eT sl1 sl2
     refine thn (hg1 _ s7 σ5 H7 x u (fun σ8 H8=>H8=H7/\RS X.prog X.w X.K m5 H7 σ8 (xs.map BT.dX++fs)) I7' r7 (hg2 m5 H7 σ5 sl x ds[i] xs _ (S5.ext x7) rd7 (by rw[tl];exact eT) fun σ8 S8=>⟨rfl,by rw[← sq1];exact S8⟩)) fun _ s8 h8=>?_
     obtain ⟨σ8,H8,I8,rfl,S8⟩:=h8
     have kept:∀ {s9:Shared}{σ9:L2.St}{H9:Hp},Inv (blk X (tg++fv.map (·.2)) s2 H1 scope H2.objs.size fp) ([(s2.heap.objs.size,lobj us nn)]++jk fp s7.heap) σ9 H9 s9->tn (i+1) s9.heap/\∀ b∈fp,H9 b=none:=fun {s9 σ9 H9} I9=>by
      refine ⟨T.keep _ _ _ st7 fun b hb o e=>(I9.pin (b,o) (List.mem_append_right _ (List.mem_append_right _ (fK hb e)))).1,fun b hb=>?_⟩
      obtain ⟨o,e,_⟩:=T.obj _ _ st7 b hb
      exact (I9.pin (b,o) (List.mem_append_right _ (List.mem_append_right _ (fK hb e)))).2.1
     have elem:∀ {s9:Shared}{H9:Hp}{m9:List Addr}{h9:BT.HH}{w:BT.W}{hB:BT.HH}{d:BT.D},Inv (blk X (tg++fv.map (·.2)) s2 H1 scope H2.objs.size fp) ([(s2.heap.objs.size,lobj us nn)]++jk fp s7.heap) σ8 H9 s9->Ext m5 H8 m9 H9->RH X.K m9 H9 h9 →
      BT.ev F G elt (xs.map BT.dX++fs) h9=some (w,hB)->BT.tV w hB=some (some d,hA)->o=some d →
      wpAny (model X.prog X.w) X.A (eval elt' (compEnvC scope (BC.cT X.env.cells scope.names []) H2.objs.size X.env)) (fun x s₄ =>
       wpAny (model X.prog X.w) X.A (call (.builtin "list.append") [.ref s2.heap.objs.size,x]) (fun _ s₅=>∃ m,m < ds.length - i/\LI X F G scope tg fv cond elt s2 H1 H2.objs.size fp tn m1 ds outs fs h2 m s₅) (fun _ _=>False) s₄) (fun _ _=>False) s9:=by
      intro s9 H9 m9 h9 w hB d I9 x9 R9 eE eK eO
      have ew:w=.p d/\hB=hA:=by
       unfold BT.tV at eK
       cases w with
       | p d'=>cases eK;exact ⟨rfl,rfl⟩
       | r _=>cases eK
       | k _=>cases eK
       | c _ _=>cases eK
       | o _=>cases eK
      obtain ⟨rfl,rfl⟩:=ew
      refine thn (hE _ O' _ s9 σ8 H9 (fun v Ha=>∃ ma,Ext m9 H9 ma Ha/\RH X.K ma Ha hB/\RD X.K ma Ha v d) I9 ⟨m9,_,h9,_,hB,R9,S8.ext x9,eE,fun v Ha ma xa Ra ra=>by
       cases ra with | p ra=>exact ⟨ma,xa,Ra,ra⟩⟩) fun u10 s10 ⟨v10,H10,I10,r10,m10,x10,R10,rd10⟩=>?_
      obtain ⟨pD,nD,neD,nfD,_⟩:=I10.pin (s2.heap.objs.size,lobj us nn) (by simp)
      have lus:=rv5.length
      have lvs:=rd5.length
      have lou:out.length<=outs.length:=by rw[← ou5];simp
      have lle:=dh
      have cl':outs.length<=BT.lim:=cl
      refine wpAny_list_append_plain ⟨nn,pD⟩ (fun h11 hp11 sb11=>?_) (by rw[List.size_toArray];omega)
      obtain ⟨nn',hp11⟩:=hp11
      have hp11:h11.get? s2.heap.objs.size=some (lobj (us++[u10]) nn'):=by rw[hp11];simp[lobj]
      have sb11:Heap.SameBut s2.heap.objs.size s10.heap h11:=sb11
      obtain ⟨st10,fr10⟩:=kept I10
      have I11:Inv (blk X (tg++fv.map (·.2)) s2 H1 scope H2.objs.size fp) [] σ8 H10 { s10 with heap:=h11 } :=
       Inv.turned (t':=s10.toks) (I10.jW (fun p hp=>by cases hp)) (fun b o hb e=>(sb11.2 b hb).trans e) nD neD (.inr (Nat.le_refl _)) (fun x c e zz=>by
        obtain ⟨v,o,ho,_⟩:=I1.cell x c (jI e)
        have:=Heap.lt_size ho
        rw[zz] at this
        exact absurd this (Nat.lt_irrefl _)) fun p hp=>by cases hp
      have I12:Inv (blk X (tg++fv.map (·.2)) s2 H1 scope H2.objs.size fp) [(s2.heap.objs.size,lobj (us++[u10]) nn')] σ8 H10 { s10 with heap:=h11 }:=I11.jW fun p hp=>by
       simp only[List.mem_singleton] at hp
       subst hp
       exact ⟨hp11,nD,neD,nfD,fun v zz=>by cases (show Data.seq _ _=Data.cell v from zz)⟩
      have xt:Ext m5 H5 m10 H10:=(x7.trans x9).trans x10
      refine ⟨ds.length - (i+1),by omega,i+1,σ8,H10,m10,hB,out++[d],rest',vs++[v10],us++[u10],nn',_,c,rfl,I12,?_,fr10,x5.trans xt,R10,(S8.ext x9).ext x10,sq2,sq3,rv5.append (.cons r10 .nil),(rd5.ext xt).append (.cons rd10 .nil),eG,?_⟩
      ·refine T.keep _ _ _ st10 fun b hb o' e=>(sb11.2 b ?_).trans e
       exact Nat.ne_of_lt (hlt b hb)
      ·rw[← ou5,eR,eO,List.append_assoc];rfl
     unfold BT.eY at eF
     obtain ⟨cs,hc,eC,eK⟩:=ao eF
     rcases hC with ⟨rfl,rfl⟩ | ⟨cc,cc',rfl,rfl,hCC⟩
     ·simp only[BT.evs] at eC
      cases eC
      simp only[BT.iS] at eK
      obtain ⟨w,hB,eE,eL⟩:=ao eK
      refine wpAny_tests_nil ?_
      rw[if_pos rfl]
      have:∃ d,o=some d:=by
       unfold BT.tV at eL
       cases w with
       | p d'=>cases eL;exact ⟨_,rfl⟩
       | r _=>cases eL
       | k _=>cases eL
       | c _ _=>cases eL
       | o _=>cases eL
      obtain ⟨d,rfl⟩:=this
      exact elem I8 (.refl _ _) R7 eE eL rfl
     ·simp only[BT.evs] at eC
      obtain ⟨wc,hc2,eC1,eC2⟩:=ao eC
      simp only[BT.jG,BT.bZ,BT.gn] at eC2
      cases eC2
      have hb:∃ b,wc=.p (.bl b):=by
       cases wc with
       | p d =>
        cases d<;>simp[BT.iS] at eK
        exact ⟨_,rfl⟩
       | r _=>simp[BT.iS] at eK
       | k _=>simp[BT.iS] at eK
       | c _ _=>simp[BT.iS] at eK
       | o _=>simp[BT.iS] at eK
      obtain ⟨b,rfl⟩:=hb
      refine wpAny_tests_one (thn (hCC _ O' _ s8 σ8 H8 (fun b' Ha=>b'=b/\∃ ma,Ext m5 H8 ma Ha/\RH X.K ma Ha hc) I8 ⟨m5,_,hh,b,hc,R7,S8,eC1,fun Ha ma xa Ra=>⟨rfl,ma,xa,Ra⟩⟩) fun b' s9 ⟨H9,I9,hbb,m9,x9,R9⟩=>?_)
      subst hbb
      cases b' with
      | false =>
       simp only[BT.iS] at eK
       cases eK
       rw[if_neg (by decide)]
       obtain ⟨st9,fr9⟩:=kept I9
       have xt:Ext m5 H5 m9 H9:=x7.trans x9
       refine ⟨ds.length - (i+1),by omega,i+1,σ8,H9,m9,hA,out,rest',vs,us,nn,_,c,rfl,I9.iM,st9,fr9,x5.trans xt,R9,S8.ext x9,sq2,sq3,rv5,rd5.ext xt,eG,?_⟩
       rw[← ou5,eR]
      | true =>
       simp only[BT.iS] at eK
       rw[if_pos rfl]
       obtain ⟨w,hB,eE,eL⟩:=ao eK
       have:∃ d,o=some d:=by
        unfold BT.tV at eL
        cases w with
        | p d'=>cases eL;exact ⟨_,rfl⟩
        | r _=>cases eL
        | k _=>cases eL
        | c _ _=>cases eL
        | o _=>cases eL
       obtain ⟨d,rfl⟩:=this
       exact elem I9 x9 R9 eE eL rfl
    ·have ei:i=ds.length:=by omega
     subst ei
     rw[List.drop_length,BT.b9] at go5
     cases go5
     rw[List.append_nil] at ou5
     subst ou5
     refine thn (T.done (blk X (tg++fv.map (·.2)) s2 H1 scope H2.objs.size fp) rfl rfl rfl O.calm _ _ s5 σ5 H5 _ I5 (stat fr5) st5 (ito.stop m5 H5 x5)) fun r s6 ⟨hr,I6⟩=>?_
     subst hr
     obtain ⟨mm,hmm,_⟩:=I6.loc
     obtain ⟨pD,nD,neD,nfD,_⟩:=I6.pin (s2.heap.objs.size,lobj us nn) (by simp)
     have neD:s2.heap.objs.size≠H2.objs.size:=neD
     have hos:s6.os=s2.os:=I6.os
     have lus:=rv5.length
     have lvs:=rd5.length
     have lle:=dh
     have cl':out.length<=BT.lim:=cl
     have hok:HOk X.prog X.w (upd H5 s2.heap.objs.size (.lst vs)) s6.heap:=fun b u e=>by
      by_cases eb:b=s2.heap.objs.size
      ·subst eb
       rw[aL] at e
       cases e
       exact ⟨by omega,us,nn,rv5,pD⟩
      ·rw[av eb] at e
       refine (I6.hok b u e).stay (fun c v hc q=>q) (fun c q=>?_) fun c l q=>?_
       ·rw[av (fun zz=>by rw[zz,nD] at q;cases q)];exact q
       ·rw[av (fun zz=>by rw[zz,nD] at q;cases q)];exact q
     have u7:Un (frs X.stack) fp H1 (upd H5 s2.heap.objs.size (.lst vs)) s2.heap s6.heap:=Un.behind (h1:=s6.heap) I6.base (fun b hb=>av (Nat.ne_of_lt hb)) (fun b o e=>I1.hok.lt e) fun b o hb e=>e
     have I7:=I1.call (g':=s6.gens) (t':=s6.toks) (d':=s6.drawn) (ch:=fp) u7 hok I6.bare fun b hb=>⟨(hf b hb).2.2.2.1,(hf b hb).2.1,(hf b hb).2.2.2.2.1,(hf b hb).2.2.2.2.2⟩
     have fr6:H5 H2.objs.size=none:=I6.free
     have ltC:s2.heap.objs.size < H2.objs.size:=by rw[hCs];exact Nat.lt_succ_self _
     have ap:Apart X pins (upd H5 s2.heap.objs.size (.lst vs)) H2.objs.size:=by
      refine ⟨by rw[av (Ne.symm neD)];exact fr6,?_,?_,fun x c e zz=>?_,fun p hp zz=>?_⟩
      ·exact Nat.ne_of_gt (Nat.lt_trans I1.lt ltC)
      ·exact Nat.le_trans I1.sz (Nat.le_of_lt ltC)
      ·obtain ⟨v,o,ho,_⟩:=I1.cell x c e
       have l:=Heap.lt_size ho
       rw[zz] at l
       exact absurd (Nat.lt_trans l ltC) (Nat.lt_irrefl _)
      ·have l:=Heap.lt_size (I1.pin p hp).1
       rw[zz] at l
       exact absurd (Nat.lt_trans l ltC) (Nat.lt_irrefl _)
     refine hfin s6 _ _ _ mm ?_ hmm ap (nv (mu:=mu) R5 nD rd5 (by rw[ez];exact fun v' H' m' xx RR rr=>post v' H' m' ((x1.trans x5).trans xx) RR rr))
     obtain ⟨hp6,g6,d6,t6,os6⟩:=s6
     have hos:os6=s2.os:=hos
     subst hos
     exact I7
   exact codeAny_compStart_list (loop _ rfl) (T.self _ 0 _ _ _ (T.keep 0 _ _ st (fun b hb o e=>old b o e)) (loop _ rfl))
theorem Ag (O:Ok X F G sc N) {mu:Bool}{sr:BT.Sr}{sa:BT.Es}{tg:List Str}{fv:List (Nat×Str)}{cond:BT.Es}{elt:BT.E}{te iter elt':PySem.Expr}{ifs:List PySem.Expr}{scope:Scope}{pos:Pos}
 (hk:iG sc N tg fv scope=true) (ht:oY (bI scope sc) tg te=true) (hset:iE iter=true) (hI:PI X te iter (iD X F G sr sa)) (hC:kU F G (bI scope sc) (tg++fv.map (·.2)) cond ifs)
 (hE:∀ X',Ok X' F G (bI scope sc) (tg++fv.map (·.2))->PE X' elt' (tD X' F G elt)):PE X (.ListComp elt' [⟨te,iter,ifs,0⟩] scope pos) (tD X F G (.comp mu sr sa tg fv cond elt)):=by
 intro pins s σ H Q I q
 rw[eval_ListComp]
 refine mH O hk ht hset hI hC hE pins s σ H Q none _ I q fun s6 H6 C D m I6 hn ap hq=>?_
 refine ⟨m,hn,fun h7 sb7=>?_⟩
 have sb7:Heap.SameBut C s6.heap h7:=sb7
 exact ⟨.ref D,H6,Inv.turned (t':=s6.toks) I6 (fun b o hb e=>(sb7.2 b hb).trans e) ap.fr ap.lo (.inr ap.ab) ap.ce ap.pi,rfl,hq⟩
theorem Ah (O:Ok X F G sc N) {i:Nat}{y:Str}{mu:Bool}{sr:BT.Sr}{sa:BT.Es}{tg:List Str}{fv:List (Nat×Str)}{cond:BT.Es}{elt:BT.E}{te iter elt':PySem.Expr}{ifs:List PySem.Expr}{scope:Scope}{pos py spos:Pos}
 (hk:iG sc N tg fv scope=true) (ht:oY (bI scope sc) tg te=true) (hset:iE iter=true) (hI:PI X te iter (iD X F G sr sa)) (hC:kU F G (bI scope sc) (tg++fv.map (·.2)) cond ifs)
 (hE:∀ X',Ok X' F G (bI scope sc) (tg++fv.map (·.2))->PE X' elt' (tD X' F G elt)) (hy:N[i]?=some y) (hl:sc.names.lookup y=some .local)
 (hsw:swapsWith (.ListComp elt' [⟨te,iter,ifs,0⟩] scope pos) (some (.Name y py)) spos.line X.env=pure true) :
 PS X (.Assign [.Name y py] (.ListComp elt' [⟨te,iter,ifs,0⟩] scope pos) spos) (sY (tD X F G (.comp mu sr sa tg fv cond elt)) (oi i)):=by
 intro pins s σ H D I q
 rw[exec_Assign_Name_used _ _ _ _ hsw]
 refine wpAny_bind (wpAny_standAt (wpAny_bind ?_))
 show wpAny _ X.A (do let _ ← comprehension (.ListComp elt' [⟨te,iter,ifs,0⟩] scope pos) scope X.env _ (newList []) false (eval iter X.env) (some (assign (.Name y py) X.env))) _ _ s
 refine wpAny_bind (thn (mH O hk ht hset hI hC hE pins s σ H _ (some (assign (.Name y py) X.env)) (fun _ s'=>SP X pins D .next s') I q fun s6 H6 C D' m I6 hn ap hq=>?_) fun _ s' hq=>wpAny_pure (wpAny_pure hq))
 show wpAny _ X.A (assign (.Name y py) X.env (.ref D')) _ _ _
 refine wpAny_assign_Name (lU I6 O.nd (by rw[O.hN];exact hy) (.inl (by rw[O.hsc];exact hl)) (v:=.ref D') rfl (fun s7 I7 hs=>?_) (.inr (by rw[O.hsc];exact hl)))
 obtain ⟨a,sb,ha⟩:=hs
 have neC:C≠a:=by
  rcases ha with rfl | ha
  ·exact ap.lo
  ·exact fun z=>ap.ce y a ha z.symm
 refine ⟨m,hn.sameBut sb neC,fun h8 sb8=>?_⟩
 have sb8:Heap.SameBut C s7.heap h8:=sb8
 exact ⟨_,H6,Inv.turned (t':=s7.toks) I7 (fun b o hb e=>(sb8.2 b hb).trans e) ap.fr ap.lo (.inr ap.ab) ap.ce ap.pi,hq⟩
end
end BS
end
section
namespace BS
open PySem PySem.Spec PyProof.Rows L2
section
variable {F:FT}{G:Str->Option BT.W}
theorem uz {X:Cx}{v:V}{ds:List BT.D} (r:∀ m H,RW X.prog X.w X.K m H v (.p (.tup ds))):∃ a vs,v=.ref a/\KT X.K a vs:=by
 have z:=r [] (fun _=>none)
 cases z with
 | p z =>
  cases z with
  | @tup a vs _ h _ =>
   rcases h with ⟨h,_⟩ | h
   ·rcases h with h | ⟨o,h⟩<;>cases h
   ·exact ⟨a,vs,rfl,h⟩
theorem uA {X:Cx}{sc:Scope}{N:List Str} (O:Ok X F G sc N) {x:Str}{as:BT.Es}{es:List PySem.Expr}{np apos cpos:Pos} (h2:bB sc x=true) (h3:cR x=true) (hl:(apos.endLine==cpos.line)=true) (hlen:es.length < 20) (hc:CEs sc N as es) (ha:PA X es (tDs X F G as)) :
 PE X (.Call (.Attribute (.Name x np) "index" apos) es [] cpos) (tD X F G (.me .tindex (.glo x) as)):=by
 have hst:=dM hc
 intro pins s σ H Q I q
 obtain ⟨m,s',h,z,h',R,S,ee,post⟩:=q
 simp only[BT.ev] at ee
 obtain ⟨w,g,e1,e2⟩:=ao ee
 obtain ⟨_,e2⟩:=rL e2
 obtain ⟨ws,g2,e3,e4⟩:=ao e2
 obtain ⟨w',e5,e6⟩:=aR e1
 cases e6
 obtain ⟨u,v0,hm,rv,rw0⟩:=O.glob _ _ e5
 have hT:∃ ds xs,BT.br ws=some ds/\w=.p (.tup xs)/\ds≠[]:=by
  cases w with
  | r n=>cases ws<;>(first | (cases e4;done) | simp[BT.meW] at e4)
  | k q=>cases ws<;>(first | (cases e4;done) | simp[BT.meW] at e4)
  | c _ _=>cases ws<;>(first | (cases e4;done) | simp[BT.meW] at e4)
  | o q=>cases ws<;>(first | (cases e4;done) | simp[BT.meW] at e4)
  | p d =>
   rw[BT.kE] at e4
   cases gp:BT.br ws with
   | none=>rw[gp] at e4;cases e4
   | some ds =>
    rw[gp] at e4
    obtain ⟨b,e7,e8⟩:=aR e4
    cases d with
    | tup xs=>refine ⟨ds,xs,rfl,rfl,fun z=>?_⟩;subst z;simp[BT.meD] at e7
    | _=>cases ds<;>simp[BT.meD] at e7
 obtain ⟨ds,xs,gp,rfl,hne⟩:=hT
 obtain ⟨a,vt,rfl,o,its,n,⟨k1,k2,k3,k4,k5⟩,k6⟩:=uz rw0
 cases es with
 | nil =>
  cases as with
  | cons a r=>cases hc
  | nil=>simp only[BT.evs] at e3;cases e3;simp[BT.br] at gp;exact absurd gp hne
 | cons e es =>
  simp only[au,Bool.and_eq_true] at hst
  have h30:decide ((e :: es).length+([]:List Keyword).length+(if ([]:List Keyword).isEmpty then 0 else 1) < 30)=true:=decide_eq_true (by
   simp only[List.length_cons,List.length_nil,List.isEmpty_nil,if_true] at hlen ⊢;omega)
  refine (vB PySem.F.plainAttrs_tuple PySem.F.slot_tuple_index PySem.F.type_tuple_index (uh O.hu) (qW (bL O h2) hm rv (dU h3).1) ha rfl (by
   rw[gC (es:=e :: es) (by simp only[au,Bool.and_eq_true];exact hst),h30];rfl) hl (ak hst.1) (aS hst.2)) pins s σ H Q I ?_
  refine ⟨.inr (.inl ⟨rfl,o,k1,k2,k6⟩),m,s',h,ws,g2,R,S,e3,fun vs H2 m2 x2 R2 r2=>?_⟩
  exact ⟨m2,g2,.p (.tup xs),ws,z,h',R2,rw0 m2 H2,r2,e4,fun v5 H5 m5 x5 R5 r5=>post v5 H5 m5 (x2.trans x5) R5 r5⟩
theorem D7 {X:Cx}{me:BT.Me} (hm:me=.append\/me=.pop\/me=.extend) {o:BT.E}:∀ (m:List Addr) (h h2:BT.HH) (H:Hp) (v:V) (x:BT.W) ws r,RH X.K m H h->RW X.prog X.w X.K m H v x->BT.oU x h=true->BT.meW me x ws h2=some r->(∃ σ s,RS X.prog X.w X.K m H σ s/\∃ h0,BT.ev F G o s h0=some (x,h))->tyV X.K "list" v H:=by
 intro m h h2 H v x ws r R rq ok e _
 obtain ⟨n,rfl⟩:=JV hm e
 exact ty_list R rq ok
theorem JX {X:Cx}{e:BT.E} (σ:L2.St) (H:Hp) (Q:Bool->Hp->Prop) (q:tDT X F G e σ H Q):tB (tD X F G e) σ H Q:=by
 obtain ⟨m,s,h0,b,h',R,S,ee,post⟩:=q
 refine ⟨m,s,h0,_,h',R,S,ee,fun v H' m' x R' r=>?_⟩
 exact ⟨b,ju r,post H' m' x R'⟩
noncomputable def XE (F:FT) (G:Str->Option BT.W) (X:Cx) (e':BT.E) (e:PySem.Expr):Prop:=PE X e (tD X F G e')/\(tOK e'=true->PT X e (tDT X F G e')/\∀ op vs p,e=.BoolOp op vs p->PW X e (tDT X F G e'))
noncomputable def XO (F:FT) (G:Str->Option BT.W) (X:Cx) (es':BT.Es) (o:Option PySem.Expr):Prop:=∃ t,PO X o t ∧
 ∀ σ H (Q:Option Int->Hp->Prop),(∃ m s h l zs h',RH X.K m H h/\RS X.prog X.w X.K m H σ s/\BT.evs F G es' s h=some (zs,h')/\(BT.br zs).bind BT.m6=some l/\∀ H' m',Ext m H m' H'->RH X.K m' H' h'->Q l H')->t σ H Q
theorem cJ {X:Cx}{e':BT.E}{e:PySem.Expr} (p:PE X e (tD X F G e')) (hb:∀ op vs q,e≠.BoolOp op vs q) (he:∀ whole,isTrue e X.env whole=(do let v ← whole;standAt e.pos;holding [v] (truthy v)):=by intro _;rfl):XE F G X e' e :=
 ⟨p,fun _=>⟨PT.weak (Ce p he) JX,fun op vs q z=>absurd z (hb op vs q)⟩⟩
theorem D8 {X:Cx}:XO F G X .nil none:=⟨_,yU,fun σ H Q q=>by
 obtain ⟨m,s,h,l,zs,h',R,S,e1,e2,post⟩:=q
 simp only[BT.evs] at e1
 cases e1
 simp[BT.br,BT.m6] at e2
 subst e2
 exact post H m (.refl _ _) R⟩
theorem D9 {X:Cx}{a:BT.E}{e:PySem.Expr} (ha:PE X e (tD X F G a)):XO F G X (.cons a .nil) (some e):=by
 refine ⟨_,yV ha,fun σ H Q q=>?_⟩
 obtain ⟨m,s,h,l,zs,h',R,S,e1,e2,post⟩:=q
 simp only[BT.evs] at e1
 obtain ⟨x,h1,e3,e4⟩:=ao e1
 simp only[BT.jG,BT.bZ,BT.gn] at e4
 cases e4
 refine ⟨m,s,h,x,h',R,S,e3,fun v H1 m1 x1 R1 r1=>?_⟩
 cases r1 with
 | r _=>simp[BT.br] at e2
 | k _ _=>simp[BT.br] at e2
 | c _ _=>simp[BT.br] at e2
 | g _ _=>simp[BT.br] at e2
 | o _=>simp[BT.br] at e2
 | p r =>
  cases r<;>simp[BT.br,BT.m6] at e2
  subst e2
  exact ⟨_,rfl,post H1 m1 x1 R1⟩
theorem kW {X:Cx}{a:BT.E}{e:PySem.Expr} (ha:PE X e (tD X F G a)) (hs:noStar e=true):PA X [e] (tDs X F G (.cons a .nil)) :=
 PA.weak (eS ha kq (ak hs)) fun σ H Q q=>by
  obtain ⟨m,s,h,z0,h',R,S,ee,post⟩:=cons_of σ H Q q
  exact ⟨m,s,h,z0,h',R,S,ee,fun v H1 m1 x1 R1 r1=>fS (post v H1 m1 x1 R1 r1)⟩
theorem qH {X:Cx}{a b:BT.E}{e f:PySem.Expr} (ha:PE X e (tD X F G a)) (hb:PE X f (tD X F G b)) (hs:noStar e=true) (hs2:noStar f=true):PA X [e,f] (tDs X F G (.cons a (.cons b .nil))) :=
 PA.weak (eS ha (kW hb hs2) (ak hs)) cons_of
theorem sMe {X:Cx}{sc:Scope}{N:List Str} (O:Ok X F G sc N) {m:BT.Me}{o:BT.E}{as:BT.Es}{oe:PySem.Expr}{name:Str}{apos cpos:Pos}{es:List PySem.Expr} (h1:v7 m o=true) (h2:name=vY m) (h3:aD oe=true) (h6:(apos.endLine==cpos.line)=true) (h7:es.length < 20) (ho:CE' sc N o oe) (ha:CEs sc N as es) (hO:PE X oe (tD X F G o)) (hA:PA X es (tDs X F G as)) :
 PE X (.Call (.Attribute oe name apos) es [] cpos) (tD X F G (.me m o as)):=by
 subst h2
 cases m with
 | append=>exact qD (sc:=sc) (N:=N) PySem.F.plainAttrs_list PySem.F.slot_list_append PySem.F.type_list_append uf h3 h6 h7 hO ha hA (D7 (.inl rfl))
 | pop=>exact qD (sc:=sc) (N:=N) PySem.F.plainAttrs_list PySem.F.slot_list_pop PySem.F.type_list_pop DE h3 h6 h7 hO ha hA (D7 (.inr (.inl rfl)))
 | extend=>exact qD (sc:=sc) (N:=N) PySem.F.plainAttrs_list PySem.F.slot_list_extend PySem.F.type_list_extend ug h3 h6 h7 hO ha hA (D7 (.inr (.inr rfl)))
 | sindex=>simp[v7] at h1
 | tindex =>
  cases ho with
  | glo hg hn=>exact uA O hg hn h6 h7 ha hA
  | _=>simp[v7,vZ] at h1
 | dget=>simp[v7] at h1
theorem GY {X:Cx}{a b:BT.E}{x:PySem.Expr}{r:List PySem.Expr}{p:Pos} (pe:PE X (.BoolOp .And (x :: r) p) (tD X F G (.and a b))) (w:tOK (.and a b)=true->PW X (.BoolOp .And (x :: r) p) (tDT X F G (.and a b))):XE F G X (.and a b) (.BoolOp .And (x :: r) p) :=
 ⟨pe,fun ht=>⟨(w ht).pt,fun _ _ _ e=>by cases e;exact w ht⟩⟩
theorem sOr {X:Cx}{a b:BT.E}{x:PySem.Expr}{r:List PySem.Expr}{p:Pos} (pe:PE X (.BoolOp .Or (x :: r) p) (tD X F G (.or a b))) (w:tOK (.or a b)=true->PW X (.BoolOp .Or (x :: r) p) (tDT X F G (.or a b))):XE F G X (.or a b) (.BoolOp .Or (x :: r) p) :=
 ⟨pe,fun ht=>⟨(w ht).pt,fun _ _ _ e=>by cases e;exact w ht⟩⟩
theorem j0 {a b:BT.E} (h:tOK (.and a b)=true):tOK a=true/\tOK b=true:=by simpa only[tOK,Bool.and_eq_true] using h
theorem nJ {a b:BT.E} (h:tOK (.or a b)=true):tOK a=true/\tOK b=true:=by simpa only[tOK,Bool.and_eq_true] using h
theorem sX {sc:Scope}{N:List Str}{e':BT.E}{e:PySem.Expr} (h:CE' sc N e' e) {X:Cx} (O:Ok X F G sc N):XE F G X e' e:=by
 refine @CE'.rec (fun sc N e' e _=>∀ (X:Cx),Ok X F G sc N->XE F G X e' e) (fun sc N as es _=>∀ (X:Cx),Ok X F G sc N->PA X es (tDs X F G as)) (fun sc N es' o _=>∀ (X:Cx),Ok X F G sc N->XO F G X es' o) (fun sc N cond ifs _=>kU F G sc N cond ifs) (fun sc N sr sa iter _=>∀ (X:Cx),Ok X F G sc N->∀ (tg:PySem.Expr),oX sr tg=true->PI X tg iter (iD X F G sr sa))
  (fun h1 h2 h3 X O=>cJ (nG O h1 h2 h3) (fun _ _ _ z=>nomatch z))
  (fun h X O=>cJ (zN h) (fun _ _ _ z=>nomatch z))
  (fun h2 h3 X O=>cJ (zO O h2 h3) (fun _ _ _ z=>nomatch z))
  (fun h _ _ ia ib X O=>cJ (PE.weak (FG (opB h) (ia _ O).1 (ib _ O).1) (nF fun s h=>by simp only[BT.ev])) (fun _ _ _ z=>nomatch z))
  (fun _ ia X O=>cJ (PE.weak (BH u6 (ia _ O).1) DL) (fun _ _ _ z=>nomatch z))
  (fun _ ia X O=>⟨PE.weak (Ci (ia _ O).1) zS,fun ht=>⟨PT.weak (Cg ((ia _ O).2 ht).1) zR,fun _ _ _ e=>nomatch e⟩⟩)
  (fun _ _ ia ib X O=>GY (PE.weak (uT (ia _ O).1 (uS (ib _ O).1)) rO) fun ht=>PW.weak (uR ((ia _ O).2 (j0 ht).1).1 (yy ((ib _ O).2 (j0 ht).2).1)) rP)
  (fun _ _ ia ib X O=>GY (PE.weak (uT (ia _ O).1 (ib _ O).1) rO) fun ht=>PW.weak (uR ((ia _ O).2 (j0 ht).1).1 (((ib _ O).2 (j0 ht).2).2 _ _ _ rfl)) rP)
  (fun _ _ ia ib X O=>sOr (PE.weak (BD (ia _ O).1 (uS (ib _ O).1)) wL) fun ht=>PW.weak (By ((ia _ O).2 (nJ ht).1).1 (Cf ((ib _ O).2 (nJ ht).2).1)) wM)
  (fun _ _ ia ib X O=>sOr (PE.weak (BD (ia _ O).1 (ib _ O).1) wL) fun ht=>PW.weak (By ((ia _ O).2 (nJ ht).1).1 (((ib _ O).2 (nJ ht).2).2 _ _ _ rfl)) wM)
  (fun h _ _ hm ia ib X O=>⟨PE.weak (yL (opC O h) (ia _ O).1 (ib _ O).1 hm) (nF fun s h=>by simp only[BT.ev]),fun _=>⟨PT.weak (yM (opC O h) (ia _ O).1 (ib _ O).1 hm) (o5 (nF fun s h=>by simp only[BT.ev])),fun _ _ _ e=>nomatch e⟩⟩)
  (fun h h' _ _ _ hm ia ib ic X O=>⟨PE.weak (vd (opC O h) (opC O h') (ia _ O).1 (ib _ O).1 (ic _ O).1 hm) o6,fun _=>⟨PT.weak (ve (opC O h) (opC O h') (ia _ O).1 (ib _ O).1 (ic _ O).1 hm) (o5 o6),fun _ _ _ e=>nomatch e⟩⟩)
  (fun h _ _ _ ic ia ib X O=>⟨PE.weak (uU ((ic _ O).2 h).1 (ia _ O).1 (ib _ O).1) DK,fun ht=>nomatch ht⟩)
  (fun _ ia X O=>⟨PE.weak (CH (ia _ O)) DO,fun ht=>nomatch ht⟩)
  (fun _ ia X O=>⟨PE.weak (CJ (ia _ O)) DP,fun ht=>nomatch ht⟩)
  (fun _ _ hs ia ii X O=>cJ (PE.weak (FZ DC (ia _ O).1 (ii _ O).1 (wI hs)) (nF fun s h=>by simp only[BT.ev])) (fun _ _ _ z=>nomatch z))
  (fun _ _ _ ia il iu X O=>cJ (by
   obtain ⟨tl,hl1,hl2⟩:=il _ O
   obtain ⟨tu,hu1,hu2⟩:=iu _ O
   exact PE.weak (vA osl (ia _ O).1 hl1 hu1) (DM hl2 hu2)) (fun _ _ _ z=>nomatch z))
  (fun hg hn ha ia X O=>cJ (wN O hg hn ha (ia _ O)) (fun _ _ _ z=>nomatch z))
  (fun hg hg2 hs _ ia X O=>cJ (xo O hg hg2 hs (kW (ia _ O).1 hs)) (fun _ _ _ z=>nomatch z))
  (fun hb hg hs _ ia X O=>cJ (DN O hb hg (by simp[au,hs]) (kW (ia _ O).1 hs)) (fun _ _ _ z=>nomatch z))
  (fun hb hg hg2 hs _ ia X O=>cJ (wO O hb hg hg2 hs (ia _ O).1) (fun _ _ _ z=>nomatch z))
  (fun h1 h2 h3 h6 h7 ho ha io ia X O=>cJ (sMe O h1 h2 h3 h6 h7 ho ha (io _ O).1 (ia _ O)) (fun _ _ _ z=>nomatch z))
  (fun hk ht hz hs _ _ _ ii ic ie X O=>⟨Ag O hk ht hs (ii _ O _ hz) ic fun X' O'=>(ie _ O').1,fun ht=>nomatch ht⟩)
  (fun hb hf _ ia X O=>cJ (zU (sc:=sc) (N:=N) hb hf (ia _ O).1) (fun _ _ _ z=>nomatch z))
  (fun h3 h6 h7 _ ha io ia X O=>cJ (wR O h3 h6 h7 (io _ O).1 ha (ia _ O)) (fun _ _ _ z=>nomatch z))
  (fun hk _ ia X O=>cJ (zV hk (ia _ O).1) (fun _ _ _ z=>nomatch z))
  (fun hb hg hs1 hs2 _ _ ia ib X O=>cJ (zW O hb hg (by simp[au,hs1,hs2]) (qH (ia _ O).1 (ib _ O).1 hs1 hs2)) (fun _ _ _ z=>nomatch z))
  (fun hg hn ha ia X O=>cJ (wU O hg hn ha (ia _ O)) (fun _ _ _ z=>nomatch z))
  (fun h1 h2 h3 ha ia X O=>cJ (wY O h1 h2 h3 ha (ia _ O)) (fun _ _ _ z=>nomatch z))
  (fun X O=>cJ z8 (fun _ _ _ z=>nomatch z))
  (fun h3 h6 hs1 hs2 _ _ _ io ik id X O=>cJ (D0 h3 h6 hs1 hs2 (io _ O).1 (ik _ O).1 (id _ O).1) (fun _ _ _ z=>nomatch z))
  (fun hg h3 h6 _ io X O=>cJ (D4 O hg h3 h6 (io _ O).1) (fun _ _ _ z=>nomatch z))
  (fun X O=>PA.weak kq fun σ H Q q=>fS q)
  (fun hs _ _ ia ir X O=>PA.weak (eS (ia _ O).1 (ir _ O) (ak hs)) cons_of)
  (fun X O=>D8)
  (fun _ ia X O=>D9 (ia _ O).1)
  (.inl ⟨rfl,rfl⟩)
  (fun ht _ ia=>.inr ⟨_,_,rfl,rfl,fun X' O'=>((ia _ O').2 ht).1⟩)
  (fun hg hs _ ia X O _ _=>o8 O hg hs (kW (ia _ O).1 hs))
  (fun hg hs hs2 _ _ ia ib X O _ _=>o9 O hg hs hs2 (qH (ia _ O).1 (ib _ O).1 hs hs2))
  (fun hg hs _ ia X O _ _=>rY O hg hs (ia _ O).1)
  (fun _ ia X O _ _=>rX (ia _ O).1)
  sc N e' e h X O
theorem sE {sc:Scope}{N:List Str}{e':BT.E}{e:PySem.Expr} (h:CE' sc N e' e) {X:Cx} (O:Ok X F G sc N):PE X e (tD X F G e'):=(sX h O).1
theorem sT {sc:Scope}{N:List Str}{e':BT.E}{e:PySem.Expr} (h:CE' sc N e' e) {X:Cx} (O:Ok X F G sc N) (ht:tOK e'=true):PT X e (tDT X F G e')/\∀ op vs p,e=.BoolOp op vs p->PW X e (tDT X F G e'):=(sX h O).2 ht
theorem sCC {sc:Scope}{N:List Str}{cond:BT.Es}{ifs:List PySem.Expr} (h:CC sc N cond ifs):kU F G sc N cond ifs:=by
 cases h with
 | nil=>exact .inl ⟨rfl,rfl⟩
 | one ht ha=>exact .inr ⟨_,_,rfl,rfl,fun X' O'=>(sT ha O' ht).1⟩
theorem sCI {sc:Scope}{N:List Str}{sr:BT.Sr}{sa:BT.Es}{iter:PySem.Expr} (h:CI sc N sr sa iter) {X:Cx} (O:Ok X F G sc N) {tg:PySem.Expr} (hz:oX sr tg=true):PI X tg iter (iD X F G sr sa):=by
 cases h with
 | seq h=>exact rX (sE h O)
 | rng1 hg hs h=>exact o8 O hg hs (kW (sE h O) hs)
 | rng2 hg hs hs2 ha hb=>exact o9 O hg hs hs2 (qH (sE ha O) (sE hb O) hs hs2)
 | rev hg hs h=>exact rY O hg hs (sE h O)
end
end BS
end
section
namespace BS
open PySem PySem.Spec PyProof.Rows L2
noncomputable def mk3 (H:Hp) (P c f:Addr) (t c0 f0:HO):Hp:=upd (upd (upd H P t) c c0) f f0
theorem cL {H:Hp}{P c f a:Addr}{t c0 f0 u:HO}{ps:Array Value} (hP:H P=some (.tbl ps)) (hc:H c=none) (hf:H f=none) (e:H a=some u) (n:wk u=false):mk3 H P c f t c0 f0 a=some u:=by
 unfold mk3
 rw[av (aC e hf),av (aC e hc),av (fun z=>by subst z;rw[hP] at e;cases e;cases n)];exact e
theorem qI {pos:Pos}{a b:Int}{v0 v:Value} (l:List Value) (h:TriplesOk l) (e:codeAmong pos (l++[rawInt a,rawInt b,v0])=some v):codeAmong pos l=some v\/v=v0:=by
 fun_induction TriplesOk l with
 | case1 =>
  simp only[List.nil_append,rawInt,codeAmong] at e
  split at e
  ·cases e;exact .inr rfl
  ·cases e
 | case2 a' t b' u x rest ih =>
  simp only[List.cons_append,codeAmong] at e ⊢
  split at e
  ·rename_i hc;rw[if_pos hc];exact .inl e
  ·rename_i hc;rw[if_neg hc];exact ih h e
 | case3 l h1 h2=>exact h.elim
structure Made (X:Cx) (pins:List (Addr×Obj)) (σ:L2.St) (m:List Addr) (H:Hp) (h:BT.HH) (q:Str) (pa:Arguments) (be:PySem.Expr) (sc:Scope) (cl:List (Str×Addr)) (f:Addr) (H3:Hp) (s3:Shared):Prop where
 inv:Inv X pins σ H3 s3
 ext:Ext m H m H3
 rh:RH X.K m H3 h
 ex:∃ pm ctv c' oc os t,Tr m H3 f (PySem.W.kla_obj "<lambda>" q pa be sc cl pm c' ctv)/\Tr m H3 c' oc/\oc.data=.fields os/\os[1]?=some (.str q t)
theorem Ai {X:Cx}{pins:List (Addr×Obj)}{σ:L2.St}{H:Hp}{s:Shared}{m:List Addr}{h:BT.HH} (I:Inv X pins σ H s) (R:RH X.K m H h) {x:Str} (lx:LX X x) {c P:Addr} (tc:PySem.W.tabIn X.K x=some (c,P)) {ps:Array Value} (hP:H P=some (.tbl ps))
 (ht:TriplesOk ps.toList) (hall:∀ pos v,codeAmong pos ps.toList=some v->∃ c' oc os t,v=.ref c'/\H c'=some (.frz oc (.own 0))/\oc.data=.fields os/\os[1]?=some (.str (tZ x) t))
 (uniq:∀ y∈BT.dN,∀ c2,PySem.W.tabIn X.K y=some (c2,P)->y=x)
 {pos:Pos} (hn:codeAmong pos ps.toList=none) {c' f:Addr}{h':Heap}{tk:Nat}{fo:Obj} (hfo:fo.isFreed=false) {oc:Obj}{os:Array Value}{t:Tok} (hx:Heap.ExtBut P s.heap h') (hge:s.heap.objs.size<=c') (hlt:c' < h'.objs.size) (ho:h'.get? c'=some oc) (hd:oc.data=.fields os) (hq:os[1]?=some (.str (tZ x) t))
 (hT:h'.get? P=some (PySem.W.tabObj (ps++#[rawInt pos.line,rawInt pos.col,.ref c']))) :
 Inv X pins σ (mk3 H P c' h'.objs.size (.tbl (ps++#[rawInt pos.line,rawInt pos.col,.ref c'])) (.frz oc (.own 0)) (.frz fo (.own 0))) { s with heap:=h'.push fo,toks:=tk }/\Ext m H m (mk3 H P c' h'.objs.size (.tbl (ps++#[rawInt pos.line,rawInt pos.col,.ref c'])) (.frz oc (.own 0)) (.frz fo (.own 0))) ∧
 RH X.K m (mk3 H P c' h'.objs.size (.tbl (ps++#[rawInt pos.line,rawInt pos.col,.ref c'])) (.frz oc (.own 0)) (.frz fo (.own 0))) h:=by
 have hPs:s.heap.get? P=some (PySem.W.tabObj ps):=I.hok _ _ hP
 have szP:P < s.heap.objs.size:=Heap.lt_size hPs
 have cP:c'≠P:=fun z=>by rw[z] at hge;exact absurd szP (Nat.not_lt.mpr hge)
 have fP:h'.objs.size≠P:=fun z=>by rw[← z] at szP;exact absurd (Nat.lt_of_lt_of_le szP hge) (Nat.not_lt.mpr (Nat.le_of_lt hlt))
 have fc:h'.objs.size≠c':=Nat.ne_of_gt hlt
 have fr:∀ a,s.heap.objs.size<=a->H a=none:=fun a ha=>I.hok.fresh ha
 have hc:=fr c' hge
 have hf:=fr h'.objs.size (Nat.le_of_lt (Nat.lt_of_le_of_lt hge hlt))
 have at1:∀ t c0 f0,mk3 H P c' h'.objs.size t c0 f0 h'.objs.size=some f0:=fun _ _ _=>aL
 have at2:∀ t c0 f0,mk3 H P c' h'.objs.size t c0 f0 c'=some c0:=fun _ _ _=>by unfold mk3;rw[av (Ne.symm fc),aL]
 have at3:∀ t c0 f0,mk3 H P c' h'.objs.size t c0 f0 P=some t:=fun _ _ _=>by unfold mk3;rw[av (Ne.symm fP),av (Ne.symm cP),aL]
 have at4:∀ t c0 f0 b,b≠P->b≠c'->b≠h'.objs.size->mk3 H P c' h'.objs.size t c0 f0 b=H b:=fun _ _ _ b n1 n2 n3=>by unfold mk3;rw[av n3,av n2,av n1]
 have nP:∀ b,H b=none->b≠P:=fun b e z=>by rw[z,hP] at e;cases e
 have lt:∀ b o,s.heap.get? b=some o->b≠c'/\b≠h'.objs.size:=fun b o e=>by
  have l:=Heap.lt_size e
  exact ⟨fun z=>by rw[z] at l;exact absurd l (Nat.not_lt.mpr hge),fun z=>by rw[z] at l;exact absurd (Nat.lt_of_lt_of_le l hge) (Nat.not_lt.mpr (Nat.le_of_lt hlt))⟩
 have kp:∀ b o,b≠P->s.heap.get? b=some o->(h'.push fo).get? b=some o:=fun b o n e=>Heap.get?_push_of_some _ (hx b o n e)
 refine ⟨I.un ⟨fun b o e n _ _=>kp b o (nP b n) e,fun b o e n _ _=>⟨o.slots,kp b o (nP b n) e⟩,fun b o e n _=>?_,fun b o e _=>?_,fun b xs e=>cL hP hc hf e rfl,fun b o u e=>cL hP hc hf e rfl,fun b qs e=>?_⟩ fun b u e=>?_,?_,?_⟩
 ·rw[at4 _ _ _ b (nP b n) (lt b o e).1 (lt b o e).2];exact n
 ·by_cases z:b=P
  ·exact ⟨_,by rw[z];exact Heap.get?_push_of_some _ hT⟩
  ·exact ⟨o,kp b o z e⟩
 ·by_cases z:b=P
  ·subst z;rw[hP] at e;cases e;exact ⟨_,at3 _ _ _⟩
  ·exact ⟨#[],by rw[at4 _ _ _ b z (aC e hc) (aC e hf),e];simp⟩
 ·by_cases z1:b=h'.objs.size
  ·subst z1;rw[at1] at e;cases e;exact ⟨Heap.get?_push_size _ hfo,_,Heap.get?_push_size _ hfo⟩
  by_cases z2:b=c'
  ·subst z2;rw[at2] at e;cases e;exact ⟨Heap.get?_push_of_some _ ho,_,Heap.get?_push_of_some _ ho⟩
  by_cases z3:b=P
  ·subst z3;rw[at3] at e;cases e;exact Heap.get?_push_of_some _ hT
  rw[at4 _ _ _ b z3 z2 z1] at e
  refine (I.hok b u e).stay (fun d o hd q=>kp d o ?_ q) (fun d q=>cL hP hc hf q rfl) fun d xs q=>cL hP hc hf q rfl
  rcases hd with rfl | hd
  ·exact z3
  ·rintro rfl;rw[hP] at hd;cases hd
 ·refine ⟨⟨[],by simp,by simp⟩,fun a o e n t=>cL hP hc hf e t,fun a e=>?_⟩
  by_cases z1:a=h'.objs.size
  ·rw[z1];exact hf
  by_cases z2:a=c'
  ·rw[z2];exact hc
  by_cases z3:a=P
  ·subst z3;rw[at3] at e;cases e
  rw[at4 _ _ _ a z3 z2 z1] at e;exact e
 ·have sq:kM H (mk3 H P c' h'.objs.size (.tbl (ps++#[rawInt pos.line,rawInt pos.col,.ref c'])) (.frz oc (.own 0)) (.frz fo (.own 0))) :=
   ⟨fun a vs r=>r.elim (fun z=>.inl (cL hP hc hf z rfl)) fun ⟨o,z⟩=>.inr ⟨o,cL hP hc hf z rfl⟩,fun a vs r=>r.elim (fun z=>.inl (cL hP hc hf z rfl)) fun ⟨o,z⟩=>.inr ⟨o,cL hP hc hf z rfl⟩⟩
  refine R.tr sq (fun a ha=>?_) fun y hy c2 P2 e2=>?_
  ·obtain ⟨o,e,z⟩:=R.mu ha
   rw[e];exact cL hP hc hf e (by cases o<;>first | rfl | cases z)
  ·by_cases z:P2=P
   ·subst z
    obtain rfl:=uniq y hy c2 e2
    refine ⟨_,at3 _ _ _,?_,fun pos' v e=>?_⟩
    ·have:=TriplesOk_snoc pos.line pos.col (.ref c') ps.toList ht
     simpa using this
    ·have e':codeAmong pos' (ps.toList++[rawInt pos.line,rawInt pos.col,.ref c'])=some v:=by simpa using e
     rcases qI _ ht e' with q | q
     ·obtain ⟨c3,oc3,os3,t3,q1,q2,q3⟩:=hall pos' v q
      exact ⟨c3,oc3,os3,t3,q1,cL hP hc hf q2 rfl,q3⟩
     ·subst q
      exact ⟨c',oc,os,t,rfl,at2 _ _ _,hd,hq⟩
   ·obtain ⟨qs,e3,e4,e5⟩:=R.tb y hy c2 P2 e2
    refine ⟨qs,by rw[at4 _ _ _ P2 z (aC e3 hc) (aC e3 hf)];exact e3,e4,fun pos' v e=>?_⟩
    obtain ⟨c3,oc3,os3,t3,q1,q2,q3⟩:=e5 pos' v e
    exact ⟨c3,oc3,os3,t3,q1,cL hP hc hf q2 rfl,q3⟩
theorem xq {X:Cx}{pins:List (Addr×Obj)}{σ:L2.St}{H:Hp}{s:Shared}{m:List Addr}{h:BT.HH} (I:Inv X pins σ H s) (R:RH X.K m H h) {x:Str} (lx:LX X x) {pa:Arguments}{be:PySem.Expr}{scope:Scope}{lp:Pos}{ps:List Str} (hp:LPa pa ps)
 (hfree:∀ y∈scope.names,y.2=.free->X.env.scope.names.lookup y.1=some .cell) {Q:Value->Shared->Prop}{E:Value->Shared->Prop}
 (hQ:∀ f H3 s3,Made X pins σ m H h (tZ x) pa be scope (BC.cT X.env.cells scope.names []) f H3 s3->Q (.ref f) s3):wpAny (model X.prog X.w) X.A (eval (.Lambda pa be scope lp) X.env) Q E s:=by
 obtain ⟨c,P,tc,hcode,chd,uniq⟩:=lx.ex
 obtain ⟨ts,hP,ht,hall⟩:=R.tb x lx.mem c P tc
 have hPs:s.heap.get? P=some (PySem.W.tabObj ts):=I.hok _ _ hP
 have hg:=I.ok.mod.glob.keeps I.bk
 obtain ⟨bm,ob,b1,b2,b3,b4,b5,b6⟩:=lx.bm
 have b3':=I.bk _ _ b3
 have hgP:mainGlobals≠P:=fun q=>by
  obtain ⟨o,es,ep,e,hd,_⟩:=hg
  rw[q,hPs] at e;cases e;cases hd
 have hbP:bm≠P:=fun q=>by
  rw[q,hPs] at b3';cases b3';cases b4
 have hbG:bm≠mainGlobals:=fun q=>by
  obtain ⟨o,es,ep,e,hd,_⟩:=hg
  rw[q,e] at b3';cases b3';rw[hd] at b6;cases b6
 have hcl:closureFor scope X.env=pure (BC.cT X.env.cells scope.names []):=BC.kQ fun y hy e=>I.ok.has y.1 (.inl (hfree y hy e))
 have hB:s.heap.BuiltinsAt X.mg P:=⟨bm,ob,b1,b2,hbG,hbP,b3',b4,b5,b6⟩
 refine PySem.W.kla_eval (by cases hp<;>rfl) ?_
 rw[lx.ql]
 cases hq:codeAmong lp ts.toList with
 | none =>
  refine PySem.W.kla_makeFunction (mg:=X.mg) hcl I.ok.glob hg hcode (chd.keeps I.bk) hPs ht hq hgP hB fun c' ctv h' tk hx hge hlt hrec htb=>?_
  obtain ⟨c2,oc,vs,t,e2,hoc,hd,hv⟩:=hrec
  cases e2
  obtain ⟨z1,z2,z3⟩:=Ai (tk:=tk) (fo:=PySem.W.kla_obj "<lambda>" (tZ x) pa be scope (BC.cT X.env.cells scope.names []) ((X.mg "__name__").getD .none) c' ctv) I R lx tc hP ht hall uniq (f:=h'.objs.size) hq rfl hx hge hlt hoc hd hv htb
  have nf:h'.objs.size≠c':=Nat.ne_of_gt hlt
  have e1:=I.hok.fresh (Nat.le_of_lt (Nat.lt_of_le_of_lt hge hlt))
  have e2:=I.hok.fresh hge
  exact hQ _ _ _ ⟨z1,z2,z3,_,ctv,c',oc,vs,t,⟨aL,R.ef e1⟩,⟨by unfold mk3;rw[av (Ne.symm nf),aL],R.ef e2⟩,hd,hv⟩
 | some cv =>
  obtain ⟨c',oc,os,t,rfl,q2,q3,q4⟩:=hall _ _ hq
  refine PySem.W.kla_makeFunctionHit (mg:=X.mg) hcl I.ok.glob hg hcode (chd.keeps I.bk) hPs ht hq hB fun ctv h' tk hk hsz=>?_
  have e1:=I.hok.fresh hsz
  refine hQ _ _ _ ⟨I.laid (o:=.frz (PySem.W.kla_obj "<lambda>" (tZ x) pa be scope (BC.cT X.env.cells scope.names []) ((X.mg "__name__").getD .none) c' ctv) (.own 0)) (t':=tk) (fun b u e=>Heap.get?_push_of_some _ (hk b u e)) hsz ⟨Heap.get?_push_size _ rfl,_,Heap.get?_push_size _ rfl⟩,fO e1,R.new e1,_,ctv,c',oc,os,t,⟨aL,R.ef e1⟩,⟨wm e1 _ _ q2,R.nin q2 rfl⟩,q3,q4⟩
end BS
end
section
namespace BS
open PySem PySem.Spec PyProof.Rows L2
open Classical in
noncomputable def i6 (cl:List (Str×Addr)) (h:Heap) (H:Hp):Hp:=fun b=>if ∃ x,cl.lookup x=some b then some (.frz ((h.get? b).getD default) (.own 0)) else H b
section
variable {cl:List (Str×Addr)}{h:Heap}{H:Hp}{b:Addr}
theorem j5 {x:Str}{o:Obj} (e:cl.lookup x=some b) (g:h.get? b=some o):i6 cl h H b=some (.frz o (.own 0)):=by
 unfold i6;rw[if_pos ⟨x,e⟩,g];rfl
theorem eB (e:¬ ∃ x,cl.lookup x=some b):i6 cl h H b=H b:=if_neg e
theorem Aj (N:∀ x c,cl.lookup x=some c->H c=none):Le H (i6 cl h H):=fun a u e=>by
 rw[eB (fun ⟨x,q⟩=>by rw[N x a q] at e;cases e)];exact e
end
theorem j6 {cells:List (Str×Addr)}{y:Str}{d:Addr}:∀ {names:List (Str×NameKind)}{acc:List (Str×Addr)},(BC.cT cells names acc).lookup y=some d->acc.lookup y=some d\/(y,NameKind.free)∈names
 | [],acc,e=>.inl e
 | (n,k) :: r,acc,e=>by
  rw[BC.cT] at e
  split at e
  ·rename_i hk
   have hk:k=.free:=eq_of_beq hk
   split at e
   ·rename_i a ea
    rcases j6 e with q | q
    ·rw[List.lookup_cons] at q
     split at q
     ·rename_i hy
      have:y=n:=by simpa using hy
      subst this;subst hk
      exact .inr List.mem_cons_self
     ·exact .inl q
    ·exact .inr (List.mem_cons_of_mem _ q)
   ·rcases j6 e with q | q
    ·exact .inl q
    ·exact .inr (List.mem_cons_of_mem _ q)
  ·rcases j6 e with q | q
   ·exact .inl q
   ·exact .inr (List.mem_cons_of_mem _ q)
theorem Ea {cells:List (Str×Addr)}{y:Str}{d:Addr}{names:List (Str×NameKind)} (e:(BC.cT cells names []).lookup y=some d):(y,NameKind.free)∈names:=by
 rcases j6 e with q | q
 ·simp at q
 ·exact q
theorem RWs.le {P:Program}{w:World}{K:PySem.W.Frag}{m:List Addr}{H H':Hp} (q:Le H H') {vs:List V}{ws:List BT.W} (r:RWs P w K m H vs ws):RWs P w K m H' vs ws:=by
 induction r with
 | nil=>exact .nil
 | cons r t ih=>exact .cons (r.le q) ih
section
variable {F:FT}{G:Str->Option BT.W}
theorem Eb {P:Program}{w:World}{K:PySem.W.Frag}{m:List Addr}{H:Hp}{v:V}{x:BT.W}{cp:BT.Cp} (r:RW P w K m H v x) (e:BT.oK x=some cp):RA K m H v cp.w:=by
 cases r with
 | p r=>cases e;exact .p r
 | o h=>cases e;exact .o h
 | r h=>cases e
 | k _ _=>cases e
 | c _ _=>cases e
 | g _ _=>cases e
theorem pF {X:Cx}{pins:List (Addr×Obj)}{σ:L2.St}{H:Hp}{s:Shared}{m:List Addr}{g:BT.HH}{cl:List (Str×Addr)}{sc:Scope}{N:List Str}{sl:BT.Sl} (I:Inv X pins σ H s) (R:RH X.K m H g) (hsc:X.env.scope=sc) (hN:X.N=N) (S:RS X.prog X.w X.K m H σ sl)
 (hsub:∀ x c,cl.lookup x=some c->X.env.cells.lookup x=some c):∀ (fv:List (Nat×Str)) (cs:List BT.Cp),v8 sc N fv=true->(∀ q∈fv,∃ c,cl.lookup q.2=some c)->BT.caps sl fv=some cs->∃ cvs,fZ m (i6 cl s.heap H) cl (fv.map (·.2)) cvs/\RCs X.K m H cvs cs
 | [],cs,_,_,e=>by cases e;exact ⟨[],.nil,.nil⟩
 | q :: r,cs,hv,hc,e=>by
  simp only[v8,List.all_cons,Bool.and_eq_true] at hv
  rw[BT.tX] at e
  split at e
  ·rename_i w g1
   obtain ⟨cp,e1,e2⟩:=Option.bind_eq_some_iff.mp e
   obtain ⟨cs',e3,rfl⟩:=aR e2
   obtain ⟨cvs,c1,c2⟩:=pF I R hsc hN S hsub r cs' hv.2 (fun q hq=>hc q (List.mem_cons_of_mem _ hq)) e3
   obtain ⟨v,s1,rv⟩:=S.get _ _ g1
   obtain ⟨c,hcc⟩:=hc q List.mem_cons_self
   have hce:=hsub _ _ hcc
   obtain ⟨mm,hn,hl⟩:=I.loc
   have kc:X.env.scope.names.lookup q.2=some .cell:=by rw[hsc];exact eq_of_beq hv.1.2
   obtain ⟨u,ru,lk⟩:=hl q.1 q.2 v (by rw[hN];exact eq_of_beq hv.1.1) s1 (.inr (.inl kc))
   rcases lk with ⟨k,_⟩ | ⟨k,c',ec,o,ho,hd⟩
   ·have:X.env.scope.names.lookup q.2=some .local:=k
    rw[kc] at this;cases this
   ·rw[hce] at ec
    cases ec
    exact ⟨v :: cvs,.cons hcc ⟨j5 hcc ho,R.ef (I.freeC _ _ hce)⟩ hd ru c1,.cons (Eb rv e1) c2⟩
  ·cases e
theorem uB {m:Str}{ea:BT.HH->Option (List BT.W×BT.HH)}{L:Nat}{ocs:Option (List BT.Cp)}{x:BT.W}{h:BT.HH}{r:BT.W×BT.HH} (e:BT.qx F m ea L ocs x h=some r) :
 ∃ n c fs ws g cs,x=.o n/\BT.oat h n=some (c,fs)/\(BT.bP m fs).isNone=true/\ea h=some (ws,g)/\ocs=some cs/\F (.m c m) (.o n :: (ws++[.c (.l L) cs])) g=some r/\BT.noC [r.1]=true:=by
 cases x with
 | o n =>
  rw[BT.vN] at e
  cases g:BT.oat h n with
  | none=>rw[g] at e;cases e
  | some q =>
   obtain ⟨c,fs⟩:=q
   rw[g] at e
   simp only at e
   split at e
   ·rename_i c1
    obtain ⟨ws,g2,e1,e2⟩:=ao e
    cases ocs with
    | none=>cases e2
    | some cs =>
     rw[BT.tY] at e2
     obtain ⟨z,h2,e3,e4⟩:=ao e2
     refine ⟨n,c,fs,ws,g2,cs,rfl,g,c1,e1,rfl,?_⟩
     cases z with
     | c _ _=>cases e4
     | p _=>cases e4;exact ⟨e3,rfl⟩
     | r _=>cases e4;exact ⟨e3,rfl⟩
     | k _=>cases e4;exact ⟨e3,rfl⟩
     | o _=>cases e4;exact ⟨e3,rfl⟩
   ·cases e
 | p d=>cases e
 | r n=>cases e
 | k q=>cases e
 | c _ _=>cases e
noncomputable def Ec (X:Cx) (F:FT) (G:Str->Option BT.W) (as:BT.Es) (args:List PySem.Expr) (lam:PySem.Expr):Prop :=
 ∀ (pos:Pos) (pins:List (Addr×Obj)) (s:Shared) (σ:L2.St) (H:Hp) (m:List Addr) (sl:BT.Sl) (h:BT.HH) (ws:List BT.W) (g:BT.HH) (Q:List Value->Shared->Prop),Inv X pins σ H s->RH X.K m H h->RS X.prog X.w X.K m H σ sl->BT.evs F G as sl h=some (ws,g) →
  (∀ vs us H1 s1 m1,Inv X pins σ H1 s1->aq vs us->Ext m H m1 H1->RH X.K m1 H1 g->RWs X.prog X.w X.K m1 H1 vs ws->wpAny (model X.prog X.w) X.A (eval lam X.env) (fun u s2=>Q (us++[u]) s2) X.xe s1) →
  wpAny (model X.prog X.w) X.A (spliced (backTo pos (starEach args X.env))) Q X.xe s
theorem GZ {X:Cx}{pa:Arguments}{be:PySem.Expr}{scope:Scope}{lp:Pos}:Ec X F G .nil [.Lambda pa be scope lp] (.Lambda pa be scope lp):=by
 intro pos pins s σ H m sl h ws g Q I R S e k
 simp only[BT.evs] at e
 cases e
 show wpAny _ _ (spliced ((false,eval (.Lambda pa be scope lp) X.env) :: backTo pos (starEach [] X.env))) _ _ s
 exact Calls.spliced_cons (thn (k [] [] H s m I .nil (.refl _ _) R .nil) fun u s2 q=>Calls.spliced_nil q)
theorem G0 {X:Cx}{a:BT.E}{e:PySem.Expr}{pa:Arguments}{be:PySem.Expr}{scope:Scope}{lp:Pos} (hs:noStar e=true) (ha:PE X e (tD X F G a)):Ec X F G (.cons a .nil) [e,.Lambda pa be scope lp] (.Lambda pa be scope lp):=by
 intro pos pins s σ H m sl h ws g Q I R S ee k
 simp only[BT.evs] at ee
 obtain ⟨z,g1,e1,e2⟩:=ao ee
 simp only[BT.jG,BT.bZ,BT.gn] at e2
 cases e2
 rw[ak hs]
 show wpAny _ _ (spliced ((false,eval e X.env) :: backTo pos (starEach [.Lambda pa be scope lp] X.env))) _ _ s
 refine Calls.spliced_cons (thn (ha pins s σ H (fun v H1=>∃ m1,Ext m H m1 H1/\RH X.K m1 H1 g/\RW X.prog X.w X.K m1 H1 v z) I ⟨m,sl,h,z,g,R,S,e1,fun v H1 m1 x1 R1 r1=>⟨m1,x1,R1,r1⟩⟩) fun u s1 ⟨v,H1,I1,r1,m1,x1,R1,w1⟩=>?_)
 show wpAny _ _ (spliced ((false,eval (.Lambda pa be scope lp) X.env) :: backTo pos (starEach [] X.env))) _ _ s1
 exact Calls.spliced_cons (thn (k [v] [u] H1 s1 m1 I1 (.cons r1 .nil) x1 R1 (.cons w1 .nil)) fun u s2 q=>Calls.spliced_nil q)
theorem pG {X:Cx}{sc:Scope}{N:List Str} (O:Ok X F G sc N) (hf:∀ x,X.fn x=true) {o bt:BT.E}{m:Str}{as:BT.Es}{L:Nat}{fv:List (Nat×Str)}{oe be e0:PySem.Expr}{rest:List PySem.Expr}{apos cpos lp:Pos}{pa:Arguments}{scope:Scope}{ns ps:List Str}
 (hl:BT.nq L=some ⟨ns,ns,.ret bt⟩) (hp:LPa pa ps) (hn:ns=ps++fv.map (·.2)) (hk:mz ps (fv.map (·.2)) scope=true) (hv:v8 sc N fv=true) (ht:N.contains (BT.cQ (BT.vV L))=true) (hc:CE' scope ns bt be) (h3:aD oe=true) (h6:(apos.endLine==cpos.line)=true)
 (hO:PE X oe (tD X F G o)) (hst:au (e0 :: rest)=true) (hlen:(e0 :: rest).length < 20) (hS:Ec X F G as (e0 :: rest) (.Lambda pa be scope lp)) :
 PE X (.Call (.Attribute oe m apos) (e0 :: rest) [] cpos) (tD X F G (.methL o m as L fv)):=by
 have lx:=O.lamx hf _ ht
 have lf:=GV hk
 subst hn
 intro pins s σ H Q I q
 obtain ⟨m0,s',h,z,h',R,S,ee,post⟩:=q
 simp only[BT.ev] at ee
 obtain ⟨x,h1,e1,e2⟩:=ao ee
 obtain ⟨n,c,fs,ws,g,cs,rfl,e3,e4,e5,e6,e7,e8⟩:=uB e2
 obtain ⟨C,ga,fd,ps',k,hC,hM,hB,hR,ok⟩:=O.meth _ _ _ _ _ e7
 refine PySem.W.methodCall_KW (thn (hO pins s σ H (fun v H1=>∃ m1,Ext m0 H m1 H1/\RH X.K m1 H1 h1/\RW X.prog X.w X.K m1 H1 v (.o n)) I ⟨m0,s',h,_,h1,R,S,e1,fun v H1 m1 x1 R1 r1=>⟨m1,x1,R1,r1⟩⟩) fun u s1 ⟨v,H1,I1,rv,m1,x1,R1,w1⟩=>?_) (jv h3 hst hlen h6)
 cases w1 with
 | @o a _ ha =>
 obtain rfl:u=.ref a:=rv
 obtain ⟨C',dx,vs0,q1,q2,q3⟩:=R1.mC _ _ _ _ ha e3
 cases q2.cn.inj hC.cn
 refine fL I1 q1 hC.cls hM (q3.none e4) ?_
 have hst':=hst
 simp only[au,Bool.and_eq_true] at hst'
 refine PySem.W.callWith_K (first:=[.ref a]) (h₀:=X.base) I.ok.mod.kin hM.kp (hS cpos pins s1 σ H1 m1 s' h1 ws g _ I1 R1 (S.ext x1) e5 fun vs us H2 s2 m2 I2 rvs x2 R2 w2=>?_) (ak hst'.1) (aS hst'.2)
 have hfree:∀ y∈scope.names,y.2=.free->X.env.scope.names.lookup y.1=some .cell:=fun y hy e=>by
  have hm:=lf.all y hy e
  obtain ⟨p,hp1,hp2⟩:=List.mem_map.mp hm
  have:=List.all_eq_true.mp hv p hp1
  simp only[Bool.and_eq_true] at this
  rw[O.hsc,← hp2];exact eq_of_beq this.2
 refine xq I2 R2 lx hp hfree fun f H3 s3 M=>?_
 have I3:=M.inv
 have hsub:∀ y d,(BC.cT X.env.cells scope.names []).lookup y=some d->X.env.cells.lookup y=some d:=fun y d e=>BC.kR (fun _ _ z=>by simp at z) y d e
 have hfr:∀ y d,(BC.cT X.env.cells scope.names []).lookup y=some d->y∈fv.map (·.2):=fun y d e=>lf.all (y,.free) (Ea e) rfl
 have hhas:∀ p∈fv,∃ d,(BC.cT X.env.cells scope.names []).lookup p.2=some d:=fun p hp'=>by
  have hm:=(lf.fre p.2 (List.mem_map_of_mem hp')).2
  exact BC.kT hm (I3.ok.has p.2 (.inl (hfree _ hm rfl)))
 generalize BC.cT X.env.cells scope.names []=cl at M hsub hfr hhas
 have hcel:∀ y d,cl.lookup y=some d->X.s₀.heap.objs.size<=d:=fun y d e=>I3.ok.cab y d (hf y) (hsub y d e)
 have hnone:∀ y d,cl.lookup y=some d->H3 d=none:=fun y d e=>I3.freeC y d (hsub y d e)
 have hobj:∀ y d,cl.lookup y=some d->∃ o u,s3.heap.get? d=some o/\o.data=.cell u:=fun y d e=>by
  obtain ⟨u,ob,g1,g2⟩:=I3.cell y d (hsub y d e)
  exact ⟨ob,u,g1,g2⟩
 have hfrm:∀ y d,cl.lookup y=some d->d∉frs X.stack:=fun y d e hb=>by
  rcases List.mem_cons.mp (I3.kg d hb) with q | q
  ·exact I3.cne y d (hsub y d e) q
  ·obtain ⟨_,ob,g1,_⟩:=I3.ok.ig.mem q
   exact absurd (Heap.lt_size g1) (Nat.not_lt.mpr (hcel y d e))
 obtain ⟨cvs,cp,rc⟩:=pF I3 M.rh O.hsc O.hN ((S.ext x1).ext (x2.trans M.ext)) hsub fv cs hv hhas e6
 have le:Le H3 (i6 cl s3.heap H3):=Aj hnone
 obtain ⟨pm,ctv,c',oc,os,t,t1,t2,t3,t4⟩:=M.ex
 have la:gq m2 (i6 cl s3.heap H3) f L cvs:=⟨bt,ps,fv.map (·.2),pa,be,scope,cl,pm,ctv,c',oc,os,t,_,hl,hp,hk,hc,fun y y' d e e'=>I3.ok.inj _ _ _ (hsub _ _ e) (hsub _ _ e'),hfr,⟨le _ _ t1.1,t1.2⟩,⟨le _ _ t2.1,t2.2⟩,t3,t4,cp⟩
 have R4:RH X.K m2 (i6 cl s3.heap H3) g:=M.rh.le le
 have w4:RWs X.prog X.w X.K m2 (i6 cl s3.heap H3) (.ref a :: (vs++[.ref f])) (.o n :: (ws++[.c (.l L) cs])):=.cons (.o (x2.ix ha)) (RWs.app ((w2.ext M.ext).le le) (.cons (.c la (rc.tr le.sq)) .nil))
 have out:∀ b ob,X.base.get? b=some ob->¬ ∃ y,cl.lookup y=some b:=fun b ob e ⟨y,q⟩=>absurd (Heap.lt_size (I3.ok.bs b ob e).1) (Nat.not_lt.mpr (hcel y b q))
 have e04:iN X.prog X.w X.K X.mg X.base X.A X.stack s3 (i6 cl s3.heap H3):=by
  refine ⟨I3.ok.frames,I3.ok.mod,fun b ob e=>⟨(I3.bs b ob e).1,by rw[eB (out b ob e)];exact (I3.bs b ob e).2⟩,Nat.le_trans I3.ok.bsz I3.sz,I3.stack,fun b hb=>?_,fun b u e=>?_,I3.bare⟩
  ·rw[eB (fun ⟨y,q⟩=>hfrm y b q hb)];exact I3.mS b hb
  ·by_cases cc:∃ y,cl.lookup y=some b
   ·obtain ⟨y,q⟩:=cc
    obtain ⟨ob,uu,g1,g2⟩:=hobj y b q
    rw[j5 q g1] at e
    cases e
    exact ⟨g1,_,g1⟩
   ·rw[eB cc] at e
    exact (I3.hok b u e).stay (fun _ _ _ z=>z) (fun d z=>le _ _ z) fun d xs z=>le _ _ z
 have rv4:aq (V.ref a :: (vs++[.ref f])) (Value.ref a :: (us++[.ref f])):=.cons rfl (rvs.append (.cons rfl .nil))
 have sp4:spF X.prog X.w X.K (F (.m c m)) (V.ref a :: (vs++[.ref f])) (i6 cl s3.heap H3) (fun v5 H5=>∃ m5,Ext m2 (i6 cl s3.heap H3) m5 H5/\RH X.K m5 H5 h'/\RW X.prog X.w X.K m5 H5 v5 z) E0:=⟨m2,_,g,z,h',R4,w4,e7,fun v5 H5 m5 x5 R5 r5=>⟨m5,x5,R5,r5⟩⟩
 have hl4:(Value.ref a :: (us++[.ref f])).length=ps'.length:=by rw[← rv4.length];exact ok.len _ _ _ _ sp4
 have hb4:=hB s3 (Value.ref a :: (us++[.ref f])) I3.kIn (by rw[List.append_nil];exact hl4)
 rw[List.append_nil] at hb4
 have run4:=ok.run X.A X.stack s3 (i6 cl s3.heap H3) ⟨Value.ref a :: (us++[Value.ref f]),[]⟩ (Value.ref a :: (us++[Value.ref f])) _ _ E0 hR e04 hb4 rv4 sp4
 refine ⟨I3.kIn,?_⟩
 show wpAny (model X.prog X.w) X.A (call (.ref ga) (Value.ref a :: (us++[Value.ref f]))) _ _ s3
 refine wpAny_call (codeAny_mono run4 fun r s' hq=>?_)
 cases r with
 | error e=>exact False.elim hq
 | ok fl =>
  cases fl with
  | next=>exact False.elim hq
  | brk=>exact False.elim hq
  | cont=>exact False.elim hq
  | ret u =>
   obtain ⟨v5,H5,os5,bare5,un,hok5,rv5,m5,x5,R5,r5⟩:=hq
   have C5:cS cl H5:=fun y d e=>by
    obtain ⟨ob,uu,g1,g2⟩:=hobj y d e
    exact ⟨ob,uu,un.frzs _ _ _ (j5 e g1),g2⟩
   have nc:∀ b uu,H3 b=some uu->¬ ∃ y,cl.lookup y=some b:=fun b uu e ⟨y,q⟩=>by rw[hnone y b q] at e;cases e
   have un6:Un (frs X.stack) [] H3 (hid cl H5) s3.heap s'.heap:=by
    refine ⟨fun b ob e nn hb hx=>?_,fun b ob e nn hb hx=>?_,fun b ob e nn hx=>?_,fun b ob e hx=>un.there b ob e hx,fun b xs e=>?_,fun b ob uu e=>?_,fun b qs e=>?_⟩
    ·by_cases cc:∃ y,cl.lookup y=some b
     ·obtain ⟨y,q⟩:=cc
      exact (hok5 _ _ (un.frzs _ _ _ (j5 q e))).1
     ·exact un.keep b ob e (by rw[eB cc];exact nn) hb hx
    ·exact un.slot b ob e (by rw[eB (fun ⟨y,q⟩=>hfrm y b q hb)];exact nn) hb hx
    ·by_cases cc:∃ y,cl.lookup y=some b
     ·obtain ⟨y,q⟩:=cc;exact qE q
     ·exact eg (un.free b ob e (by rw[eB cc];exact nn) hx)
    ·rw[dP (nc _ _ e)];exact un.tups b xs (le _ _ e)
    ·rw[dP (nc _ _ e)];exact un.frzs b ob uu (le _ _ e)
    ·rw[dP (nc _ _ e)];exact un.tbls b qs (le _ _ e)
   have I6:=I3.Fj os5 un6 (rT C5 hok5 fun _ _ e=>e) bare5 (fun b zz=>absurd zz (by simp))
   have x6:Ext m2 H3 m5 (hid cl H5):=by
    obtain ⟨ex,hm,he⟩:=x5.pre
    have lno:∀ b,i6 cl s3.heap H3 b=none->H3 b=none:=fun b e=>by
     cases gg:H3 b with
     | none=>rfl
     | some uu=>rw[le _ _ gg] at e;cases e
    refine ⟨⟨ex,hm,fun b hb=>lno b (he b hb)⟩,fun b ob e nn tt=>?_,fun b e=>?_⟩
    ·rw[dP (nc _ _ e)];exact x5.keep b ob (le _ _ e) nn tt
    ·by_cases cc:∃ y,cl.lookup y=some b
     ·obtain ⟨y,q⟩:=cc;exact hnone y b q
     ·rw[dP cc] at e;exact lno b (x5.live b e)
   have r6:RW X.prog X.w X.K m5 (hid cl H5) v5 z:=by
    have:=RWs.tr C5.sq (.cons r5 .nil) e8
    cases this with
    | cons r _=>exact r
   exact ⟨v5,hid cl H5,I6,rv5,post v5 _ m5 ((x1.trans (x2.trans M.ext)).trans x6) (C5.rh R5) r6⟩
end
end BS
end
section
namespace BS
open PySem PySem.Spec PyProof.Rows L2
noncomputable def gD:PySem.Expr->Bool
 | .ListComp _ _ _ _=>false
 | .SetComp _ _ _ _=>false
 | .DictComp _ _ _ _ _=>false
 | _=>true
noncomputable def swB (sc scope:Scope) (x:Str) (np pos:Pos):Bool :=
 (if sc.kind.isAnnotationScope then ScopeKind.function else sc.kind)==.function&&sc.names.lookup x==some .local&&np.line==pos.line&&!(scope.names.any fun (n,k)=>n==x&&(k==.local||k==.cell))
mutual
inductive CS (sc:Scope) (N:List Str):BT.S->PySem.Stmt->Prop where
 | setL {i:Nat}{x m:Str}{o:BT.E}{as:BT.Es}{L:Nat}{fv:List (Nat×Str)}{call:PySem.Expr}{np p:Pos} (h1:N[i]?=some x) (h2:jR sc x=true) (hl:CL sc N o m as L fv call):CS sc N (.set i x (.methL o m as L fv)) (.Assign [.Name x np] call p)
 | retL {m:Str}{o:BT.E}{as:BT.Es}{L:Nat}{fv:List (Nat×Str)}{call:PySem.Expr}{p:Pos} (hl:CL sc N o m as L fv call):CS sc N (.ret (.methL o m as L fv)) (.Return (some call) p)
 | setc {i:Nat}{x:Str}{mu:Bool}{sr:BT.Sr}{sa:BT.Es}{tg:List Str}{fv:List (Nat×Str)}{cond:BT.Es}{elt:BT.E}{te iter elt':PySem.Expr}{ifs:List PySem.Expr}{scope:Scope}{pos np p:Pos} (h1:N[i]?=some x) (h3:(sc.names.lookup x==some .cell||swB sc scope x np pos)=true)
  (hk:iG sc N tg fv scope=true) (ht:oY (bI scope sc) tg te=true) (hz:oX sr te=true) (hs:iE iter=true) (hi:CI sc N sr sa iter) (hc:CC (bI scope sc) (tg++fv.map (·.2)) cond ifs) (he:CE' (bI scope sc) (tg++fv.map (·.2)) elt elt') :
  CS sc N (.set i x (.comp mu sr sa tg fv cond elt)) (.Assign [.Name x np] (.ListComp elt' [⟨te,iter,ifs,0⟩] scope pos) p)
 | set {i:Nat}{x:Str}{e:BT.E}{v:PySem.Expr}{np p:Pos} (h1:N[i]?=some x) (h2:jR sc x=true) (h3:gD v=true) (he:CE' sc N e v):CS sc N (.set i x e) (.Assign [.Name x np] v p)
 | put {i:Nat}{x:Str}{k e:BT.E}{ke v:PySem.Expr}{np sp p:Pos} (h1:N[i]?=some x) (h2:jH sc x=true) (h3:cR x=true) (h4:gD v=true) (h5:iT ke=true) (hk:CE' sc N k ke) (he:CE' sc N e v):CS sc N (.put i x k e) (.Assign [.Subscript (.Name x np) ke sp] v p)
 | putd {i:Nat}{x:Str}{k e:BT.E}{ke v:PySem.Expr}{np sp p:Pos} (h1:N[i]?=some x) (h2:jH sc x=true) (h3:cR x=true) (h4:gD v=true) (h5:iT ke=true) (hk:CE' sc N k ke) (he:CE' sc N e v):CS sc N (.putd i x k e) (.Assign [.Subscript (.Name x np) ke sp] v p)
 | aug {i:Nat}{x:Str}{o:BT.Bin}{op:Operator}{e:BT.E}{v:PySem.Expr}{np p:Pos} (h1:N[i]?=some x) (h2:jR sc x=true) (h3:wV o op=true) (he:CE' sc N e v):CS sc N (.aug i x o e) (.AugAssign (.Name x np) op v p)
 | setf {o e:BT.E}{f:Str}{oe v:PySem.Expr}{np p:Pos} (h1:attrName f=true) (h2:gD v=true) (ho:CE' sc N o oe) (he:CE' sc N e v):CS sc N (.setf o f e) (.Assign [.Attribute oe f np] v p)
 | augf {o e:BT.E}{f:Str}{b:BT.Bin}{op:Operator}{oe v:PySem.Expr}{np p:Pos} (h1:attrName f=true) (h3:wV b op=true) (ho:CE' sc N o oe) (he:CE' sc N e v):CS sc N (.augf o f b e) (.AugAssign (.Attribute oe f np) op v p)
 | ex {e:BT.E}{v:PySem.Expr}{p:Pos} (h:gD v=true) (he:CE' sc N e v):CS sc N (.ex e) (.Expr v p)
 | ret {e:BT.E}{v:PySem.Expr}{p:Pos} (he:CE' sc N e v):CS sc N (.ret e) (.Return (some v) p)
 | ife {c:BT.E}{a b:BT.S}{t:PySem.Expr}{xs ys:List PySem.Stmt}{p:Pos} (h:tOK c=true) (hc:CE' sc N c t) (ha:CSs sc N a xs) (hb:CSs sc N b ys):CS sc N (.ife c a b) (.If t xs ys p)
 | whl {c:BT.E}{b:BT.S}{t:PySem.Expr}{xs:List PySem.Stmt}{p:Pos} (h:tOK c=true) (hc:CE' sc N c t) (hb:CSs sc N b xs):CS sc N (.whl c b) (.While t xs [] p)
 | for {tg:List (Nat×Str)}{sr:BT.Sr}{sa:BT.Es}{b:BT.S}{te iter:PySem.Expr}{xs:List PySem.Stmt}{p:Pos} (ht:CT sc N tg te) (hi:CI sc N sr sa iter) (hz:oX sr te=true) (hs:iE iter=true) (hb:CSs sc N b xs):CS sc N (.for tg sr sa b) (.For te iter xs [] p)
 | brk {p:Pos}:CS sc N .brk (.Break p)
 | cnt {p:Pos}:CS sc N .cnt (.Continue p)
 | bad {st:PySem.Stmt}:CS sc N .bad st
inductive CSs (sc:Scope) (N:List Str):BT.S->List PySem.Stmt->Prop where
 | nil:CSs sc N .nil []
 | one {s:BT.S}{st:PySem.Stmt} (h:CS sc N s st):CSs sc N s [st]
 | cons {a b:BT.S}{st st2:PySem.Stmt}{r:List PySem.Stmt} (h:CS sc N a st) (hr:CSs sc N b (st2 :: r)):CSs sc N (.seq a b) (st :: st2 :: r)
end
noncomputable def i7 (X:Cx) (m:List Addr) (H:Hp) (fl:BT.Fl) (D:Ends):Prop:=match fl with
 | .nx s' h'=>∀ σ' H' m',Ext m H m' H'->RH X.K m' H' h'->RS X.prog X.w X.K m' H' σ' s'->D.nx σ' H'
 | .rt z h'=>∀ v H' m',Ext m H m' H'->RH X.K m' H' h'->RW X.prog X.w X.K m' H' v z->D.rt v H'
 | .bk s' h'=>∀ σ' H' m',Ext m H m' H'->RH X.K m' H' h'->RS X.prog X.w X.K m' H' σ' s'->D.bk σ' H'
 | .ct s' h'=>∀ σ' H' m',Ext m H m' H'->RH X.K m' H' h'->RS X.prog X.w X.K m' H' σ' s'->D.ct σ' H'
theorem i7.ext {X:Cx}{m m':List Addr}{H H':Hp}{fl:BT.Fl}{D:Ends} (x:Ext m H m' H') (p:i7 X m H fl D):i7 X m' H' fl D:=by
 cases fl<;>exact fun a b c y=>p a b c (x.trans y)
noncomputable def tDS (X:Cx) (F:FT) (G:Str->Option BT.W) (S:BT.S):TS:=fun D σ H =>
 ∃ m s h fl,RH X.K m H h/\RS X.prog X.w X.K m H σ s/\BT.evS F G S s h=some fl/\i7 X m H fl D
theorem PS.weak {X:Cx}{st:PySem.Stmt}{t t':TS} (h:PS X st t) (q:∀ D σ H,t' D σ H->t D σ H):PS X st t':=fun pins s σ H D I hw=>h pins s σ H D I (q _ _ _ hw)
theorem PSs.weak {X:Cx}{st:List PySem.Stmt}{t t':TS} (h:PSs X st t) (q:∀ D σ H,t' D σ H->t D σ H):PSs X st t':=fun pins s σ H D I hw=>h pins s σ H D I (q _ _ _ hw)
section
variable {F:FT}{G:Str->Option BT.W}
theorem Ed {X:Cx}{a b:BT.S} (D:Ends) (σ:L2.St) (H:Hp) (q:tDS X F G (.seq a b) D σ H):Fv (tDS X F G a) (tDS X F G b) D σ H:=by
 obtain ⟨m,s,h,fl,R,S,e,post⟩:=q
 simp only[BT.evS] at e
 cases g:BT.evS F G a s h with
 | none=>rw[g] at e;cases e
 | some f1 =>
  rw[g] at e
  refine ⟨m,s,h,f1,R,S,g,?_⟩
  cases f1 with
  | nx s1 h1=>exact fun σ1 H1 m1 x1 R1 S1=>⟨m1,s1,h1,fl,R1,S1,e,post.ext x1⟩
  | rt z h1=>cases e;exact post
  | bk s1 h1=>cases e;exact post
  | ct s1 h1=>cases e;exact post
theorem iy {X:Cx}{S0:BT.S}{a:BT.E}{k:BT.Sl->BT.W->BT.HH->Option BT.Fl} (he:∀ s h,BT.evS F G S0 s h=BT.bnd (BT.ev F G a s h) (k s)) {D:Ends}{σ:L2.St}{H:Hp} (q:tDS X F G S0 D σ H) {R':V->Hp->Prop}
 (h1:∀ m s h x fl v H1,RH X.K m H1 h->RS X.prog X.w X.K m H1 σ s->RW X.prog X.w X.K m H1 v x->k s x h=some fl->i7 X m H1 fl D->R' v H1):tD X F G a σ H R':=by
 obtain ⟨m,s,h,fl,R,S,ee,post⟩:=q
 rw[he] at ee
 obtain ⟨x,g,e1,e2⟩:=ao ee
 exact ⟨m,s,h,x,g,R,S,e1,fun v H1 m1 x1 R1 r1=>h1 m1 s g x fl v H1 R1 (S.ext x1) r1 e2 (post.ext x1)⟩
theorem r9 {x:Option (BT.W×BT.HH)}{k:Bool->BT.HH->Option BT.Fl}{fl:BT.Fl} (h:BT.tst x k=some fl):∃ b g,x=some (.p (.bl b),g)/\k b g=some fl:=by
 unfold BT.tst at h
 obtain ⟨w,g,e1,e2⟩:=ao h
 unfold BT.GC at e2
 cases w with
 | p d =>
  cases d<;>simp only at e2<;>try contradiction
  exact ⟨_,g,e1,e2⟩
 | r n=>cases e2
 | k q=>cases e2
 | c _ _=>cases e2
 | o q=>cases e2
theorem i8 {e:PySem.Expr}{t:Option PySem.Expr}{l:Nat}{env:Env} (h:gD e=true):swapsWith e t l env=pure false:=by
 cases e<;>first | rfl | cases h
theorem sf {e t:PySem.Expr}{l:Nat}{env:Env} (h:gD e=true):swapsWithSole [t] e l env=pure false:=i8 h
theorem kX {o i:PySem.Expr}{pos:Pos}{env:Env} (h:iT i=true):∀ v,assign (.Subscript o i pos) env v=(do
 let ov ← holding [v] (eval o env)
 let iv ← holding [v,ov] (eval i env)
 standAt pos
 holding [v,ov,iv] (setItem ov iv v)
 release [v,ov,iv] []):=by
 intro v
 cases i<;>first | rfl | cases h
theorem Ef {X:Cx}{c:BT.E}{b:BT.S} (D:Ends) (σ:L2.St) (H:Hp) (q:tDS X F G (.whl c b) D σ H):u0 (tDT X F G c) (tDS X F G b) D σ H:=by
 obtain ⟨m0,s,h,fl,R,S,e,post⟩:=q
 simp only[BT.evS] at e
 refine ⟨fun n σ H=>∃ m s h,RH X.K m H h/\RS X.prog X.w X.K m H σ s/\BT.cZ (BT.ev F G c) (BT.evS F G b) n s h=some fl/\i7 X m H fl D,⟨BT.turns,m0,s,h,R,S,e,post⟩,?_⟩
 rintro n σ1 H1 ⟨m,s,h,R,S,e,post⟩
 cases n with
 | zero=>cases e
 | succ n =>
  rw[BT.cZ] at e
  obtain ⟨t,g,e1,e2⟩:=r9 e
  refine ⟨m,s,h,t,g,R,S,e1,fun H2 m2 x2 R2=>?_⟩
  cases t with
  | false =>
   rw[BT.jr] at e2
   cases e2
   rw[if_neg (by decide)]
   exact post σ1 H2 m2 x2 R2 (S.ext x2)
  | true =>
   rw[BT.kG] at e2
   rw[if_pos rfl]
   refine ⟨fun σ' H'=>∃ m' s' h',RH X.K m' H' h'/\RS X.prog X.w X.K m' H' σ' s'/\BT.cZ (BT.ev F G c) (BT.evS F G b) n s' h'=some fl/\i7 X m' H' fl D,fun σ' H' ⟨m',s',h',a1,a2,a3,a4⟩=>⟨n,Nat.lt_succ_self n,m',s',h',a1,a2,a3,a4⟩,?_⟩
   cases gb:BT.evS F G b s g with
   | none=>rw[gb] at e2;cases e2
   | some f1 =>
    rw[gb] at e2
    refine ⟨m2,s,g,f1,R2,S.ext x2,gb,?_⟩
    cases f1 with
    | nx s1 h1=>exact fun σ3 H3 m3 x3 R3 S3=>⟨m3,s1,h1,R3,S3,e2,(post.ext x2).ext x3⟩
    | ct s1 h1=>exact fun σ3 H3 m3 x3 R3 S3=>⟨m3,s1,h1,R3,S3,e2,(post.ext x2).ext x3⟩
    | bk s1 h1=>cases e2;exact fun σ3 H3 m3 x3 R3 S3=>post σ3 H3 m3 (x2.trans x3) R3 S3
    | rt z h1=>cases e2;exact fun v H3 m3 x3 R3 r3=>post v H3 m3 (x2.trans x3) R3 r3
theorem Eg {X:Cx}{i:Nat}{x:Str}{o:BT.Bin}{e:BT.E} (D:Ends) (σ:L2.St) (H:Hp) (q:tDS X F G (.aug i x o e) D σ H):Fz i (tD X F G e) (DQ o) D σ H:=by
 obtain ⟨m,s,h,fl,R,S,ee,post⟩:=q
 simp only[BT.evS] at ee
 obtain ⟨y,g,e1,e2⟩:=ao ee
 unfold BT.GK at e2
 have hs:∃ d d' z,s[i]?=some (some (.p d))/\y=.p d'/\BT.jO o d d'=some z/\fl=.nx (s.set i (some (.p z))) g:=by
  cases g1:s[i]? with
  | none=>rw[g1] at e2;cases y<;>cases e2
  | some ow =>
   cases ow with
   | none=>rw[g1] at e2;cases y<;>cases e2
   | some w0 =>
    rw[g1] at e2
    cases w0<;>cases y<;>simp only at e2<;>try contradiction
    obtain ⟨z,e3,e4⟩:=aR e2
    exact ⟨_,_,z,rfl,rfl,e3,e4.symm⟩
 obtain ⟨d,d',z,g1,rfl,e3,rfl⟩:=hs
 obtain ⟨a,b,k,rfl,rfl,rfl⟩:=rS e3
 obtain ⟨v,hv,rv⟩:=S.get i _ g1
 have ev:v=.int a:=by cases rv with | p rv=>cases rv;rfl
 subst ev
 refine ⟨_,hv,m,s,h,_,g,R,S,e1,fun u H1 m1 x1 R1 r1=>?_⟩
 cases r1 with
 | p r1 =>
  cases r1
  exact ⟨a,b,k,rfl,rfl,e3,post _ H1 m1 x1 R1 ((S.ext x1).set (.p (.int k)))⟩
theorem uC {s:BT.Sl}{f:Str}{v x:BT.W}{h:BT.HH}{fl:BT.Fl} (e:BT.nj s f v x h=some fl):∃ n c fs,x=.o n/\BT.oat h n=some (c,fs)/\BT.attrOk v=true/\fs.length < 1000/\fl=.nx s (h.set n (.o c (BT.bN f v fs))):=by
 cases x with
 | o n =>
  rw[BT.vP] at e
  cases g:BT.oat h n with
  | none=>rw[g] at e;cases e
  | some q =>
   obtain ⟨c,fs⟩:=q
   rw[g] at e
   simp only at e
   split at e
   ·rename_i c1
    cases e
    simp only[Bool.and_eq_true,decide_eq_true_eq] at c1
    exact ⟨n,c,fs,rfl,g,c1.1,c1.2,rfl⟩
   ·cases e
 | p d=>cases e
 | r n=>cases e
 | k q=>cases e
 | c _ _=>cases e
theorem pH {X:Cx}{D:Ends}{m:List Addr}{H:Hp}{σ:L2.St}{s:BT.Sl}{h:BT.HH}{n:Nat}{c f:Str}{fs:List (Str×BT.W)}{y:BT.W}{v:V}{a C dx:Addr}{vs:List (Str×V)} (R:RH X.K m H h) (S:RS X.prog X.w X.K m H σ s) (hn:m[n]?=some a) (h1:H a=some (.ins C dx vs)) (h2:kH X.K c C) (h3:RFs X.K m H vs fs) (ra:RA X.K m H v y)
 (post:i7 X m H (.nx s (h.set n (.o c (BT.bN f y fs)))) D):D.nx σ (upd H a (.ins C dx (L2.bN f v vs))):=by
 have x:Ext m H m (upd H a (.ins C dx (L2.bN f v vs))):=iU (List.mem_of_getElem? hn)
 exact post σ _ m x (R.setC hn ⟨C,dx,_,aL,h2,(RFs.put ra h3).ext x⟩) (S.ext x)
theorem Ak {X:Cx}{o e:BT.E}{f:Str} (hf:attrName f=true) (D:Ends) (σ:L2.St) (H:Hp) (q:tDS X F G (.setf o f e) D σ H):FP X.K (tD X F G o) (tD X F G e) f D σ H:=by
 refine iy (k:=fun s=>BT.vQ (BT.ev F G o s) s f) (fun s h=>by simp only[BT.evS]) q fun m s h y fl v H1 R S r e1 post=>?_
 rw[BT.vR] at e1
 obtain ⟨x,g,e2,e3⟩:=ao e1
 obtain ⟨n,c,fs,rfl,g1,ok,hl,rfl⟩:=uC e3
 refine ⟨m,s,h,.o n,g,R,S,e2,fun u H2 m2 x2 R2 r2=>?_⟩
 cases r2 with
 | @o a _ hn =>
  obtain ⟨C,dx,vs,q1,q2,q3⟩:=R2.mC _ _ _ _ hn g1
  exact ⟨a,C,dx,vs,rfl,q1,q2.cls,q2.no f hf,by rw[q3.length];exact hl,pH R2 (S.ext x2) hn q1 q2 q3 ((r.ext x2).ra ok) (post.ext x2)⟩
theorem xr {ee:BT.EH}{s:BT.Sl}{f:Str}{op:BT.Bin}{x:BT.W}{h:BT.HH}{fl:BT.Fl} (e:BT.rE ee s f op x h=some fl):∃ n c fs d y g fs' z,x=.o n/\BT.oat h n=some (c,fs)/\BT.bP f fs=some (.p d)/\ee h=some (.p y,g)/\BT.oat g n=some (c,fs')/\BT.jO op d y=some z/\fs'.length < 1000/\fl=.nx s (g.set n (.o c (BT.bN f (.p z) fs'))):=by
 cases x with
 | o n =>
  rw[BT.zC] at e
  cases g1:BT.oat h n with
  | none=>rw[g1] at e;cases e
  | some q =>
   obtain ⟨c,fs⟩:=q
   rw[g1] at e
   simp only at e
   cases g2:BT.bP f fs with
   | none=>rw[g2] at e;cases e
   | some w0 =>
    rw[g2] at e
    cases w0 with
    | p d =>
     simp only at e
     obtain ⟨y,g,e1,e2⟩:=ao e
     cases y with
     | p y =>
      rw[BT.vS] at e2
      cases g3:BT.oat g n with
      | none=>rw[g3] at e2;cases e2
      | some q =>
       obtain ⟨c',fs'⟩:=q
       rw[g3] at e2
       simp only at e2
       cases g4:BT.jO op d y with
       | none=>rw[g4] at e2;cases e2
       | some z =>
        rw[g4] at e2
        simp only at e2
        split at e2
        ·rename_i c1
         cases e2
         obtain ⟨rfl,c1⟩:=c1
         exact ⟨n,c',fs,d,y,g,fs',z,rfl,g1,g2,e1,g3,g4,c1,rfl⟩
        ·cases e2
     | r n=>cases e2
     | k q=>cases e2
     | c _ _=>cases e2
     | o n=>cases e2
    | r n=>cases e
    | k q=>cases e
    | c _ _=>cases e
    | o n=>cases e
 | p d=>cases e
 | r n=>cases e
 | k q=>cases e
 | c _ _=>cases e
theorem Al {X:Cx}{o e:BT.E}{f:Str}{b:BT.Bin} (hf:attrName f=true) (D:Ends) (σ:L2.St) (H:Hp) (q:tDS X F G (.augf o f b e) D σ H):qY X.K (tD X F G o) (tD X F G e) (DQ b) f D σ H:=by
 refine iy (k:=fun s=>BT.rE (BT.ev F G e s) s f b) (fun s h=>by simp only[BT.evS]) q fun m s h y fl v H1 R S r e1 post=>?_
 obtain ⟨n,c,fs,d,y,g,fs',z,rfl,g1,g2,e2,g3,g4,hl,rfl⟩:=xr e1
 obtain ⟨i,j,k,rfl,rfl,rfl⟩:=rS g4
 cases r with
 | @o a _ hn =>
  obtain ⟨C,dx,vs,q1,q2,q3⟩:=R.mC _ _ _ _ hn g1
  obtain ⟨u,l,ra⟩:=q3.get g2
  have eu:u=.int i:=by cases ra with | p ra=>cases ra;rfl
  subst eu
  refine ⟨a,C,dx,vs,_,rfl,q1,q2.cls,q2.no f hf,l,m,s,h,_,g,R,S,e2,fun u2 H2 m2 x2 R2 r2=>?_⟩
  cases r2 with
  | p r2 =>
   cases r2
   obtain ⟨C',dx',vs',p1,p2,p3⟩:=R2.mC _ _ _ _ (x2.ix hn) g3
   cases p2.cn.inj q2.cn
   exact ⟨i,j,k,rfl,rfl,g4,dx',vs',p1,by rw[p3.length];exact hl,pH R2 (S.ext x2) (x2.ix hn) p1 p2 p3 (.p (.int k)) (post.ext x2)⟩
theorem Eh {X:Cx}{i:Nat}{x:Str}{k e:BT.E} (D:Ends) (σ:L2.St) (H:Hp) (q:tDS X F G (.put i x k e) D σ H):sY (tD X F G e) (Cr (tD X F G (.var i x)) (tD X F G k) BN) D σ H:=by
 refine iy (k:=fun s=>BT.Dr (BT.ev F G k s) s i) (fun s h=>by simp only[BT.evS]) q fun m s h y fl v H1 R S r e1 post=>?_
 unfold BT.Dr at e1
 cases y with
 | r n=>cases e1
 | k q=>cases e1
 | c _ _=>cases e1
 | o q=>cases e1
 | p d =>
  cases g:s[i]? with
  | none=>rw[g] at e1;cases e1
  | some o =>
   cases o with
   | none=>rw[g] at e1;cases e1
   | some wz =>
    cases wz with
    | p _=>rw[g] at e1;cases e1
    | k _=>rw[g] at e1;cases e1
    | c _ _=>rw[g] at e1;cases e1
    | o _=>rw[g] at e1;cases e1
    | r n =>
     rw[g] at e1
     simp only at e1
     obtain ⟨q,h2,e2,e3⟩:=ao e1
     refine ⟨m,s,h,.r n,h,R,S,by simp only[BT.ev,g],fun o H2 m2 x2 R2 r2=>⟨m2,s,h,q,h2,R2,S.ext x2,e2,fun ki H3 m3 x3 R3 r3=>?_⟩⟩
     unfold BT.BW at e3
     cases q with
     | r _=>cases e3
     | k _=>cases e3
     | c _ _=>cases e3
     | o _=>cases e3
     | p dk =>
      cases g2:BT.lat h2 n with
      | none=>rw[g2] at e3;cases dk<;>cases e3
      | some xs =>
       rw[g2] at e3
       cases dk with
       | int j =>
        simp only at e3
        cases g3:BT.place xs.length j with
        | none=>rw[g3] at e3;cases e3
        | some mm =>
         rw[g3] at e3
         cases e3
         have r2':=r2.ext x3
         cases r2' with
         | @r a _ hn =>
          cases r3 with
          | p r3 =>
           cases r3
           obtain ⟨us,hH,ru⟩:=R3.cell n a xs hn g2
           refine ⟨a,us,j,mm,rfl,rfl,hH,by rw[ru.length];exact g3,?_⟩
           have x4:Ext m3 H3 m3 (upd H3 a (.lst (us.set mm v))):=fG (List.mem_of_getElem? hn) hH
           cases r with
           | p r=>exact post σ _ m3 ((x2.trans x3).trans x4) (R3.set hn hH (RDs.set ((r.ext x2).ext x3) mm ru)) (((S.ext x2).ext x3).ext x4)
       | _=>cases e3
theorem Am {X:Cx}{i:Nat}{x:Str}{k e:BT.E} (D:Ends) (σ:L2.St) (H:Hp) (q:tDS X F G (.putd i x k e) D σ H):sY (tD X F G e) (Cr (tD X F G (.var i x)) (tD X F G k) B4) D σ H:=by
 refine iy (k:=fun s=>BT.rD (BT.ev F G k s) s i) (fun s h=>by simp only[BT.evS]) q fun m s h y fl v H1 R S r e1 post=>?_
 cases y with
 | r n=>cases e1
 | k q=>cases e1
 | c _ _=>cases e1
 | o q=>cases e1
 | p d =>
  rw[BT.zB] at e1
  cases g:s[i]? with
  | none=>rw[g] at e1;cases e1
  | some o =>
   cases o with
   | none=>rw[g] at e1;cases e1
   | some wz =>
    cases wz with
    | p _=>rw[g] at e1;cases e1
    | k _=>rw[g] at e1;cases e1
    | c _ _=>rw[g] at e1;cases e1
    | o _=>rw[g] at e1;cases e1
    | r n =>
     rw[g] at e1
     simp only at e1
     obtain ⟨q,h2,e2,e3⟩:=ao e1
     refine ⟨m,s,h,.r n,h,R,S,by simp only[BT.ev,g],fun o H2 m2 x2 R2 r2=>⟨m2,s,h,q,h2,R2,S.ext x2,e2,fun ki H3 m3 x3 R3 r3=>?_⟩⟩
     cases q with
     | r _=>cases e3
     | k _=>cases e3
     | c _ _=>cases e3
     | o _=>cases e3
     | p dk =>
      rw[BT.vO] at e3
      obtain ⟨kvs,e4,e5⟩:=Option.bind_eq_some_iff.mp e3
      obtain ⟨ky,e6,e7⟩:=Option.bind_eq_some_iff.mp e5
      split at e7
      case isFalse=>cases e7
      rename_i c
      cases e7
      have r2':=r2.ext x3
      cases r2' with
      | @r a _ hn =>
       cases r3 with
       | p r3 =>
        obtain ⟨us,hH,ru⟩:=R3.oZ n a kvs hn e4
        have:=dh
        have hl:=ru.length
        refine ⟨a,us,ky,rfl,xh r3 e6,hH,by omega,?_⟩
        have x4:Ext m3 H3 m3 (upd H3 a (.dK (putK us ky v))):=iU (List.mem_of_getElem? hn)
        cases r with
        | p r=>exact post σ _ m3 ((x2.trans x3).trans x4) (R3.setC hn ⟨_,aL,(ru.put ky (DY r3 e6) ((r.ext x2).ext x3)).ext x4⟩) (((S.ext x2).ext x3).ext x4)
end
end BS
end
section
namespace BS
open PySem PySem.Spec PyProof.Rows L2
section
variable {F:FT}{G:Str->Option BT.W}
theorem Ei {X:Cx}{tg:List (Nat×Str)}{sr:BT.Sr}{sa:BT.Es}{b:BT.S}{g:TG} (hg:GOk X tg g) (D:Ends) (σ:L2.St) (H:Hp) (q:tDS X F G (.for tg sr sa b) D σ H):FF (iD X F G sr sa) g (tDS X F G b) D σ H:=by
 obtain ⟨m,s,h,fl,R,S,e,post⟩:=q
 simp only[BT.evS] at e
 obtain ⟨ws,h1,e1,e2⟩:=ao e
 unfold BT.kFor at e2
 cases g1:(BT.rds ws h1).bind (BT.fq sr) with
 | none=>rw[g1] at e2;cases e2
 | some ds =>
  rw[g1] at e2
  simp only at e2
  split at e2
  ·rename_i ca
   refine ⟨m,s,h,ws,h1,ds,R,S,e1,g1,ca,fun H1 m1 J x1 R1 it=>?_⟩
   refine ⟨fun i n σ H=>i<=ds.length/\n=ds.length - i/\∃ m s h,Ext m1 H1 m H/\RH X.K m H h/\RS X.prog X.w X.K m H σ s/\BT.cg (BT.evS F G b) tg (ds.drop i) s h=some fl/\i7 X m H fl D,
    ⟨ds.length,Nat.zero_le _,rfl,m1,s,h1,.refl _ _,R1,S.ext x1,by rw[List.drop_zero];exact e2,post.ext x1⟩,?_⟩
   rintro i n σ2 H2 ⟨hi,rfl,m2,s2,h2,x2,R2,S2,e3,post2⟩
   by_cases c:i < ds.length
   ·refine .inr ⟨it.go m2 H2 i x2 c,_,fun σ' H' z=>⟨ds.length - (i+1),by omega,c,rfl,z⟩,fun x H3 y=>?_⟩
    obtain ⟨x3,k3,r3⟩:=it.yld m2 H2 h2 i x H3 ds[i] x2 R2 (List.getElem?_eq_getElem c) y
    rw[List.drop_eq_getElem_cons c,BT.cg] at e3
    cases g2:BT.target tg.length ds[i] with
    | none=>rw[g2] at e3;cases e3
    | some dd =>
     rw[g2] at e3
     simp only at e3
     have R3:=R2.ext x3 k3
     refine hg m2 H3 σ2 s2 x ds[i] dd _ (S2.ext x3) r3 g2 fun σ4 S4=>?_
     cases g3:BT.evS F G b (BT.sets tg dd s2) h2 with
     | none=>rw[g3] at e3;cases e3
     | some f1 =>
      rw[g3] at e3
      refine ⟨m2,_,h2,f1,R3,S4,g3,?_⟩
      cases f1 with
      | nx s5 h5=>exact fun σ5 H5 m5 x5 R5 S5=>⟨m5,s5,h5,(x2.trans x3).trans x5,R5,S5,e3,(post2.ext x3).ext x5⟩
      | ct s5 h5=>exact fun σ5 H5 m5 x5 R5 S5=>⟨m5,s5,h5,(x2.trans x3).trans x5,R5,S5,e3,(post2.ext x3).ext x5⟩
      | bk s5 h5=>cases e3;exact fun σ5 H5 m5 x5 R5 S5=>post2 σ5 H5 m5 (x3.trans x5) R5 S5
      | rt z h5=>cases e3;exact fun v H5 m5 x5 R5 r5=>post2 v H5 m5 (x3.trans x5) R5 r5
   ·have ei:i=ds.length:=by omega
    subst ei
    refine .inl ⟨it.stop m2 H2 x2,?_⟩
    rw[List.drop_length,BT.cg] at e3
    cases e3
    exact post2 σ2 H2 m2 (.refl _ _) R2 S2
  ·cases e2
theorem G1 {X:Cx}{sc:Scope}{N:List Str} (O:Ok X F G sc N) {x:Str}{np pos p:Pos}{elt':PySem.Expr}{gs:List Comprehension}{scope:Scope} (h:swB sc scope x np pos=true):swapsWith (.ListComp elt' gs scope pos) (some (.Name x np)) p.line X.env=pure true:=by
 have e:swapsWith (.ListComp elt' gs scope pos) (some (.Name x np)) p.line X.env=pure (swB X.env.scope scope x np pos):=rfl
 rw[e,O.hsc,h]
theorem An {sc:Scope}{x:Str} (c:(sc.names.lookup x==some .cell)=true):jR sc x=true:=by
 unfold jR
 rw[eq_of_beq c]
theorem xu {sc scope:Scope}{x:Str}{np pos:Pos} (h:swB sc scope x np pos=true):sc.names.lookup x=some .local:=by
 unfold swB at h
 simp only[Bool.and_eq_true] at h
 exact eq_of_beq h.1.1.2
theorem G3 {X:Cx}{sc:Scope}{N:List Str} (O:Ok X F G sc N) {x:Str}{np pos p:Pos}{elt':PySem.Expr}{gs:List Comprehension}{scope:Scope} (c:(sc.names.lookup x==some .cell)=true):swapsWith (.ListComp elt' gs scope pos) (some (.Name x np)) p.line X.env=pure false:=by
 have e:swapsWith (.ListComp elt' gs scope pos) (some (.Name x np)) p.line X.env=pure (swB X.env.scope scope x np pos):=rfl
 have z:swB sc scope x np pos=false:=by
  cases h:swB sc scope x np pos with
  | false=>rfl
  | true =>
   have:=xu h
   rw[eq_of_beq c] at this
   cases this
 rw[e,O.hsc,z]
theorem sCL {X:Cx}{sc:Scope}{N:List Str} (O:Ok X F G sc N) (hf:∀ x,X.fn x=true) {o:BT.E}{m:Str}{as:BT.Es}{L:Nat}{fv:List (Nat×Str)}{call:PySem.Expr} (h:CL sc N o m as L fv call):PE X call (tD X F G (.methL o m as L fv))/\gD call=true:=by
 cases h with
 | zero hl hp hn hk hv ht hc h3 h6 ho=>exact ⟨pG O hf hl hp hn hk hv ht hc h3 h6 (sE ho O) rfl (by simp) GZ,rfl⟩
 | one hl hp hn hk hv ht hc h3 h6 ho hs ha=>exact ⟨pG O hf hl hp hn hk hv ht hc h3 h6 (sE ho O) (by simp only[au,hs];rfl) (by simp) (G0 hs (sE ha O)),rfl⟩
theorem sSs {X:Cx}{sc:Scope}{N:List Str} (O:Ok X F G sc N) (hf:∀ x,X.fn x=true) {s:BT.S}{sts:List PySem.Stmt} (hh:CSs sc N s sts):PSs X sts (tDS X F G s) :=
 CSs.rec (motive_1:=fun s st _=>PS X st (tDS X F G s)) (motive_2:=fun s sts _=>PSs X sts (tDS X F G s))
  (@fun i x m o as L fv call np p h1 h2 hl=>PS.weak (qa (i:=i) O.nd (by rw[O.hN];exact h1) (iH O h2) (sCL O hf hl).1 (i8 (sCL O hf hl).2) (.inl (hf x))) fun D σ H q =>
   iy (k:=fun s=>BT.qy s i) (fun s h=>by simp only[BT.evS]) q fun m s h y fl v H1 R S r e1 post=>by
    simp only[BT.qy] at e1
    cases e1
    exact post _ H1 m (.refl _ _) R (S.set r))
  (fun hl=>PS.weak (uX (sCL O hf hl).1) fun D σ H q =>
   iy (k:=fun s=>BT.vU) (fun s h=>by simp only[BT.evS]) q fun m s h y fl v H1 R S r e1 post=>by
    simp only[BT.vU] at e1
    cases e1
    exact post v H1 m (.refl _ _) R r)
  (@fun i x mu sr sa tg fv cond elt te iter elt' ifs scope pos np p h1 h3 hk ht hz hs hi hc he=>by
   have K:∀ (D:Ends) (σ:L2.St) (H:Hp),tDS X F G (.set i x (.comp mu sr sa tg fv cond elt)) D σ H->sY (tD X F G (.comp mu sr sa tg fv cond elt)) (oi i) D σ H:=fun D σ H q =>
    iy (k:=fun s=>BT.qy s i) (fun s h=>by rw[BT.evS]) q fun m s h y fl v H1 R S r e1 post=>by
     simp only[BT.qy] at e1
     cases e1
     exact post _ H1 m (.refl _ _) R (S.set r)
   by_cases c:(sc.names.lookup x==some .cell)=true
   ·exact PS.weak (qa (i:=i) O.nd (by rw[O.hN];exact h1) (iH O (An c)) (sE (CE'.comp hk ht hz hs hi hc he) O) (G3 O c) (.inl (hf x))) K
   ·have h4:swB sc scope x np pos=true:=by
     rw[Bool.or_eq_true] at h3
     exact h3.resolve_left c
    exact PS.weak (Ah O hk ht hs (sCI hi O hz) (sCC hc) (fun X' O'=>sE he O') h1 (xu h4) (G1 O h4)) K)
  (@fun i x e v np p h1 h2 h3 he=>PS.weak (qa (i:=i) O.nd (by rw[O.hN];exact h1) (iH O h2) (sE he O) (i8 h3) (.inl (hf x))) fun D σ H q =>
   iy (k:=fun s=>BT.qy s i) (fun s h=>by simp only[BT.evS]) q fun m s h y fl v H1 R S r e1 post=>by
    simp only[BT.qy] at e1
    cases e1
    exact post _ H1 m (.refl _ _) R (S.set r))
  (fun h1 h2 h3 h4 h5 hk he=>PS.weak (uZ (sE he O) (uY (nG O h1 h2 h3) (sE hk O) set_list (kX h5)) (sf h4) rfl) Eh)
  (fun h1 h2 h3 h4 h5 hk he=>PS.weak (uZ (sE he O) (uY (nG O h1 h2 h3) (sE hk O) set_dict (kX h5)) (sf h4) rfl) Am)
  (fun h1 h2 h3 he=>PS.weak (Cs O.nd (by rw[O.hN];exact h1) (iH O h2) (sE he O) (rR h3) (.inl (hf _))) Eg)
  (fun h1 h2 ho he=>PS.weak (CG (sE ho O) (sE he O) (i8 h2)) (Ak h1))
  (fun h1 h3 ho he=>PS.weak (tN (sE ho O) (sE he O) (rR h3)) (Al h1))
  (fun h he=>PS.weak (yD (sE he O) (i8 h)) fun D σ H q =>
   iy (k:=fun s=>BT.kEx s) (fun s h=>by simp only[BT.evS]) q fun m s h y fl v H1 R S r e1 post=>by
    simp only[BT.kEx] at e1
    cases e1
    exact post σ H1 m (.refl _ _) R S)
  (fun he=>PS.weak (uX (sE he O)) fun D σ H q =>
   iy (k:=fun s=>BT.vU) (fun s h=>by simp only[BT.evS]) q fun m s h y fl v H1 R S r e1 post=>by
    simp only[BT.vU] at e1
    cases e1
    exact post v H1 m (.refl _ _) R r)
  (fun h hc ha hb ia ib=>PS.weak (Fy (sT hc O h).1 ia ib) fun D σ H q=>by
   obtain ⟨m,s,h,fl,R,S,e,post⟩:=q
   simp only[BT.evS] at e
   obtain ⟨t,g,e1,e2⟩:=r9 e
   refine ⟨m,s,h,t,g,R,S,e1,fun H1 m1 x1 R1=>?_⟩
   simp only[BT.kIf] at e2
   cases t with
   | true=>exact ⟨m1,s,g,fl,R1,S.ext x1,e2,post.ext x1⟩
   | false=>exact ⟨m1,s,g,fl,R1,S.ext x1,e2,post.ext x1⟩)
  (fun h hc hb ib=>PS.weak (u5 O.own (sT hc O h).1 ib) Ef)
  (fun ht hi hz hs hb ib=>by
   obtain ⟨g,hg1,hg2⟩:=sCT O ht (fun q _=>.inl (hf q.2))
   exact PS.weak (Cu O.own O.calm (sCI hi O hz) hg1 ib (rZ hs)) (Ei hg2))
  (PS.weak uW fun D σ H q=>by
   obtain ⟨m,s,h,fl,R,S,e,post⟩:=q
   simp only[BT.evS] at e
   cases e
   exact post σ H m (.refl _ _) R S)
  (PS.weak oh fun D σ H q=>by
   obtain ⟨m,s,h,fl,R,S,e,post⟩:=q
   simp only[BT.evS] at e
   cases e
   exact post σ H m (.refl _ _) R S)
  (fun pins s σ H D I q=>by
   obtain ⟨m,s,h,fl,R,S,e,post⟩:=q
   simp only[BT.evS] at e
   cases e)
  (PSs.weak yz fun D σ H q=>by
   obtain ⟨m,s,h,fl,R,S,e,post⟩:=q
   simp only[BT.evS] at e
   cases e
   exact post σ H m (.refl _ _) R S)
  (fun _ ih=>yC ih)
  (fun _ _ ih ir=>PSs.weak (uV ih ir) Ed)
  hh
end
end BS
end
section
namespace BS
open PySem PySem.Spec PyProof.Rows L2
section
variable {P:Program}{w:World}{K:PySem.W.Frag}{m m':List Addr}{H:Hp}
mutual
theorem RD.shrink (x:∀ a∈m,a∈m'):∀ {v:V}{d:BT.D},RD K m' H v d->RD K m H v d
 | _,_,.non=>.non
 | _,_,.bl b=>.bl b
 | _,_,.int i=>.int i
 | _,_,.str y h=>.str y h
 | _,_,.tup h r=>.tup (h.elim (fun q=>.inl ⟨q.1,fun z=>q.2 (x _ z)⟩) .inr) (RDs.shrink x r)
 | _,_,.lst h r=>.lst (h.elim (fun q=>.inl ⟨q.1,fun z=>q.2 (x _ z)⟩) .inr) (RDs.shrink x r)
theorem RDs.shrink (x:∀ a∈m,a∈m'):∀ {vs:List V}{ds:List BT.D},RDs K m' H vs ds->RDs K m H vs ds
 | _,_,.nil=>.nil
 | _,_,.cons r t=>.cons (RD.shrink x r) (RDs.shrink x t)
end
end
theorem RFs.shrink {K:PySem.W.Frag}{m ex:List Addr}{H H':Hp}:∀ {vs0 vs:List (Str×V)}{fs:List (Str×BT.W)},RFs K m H vs0 fs->RFs K (m++ex) H' vs fs->RFs K m H' vs fs
 | _,_,_,.nil,.nil=>.nil
 | _,_,_,.cons r0 t0,.cons r t=>by
  refine .cons ?_ (RFs.shrink t0 t)
  have back:∀ {n:Nat}{a b:Addr},m[n]?=some b->(m++ex)[n]?=some a->m[n]?=some a:=fun {n a b} h1 h2=>by
   rw[List.getElem?_append_left (getD_some h1)] at h2
   exact h2
  cases r with
  | p r=>exact .p (r.shrink fun a ha=>List.mem_append_left _ ha)
  | r h=>cases r0 with | r h0=>exact .r (back h0 h)
  | o h=>cases r0 with | o h0=>exact .o (back h0 h)
theorem RKs.shrink {K:PySem.W.Frag}{m m':List Addr}{H:Hp} (sub:∀ a∈m,a∈m') {vs:List (Key×V)}{kvs:List (BT.Ky×BT.D)} (r:RKs K m' H vs kvs):RKs K m H vs kvs:=by
 induction r with
 | nil=>exact .nil
 | cons hk r t ih=>exact .cons (hk.shrink sub) (r.shrink sub) ih
theorem jz {P:Program}{w:World}{K:PySem.W.Frag}{m m':List Addr}{H H':Hp}{h g h':BT.HH}{y z:BT.W}{v:V} (e:BT.fin h y g=some (z,h')) (R:RH K m H h) (x:Ext m H m' H') (R':RH K m' H' g) (r:RW P w K m' H' v y) :
 ∃ m2,Ext m H m2 H'/\RH K m2 H' h'/\RW P w K m2 H' v z:=by
 unfold BT.fin at e
 split at e
 ·cases e;exact ⟨m',x,R',r⟩
 ·split at e
  ·rename_i c1 c2
   obtain ⟨ex,rfl,hx⟩:=x.pre
   have sub:∀ a∈m,a∈m++ex:=fun a ha=>List.mem_append_left _ ha
   have x2:Ext m H m H':=⟨⟨[],by simp,by simp⟩,x.keep,x.live⟩
   have R2:RH K m H' h:=by
    refine ⟨R.nd,R.len,fun i a xs e1 e2=>?_,R'.tb⟩
    have hi:i < m.length:=getD_some e1
    have hi2:i < h.length:=by rw[← R.len];exact hi
    have e3:g[i]?=some xs:=by
     rw[← c2,List.getElem?_take_of_lt hi2] at e2
     exact e2
    have z:=R'.cl i a xs (by rw[List.getElem?_append_left hi];exact e1) e3
    cases xs with
    | l ys=>obtain ⟨vs,q1,q2⟩:=z;exact ⟨vs,q1,q2.shrink sub⟩
    | o c fs =>
     obtain ⟨C0,dx0,vs0,_,_,q0⟩:=R.cl i a _ e1 e2
     obtain ⟨C,dx,vs,q1,q2,q3⟩:=z
     exact ⟨C,dx,vs,q1,q2,q0.shrink q3⟩
    | d kvs=>obtain ⟨vs,q1,q2⟩:=z;exact ⟨vs,q1,q2.shrink sub⟩
   cases r with
   | p r=>cases e;exact ⟨m,x2,R2,.p (r.shrink sub)⟩
   | k _ _=>cases e
   | c _ _=>cases e
   | g _ _=>cases e
   | @o a n hn =>
    simp only at e
    split at e
    ·rename_i c3
     cases e
     refine ⟨m,x2,R2,.o ?_⟩
     rw[List.getElem?_append_left (by rw[R.len];exact c3)] at hn
     exact hn
    ·cases e;exact ⟨m++ex,x,R',.o hn⟩
   | @r a n hn =>
    simp only at e
    split at e
    ·rename_i c3
     cases e
     refine ⟨m,x2,R2,.r ?_⟩
     rw[List.getElem?_append_left (by rw[R.len];exact c3)] at hn
     exact hn
    ·rename_i c3
     obtain ⟨xs,e4,e5⟩:=aR e
     cases e5
     obtain ⟨vs,q1,q2⟩:=R'.cell n a xs hn e4
     refine ⟨m,x2,R2,.p (.lst (.inl ⟨.inl q1,fun z=>?_⟩) (q2.shrink sub))⟩
     obtain ⟨j,hj⟩:=List.getElem?_of_mem z
     have hjl:=getD_some hj
     have ej:(m++ex)[j]?=some a:=by rw[List.getElem?_append_left hjl];exact hj
     have:=mD R'.nd ej hn
     rw[R.len] at hjl
     omega
  ·cases e;exact ⟨m',x,R',r⟩
theorem pI {P:Program}{w:World}{K:PySem.W.Frag}{m:List Addr}{H:Hp}{N:List Str}{vs:List V}{ws:List BT.W} (r:RWs P w K m H vs ws):RS P w K m H (L2.start N vs) (BT.fu N.length ws):=by
 have hl:=r.length
 refine ⟨by simp[L2.start,BT.fu,hl],fun i y e=>?_⟩
 simp only[BT.fu] at e
 by_cases c:i < ws.length
 ·rw[List.getElem?_append_left (by simpa using c),List.getElem?_map] at e
  obtain ⟨z,e1,e2⟩:=aR e
  cases e2
  have:∀ {vs:List V}{ws:List BT.W}{i:Nat},RWs P w K m H vs ws->ws[i]?=some y->∃ v,vs[i]?=some v/\RW P w K m H v y:=by
   intro vs ws i r
   induction r generalizing i with
   | nil=>intro e;simp at e
   | cons r t ih =>
    intro e
    cases i with
    | zero=>simp at e;subst e;exact ⟨_,rfl,r⟩
    | succ i=>simpa using ih (by simpa using e)
  obtain ⟨v,h1,h2⟩:=this r e1
  refine ⟨v,?_,h2⟩
  unfold L2.start
  rw[List.getElem?_append_left (by simp;omega),List.getElem?_map,h1];rfl
 ·rw[List.getElem?_append_right (by simpa using c),List.getElem?_replicate] at e
  split at e<;>cases e
theorem Ej {P:Program}{w:World}{K:PySem.W.Frag}{mg:Str->Option Value}{base:Heap}{k L:Nat}{F:FT}{G:Str->Option BT.W}{bt:BT.E}{ns:List Str}{g:List BT.W->BT.HH->Option (BT.W×BT.HH)} (hT:BT.nq L=some ⟨ns,ns,.ret bt⟩)
 (hg:∀ ws h r,g ws h=some r->ws.length=ns.length/\BT.oV (BT.evS F G (.ret bt) (BT.fu ns.length ws) h) (BT.fin h)=some r)
 (hO:∀ (q:Str) (sc:Scope) (cl:List (Str×Addr)) (f c':Addr) (A:Around) (outer:List Env) (s:Shared) (H:Hp),ns.Nodup->bJ k (A.deeper (PySem.W.envX q sc s.heap.objs.size f (.ref c') cl))->Ok (wX P w K mg base ns q sc cl f c' A outer s H) F G sc ns):o4 P w K mg base (k+1) L g:=by
 intro A outer s H f us vs cvs m ws cs h z h' Q E hr e0 rv R rw nc la rc e post
 obtain ⟨bt',ps,fs,pa,be,sc,cl,pm,ctv,c',oc,os,t,q,l0,l1,l2,l3,l4,l5,l6,l7,l8,l9,l10⟩:=la
 rw[hT] at l0
 cases l0
 have lf:=GV l2
 obtain ⟨hwl,e1⟩:=hg _ _ _ e
 have C:=l10.cells l5
 have lP:=rv.length
 have dY:=rw.length
 have gP:=l10.len
 have EF:cvs.length=cs.length:=by
  clear e e1 hwl l10 gP
  induction rc with
  | nil=>rfl
  | cons _ _ ih=>simp[ih]
 have hu:us.length=ps.length:=by
  simp only[List.length_append,List.length_map] at hwl
  omega
 refine PySem.W.kla_callFunE hr.depth (e0.hok _ _ l6.1).1 rfl lf.co lf.ge rfl ⟨c',oc,os,t,rfl,(e0.hok _ _ l7.1).1,l8,l9⟩ ?_
 rw[zX l1 hu]
 refine wpAny_pure (wpAny_newFunctionEnv lf.cell (fun y hy=>lf.loc y.1 (List.of_mem_zip hy).1) (fun h1 hns hsb=>?_) lf.kd)
 have hk1:∀ b o,s.heap.get? b=some o->h1.get? b=some o:=fun b o e=>hsb.extBut b o (Nat.ne_of_lt (Heap.lt_size e)) (Heap.get?_push_of_some _ e)
 refine ⟨e0.mod.nolimit.keeps fun b o e=>hk1 b o (e0.bs b o e).1,?_⟩
 show codeAny _ _ (.expr be (PySem.W.envX q sc s.heap.objs.size f (.ref c') cl)) _ _
 refine PySem.W.kla_codeExpr ?_
 have I:=zY (q:=q) (f:=f) (c':=c') (tk:=s.toks+(ps.zip us).length) l1 lf l4 l5 l10 hr.hd e0 rv hu hns hk1
 have hr1:bJ k (A.deeper (PySem.W.envX q sc s.heap.objs.size f (.ref c') cl)):=hr.deeper _
 have O:=hO q sc cl f c' A outer s H lf.nd hr1
 simp only[BT.evS] at e1
 cases g1:BT.ev F G bt (BT.fu (ps++fs).length (ws++cs.map BT.Cp.w)) h with
 | none=>rw[g1] at e1;cases e1
 | some yg =>
  obtain ⟨y,gh⟩:=yg
  rw[g1] at e1
  have e2:BT.fin h y gh=some (z,h'):=e1
  have hs:RS P w K m (hid cl H) (vs.map some++cvs.map some) (BT.fu (ps++fs).length (ws++cs.map BT.Cp.w)):=by
   have r0:=pI (N:=ps++fs) ((rw.tr C.sq nc).app (RCs.ws (P:=P) (w:=w) (rc.tr C.sq)))
   have e3:L2.start (ps++fs) (vs++cvs)=vs.map some++cvs.map some:=by
    unfold L2.start
    simp only[List.length_append]
    rw[show ps.length+fs.length - (vs.length+cvs.length)=0 by omega]
    simp
   rw[e3] at r0;exact r0
  refine wpAny_mono (sE l3 O [] _ _ _ (fun v H'=>∃ m',Ext m (hid cl H) m' H'/\RH K m' H' gh/\RW P w K m' H' v y) I ⟨m,_,h,y,gh,C.rh R,hs,g1,fun v H' m' x' R' r'=>⟨m',x',R',r'⟩⟩) (fun u s' ⟨v,H',I',rv',m',x',R',r'⟩=>?_) (fun e s' hx=>False.elim hx)
  have N':∀ x c,cl.lookup x=some c->H' c=none:=fun x c e=>I'.freeC x c e
  have le:Le H' (ret cl H H'):=DT N'
  obtain ⟨m2,x2,R2,r2⟩:=jz e2 (C.rh R) x' R' r'
  have B:Un (frs outer) [] (hid cl H) H' s.heap s'.heap:=I'.base
  have nc':∀ b,H b=none->¬ ∃ y,cl.lookup y=some b:=fun b n ⟨y,qq⟩=>by
   obtain ⟨o,uu,k1,_⟩:=C y b qq
   rw[n] at k1;cases k1
  refine ⟨v,ret cl H H',I'.os,I'.bare,⟨fun b o e n hb hx=>B.keep b o e (eg n) hb hx,fun b o e n hb hx=>B.slot b o e (eg n) hb hx,fun b o e n hx=>?_,fun b o e hx=>B.there b o e hx,fun b xs e=>?_,fun b o uu e=>?_,fun b qs e=>?_⟩,fun b uu e=>?_,rv',post v _ m2 (C.DU N' x2 R2) (R2.le le) (r2.le le)⟩
  ·rw[eZ (nc' b n)];exact B.free b o e (eg n) hx
  ·rw[eZ (C.out e rfl)];exact B.tups b xs (C.hid e rfl)
  ·by_cases cc:∃ y,cl.lookup y=some b
   ·obtain ⟨y,qq⟩:=cc;rw[nI qq];exact e
   ·rw[eZ cc];exact B.frzs b o uu (by rw[dP cc];exact e)
  ·rw[eZ (C.out e rfl)];exact B.tbls b qs (C.hid e rfl)
  ·by_cases cc:∃ y,cl.lookup y=some b
   ·obtain ⟨y,qq⟩:=cc
    rw[nI qq] at e
    obtain ⟨o,u2,k1,k2⟩:=C y b qq
    rw[k1] at e
    cases e
    have k3:=B.keep b o (e0.hok _ _ k1).1 (qE qq) (fun hb=>by rw[e0.frf b hb] at k1;cases k1) (by simp)
    exact ⟨k3,_,k3⟩
   ·rw[eZ cc] at e
    exact (I'.hok b uu e).stay (fun _ _ _ q=>q) (fun d q=>le _ _ q) fun d xs q=>le _ _ q
noncomputable def jJ (K:PySem.W.Frag) (q:Str) (fd:FuncData) (fn:BT.Fn):Prop:=∀ y,fn.ns.contains (BT.cQ y)=true->q=y/\y∈BT.dN ∧
 (∃ c P,PySem.W.tabIn K y=some (c,P)/\fd.code=.ref c/\PySem.W.codeHdIn K c P=true/\∀ z∈BT.dN,∀ c2,PySem.W.tabIn K z=some (c2,P)->z=y) ∧
 ∃ bm ob,PySem.W.nsIn K mainGlobals "__builtins__"=some (some (.ref bm))/\bm≠builtinsNs/\K.lookup bm=some ob/\ob.cls=.type "module"/\ob.dict=some builtinsNs/\ob.data=.plain
structure Def (K:PySem.W.Frag) (mg:Str->Option Value) (x:Str) (fn:BT.Fn):Prop where
 ex:∃ (f:Addr) (fd:FuncData) (st:PySem.Stmt),mg x=some (.ref f)/\Fun K x x st f fd/\aj fn.ns fn.ps (aa st)/\Binds K fd fn.ps []/\CSs (aa st) fn.ns fn.body (ah st)/\jJ K x fd fn
structure xw (K:PySem.W.Frag) (mg:Str->Option Value) (c m:Str) (fn:BT.Fn):Prop where
 ex:∃ (C f:Addr) (fd:FuncData) (x qual:Str) (st:PySem.Stmt),kH K c C/\mg c=some (.ref C)/\tM K C m f/\(m="__init__"->Mk K C f)/\Fun K x qual st f fd/\aj fn.ns fn.ps (aa st)/\Binds K fd fn.ps []/\CSs (aa st) fn.ns fn.body (ah st)/\jJ K qual fd fn
structure Txt (P:Program) (w:World) (K:PySem.W.Frag) (mg:Str->Option Value) (T:BT.FK->Option BT.Fn) (G:Str->Option BT.W):Prop where
 defs:∀ x fn,T (.f x)=some fn->Def K mg x fn
 meths:∀ c m fn,T (.m c m)=some fn->xw K mg c m fn
 lams:∀ L fn,T (.l L)=some fn->BT.nq L=some fn/\∃ ns bt,fn=⟨ns,ns,.ret bt⟩/\∀ y,ns.contains (BT.cQ y)=false
 glob:∀ x z,G x=some z->∃ u v,mg x=some u/\RelV v u/\∀ m H,RW P w K m H v z
 blt:∀ x∈DI,mg x=none
theorem sj {T:BT.FK->Option BT.Fn}{G:Str->Option BT.W}{k:Nat}{x:BT.FK}{ws:List BT.W}{h:BT.HH}{r:BT.W×BT.HH} (e:BT.runN T G k x ws h=some r):∃ fn,T x=some fn:=by
 cases k with
 | zero=>cases e
 | succ k =>
  rw[BT.runN] at e
  cases q:T x with
  | none=>rw[q] at e;cases e
  | some fn=>exact ⟨fn,rfl⟩
theorem Ao {P:Program}{w:World}{K:PySem.W.Frag}{mg:Str->Option Value}{base:Heap}{x qual:Str}{st:PySem.Stmt}{f:Addr}{fd:FuncData}{N ps:List Str}{k:Nat}{sp:Sp} (F:Fun K x qual st f fd) (S:aj N ps (aa st)) (len:∀ vs H Q E,sp vs H Q E->vs.length=ps.length)
 (hbody:∀ (cdv:Value) (A:Around) (outer:List Env) (s:Shared) (H:Hp) (vs:List V) (Q:VK) (E:XK),fd.code=cdv->bJ k (A.deeper (envOfC qual (aa st) s.heap.objs.size f cdv))->Mod K mg base->sp vs H Q E →
  ∃ t,PSs (oz CX0 P w K mg base N qual (aa st) f cdv A outer s H E).nox (ah st) t/\t { nx:=fun _ H'=>Q .non H',rt:=Q } (L2.start N vs) H):dg P w K mg base CX0 (k+1) f fd ps sp:=by
 obtain ⟨oc,od,kV,doc,pm,an,cdv,ct,osl,rfl,lk,hcd⟩:=F.ex
 refine ⟨len,fun A outer s H args us vs Q E hr e0 hb r hs=>?_⟩
 have F1:dg P w K mg base CX0 (k+1) f (PySem.W.fnOf x qual (c9 st) (ah st) (aa st) .none kV doc pm an cdv ct) ps sp:=BK lk hcd S len fun A outer s H vs Q E hr hsp=>by
  obtain ⟨t,h,q⟩:=hbody cdv A outer s H vs Q E rfl hr e0.mod hsp
  exact ⟨t,h.nox,q⟩
 exact F1.run A outer s H args us vs Q E hr e0 hb r hs
theorem B5 {P:Program}{w:World}{K:PySem.W.Frag}{mg:Str->Option Value}{base:Heap}{T:BT.FK->Option BT.Fn}{G:Str->Option BT.W} (X:Txt P w K mg T G) {k:Nat}
 (ih:∀ (x:BT.FK) (fn:BT.Fn),T x=some fn->∀ (f:Addr) (fd:FuncData) (nm qual:Str) (st:PySem.Stmt),Fun K nm qual st f fd->aj fn.ns fn.ps (aa st)->CSs (aa st) fn.ns fn.body (ah st)->jJ K qual fd fn->dg P w K mg base CX0 (2*k) f fd fn.ps (spF P w K (BT.runN T G k x)))
 (il:∀ L,(∃ fn,T (.l L)=some fn)->o4 P w K mg base (2*k) L (BT.runN T G k (.l L)))
 {Y:Cx}{sc:Scope}{N:List Str} (e1:Y.prog=P) (e2:Y.w=w) (e3:Y.K=K) (e4:Y.mg=mg) (e5:Y.base=base) (hsc:Y.env.scope=sc) (hN:Y.N=N) (nd:Y.N.Nodup) (ca:Y.calm=true) (hr:bJ (2*k+1) Y.A) (own:PassesOwn (model Y.prog Y.w) Y.A Y.env Y.xe)
 (lx:(∀ x,Y.fn x=true)->∀ x,N.contains (BT.cQ x)=true->LX Y x):Ok Y (BT.runN T G k) G sc N:=by
 subst e1 e2 e3 e4 e5
 refine ⟨hsc,hN,nd,ca,?_,own,X.glob,fun g ws h r e=>?_,fun c g ws h r e=>?_,fun c ws h r e=>?_,X.blt,fun L ws h r e=>⟨2*k,hr.mono (Nat.le_succ _),il L (sj e)⟩,lx⟩
 ·have:=hr.un
  omega
 ·obtain ⟨fn',hTg⟩:=sj e
  obtain ⟨f',fd',st',a1,a2,a3,a4,a5,a6⟩:=(X.defs g fn' hTg).ex
  exact ⟨f',fd',fn'.ps,2*k,a1,a2.kp,a4,hr.mono (Nat.le_succ _),ih _ fn' hTg f' fd' g g st' a2 a3 a5 a6⟩
 ·obtain ⟨fn',hTg⟩:=sj e
  obtain ⟨C,f',fd',x',q',st',b1,b2,b3,b4,a2,a3,a4,a5,a6⟩:=(X.meths c g fn' hTg).ex
  exact ⟨C,f',fd',fn'.ps,2*k,b1,b3,a4,hr.mono (Nat.le_succ _),ih _ fn' hTg f' fd' x' q' st' a2 a3 a5 a6⟩
 ·obtain ⟨fn',hTg⟩:=sj e
  obtain ⟨C,f',fd',x',q',st',b1,b2,b3,b4,a2,a3,a4,a5,a6⟩:=(X.meths c _ fn' hTg).ex
  exact ⟨C,f',fd',fn'.ps,2*k,b1,b2,b4 rfl,a4,hr,ih _ fn' hTg f' fd' x' q' st' a2 a3 a5 a6⟩
theorem Aq {P:Program}{w:World}{K:PySem.W.Frag}{mg:Str->Option Value}{base:Heap}{T:BT.FK->Option BT.Fn}{G:Str->Option BT.W} (X:Txt P w K mg T G) :
 ∀ (k:Nat),(∀ (x:BT.FK) (fn:BT.Fn),T x=some fn->∀ (f:Addr) (fd:FuncData) (nm qual:Str) (st:PySem.Stmt),Fun K nm qual st f fd->aj fn.ns fn.ps (aa st)->CSs (aa st) fn.ns fn.body (ah st)->jJ K qual fd fn->dg P w K mg base CX0 (2*k) f fd fn.ps (spF P w K (BT.runN T G k x))) ∧
  ∀ L,(∃ fn,T (.l L)=some fn)->o4 P w K mg base (2*k) L (BT.runN T G k (.l L)):=by
 intro k
 induction k with
 | zero =>
  refine ⟨fun x fn hT f fd nm qual st h2 h3 h5 h6=>?_,fun L hL=>?_⟩
  ·have no:∀ vs H Q E,¬ spF P w K (BT.runN T G 0 x) vs H Q E:=fun vs H Q E h=>by
    obtain ⟨m,ws,h,z,h',_,_,e,_⟩:=h
    cases e
   exact ⟨fun vs H Q E h=>absurd h (no vs H Q E),fun A outer s H args us vs Q E _ _ _ _ h=>absurd h (no vs H Q E)⟩
  ·intro A outer s H f us vs cvs m ws cs h z h' Q E hr e0 rv R rw nc la rc e post
   cases e
 | succ k ihk =>
  obtain ⟨ih,il⟩:=ihk
  refine ⟨fun x fn hT f fd nm qual st h2 h3 h5 h6=>?_,fun L hL=>?_⟩
  ·show dg P w K mg base CX0 (2*k+1+1) f fd fn.ps (spF P w K (BT.runN T G (k+1) x))
   refine Ao h2 h3 (fun vs H Q E h=>?_) fun cdv A outer s H vs Q E hcd hr hM h=>?_
   ·obtain ⟨m,ws,h,z,h',R,r,e,post⟩:=h
    rw[BT.runN,hT] at e
    simp only at e
    split at e
    ·rename_i c;rw[r.length];exact c
    ·cases e
   ·obtain ⟨m,ws,h,z,h',R,r,e,post⟩:=h
    rw[BT.runN,hT] at e
    simp only at e
    split at e
    ·have O:Ok (oz CX0 P w K mg base fn.ns qual (aa st) f cdv A outer s H E).nox (BT.runN T G k) G (aa st) fn.ns:=by
      refine B5 X ih il rfl rfl rfl rfl rfl rfl rfl h3.nd rfl hr PassesOwn.never fun _ y hy=>?_
      obtain ⟨t1,t2,⟨c,Pt,t3,t4,t5,t6⟩,bm,ob,t7,t8,t9,t10,t11,t12⟩:=h6 y hy
      exact ⟨t2,⟨c,Pt,t3,hcd.symm.trans t4,PySem.W.codeHd_of_K hM.kin t5,t6⟩,by show qual++".<locals>."=_;rw[t1],bm,ob,PySem.W.mg_of hM.kin hM.glob t7,t8,hM.kin _ _ t9,t10,t11,t12⟩
     refine ⟨_,sSs O (fun _=>rfl) h5,?_⟩
     cases gg:BT.evS (BT.runN T G k) G fn.body (BT.fu fn.ns.length ws) h with
     | none=>rw[gg] at e;cases e
     | some fl =>
      rw[gg] at e
      refine ⟨m,_,h,fl,R,pI r,gg,?_⟩
      cases fl with
      | rt y g =>
       intro v H' m' x' R' r'
       obtain ⟨m2,y1,y2,y3⟩:=jz e R x' R' r'
       exact post v H' m2 y1 y2 y3
      | nx s' g =>
       intro σ' H' m' x' R' _
       obtain ⟨m2,y1,y2,y3⟩:=jz (v:=.non) e R x' R' (.p .non)
       exact post .non H' m2 y1 y2 y3
      | bk s' g=>cases e
      | ct s' g=>cases e
    ·cases e
  ·obtain ⟨fn,hT⟩:=hL
   obtain ⟨hl,ns,bt,rfl,nt⟩:=X.lams L fn hT
   show o4 P w K mg base (2*k+1+1) L (BT.runN T G (k+1) (.l L))
   refine Ej (F:=BT.runN T G k) (G:=G) hl (fun ws h r e=>?_) fun q sc cl f c' A outer s H nd hr=>B5 X ih il rfl rfl rfl rfl rfl rfl rfl nd rfl hr PassesOwn.never fun _ y hy=>absurd hy (by rw[nt y];decide)
   rw[BT.runN,hT] at e
   simp only at e
   split at e
   ·rename_i c;exact ⟨c,e⟩
   ·cases e
theorem Ek {P:Program}{w:World}{K:PySem.W.Frag}{mg:Str->Option Value}{base:Heap}{T:BT.FK->Option BT.Fn}{G:Str->Option BT.W} (X:Txt P w K mg T G) (k:Nat) (x:BT.FK) (fn:BT.Fn) (hT:T x=some fn) (f:Addr) (fd:FuncData) (nm qual:Str) (st:PySem.Stmt) (h2:Fun K nm qual st f fd) (h3:aj fn.ns fn.ps (aa st)) (h5:CSs (aa st) fn.ns fn.body (ah st)) (h6:jJ K qual fd fn) :
 dg P w K mg base CX0 (2*k) f fd fn.ps (spF P w K (BT.runN T G k x)):=(Aq X k).1 x fn hT f fd nm qual st h2 h3 h5 h6
end BS
end
section
namespace BT
open PySem
noncomputable def aV:Fn:=⟨["part"],["part"],
 (.seq (.ife (.cmp .eq (.idx (.glo "INNER_COUNTS") (.idx (.var 0 "part") (.cst (.int 0)))) (.cst (.int 0))) (.ret (.tup .nil)) .nil)
 (.ret (.slc (.var 0 "part") (.cons (.cst (.int 1)) .nil) .nil)))⟩
noncomputable def dW:Fn:=⟨[],[],
 (.ret (.tup (.cons (.cst (.int 0)) (.cons (.bin .mul (.tup (.cons (.cst (.int 0)) .nil)) (.bi .len false (.cons (.glo "LETTERS") .nil))) (.cons (.bin .mul (.tup (.cons (.cst (.int 0)) .nil)) (.glo "CELL_COUNT")) (.cons (.tup .nil) (.cons (.cst (.int 0)) (.cons (.tup .nil) .nil))))))))⟩
noncomputable def bQ:Fn:=⟨["term"],["term","parts","waiting","part"],
 (.seq (.set 1 "parts" (.lst true .nil))
 (.seq (.set 2 "waiting" (.lst true (.cons (.var 0 "term") .nil)))
 (.seq (.whl (.cmp .gt (.bi .len false (.cons (.var 2 "waiting") .nil)) (.cst (.int 0))) (.seq (.set 3 "part" (.me .pop (.var 2 "waiting") .nil))
 (.seq (.ex (.me .append (.var 1 "parts") (.cons (.var 3 "part") .nil)))
 (.ex (.me .extend (.var 2 "waiting") (.cons (.call "inner_sums" (.cons (.var 3 "part") .nil)) .nil))))))
 (.ret (.var 1 "parts")))))⟩
noncomputable def c5:Fn:=⟨["word","one","other"],["word","one","other"],
 (.seq (.ife (.cmp .eq (.var 0 "word") (.cst (.str "less"))) (.ret (.ite (.cmp .lt (.var 1 "one") (.var 2 "other")) (.cst (.int 1)) (.cst (.int 0)))) .nil)
 (.seq (.ife (.cmp .eq (.var 0 "word") (.cst (.str "add"))) (.ret (.bin .mod (.bin .add (.var 1 "one") (.var 2 "other")) (.glo "WORTH_COUNT"))) .nil)
 (.seq (.ife (.cmp .eq (.var 0 "word") (.cst (.str "sub"))) (.ret (.bin .mod (.bin .sub (.var 1 "one") (.var 2 "other")) (.glo "WORTH_COUNT"))) .nil)
 (.ret (.bin .mod (.bin .mul (.var 1 "one") (.var 2 "other")) (.glo "WORTH_COUNT"))))))⟩
noncomputable def bW:Fn:=⟨["thing"],["thing"],
 (.ret (.cmp .mem (.var 0 "thing") (.glo "LETTERS")))⟩
noncomputable def bC:Fn:=⟨["state","thing"],["state","thing"],
 (.seq (.ife (.call "is_name" (.cons (.var 1 "thing") .nil)) (.ret (.idx (.idx (.var 0 "state") (.glo "NAMES")) (.me .tindex (.glo "LETTERS") (.cons (.var 1 "thing") .nil)))) .nil)
 (.seq (.ex (.call "check_thing" (.cons (.var 1 "thing") .nil)))
 (.ret (.idx (.idx (.var 0 "state") (.glo "CELLS")) (.var 1 "thing")))))⟩
noncomputable def aY:Fn:=⟨["part","worths","state"],["part","worths","state","word","last"],
 (.seq (.set 3 "word" (.idx (.var 0 "part") (.cst (.int 0))))
 (.seq (.ife (.cmp .eq (.var 3 "word") (.cst (.str "num"))) (.ret (.idx (.var 0 "part") (.cst (.int 1)))) .nil)
 (.seq (.ife (.cmp .eq (.var 3 "word") (.cst (.str "name"))) (.ret (.call "worth_in" (.cons (.var 2 "state") (.cons (.idx (.var 0 "part") (.cst (.int 1))) .nil)))) .nil)
 (.seq (.set 4 "last" (.me .pop (.var 1 "worths") .nil))
 (.seq (.ife (.cmp .eq (.var 3 "word") (.cst (.str "cell"))) (.ret (.idx (.idx (.var 2 "state") (.glo "CELLS")) (.bin .mod (.var 4 "last") (.glo "CELL_COUNT")))) .nil)
 (.ret (.call "of_two" (.cons (.var 3 "word") (.cons (.me .pop (.var 1 "worths") .nil) (.cons (.var 4 "last") .nil))))))))))⟩
noncomputable def bR:Fn:=⟨["term","state"],["term","state","worths","part"],
 (.seq (.set 2 "worths" (.lst true .nil))
 (.seq (.for [(3,"part")] .rev (.cons (.call "laid_out" (.cons (.var 0 "term") .nil)) .nil) (.ex (.me .append (.var 2 "worths") (.cons (.call "worth_of" (.cons (.var 3 "part") (.cons (.var 2 "worths") (.cons (.var 1 "state") .nil)))) .nil))))
 (.ret (.idx (.var 2 "worths") (.cst (.int 0))))))⟩
noncomputable def cy:Fn:=⟨["term","state"],["term","state"],
 (.ret (.bin .mod (.call "reckoned" (.cons (.var 0 "term") (.cons (.var 1 "state") .nil))) (.glo "CELL_COUNT")))⟩
noncomputable def bX:Fn:=⟨["program","state"],["program","state","word"],
 (.seq (.ife (.cmp .ge (.idx (.var 1 "state") (.glo "ROW")) (.bi .len false (.cons (.var 0 "program") .nil))) (.ret (.cst (.bl true))) .nil)
 (.seq (.set 2 "word" (.idx (.idx (.var 0 "program") (.idx (.var 1 "state") (.glo "ROW"))) (.cst (.int 0))))
 (.seq (.ife (.cmp .eq (.var 2 "word") (.cst (.str "back"))) (.ret (.cmp .eq (.bi .len false (.cons (.idx (.var 1 "state") (.glo "CALLS")) .nil)) (.cst (.int 0)))) .nil)
 (.seq (.ife (.cmp .eq (.var 2 "word") (.cst (.str "call"))) (.ret (.cmp .ge (.bi .len false (.cons (.idx (.var 1 "state") (.glo "CALLS")) .nil)) (.glo "MOST_CALLS"))) .nil)
 (.ret (.cmp .eq (.var 2 "word") (.cst (.str "stop"))))))))⟩
noncomputable def aA:Fn:=⟨["row","state"],["row","state","word"],
 (.seq (.set 2 "word" (.idx (.var 0 "row") (.cst (.int 0))))
 (.seq (.ife (.or (.cmp .eq (.var 2 "word") (.cst (.str "jump"))) (.cmp .eq (.var 2 "word") (.cst (.str "call")))) (.ret (.idx (.var 0 "row") (.cst (.int 1)))) .nil)
 (.seq (.ife (.cmp .eq (.var 2 "word") (.cst (.str "back"))) (.ret (.idx (.idx (.var 1 "state") (.glo "CALLS")) (.neg (.cst (.int 1))))) .nil)
 (.seq (.ife (.and (.cmp .eq (.var 2 "word") (.cst (.str "unless"))) (.cmp .eq (.call "reckoned" (.cons (.idx (.var 0 "row") (.cst (.int 1))) (.cons (.var 1 "state") .nil))) (.cst (.int 0)))) (.ret (.idx (.var 0 "row") (.cst (.int 2)))) .nil)
 (.ret (.bin .add (.idx (.var 1 "state") (.glo "ROW")) (.cst (.int 1))))))))⟩
noncomputable def bw:Fn:=⟨["worths","number","worth"],["worths","number","worth"],
 (.ret (.bin .add (.bin .add (.slc (.var 0 "worths") .nil (.cons (.var 1 "number") .nil)) (.tup (.cons (.var 2 "worth") .nil))) (.slc (.var 0 "worths") (.cons (.bin .add (.var 1 "number") (.cst (.int 1))) .nil) .nil)))⟩
noncomputable def bD:Fn:=⟨["state","name","worth"],["state","name","worth"],
 (.ret (.call "with_worth" (.cons (.idx (.var 0 "state") (.glo "NAMES")) (.cons (.me .tindex (.glo "LETTERS") (.cons (.var 1 "name") .nil)) (.cons (.var 2 "worth") .nil)))))⟩
noncomputable def bY:Fn:=⟨["asked","number"],["asked","number"],
 (.ret (.ite (.cmp .lt (.var 1 "number") (.bi .len false (.cons (.var 0 "asked") .nil))) (.idx (.var 0 "asked") (.var 1 "number")) (.cst (.int 0))))⟩
noncomputable def cz:Fn:=⟨["program","asked","state"],["program","asked","state","row","word","behind"],
 (.seq (.set 3 "row" (.idx (.var 0 "program") (.idx (.var 2 "state") (.glo "ROW"))))
 (.seq (.set 4 "word" (.idx (.var 3 "row") (.cst (.int 0))))
 (.seq (.set 5 "behind" (.bi .list true (.cons (.var 2 "state") .nil)))
 (.seq (.put 5 "behind" (.glo "ROW") (.call "place_behind" (.cons (.var 3 "row") (.cons (.var 2 "state") .nil))))
 (.seq (.ife (.cmp .eq (.var 4 "word") (.cst (.str "set"))) (.put 5 "behind" (.glo "NAMES") (.call "with_name" (.cons (.var 2 "state") (.cons (.idx (.var 3 "row") (.cst (.int 1))) (.cons (.call "reckoned" (.cons (.idx (.var 3 "row") (.cst (.int 2))) (.cons (.var 2 "state") .nil))) .nil))))) (.ife (.cmp .eq (.var 4 "word") (.cst (.str "put"))) (.put 5 "behind" (.glo "CELLS") (.call "with_worth" (.cons (.idx (.var 2 "state") (.glo "CELLS")) (.cons (.call "cell_by" (.cons (.idx (.var 3 "row") (.cst (.int 1))) (.cons (.var 2 "state") .nil))) (.cons (.call "reckoned" (.cons (.idx (.var 3 "row") (.cst (.int 2))) (.cons (.var 2 "state") .nil))) .nil))))) (.ife (.cmp .eq (.var 4 "word") (.cst (.str "ask"))) (.seq (.put 5 "behind" (.glo "NAMES") (.call "with_name" (.cons (.var 2 "state") (.cons (.idx (.var 3 "row") (.cst (.int 1))) (.cons (.call "brought" (.cons (.var 1 "asked") (.cons (.idx (.var 2 "state") (.glo "ASKED")) .nil))) .nil)))))
 (.put 5 "behind" (.glo "ASKED") (.bin .add (.idx (.var 2 "state") (.glo "ASKED")) (.cst (.int 1))))) (.ife (.cmp .eq (.var 4 "word") (.cst (.str "say"))) (.put 5 "behind" (.glo "SAID") (.bin .add (.idx (.var 2 "state") (.glo "SAID")) (.tup (.cons (.call "reckoned" (.cons (.idx (.var 3 "row") (.cst (.int 1))) (.cons (.var 2 "state") .nil))) .nil)))) (.ife (.cmp .eq (.var 4 "word") (.cst (.str "call"))) (.put 5 "behind" (.glo "CALLS") (.bin .add (.idx (.var 2 "state") (.glo "CALLS")) (.tup (.cons (.bin .add (.idx (.var 2 "state") (.glo "ROW")) (.cst (.int 1))) .nil)))) (.ife (.cmp .eq (.var 4 "word") (.cst (.str "back"))) (.put 5 "behind" (.glo "CALLS") (.slc (.idx (.var 2 "state") (.glo "CALLS")) .nil (.cons (.neg (.cst (.int 1))) .nil))) .nil))))))
 (.ret (.bi .tuple false (.cons (.var 5 "behind") .nil))))))))⟩
theorem su {s t:String}:Str.ofString s=Str.ofString t↔s=t:=by
 constructor
 ·intro h
  rw[Str.ofString_eq_toList,Str.ofString_eq_toList] at h
  have h1:(s.toList.map Char.toNat)=(t.toList.map Char.toNat):=by
   have:=congrArg (fun x:Str=>x.cps.toList) h
   simpa using this
  have inj:∀ (a b:List Char),a.map Char.toNat=b.map Char.toNat->a=b:=by
   intro a
   induction a with
   | nil=>intro b h;cases b with
    | nil=>rfl
    | cons _ _=>simp at h
   | cons x xs ih=>intro b h;cases b with
    | nil=>simp at h
    | cons y ys =>
     simp only[List.map_cons,List.cons.injEq] at h
     have:x=y:=Char.toNat_inj.mp h.1
     rw[this,ih ys h.2]
  have h2:=inj _ _ h1
  exact String.toList_inj.mp h2
 ·intro h;rw[h]
@[simp] theorem IG (s t:String):(Str.ofString s==Str.ofString t)=(s==t):=by
 by_cases h:s=t
 ·subst h;simp
 ·have h1:¬ Str.ofString s=Str.ofString t:=fun e=>h (su.mp e)
  rw[beq_eq_false_iff_ne.mpr h1,beq_eq_false_iff_ne.mpr h]
@[simp] theorem JY (s t:String):(Str.ofString s=Str.ofString t)=(s=t):=propext su
@[simp] theorem MK {α:Type} (h:List α) (a:α) (r:List α):(h++a :: r)[h.length]?=some a:=by simp
@[simp] theorem G4 {α:Type} (h:List α) (a b:α) (r:List α):(h++a :: b :: r)[h.length+1]?=some b:=by
 rw[List.getElem?_append_right (by omega)];simp
@[simp] theorem ML {α:Type} (h:List α) (a x:α) (r:List α):(h++a :: r).set h.length x=h++x :: r:=by simp
@[simp] theorem MM {α:Type} (h:List α) (a b x:α) (r:List α):(h++a :: b :: r).set (h.length+1) x=h++a :: x :: r:=by
 rw[List.set_append_right _ _ (by omega)];simp
theorem af (h:HH) (w:W):fin h w h=some (w,h):=by simp[fin]
theorem iz (h g:HH) (d:D):fin h (.p d) (h++g)=some (.p d,h):=by
 unfold fin
 cases g with
 | nil=>simp
 | cons c g=>simp
@[simp] theorem JZ (h:HH) (a:Cl) (r:HH):lat (h++a :: r) h.length=mZ a:=by simp[lat]
@[simp] theorem MN (h:HH) (a b:Cl) (r:HH):lat (h++a :: b :: r) (h.length+1)=mZ b:=by
 unfold lat;rw[G4];rfl
@[simp] theorem MO (h:HH) (a:Cl) (r:HH):oat (h++a :: r) h.length=oM a:=by simp[oat]
@[simp] theorem MP (h:HH) (a b:Cl) (r:HH):oat (h++a :: b :: r) (h.length+1)=oM b:=by
 unfold oat;rw[G4];rfl
theorem Ar {h:HH}{n:Nat}{ys:List D} (e:lat h n=some ys) (c:Cl):lat (h.set n c) n=mZ c:=by
 unfold lat at e ⊢
 cases g:h[n]? with
 | none=>rw[g] at e;cases e
 | some q=>rw[List.getElem?_set_self',g];rfl
theorem B6 (h:HH) (xs:List D) (g:HH):fin h (.r h.length) (h++.l xs :: g)=some (.p (.lst xs),h):=by
 unfold fin;simp
theorem sy (h h':HH) (w:W) (e:h'.length=h.length):fin h w h'=some (w,h'):=by simp[fin,e]
structure Prg (T:FK->Option Fn) (G:Str->Option W):Prop where
 inner_sums:T "inner_sums"=some aV
 begun:T "begun"=some dW
 laid_out:T "laid_out"=some bQ
 of_two:T "of_two"=some c5
 worth_of:T "worth_of"=some aY
 is_name:T "is_name"=some bW
 worth_in:T "worth_in"=some bC
 reckoned:T "reckoned"=some bR
 cell_by:T "cell_by"=some cy
 is_over:T "is_over"=some bX
 place_behind:T "place_behind"=some aA
 with_worth:T "with_worth"=some bw
 with_name:T "with_name"=some bD
 brought:T "brought"=some bY
 stepped:T "stepped"=some cz
 LETTERS:G "LETTERS"=some (.p (.tup [.str "a",.str "b",.str "c",.str "d",.str "e",.str "f"]))
 CELL_COUNT:G "CELL_COUNT"=some (.p (.int 4))
 WORTH_COUNT:G "WORTH_COUNT"=some (.p (.int 10007))
 INNER:G "INNER_COUNTS"=some (.k [("num",.int 0),("name",.int 0),("cell",.int 1),("add",.int 2),("sub",.int 2),("mul",.int 2),("less",.int 2)])
 ROW:G "ROW"=some (.p (.int 0))
 NAMES:G "NAMES"=some (.p (.int 1))
 CELLS:G "CELLS"=some (.p (.int 2))
 CALLS:G "CALLS"=some (.p (.int 3))
 ASKED:G "ASKED"=some (.p (.int 4))
 SAID:G "SAID"=some (.p (.int 5))
 MOST_CALLS:G "MOST_CALLS"=some (.p (.int 6))
inductive Op where
 | add | sub | mul | less
noncomputable def Op.w:Op->String
 | .add=>"add" | .sub=>"sub" | .mul=>"mul" | .less=>"less"
inductive Nm where
 | a | b | c | d | e | f
noncomputable def Nm.w:Nm->String
 | .a=>"a" | .b=>"b" | .c=>"c" | .d=>"d" | .e=>"e" | .f=>"f"
noncomputable def Nm.ix:Nm->Nat
 | .a=>0 | .b=>1 | .c=>2 | .d=>3 | .e=>4 | .f=>5
theorem Nm.G5 (x:Nm):x.ix < 6:=by cases x<;>decide
inductive Sm where
 | num (n:Int)
 | nam (i:Nm)
 | cell (s:Sm)
 | two (o:Op) (s t:Sm)
noncomputable def Sm.enc:Sm->D
 | .num n=>.tup [.str "num",.int n]
 | .nam i=>.tup [.str "name",.str i.w]
 | .cell s=>.tup [.str "cell",s.enc]
 | .two o s t=>.tup [.str o.w,s.enc,t.enc]
noncomputable def Sm.size:Sm->Nat
 | .num _=>1
 | .nam _=>1
 | .cell s=>s.size+1
 | .two _ s t=>s.size+t.size+1
noncomputable def Sm.lay:Sm->List Sm
 | .num n=>[.num n]
 | .nam i=>[.nam i]
 | .cell s=>.cell s :: s.lay
 | .two o s t=>.two o s t :: (t.lay++s.lay)
noncomputable def Sm.subs:Sm->List Sm
 | .num _=>[]
 | .nam _=>[]
 | .cell s=>[s]
 | .two _ s t=>[s,t]
noncomputable def Wth (n:Int):Prop:=0<=n/\n<=10006
noncomputable def Sm.ok:Sm->Prop
 | .num n=>Wth n
 | .nam _=>True
 | .cell s=>s.ok
 | .two _ s t=>s.ok/\t.ok
theorem Sm.size_pos (s:Sm):1<=s.size:=by cases s<;>simp[Sm.size]
structure St where
 row:Nat
 names:List Int
 cells:List Int
 calls:List Nat
 asked:Nat
 said:List Int
noncomputable def ai (xs:List Int):List D:=xs.map D.int
noncomputable def cH (xs:List Nat):List D:=xs.map fun (n:Nat)=>D.int (n:Int)
noncomputable def St.enc (s:St):D:=.tup [.int s.row,.tup (ai s.names),.tup (ai s.cells),.tup (cH s.calls),.int s.asked,.tup (ai s.said)]
structure St.ok (s:St):Prop where
 nlen:s.names.length=6
 clen:s.cells.length=4
 nw:∀ x∈s.names,Wth x
 cw:∀ x∈s.cells,Wth x
noncomputable def two (o:Op) (x y:Int):Int:=match o with
 | .add=>(x+y) % 10007
 | .sub=>(x - y) % 10007
 | .mul=>(x*y) % 10007
 | .less=>if x < y then 1 else 0
noncomputable def Sm.val (st:St):Sm->Int
 | .num n=>n
 | .nam i=>st.names.getD i.ix 0
 | .cell s=>st.cells.getD (s.val st % 4).toNat 0
 | .two o s t=>BT.two o (s.val st) (t.val st)
theorem qJ {xs:List Int} (h:∀ x∈xs,Wth x) (i:Nat):Wth (xs.getD i 0):=by
 rw[List.getD_eq_getElem?_getD]
 cases e:xs[i]? with
 | none=>exact ⟨by decide,by decide⟩
 | some x=>exact h x (List.mem_of_getElem? e)
theorem G6 (o:Op) {x y:Int}:Wth (BT.two o x y):=by
 cases o<;>simp only[BT.two,Wth]
 ·omega
 ·omega
 ·omega
 ·split<;>decide
theorem Sm.pJ {st:St} (ho:st.ok):∀ {s:Sm},s.ok->Wth (s.val st)
 | .num _,h=>h
 | .nam i,_=>qJ ho.nw _
 | .cell _,_=>qJ ho.cw _
 | .two _ _ _,_=>G6 _
section
variable {T:FK->Option Fn}{G:Str->Option W}
theorem uD (P:Prg T G) (k:Nat) (s:Sm) (h:HH):runN T G (k+1) "inner_sums" [.p s.enc] h=some (.p (.tup (s.subs.map Sm.enc)),h):=by
 rw[run_eq P.inner_sums rfl]
 cases s with
 | two o s t=>cases o<;>simp[aV,P.INNER,Sm.enc,Sm.subs,af,Op.w]
 | _=>simp[aV,P.INNER,Sm.enc,Sm.subs,af]
theorem qK (P:Prg T G) (k:Nat) (o:Op) {x y:Int} (hx:Wth x) (h:HH) :
 runN T G (k+1) "of_two" [.p (.str o.w),.p (.int x),.p (.int y)] h=some (.p (.int (two o x y)),h):=by
 rw[run_eq P.of_two rfl]
 have b:big x=true:=by unfold big;exact decide_eq_true (by have h1:=hx.1;have h2:=hx.2;omega)
 cases o<;>simp[c5,P.WORTH_COUNT,af,Op.w,two,b]
 by_cases c:x < y<;>simp[c,af]
theorem jK (P:Prg T G) (k:Nat) (x:Nm) (h:HH):runN T G (k+1) "is_name" [.p (.str x.w)] h=some (.p (.bl true),h):=by
 rw[run_eq P.is_name rfl]
 cases x<;>simp[bW,P.LETTERS,af,Nm.w]
theorem i9 (P:Prg T G) (k:Nat) (st:St) (ho:st.ok) (x:Nm) (h:HH):runN T G (k+2) "worth_in" [.p st.enc,.p (.str x.w)] h=some (.p (.int (st.names.getD x.ix 0)),h):=by
 rw[run_eq P.worth_in rfl]
 have r:=jK P k x
 have l:=ho.nlen
 obtain ⟨row,names,cells,calls,asked,said⟩:=st
 simp only at l
 match names,l with
 | [x0,x1,x2,x3,x4,x5],_=>cases x<;>simp only[Nm.w] at r<;>simp[bC,r,St.enc,ai,af,Nm.w,Nm.ix,P.NAMES,P.LETTERS]
theorem gE (P:Prg T G) (k:Nat) (st:St) (ho:st.ok) (n:Nat) (h:HH) :
 (∀ i,runN T G (k+3) "worth_of" [.p (Sm.num i).enc,.r n,.p st.enc] h=some (.p (.int i),h)) ∧
 (∀ i,runN T G (k+3) "worth_of" [.p (Sm.nam i).enc,.r n,.p st.enc] h=some (.p (.int (st.names.getD i.ix 0)),h)):=by
 refine ⟨fun i=>?_,fun i=>?_⟩<;>rw[run_eq P.worth_of rfl]
 ·simp[aY,Sm.enc,af]
 ·have r:=i9 P k st ho i
  simp[aY,Sm.enc,af,r]
theorem kY (P:Prg T G) (k:Nat) (st:St) (ho:st.ok) (n:Nat) (h:HH) (s:Sm) (ws:List D) (v:Int) (e:lat h n=some (ws++[.int v])) (hv:0<=v) :
 runN T G (k+1) "worth_of" [.p (Sm.cell s).enc,.r n,.p st.enc] h=some (.p (.int (st.cells.getD (v % 4).toNat 0)),h.set n (.l ws)):=by
 rw[run_eq P.worth_of rfl]
 have l:=ho.clen
 obtain ⟨row,names,cells,calls,asked,said⟩:=st
 simp only at l
 match cells,l with
 | [x0,x1,x2,x3],_ =>
  have c:v % 4=0\/v % 4=1\/v % 4=2\/v % 4=3:=by omega
  rcases c with c | c | c | c<;>simp[aY,Sm.enc,St.enc,ai,P.CELLS,P.CELL_COUNT,e,c,sy]
theorem lK (P:Prg T G) (k:Nat) (st:St) (n:Nat) (h:HH) (o:Op) (s t:Sm) (ws:List D) (x y:Int) (hx:Wth x) (e:lat h n=some (ws++[.int x,.int y])) :
 runN T G (k+2) "worth_of" [.p (Sm.two o s t).enc,.r n,.p st.enc] h=some (.p (.int (two o x y)),h.set n (.l ws)):=by
 rw[run_eq P.worth_of rfl]
 have e3:lat (h.set n (.l (ws++[.int x]))) n=some (ws++[.int x]):=Ar e _
 have e1:(ws++[D.int x,D.int y]).getLast?=some (.int y):=by simp
 have e2:(ws++[D.int x,D.int y]).dropLast=ws++[.int x]:=by simp
 have r:=fun hh=>qK P k o (x:=x) (y:=y) hx hh
 cases o<;>simp only[Op.w] at r<;>simp[aY,Sm.enc,e,e1,e2,e3,Op.w,r,sy,List.set_set]
noncomputable def loC:E:=.cmp .gt (.bi .len false (.cons (.var 2 "waiting") .nil)) (.cst (.int 0))
noncomputable def loB:S:=.seq (.set 3 "part" (.me .pop (.var 2 "waiting") .nil))
 (.seq (.ex (.me .append (.var 1 "parts") (.cons (.var 3 "part") .nil)))
 (.ex (.me .extend (.var 2 "waiting") (.cons (.call "inner_sums" (.cons (.var 3 "part") .nil)) .nil))))
noncomputable def sizes (l:List Sm):Nat:=(l.map Sm.size).sum
theorem qL (s:Sm) (l:List Sm):sizes (s.subs.reverse++l)+1=sizes (s :: l):=by
 cases s<;>simp[sizes,Sm.subs,Sm.size]<;>omega
theorem xy (s:Sm) (l:List Sm):(s :: l).flatMap Sm.lay=s :: (s.subs.reverse++l).flatMap Sm.lay:=by
 cases s<;>simp[Sm.lay,Sm.subs,List.flatMap_cons]
theorem As (s:Sm):s.subs.length<=2:=by cases s<;>simp[Sm.subs]
theorem mJ (l:List Sm):l.length<=sizes l:=by
 induction l with
 | nil=>simp[sizes]
 | cons s l ih =>
  have h1:=s.size_pos
  simp only[sizes,List.map_cons,List.sum_cons,List.length_cons] at ih ⊢
  omega
theorem Au (P:Prg T G) (k:Nat) (h:HH) (t0:W):∀ (m:Nat) (stk:List Sm) (ps:List D) (x:Option W),sizes stk<=m->ps.length+sizes stk<=50000 →
 ∃ x',cZ (ev (runN T G (k+1)) G loC) (evS (runN T G (k+1)) G loB) (m+1) [some t0,some (.r h.length),some (.r (h.length+1)),x] (h++[.l ps,.l (stk.reverse.map Sm.enc)]) =
  some (.nx [some t0,some (.r h.length),some (.r (h.length+1)),x'] (h++[.l (ps++(stk.flatMap Sm.lay).map Sm.enc),.l []])):=by
 intro m
 induction m with
 | zero =>
  intro stk ps x hs _
  have:stk=[]:=by
   have:=mJ stk
   exact List.eq_nil_of_length_eq_zero (by omega)
  subst this
  exact ⟨x,by simp[cZ,loC,rd]⟩
 | succ m ih =>
  intro stk ps x hs hl
  cases stk with
  | nil=>exact ⟨x,by simp[cZ,loC,rd]⟩
  | cons s l =>
   have e:=qL s l
   obtain ⟨x',q⟩:=ih (s.subs.reverse++l) (ps++[s.enc]) (some (.p s.enc)) (by omega) (by simp only[List.length_append,List.length_singleton];omega)
   refine ⟨x',?_⟩
   have r:=uD P k s
   have l1:l.length+s.subs.length<=100000:=by
    have h1:=As s
    have h2:=mJ l
    have h3:sizes (s :: l)=s.size+sizes l:=by simp[sizes]
    omega
   have c1:(0:Int) < (l.length:Int)+1:=by omega
   have l2:ps.length < 100000:=by omega
   have hc:ev (runN T G (k+1)) G loC [some t0,some (.r h.length),some (.r (h.length+1)),x] (h++[.l ps,.l ((s :: l).reverse.map Sm.enc)])=some (.p (.bl true),h++[.l ps,.l ((s :: l).reverse.map Sm.enc)]):=by
    simp[loC,rd,c1]
   have hb:evS (runN T G (k+1)) G loB [some t0,some (.r h.length),some (.r (h.length+1)),x] (h++[.l ps,.l ((s :: l).reverse.map Sm.enc)]) =
    some (.nx [some t0,some (.r h.length),some (.r (h.length+1)),some (.p s.enc)] (h++[.l (ps++[s.enc]),.l ((s.subs.reverse++l).reverse.map Sm.enc)])):=by
    simp[loB,r,l1,l2]
   rw[cZ,hc,fN,kG,hb,dS,q,xy,List.map_cons,List.append_assoc,List.singleton_append]
theorem kZ:bQ=⟨["term"],["term","parts","waiting","part"],.seq (.set 1 "parts" (.lst true .nil))
 (.seq (.set 2 "waiting" (.lst true (.cons (.var 0 "term") .nil))) (.seq (.whl loC loB) (.ret (.var 1 "parts"))))⟩:=rfl
theorem nK (P:Prg T G) (k:Nat) (s:Sm) (hs:s.size<=40000) (h:HH):runN T G (k+2) "laid_out" [.p s.enc] h=some (.p (.lst (s.lay.map Sm.enc)),h):=by
 rw[run_eq P.laid_out rfl]
 obtain ⟨x',q⟩:=Au P k h (.p s.enc) 99999 [s] [] none (by simp only[sizes,List.map_cons,List.map_nil,List.sum_cons,List.sum_nil];omega) (by simp only[sizes,List.map_cons,List.map_nil,List.sum_cons,List.sum_nil,List.length_nil];omega)
 simp only[List.flatMap_cons,List.flatMap_nil,List.append_nil,List.nil_append,List.reverse_singleton,List.map_cons,List.map_nil] at q
 rw[kZ]
 simp[turns,q,B6]
noncomputable def rkB:S:=.ex (.me .append (.var 2 "worths") (.cons (.call "worth_of" (.cons (.var 3 "part") (.cons (.var 2 "worths") (.cons (.var 1 "state") .nil)))) .nil))
theorem Av (P:Prg T G) (k:Nat) (h:HH) (t0:W) (st:St) (ho:st.ok):∀ (s:Sm),s.ok->∀ (ws:List D) (rest:List D) (x:Option W),ws.length+s.size<=50000 →
 ∃ x',cg (evS (runN T G (k+3)) G rkB) [(3,"part")] ((s.lay.map Sm.enc).reverse++rest) [some t0,some (.p st.enc),some (.r h.length),x] (h++[.l ws]) =
  cg (evS (runN T G (k+3)) G rkB) [(3,"part")] rest [some t0,some (.p st.enc),some (.r h.length),x'] (h++[.l (ws++[.int (s.val st)])]):=by
 intro s
 induction s with
 | num n =>
  intro _ ws rest x hl
  refine ⟨some (.p (Sm.num n).enc),?_⟩
  have r:=(gE P k st ho h.length (h++[.l ws])).1 n
  have l:ws.length < 100000:=by simp only[Sm.size] at hl;omega
  have hb:evS (runN T G (k+3)) G rkB [some t0,some (.p st.enc),some (.r h.length),some (.p (Sm.num n).enc)] (h++[.l ws]) =
   some (.nx [some t0,some (.p st.enc),some (.r h.length),some (.p (Sm.num n).enc)] (h++[.l (ws++[.int n])])):=by
   simp[rkB,r,l]
  simp only[Sm.lay,List.map_cons,List.map_nil,List.reverse_singleton,List.singleton_append,Sm.val]
  simp[hb]
 | nam i =>
  intro _ ws rest x hl
  refine ⟨some (.p (Sm.nam i).enc),?_⟩
  have r:=(gE P k st ho h.length (h++[.l ws])).2 i
  have l:ws.length < 100000:=by simp only[Sm.size] at hl;omega
  have hb:evS (runN T G (k+3)) G rkB [some t0,some (.p st.enc),some (.r h.length),some (.p (Sm.nam i).enc)] (h++[.l ws]) =
   some (.nx [some t0,some (.p st.enc),some (.r h.length),some (.p (Sm.nam i).enc)] (h++[.l (ws++[.int (st.names.getD i.ix 0)])])):=by
   simp[rkB,r,l]
  simp only[Sm.lay,List.map_cons,List.map_nil,List.reverse_singleton,List.singleton_append,Sm.val]
  simp[hb]
 | cell s ih =>
  intro hok ws rest x hl
  obtain ⟨x1,e1⟩:=ih hok ws ((Sm.cell s).enc :: rest) x (by simp only[Sm.size] at hl;omega)
  refine ⟨some (.p (Sm.cell s).enc),?_⟩
  have r:=kY P (k+2) st ho h.length (h++[.l (ws++[.int (s.val st)])]) s ws (s.val st) (by simp) (Sm.pJ (s:=s) ho hok).1
  have l:ws.length < 100000:=by simp only[Sm.size] at hl;omega
  have hb:evS (runN T G (k+3)) G rkB [some t0,some (.p st.enc),some (.r h.length),some (.p (Sm.cell s).enc)] (h++[.l (ws++[.int (s.val st)])]) =
   some (.nx [some t0,some (.p st.enc),some (.r h.length),some (.p (Sm.cell s).enc)] (h++[.l (ws++[.int ((Sm.cell s).val st)])])):=by
   simp[rkB,r,l,Sm.val]
  simp only[Sm.lay,List.map_cons,List.reverse_cons,List.append_assoc,List.singleton_append]
  rw[e1]
  simp[hb]
 | two o s t ihs iht =>
  intro hok ws rest x hl
  have hl':=hl
  simp only[Sm.size] at hl'
  obtain ⟨x1,e1⟩:=ihs hok.1 ws ((t.lay.map Sm.enc).reverse++((Sm.two o s t).enc :: rest)) x (by omega)
  obtain ⟨x2,e2⟩:=iht hok.2 (ws++[.int (s.val st)]) ((Sm.two o s t).enc :: rest) x1 (by simp only[List.length_append,List.length_singleton];have:=s.size_pos;omega)
  refine ⟨some (.p (Sm.two o s t).enc),?_⟩
  have r:=lK P (k+1) st h.length (h++[.l (ws++[.int (s.val st),.int (t.val st)])]) o s t ws (s.val st) (t.val st) (Sm.pJ ho hok.1) (by simp)
  have l:ws.length < 100000:=by omega
  have hb:evS (runN T G (k+3)) G rkB [some t0,some (.p st.enc),some (.r h.length),some (.p (Sm.two o s t).enc)] (h++[.l (ws++[.int (s.val st),.int (t.val st)])]) =
   some (.nx [some t0,some (.p st.enc),some (.r h.length),some (.p (Sm.two o s t).enc)] (h++[.l (ws++[.int ((Sm.two o s t).val st)])])):=by
   simp[rkB,r,l,Sm.val]
  simp only[Sm.lay,List.map_cons,List.map_append,List.reverse_cons,List.reverse_append,List.append_assoc,List.singleton_append]
  rw[e1,e2]
  simp only[List.append_assoc,List.singleton_append]
  simp[hb]
theorem k8:bR=⟨["term","state"],["term","state","worths","part"],.seq (.set 2 "worths" (.lst true .nil))
 (.seq (.for [(3,"part")] .rev (.cons (.call "laid_out" (.cons (.var 0 "term") .nil)) .nil) rkB) (.ret (.idx (.var 2 "worths") (.cst (.int 0)))))⟩:=rfl
theorem cF (P:Prg T G) (k:Nat) (s:Sm) (hs:s.size<=40000) (hok:s.ok) (st:St) (ho:st.ok) (h:HH) :
 runN T G (k+4) "reckoned" [.p s.enc,.p st.enc] h=some (.p (.int (s.val st)),h):=by
 rw[run_eq P.reckoned rfl]
 obtain ⟨x',q⟩:=Av P k h (.p s.enc) st ho s hok [] [] none (by simp only[List.length_nil];omega)
 rw[k8]
 simp only[List.append_nil,List.nil_append] at q
 have r:=nK P (k+1) s hs
 simp[r,gk,q,iz,rd]
end
end BT
end
section
namespace BT
open PySem
section
variable {T:FK->Option Fn}{G:Str->Option W}
theorem e9 {α:Type} (xs:List α) (i:Nat):atP xs (i:Int)=xs[i]?:=by
 unfold atP place
 by_cases h:i < xs.length
 ·have h1:((i:Int) < (xs.length:Int)):=by omega
  simp[h1,h]
 ·have h1:¬ ((i:Int) < (xs.length:Int)):=by omega
  simp[h1];omega
theorem gF (P:Prg T G) (k:Nat) (xs:List D) (i:Nat) (hi:i < xs.length) (hl:xs.length<=1000) (d:D) (h:HH) :
 runN T G (k+1) "with_worth" [.p (.tup xs),.p (.int i),.p d] h=some (.p (.tup (xs.set i d)),h):=by
 rw[run_eq P.with_worth rfl]
 have a1:¬ ((i:Int) < 0):=by omega
 have a2:(i:Int)<=(xs.length:Int):=by omega
 have a3:¬ ((i:Int)+1 < 0):=by omega
 have a4:(i:Int)+1<=(xs.length:Int):=by omega
 have a5:((i:Int)+1).toNat=i+1:=by omega
 have a6:xs.length - (i+1)+(i+1)<=100000:=by omega
 have a7:i+1+(xs.length - (i+1))<=100000:=by omega
 have a8:min i xs.length=i:=by omega
 have a9:i+1<=100000:=by omega
 have e:xs.take i++d :: xs.drop (i+1)=xs.set i d:=by
  rw[List.set_eq_take_append_cons_drop,if_pos hi]
 have b1:(xs.take i).length=i:=by simp;omega
 have b2:(xs.drop (i+1)).length=xs.length - (i+1):=by simp
 have b3:((xs.drop (i+1)).take (xs.length - (i+1)))=xs.drop (i+1):=by
  apply List.take_of_length_le;simp
 simp[bw,a1,a2,a3,a4,a5,a7,a8,a9,b3,e,af]
@[simp] theorem MC (st:St):cE st.enc (.int 0)=some (.int st.row):=rfl
@[simp] theorem MD (st:St):cE st.enc (.int 1)=some (.tup (ai st.names)):=rfl
@[simp] theorem ME (st:St):cE st.enc (.int 2)=some (.tup (ai st.cells)):=rfl
@[simp] theorem MF (st:St):cE st.enc (.int 3)=some (.tup (cH st.calls)):=rfl
@[simp] theorem MG (st:St):cE st.enc (.int 4)=some (.int st.asked):=rfl
@[simp] theorem MH (st:St):cE st.enc (.int 5)=some (.tup (ai st.said)):=rfl
inductive Rw where
 | set (x:Nm) (s:Sm) | put (s t:Sm) | ask (x:Nm) | say (s:Sm) | jump (p:Nat) | unless (s:Sm) (p:Nat) | call (p:Nat) | back | stop
noncomputable def Rw.enc:Rw->D
 | .set x s=>.tup [.str "set",.str x.w,s.enc]
 | .put s t=>.tup [.str "put",s.enc,t.enc]
 | .ask x=>.tup [.str "ask",.str x.w]
 | .say s=>.tup [.str "say",s.enc]
 | .jump p=>.tup [.str "jump",.int p]
 | .unless s p=>.tup [.str "unless",s.enc,.int p]
 | .call p=>.tup [.str "call",.int p]
 | .back=>.tup [.str "back"]
 | .stop=>.tup [.str "stop"]
noncomputable def nL (s:Sm):Prop:=s.ok/\s.size<=15
noncomputable def Rw.ok (n:Nat):Rw->Prop
 | .set _ s=>nL s
 | .put s t=>nL s/\nL t
 | .ask _=>True
 | .say s=>nL s
 | .jump p=>p<=n
 | .unless s p=>nL s/\p<=n
 | .call p=>p<=n
 | .back=>True
 | .stop=>True
noncomputable abbrev Pg:=List Rw
noncomputable def bM (p:Pg):D:=.tup (p.map Rw.enc)
noncomputable def Pg.ok (p:Pg):Prop:=∀ r∈p,r.ok p.length
noncomputable def Rw.next (asked:List Int) (st:St):Rw->St
 | .set x s=>{ st with row:=st.row+1,names:=st.names.set x.ix (s.val st) }
 | .put s t=>{ st with row:=st.row+1,cells:=st.cells.set (s.val st % 4).toNat (t.val st) }
 | .ask x=>{ st with row:=st.row+1,names:=st.names.set x.ix (asked.getD st.asked 0),asked:=st.asked+1 }
 | .say s=>{ st with row:=st.row+1,said:=st.said++[s.val st] }
 | .jump p=>{ st with row:=p }
 | .unless s p=>{ st with row:=if s.val st=0 then p else st.row+1 }
 | .call p=>{ st with row:=p,calls:=st.calls++[st.row+1] }
 | .back=>{ st with row:=st.calls.getLast?.getD 0,calls:=st.calls.dropLast }
 | .stop=>st
noncomputable def Rw.over (st:St):Rw->Bool
 | .back=>st.calls.length==0
 | .call _=>decide (6<=st.calls.length)
 | .stop=>true
 | _=>false
noncomputable def over (p:Pg) (st:St):Bool:=match p[st.row]? with
 | some r=>r.over st
 | none=>true
noncomputable def step (p:Pg) (asked:List Int) (st:St):St:=match p[st.row]? with
 | some r=>r.next asked st
 | none=>st
noncomputable def St.zero:St:=⟨0,[0,0,0,0,0,0],[0,0,0,0],[],0,[]⟩
theorem Aw:St.zero.ok:=⟨rfl,rfl,by simp[St.zero,Wth],by simp[St.zero,Wth]⟩
noncomputable def sts (p:Pg) (asked:List Int):Nat->St->List St
 | 0,st=>[st]
 | n+1,st=>if over p st then [st] else st :: sts p asked n (step p asked st)
theorem uE (P:Prg T G) (k:Nat) (h:HH):runN T G (k+1) "begun" [] h=some (.p St.zero.enc,h):=by
 rw[run_eq P.begun rfl]
 simp[dW,P.LETTERS,P.CELL_COUNT,af,St.zero,St.enc,ai,cH,rep,List.replicate,List.flatten]
theorem pK (P:Prg T G) (k:Nat) (asked:List Int) (n:Nat) (h:HH):runN T G (k+1) "brought" [.p (.lst (ai asked)),.p (.int n)] h=some (.p (.int (asked.getD n 0)),h):=by
 rw[run_eq P.brought rfl]
 by_cases c:n < asked.length
 ·have c1:(n:Int) < (asked.length:Int):=by omega
  simp[bY,ai,c,c1,af]
 ·have c1:¬ (n:Int) < (asked.length:Int):=by omega
  have e:asked[n]?=none:=List.getElem?_eq_none (by omega)
  simp[bY,ai,c1,af,e]
theorem iA (P:Prg T G) (k:Nat) (st:St) (ho:st.ok) (x:Nm) (d:Int) (h:HH) :
 runN T G (k+2) "with_name" [.p st.enc,.p (.str x.w),.p (.int d)] h=some (.p (.tup (ai (st.names.set x.ix d))),h):=by
 rw[run_eq P.with_name rfl]
 have r:=fun i=>gF P k (ai st.names) i
 have l:(ai st.names).length=6:=by simp[ai,ho.nlen]
 have e:(ai st.names).set x.ix (.int d)=ai (st.names.set x.ix d):=by simp[ai,List.map_set]
 have q:=r x.ix (by rw[l];exact x.G5) (by omega) (.int d)
 rw[e] at q
 cases x<;>simp only[Nm.ix,Nm.w] at q ⊢<;>simp at q<;>simp[bD,P.NAMES,P.LETTERS,af,q]
theorem jL (P:Prg T G) (k:Nat) (s:Sm) (hs:nL s) (st:St) (ho:st.ok) (h:HH):runN T G (k+5) "cell_by" [.p s.enc,.p st.enc] h=some (.p (.int (s.val st % 4)),h):=by
 rw[run_eq P.cell_by rfl]
 have q:=cF P k s (by have:=hs.2;omega) hs.1 st ho
 simp[cy,q,P.CELL_COUNT,af]
theorem uF (P:Prg T G) (k:Nat) (n:Nat) (r:Rw) (hr:r.ok n) (st:St) (ho:st.ok) (asked:List Int) (hb:r.over st=false) (h:HH) :
 runN T G (k+5) "place_behind" [.p r.enc,.p st.enc] h=some (.p (.int (r.next asked st).row),h):=by
 rw[run_eq P.place_behind rfl]
 cases r with
 | «unless» s p =>
  have q:=cF P k s (by have:=hr.1.2;omega) hr.1.1 st ho
  by_cases c:s.val st=0<;>simp[aA,Rw.enc,Rw.next,q,c,af,P.ROW]
 | back =>
  have c:st.calls≠[]:=by
   intro e;simp[Rw.over,e] at hb
  have:∃ l x,st.calls=l++[x]:=⟨st.calls.dropLast,st.calls.getLast c,(List.dropLast_concat_getLast c).symm⟩
  obtain ⟨l,x,e⟩:=this
  have e2:-((l.length:Int)+1)<=-1:=by omega
  have e3:(-1+((l.length:Int)+1)).toNat=l.length:=by omega
  simp[aA,Rw.enc,Rw.next,af,P.CALLS,cH,e,e2,e3]
 | stop=>simp[Rw.over] at hb
 | _=>simp[aA,Rw.enc,Rw.next,af,P.ROW]
theorem pL (P:Prg T G) (k:Nat) (p:Pg) (st:St) (h:HH):runN T G (k+1) "is_over" [.p (bM p),.p st.enc] h=some (.p (.bl (over p st)),h):=by
 rw[run_eq P.is_over rfl]
 by_cases c:st.row < p.length
 ·have c1:¬ (p.length:Int)<=(st.row:Int):=by omega
  have c2:(st.row:Int) < (p.length:Int):=by omega
  have e:p[st.row]?=some p[st.row]:=List.getElem?_eq_getElem c
  simp only[over,e]
  cases q:p[st.row]<;>simp[bX,bM,P.ROW,P.CALLS,P.MOST_CALLS,c1,c2,e,q,Rw.enc,af,Rw.over,cH]
  ·omega
  ·cases st.calls with
   | nil=>rfl
   | cons a l =>
    have e1:((((a :: l).length:Nat):Int)==0)=false:=by
     apply beq_eq_false_iff_ne.mpr;simp only[List.length_cons];omega
    rw[e1];rfl
 ·have c1:(p.length:Int)<=(st.row:Int):=by omega
  have e:p[st.row]?=none:=List.getElem?_eq_none (by omega)
  simp[bX,bM,P.ROW,c1,af,over,e]
theorem ints_set (xs:List Int) (i:Nat) (v:Int):(ai xs).set i (.int v)=ai (xs.set i v):=by simp[ai,List.map_set]
theorem gG (xs:List Int):(ai xs).length=xs.length:=by simp[ai]
theorem ints_snoc (xs:List Int) (v:Int):ai xs++[.int v]=ai (xs++[v]):=by simp[ai]
theorem uG (xs:List Nat) (v:Nat):cH xs++[.int (v:Int)]=cH (xs++[v]):=by simp[cH]
theorem xA (xs:List Nat):cut (cH xs) none (some (-1))=cH xs.dropLast:=by
 have e:(-1+(xs.length:Int)).toNat=xs.length - 1:=by omega
 simp[cut,clip,cH,e,List.dropLast_eq_take]
structure St.small (st:St):Prop where
 sl:st.said.length<=5000
 cl:st.calls.length<=5000
noncomputable def encL (st:St):List D:=[.int st.row,.tup (ai st.names),.tup (ai st.cells),.tup (cH st.calls),.int st.asked,.tup (ai st.said)]
theorem xB (st:St):biD .list [st.enc]=some (.lst (encL st)):=rfl
noncomputable def nM:S:=(.seq (.ife (.cmp .eq (.var 4 "word") (.cst (.str "set"))) (.put 5 "behind" (.glo "NAMES") (.call "with_name" (.cons (.var 2 "state") (.cons (.idx (.var 3 "row") (.cst (.int 1))) (.cons (.call "reckoned" (.cons (.idx (.var 3 "row") (.cst (.int 2))) (.cons (.var 2 "state") .nil))) .nil))))) (.ife (.cmp .eq (.var 4 "word") (.cst (.str "put"))) (.put 5 "behind" (.glo "CELLS") (.call "with_worth" (.cons (.idx (.var 2 "state") (.glo "CELLS")) (.cons (.call "cell_by" (.cons (.idx (.var 3 "row") (.cst (.int 1))) (.cons (.var 2 "state") .nil))) (.cons (.call "reckoned" (.cons (.idx (.var 3 "row") (.cst (.int 2))) (.cons (.var 2 "state") .nil))) .nil))))) (.ife (.cmp .eq (.var 4 "word") (.cst (.str "ask"))) (.seq (.put 5 "behind" (.glo "NAMES") (.call "with_name" (.cons (.var 2 "state") (.cons (.idx (.var 3 "row") (.cst (.int 1))) (.cons (.call "brought" (.cons (.var 1 "asked") (.cons (.idx (.var 2 "state") (.glo "ASKED")) .nil))) .nil)))))
 (.put 5 "behind" (.glo "ASKED") (.bin .add (.idx (.var 2 "state") (.glo "ASKED")) (.cst (.int 1))))) (.ife (.cmp .eq (.var 4 "word") (.cst (.str "say"))) (.put 5 "behind" (.glo "SAID") (.bin .add (.idx (.var 2 "state") (.glo "SAID")) (.tup (.cons (.call "reckoned" (.cons (.idx (.var 3 "row") (.cst (.int 1))) (.cons (.var 2 "state") .nil))) .nil)))) (.ife (.cmp .eq (.var 4 "word") (.cst (.str "call"))) (.put 5 "behind" (.glo "CALLS") (.bin .add (.idx (.var 2 "state") (.glo "CALLS")) (.tup (.cons (.bin .add (.idx (.var 2 "state") (.glo "ROW")) (.cst (.int 1))) .nil)))) (.ife (.cmp .eq (.var 4 "word") (.cst (.str "back"))) (.put 5 "behind" (.glo "CALLS") (.slc (.idx (.var 2 "state") (.glo "CALLS")) .nil (.cons (.neg (.cst (.int 1))) .nil))) .nil))))))
 (.ret (.bi .tuple false (.cons (.var 5 "behind") .nil))))
theorem lM:cz=⟨["program","asked","state"],["program","asked","state","row","word","behind"],
 (.seq (.set 3 "row" (.idx (.var 0 "program") (.idx (.var 2 "state") (.glo "ROW"))))
 (.seq (.set 4 "word" (.idx (.var 3 "row") (.cst (.int 0))))
 (.seq (.set 5 "behind" (.bi .list true (.cons (.var 2 "state") .nil)))
 (.seq (.put 5 "behind" (.glo "ROW") (.call "place_behind" (.cons (.var 3 "row") (.cons (.var 2 "state") .nil))))
 nM))))⟩:=rfl
noncomputable def Rw.word:Rw->String
 | .set _ _=>"set" | .put _ _=>"put" | .ask _=>"ask" | .say _=>"say" | .jump _=>"jump" | .unless _ _=>"unless" | .call _=>"call" | .back=>"back" | .stop=>"stop"
theorem Rw.Ax (r:Rw):cE r.enc (.int 0)=some (.str r.word):=by cases r<;>rfl
theorem pM (P:Prg T G) (k:Nat) (p:Pg) (hp:Pg.ok p) (asked:List Int) (st:St) (ho:st.ok) (hs:st.small) (hb:over p st=false) (h:HH) :
 runN T G (k+6) "stepped" [.p (bM p),.p (.lst (ai asked)),.p st.enc] h=some (.p (step p asked st).enc,h):=by
 have c:st.row < p.length:=by
  rcases Nat.lt_or_ge st.row p.length with q | q
  ·exact q
  ·rw[over,List.getElem?_eq_none q] at hb;cases hb
 have e:p[st.row]?=some p[st.row]:=List.getElem?_eq_getElem c
 have c2:(st.row:Int) < (p.length:Int):=by omega
 have hr:=hp _ (List.getElem_mem c)
 have hb':(p[st.row]).over st=false:=by rw[over,e] at hb;exact hb
 have pl:=uF P k p.length p[st.row] hr st ho asked hb'
 rw[step,e]
 have l1:=hs.sl
 have l2:=hs.cl
 revert pl hr hb'
 generalize p[st.row]=r at *
 intro hr hb' pl
 have row:cE (bM p) (.int st.row)=some r.enc:=by simp[bM,c2,e]
 have pre:runN T G (k+6) "stepped" [.p (bM p),.p (.lst (ai asked)),.p st.enc] h =
  oV (evS (runN T G (k+5)) G nM [some (.p (bM p)),some (.p (.lst (ai asked))),some (.p st.enc),some (.p r.enc),some (.p (.str r.word)),some (.r h.length)] (h++[.l [.int (r.next asked st).row,.tup (ai st.names),.tup (ai st.cells),.tup (cH st.calls),.int st.asked,.tup (ai st.said)]])) (fin h):=by
  rw[run_eq P.stepped rfl,lM]
  simp[row,r.Ax,P.ROW,xB,encL,pl]
 rw[pre]
 cases r with
 | set x s =>
  have q:=cF P (k+1) s (by have:=hr.2;omega) hr.1 st ho
  have w:=iA P (k+3) st ho x (s.val st)
  simp only[Rw.enc,Rw.next,Rw.word]
  simp[nM,P.ROW,P.NAMES,q,w,rd,iz,Rw.next]
  simp[St.enc]
 | put s t =>
  have q:=jL P k s hr.1 st ho
  have q2:=cF P (k+1) t (by have:=hr.2.2;omega) hr.2.1 st ho
  have v:=Sm.pJ (s:=s) ho hr.1.1
  have hi:(s.val st % 4).toNat < (ai st.cells).length:=by rw[gG,ho.clen];omega
  have w:=gF P (k+4) (ai st.cells) (s.val st % 4).toNat hi (by rw[gG,ho.clen];omega) (.int (t.val st))
  have e3:(((s.val st % 4).toNat:Nat):Int)=s.val st % 4:=by omega
  rw[e3,ints_set] at w
  simp only[Rw.enc,Rw.next,Rw.word]
  simp[nM,P.ROW,P.CELLS,q,q2,w,rd,iz,Rw.next]
  simp[St.enc]
 | ask x =>
  have b:=pK P (k+4) asked st.asked
  have w:=iA P (k+3) st ho x (asked.getD st.asked 0)
  simp only[Rw.enc,Rw.next,Rw.word]
  simp only[List.getD_eq_getElem?_getD] at b w ⊢
  simp[nM,P.ROW,P.NAMES,P.ASKED,b,w,rd,iz,Rw.next]
  simp[St.enc]
 | say s =>
  have q:=cF P (k+1) s (by have:=hr.2;omega) hr.1 st ho
  simp only[Rw.enc,Rw.next,Rw.word]
  have l3:(ai st.said).length+1<=100000:=by rw[gG];omega
  simp[nM,P.ROW,P.SAID,q,rd,iz,Rw.next,l3,ints_snoc]
  simp[St.enc]
 | call q =>
  simp only[Rw.enc,Rw.next,Rw.word]
  have l3:(cH st.calls).length+1<=100000:=by simp[cH];omega
  have e4:cH st.calls++[.int ((st.row:Int)+1)]=cH (st.calls++[st.row+1]):=by rw[← uG];simp
  simp[nM,P.ROW,P.CALLS,rd,iz,Rw.next,l3,e4]
  simp[St.enc]
 | back =>
  simp only[Rw.enc,Rw.next,Rw.word]
  have e4:=xA st.calls
  have e5:oO (.tup (cH st.calls)) none (some (-1))=some (.tup (cH st.calls.dropLast)):=by rw[vF,e4]
  simp[-vF,nM,P.ROW,P.CALLS,rd,iz,Rw.next,e5]
  simp[St.enc]
 | stop=>simp[Rw.over] at hb'
 | _ =>
  simp only[Rw.enc,Rw.next,Rw.word]
  simp[nM,P.ROW,rd,iz,Rw.next]
  simp[St.enc]
end
end BT
end
section
namespace BT
open PySem
noncomputable def Ask (asked:List Int):Prop:=∀ x∈asked,Wth x
theorem xC {xs:List Int}{i:Nat}{v:Int} (h:∀ x∈xs,Wth x) (hv:Wth v):∀ x∈xs.set i v,Wth x:=fun x hx=>by
 rcases List.mem_or_eq_of_mem_set hx with q | q
 ·exact h x q
 ·rw[q];exact hv
structure At (n:Nat) (st:St):Prop where
 ok:st.ok
 said:st.said.length<=n
 calls:st.calls.length<=6
theorem At.small {n:Nat}{st:St} (a:At n st) (h:n<=5000):st.small:=⟨by have:=a.said;omega,by have:=a.calls;omega⟩
theorem Ay:At 0 St.zero:=⟨Aw,Nat.le_refl _,by decide⟩
theorem Az {n:Nat}{p:Pg}{asked:List Int}{st:St} (hp:Pg.ok p) (ha:Ask asked) (a:At n st) (hb:over p st=false):At (n+1) (step p asked st):=by
 have c:st.row < p.length:=by
  rcases Nat.lt_or_ge st.row p.length with q | q
  ·exact q
  ·rw[over,List.getElem?_eq_none q] at hb;cases hb
 have e:p[st.row]?=some p[st.row]:=List.getElem?_eq_getElem c
 have hr:=hp _ (List.getElem_mem c)
 have hb':(p[st.row]).over st=false:=by rw[over,e] at hb;exact hb
 rw[step,e]
 dsimp only
 revert hr hb'
 generalize p[st.row]=r
 intro hr hb'
 obtain ⟨ok,sd,cl⟩:=a
 cases r with
 | set x s=>exact ⟨⟨by simp[Rw.next,ok.nlen],ok.clen,xC ok.nw (Sm.pJ ok hr.1),ok.cw⟩,by simp[Rw.next];omega,cl⟩
 | put s t=>exact ⟨⟨ok.nlen,by simp[Rw.next,ok.clen],ok.nw,xC ok.cw (Sm.pJ ok hr.2.1)⟩,by simp[Rw.next];omega,cl⟩
 | ask x=>exact ⟨⟨by simp[Rw.next,ok.nlen],ok.clen,xC ok.nw (qJ ha _),ok.cw⟩,by simp[Rw.next];omega,cl⟩
 | say s=>exact ⟨⟨ok.nlen,ok.clen,ok.nw,ok.cw⟩,by simp[Rw.next];omega,cl⟩
 | call q =>
  simp[Rw.over] at hb'
  exact ⟨⟨ok.nlen,ok.clen,ok.nw,ok.cw⟩,by simp[Rw.next];omega,by simp[Rw.next];omega⟩
 | back=>exact ⟨⟨ok.nlen,ok.clen,ok.nw,ok.cw⟩,by simp[Rw.next];omega,by simp[Rw.next];omega⟩
 | stop=>simp[Rw.over] at hb'
 | _=>exact ⟨⟨ok.nlen,ok.clen,ok.nw,ok.cw⟩,by simp[Rw.next];omega,cl⟩
section
variable {T:FK->Option Fn}{G:Str->Option W}
end
end BT
end
section
namespace BT
open PySem
noncomputable def bE:Fn:=⟨["_law_script","_law_k"],["_law_script","_law_k"],
 (.seq (.ife (.cmp .eq (.var 0 "_law_script") (.lst false .nil)) (.ret (.bin .mul (.cst (.int 7)) (.var 1 "_law_k"))) .nil)
 (.ret (.bin .add (.idx (.var 0 "_law_script") (.bin .mod (.var 1 "_law_k") (.bi .len false (.cons (.var 0 "_law_script") .nil)))) (.bin .mul (.cst (.int 6553)) (.bin .fdiv (.var 1 "_law_k") (.bi .len false (.cons (.var 0 "_law_script") .nil)))))))⟩
noncomputable def bF:Fn:=⟨["_law_script","_law_k","_law_many"],["_law_script","_law_k","_law_many","_law_cell_here"],
 (.seq (.set 3 "_law_cell_here" (.bin .mod (.bin .add (.bin .mul (.bin .mod (.call "_law_cell" (.cons (.var 0 "_law_script") (.cons (.var 1 "_law_k") .nil))) (.cst (.int 2147483563))) (.cst (.int 69069))) (.bin .mul (.cst (.int 104723)) (.bin .add (.var 1 "_law_k") (.cst (.int 1))))) (.cst (.int 2147483563))))
 (.seq (.set 3 "_law_cell_here" (.bin .mod (.bin .add (.bin .mul (.var 3 "_law_cell_here") (.var 3 "_law_cell_here")) (.bin .fdiv (.var 3 "_law_cell_here") (.cst (.int 3)))) (.cst (.int 2147483399))))
 (.ret (.bin .mod (.bin .fdiv (.bin .mod (.bin .add (.bin .mul (.var 3 "_law_cell_here") (.var 3 "_law_cell_here")) (.bin .fdiv (.var 3 "_law_cell_here") (.cst (.int 7)))) (.cst (.int 2147483647))) (.cst (.int 11))) (.var 2 "_law_many")))))⟩
noncomputable def aT:Fn:=⟨["_law_script","_law_at","_law_deep"],["_law_script","_law_at","_law_deep","_law_way","_law_one"],
 (.seq (.set 3 "_law_way" (.call "_law_drawn" (.cons (.var 0 "_law_script") (.cons (.var 1 "_law_at") (.cons (.cst (.int 10)) .nil)))))
 (.seq (.ife (.or (.cmp .eq (.var 2 "_law_deep") (.cst (.int 0))) (.cmp .lt (.var 3 "_law_way") (.cst (.int 4)))) (.seq (.ife (.cmp .eq (.call "_law_drawn" (.cons (.var 0 "_law_script") (.cons (.bin .add (.var 1 "_law_at") (.cst (.int 1))) (.cons (.cst (.int 2)) .nil)))) (.cst (.int 0))) (.ret (.tup (.cons (.cst (.str "num")) (.cons (.idx (.lst false (.cons (.cst (.int 0)) (.cons (.cst (.int 1)) (.cons (.cst (.int 2)) (.cons (.cst (.int 3)) (.cons (.cst (.int 10)) (.cons (.cst (.int 10006)) .nil))))))) (.call "_law_drawn" (.cons (.var 0 "_law_script") (.cons (.bin .add (.var 1 "_law_at") (.cst (.int 2))) (.cons (.cst (.int 6)) .nil))))) .nil)))) .nil)
 (.ret (.tup (.cons (.cst (.str "name")) (.cons (.idx (.cst (.str "abcf")) (.call "_law_drawn" (.cons (.var 0 "_law_script") (.cons (.bin .add (.var 1 "_law_at") (.cst (.int 2))) (.cons (.cst (.int 4)) .nil))))) .nil))))) .nil)
 (.seq (.set 4 "_law_one" (.call "_law_sum" (.cons (.var 0 "_law_script") (.cons (.bin .add (.bin .mul (.var 1 "_law_at") (.cst (.int 2))) (.cst (.int 5))) (.cons (.bin .sub (.var 2 "_law_deep") (.cst (.int 1))) .nil)))))
 (.seq (.ife (.cmp .lt (.var 3 "_law_way") (.cst (.int 6))) (.ret (.tup (.cons (.cst (.str "cell")) (.cons (.var 4 "_law_one") .nil)))) .nil)
 (.ret (.tup (.cons (.idx (.lst false (.cons (.cst (.str "add")) (.cons (.cst (.str "sub")) (.cons (.cst (.str "mul")) (.cons (.cst (.str "less")) .nil))))) (.bin .sub (.var 3 "_law_way") (.cst (.int 6)))) (.cons (.var 4 "_law_one") (.cons (.call "_law_sum" (.cons (.var 0 "_law_script") (.cons (.bin .add (.bin .mul (.var 1 "_law_at") (.cst (.int 2))) (.cst (.int 19))) (.cons (.bin .sub (.var 2 "_law_deep") (.cst (.int 1))) .nil)))) .nil)))))))))⟩
noncomputable def cA:Fn:=⟨["_law_script","_law_at","_law_size"],["_law_script","_law_at","_law_size","_law_way","_law_place","_law_name","_law_one"],
 (.seq (.set 3 "_law_way" (.call "_law_drawn" (.cons (.var 0 "_law_script") (.cons (.var 1 "_law_at") (.cons (.cst (.int 16)) .nil)))))
 (.seq (.set 4 "_law_place" (.call "_law_drawn" (.cons (.var 0 "_law_script") (.cons (.bin .add (.var 1 "_law_at") (.cst (.int 1))) (.cons (.bin .add (.var 2 "_law_size") (.cst (.int 1))) .nil)))))
 (.seq (.set 5 "_law_name" (.idx (.cst (.str "abc")) (.call "_law_drawn" (.cons (.var 0 "_law_script") (.cons (.bin .add (.var 1 "_law_at") (.cst (.int 2))) (.cons (.cst (.int 3)) .nil))))))
 (.seq (.set 6 "_law_one" (.call "_law_sum" (.cons (.var 0 "_law_script") (.cons (.bin .add (.var 1 "_law_at") (.cst (.int 3))) (.cons (.cst (.int 2)) .nil)))))
 (.seq (.ife (.cmp .lt (.var 3 "_law_way") (.cst (.int 5))) (.ret (.tup (.cons (.cst (.str "set")) (.cons (.var 5 "_law_name") (.cons (.var 6 "_law_one") .nil))))) .nil)
 (.seq (.ife (.cmp .lt (.var 3 "_law_way") (.cst (.int 7))) (.ret (.tup (.cons (.cst (.str "put")) (.cons (.call "_law_sum" (.cons (.var 0 "_law_script") (.cons (.bin .add (.var 1 "_law_at") (.cst (.int 9))) (.cons (.cst (.int 1)) .nil)))) (.cons (.var 6 "_law_one") .nil))))) .nil)
 (.seq (.ife (.cmp .lt (.var 3 "_law_way") (.cst (.int 9))) (.ret (.idx (.lst false (.cons (.tup (.cons (.cst (.str "ask")) (.cons (.var 5 "_law_name") .nil))) (.cons (.tup (.cons (.cst (.str "say")) (.cons (.var 6 "_law_one") .nil))) .nil))) (.bin .sub (.var 3 "_law_way") (.cst (.int 7))))) .nil)
 (.seq (.ife (.cmp .lt (.var 3 "_law_way") (.cst (.int 12))) (.ret (.idx (.lst false (.cons (.tup (.cons (.cst (.str "jump")) (.cons (.var 4 "_law_place") .nil))) (.cons (.tup (.cons (.cst (.str "unless")) (.cons (.var 6 "_law_one") (.cons (.var 4 "_law_place") .nil)))) (.cons (.tup (.cons (.cst (.str "unless")) (.cons (.tup (.cons (.cst (.str "name")) (.cons (.var 5 "_law_name") .nil))) (.cons (.var 4 "_law_place") .nil)))) .nil)))) (.bin .sub (.var 3 "_law_way") (.cst (.int 9))))) .nil)
 (.ret (.idx (.lst false (.cons (.tup (.cons (.cst (.str "call")) (.cons (.var 4 "_law_place") .nil))) (.cons (.tup (.cons (.cst (.str "call")) (.cons (.var 4 "_law_place") .nil))) (.cons (.tup (.cons (.cst (.str "back")) .nil)) (.cons (.idx (.lst false (.cons (.tup (.cons (.cst (.str "stop")) .nil)) (.cons (.tup (.cons (.cst (.str "back")) .nil)) .nil))) (.bin .mod (.var 4 "_law_place") (.cst (.int 2)))) .nil))))) (.bin .sub (.var 3 "_law_way") (.cst (.int 12)))))))))))))⟩
noncomputable def aE:Fn:=⟨["_law_script","_law_at"],["_law_script","_law_at","_law_size","_law_put","_law_sign","_law_rows"],
 (.seq (.set 2 "_law_size" (.bin .add (.cst (.int 1)) (.call "_law_drawn" (.cons (.var 0 "_law_script") (.cons (.var 1 "_law_at") (.cons (.cst (.int 9)) .nil))))))
 (.seq (.ife (.cmp .eq (.call "_law_drawn" (.cons (.var 0 "_law_script") (.cons (.bin .add (.var 1 "_law_at") (.cst (.int 1))) (.cons (.cst (.int 4)) .nil)))) (.cst (.int 0))) (.seq (.set 3 "_law_put" (.tup (.cons (.cst (.str "put")) (.cons (.tup (.cons (.cst (.str "name")) (.cons (.cst (.str "a")) .nil))) (.cons (.tup (.cons (.cst (.str "num")) (.cons (.call "_law_drawn" (.cons (.var 0 "_law_script") (.cons (.bin .add (.var 1 "_law_at") (.cst (.int 2))) (.cons (.cst (.int 9)) .nil)))) .nil))) .nil)))))
 (.seq (.set 4 "_law_sign" (.idx (.lst false (.cons (.cst (.str "add")) (.cons (.cst (.str "sub")) .nil))) (.call "_law_drawn" (.cons (.var 0 "_law_script") (.cons (.bin .add (.var 1 "_law_at") (.cst (.int 3))) (.cons (.cst (.int 2)) .nil))))))
 (.seq (.set 5 "_law_rows" (.tup (.cons (.tup (.cons (.cst (.str "ask")) (.cons (.cst (.str "a")) .nil))) (.cons (.tup (.cons (.cst (.str "call")) (.cons (.cst (.int 4)) .nil))) (.cons (.tup (.cons (.cst (.str "say")) (.cons (.tup (.cons (.cst (.str "name")) (.cons (.cst (.str "a")) .nil))) .nil))) (.cons (.tup (.cons (.cst (.str "jump")) (.cons (.cst (.int 0)) .nil))) (.cons (.var 3 "_law_put") .nil)))))))
 (.ret (.bin .add (.var 5 "_law_rows") (.tup (.cons (.tup (.cons (.cst (.str "call")) (.cons (.cst (.int 7)) .nil))) (.cons (.tup (.cons (.cst (.str "back")) .nil)) (.cons (.tup (.cons (.cst (.str "set")) (.cons (.cst (.str "b")) (.cons (.tup (.cons (.var 4 "_law_sign") (.cons (.tup (.cons (.cst (.str "name")) (.cons (.cst (.str "b")) .nil))) (.cons (.tup (.cons (.cst (.str "name")) (.cons (.cst (.str "a")) .nil))) .nil)))) .nil)))) (.cons (.tup (.cons (.cst (.str "back")) .nil)) .nil)))))))))) .nil)
 (.ret (.bi .tuple false (.cons (.comp false .rng1 (.cons (.var 2 "_law_size") .nil) ["_law_k"] [(0,"_law_script"),(1,"_law_at"),(2,"_law_size")] .nil (.call "_law_row" (.cons (.var 1 "_law_script") (.cons (.bin .add (.bin .add (.var 2 "_law_at") (.cst (.int 10))) (.bin .mul (.cst (.int 40)) (.var 0 "_law_k"))) (.cons (.var 3 "_law_size") .nil))))) .nil)))))⟩
noncomputable def bG:Fn:=⟨["_law_script","_law_at"],["_law_script","_law_at"],
 (.ret (.comp false .rng1 (.cons (.call "_law_drawn" (.cons (.var 0 "_law_script") (.cons (.var 1 "_law_at") (.cons (.cst (.int 4)) .nil)))) .nil) ["_law_k"] [(0,"_law_script"),(1,"_law_at")] .nil (.idx (.lst false (.cons (.cst (.int 0)) (.cons (.cst (.int 1)) (.cons (.cst (.int 5)) (.cons (.cst (.int 10006)) .nil))))) (.call "_law_drawn" (.cons (.var 1 "_law_script") (.cons (.bin .add (.bin .add (.var 2 "_law_at") (.cst (.int 1))) (.var 0 "_law_k")) (.cons (.cst (.int 4)) .nil)))))))⟩
structure Lw (T:FK->Option Fn):Prop where
 cell:T "_law_cell"=some bE
 drawn:T "_law_drawn"=some bF
 sum:T "_law_sum"=some aT
 row:T "_law_row"=some cA
 asked:T "_law_asked"=some bG
noncomputable def sA (ns:List Int) (k:Int):Int:=if ns=[] then 7*k else ns.getD (k % ns.length).toNat 0+6553*(k / ns.length)
noncomputable def drw (ns:List Int) (k many:Int):Int :=
 let a:=(sA ns k % 2147483563*69069+104723*(k+1)) % 2147483563
 let b:=(a*a+a / 3) % 2147483399
 (b*b+b / 7) % 2147483647 / 11 % many
theorem cU (ns:List Int) (k:Int) {many:Int} (h:0 < many):0<=drw ns k many:=Int.emod_nonneg _ (by omega)
theorem cV (ns:List Int) (k:Int) {many:Int} (h:0 < many):drw ns k many < many:=Int.emod_lt_of_pos _ h
theorem mK {i:Int} (h0:0<=i) (h1:i < 18446744073709551616):big i=true:=by
 unfold big;exact decide_eq_true (by omega)
section
variable {T:FK->Option Fn}{G:Str->Option W}
theorem AA (ns:List Int):eqv (.lst (ai ns)) (.lst [])=decide (ns=[]):=by
 cases ns<;>simp[ai]
theorem xD (L:Lw T) (m:Nat) (ns:List Int) (hl:ns.length<=1000) (k:Int) (h:HH):runN T G (m+1) "_law_cell" [.p (.lst (ai ns)),.p (.int k)] h=some (.p (.int (sA ns k)),h):=by
 rw[run_eq L.cell rfl]
 by_cases c:ns=[]
 ·subst c
  simp[bE,ai,sA,big,af]
 ·have n0:0 < ns.length:=List.length_pos_iff.mpr c
  have q:eqv (.lst (ai ns)) (.lst [])=false:=by rw[AA];exact decide_eq_false c
  have p1:(0:Int) < (ns.length:Int):=by omega
  have p2:(ns.length:Int) < 1073741824:=by omega
  have m1:=Int.emod_nonneg k (b:=(ns.length:Int)) (by omega)
  have m2:=Int.emod_lt_of_pos k p1
  have i1:(k % (ns.length:Int)).toNat < ns.length:=by omega
  have n2:ns.length < 1073741824:=by omega
  simp[bE,-eqv,q,gG,p1,p2,n0,n2,m1,m2,big,af,sA,c]
  simp[ai,i1,af,n0,n2,m1,m2,big,p1,p2]
theorem d8 (L:Lw T) (m:Nat) (ns:List Int) (hl:ns.length<=1000) (k many:Int) (hm:0 < many) (h:HH) :
 runN T G (m+2) "_law_drawn" [.p (.lst (ai ns)),.p (.int k),.p (.int many)] h=some (.p (.int (drw ns k many)),h):=by
 rw[run_eq L.drawn rfl]
 have r:=xD (G:=G) L m ns hl k
 have b0:big 69069=true:=by decide
 have b1:big 104723=true:=by decide
 have b2:∀ x:Int,big (x % 2147483563)=true:=fun x=>mK (by omega) (by omega)
 have b3:∀ x:Int,big (x % 2147483399)=true:=fun x=>mK (by omega) (by omega)
 simp[bF,r,b0,b1,b2,b3,af,hm,drw]
theorem nN:Str.ofString "abcf"=⟨#[97,98,99,102]⟩:=by decide +kernel
theorem xE:Str.ofString "abc"=⟨#[97,98,99]⟩:=by decide +kernel
theorem o_a:Str.ofString "a"=⟨#[97]⟩:=by decide +kernel
theorem o_b:Str.ofString "b"=⟨#[98]⟩:=by decide +kernel
theorem o_c:Str.ofString "c"=⟨#[99]⟩:=by decide +kernel
theorem o_f:Str.ofString "f"=⟨#[102]⟩:=by decide +kernel
theorem sC (i:Int) (h0:0<=i) (h1:i < 4):∃ x:Nm,cE (.str "abcf") (.int i)=some (.str x.w):=by
 have:i=0\/i=1\/i=2\/i=3:=by omega
 rcases this with rfl | rfl | rfl | rfl
 ·exact ⟨.a,by rw[Nm.w,nN,o_a];rfl⟩
 ·exact ⟨.b,by rw[Nm.w,nN,o_b];rfl⟩
 ·exact ⟨.c,by rw[Nm.w,nN,o_c];rfl⟩
 ·exact ⟨.f,by rw[Nm.w,nN,o_f];rfl⟩
theorem El (i:Int) (h0:0<=i) (h1:i < 3):∃ x:Nm,cE (.str "abc") (.int i)=some (.str x.w):=by
 have:i=0\/i=1\/i=2:=by omega
 rcases this with rfl | rfl | rfl
 ·exact ⟨.a,by rw[Nm.w,xE,o_a];rfl⟩
 ·exact ⟨.b,by rw[Nm.w,xE,o_b];rfl⟩
 ·exact ⟨.c,by rw[Nm.w,xE,o_c];rfl⟩
theorem sD (i:Int) (h0:0<=i) (h1:i < 6):∃ n:Int,Wth n/\cE (.lst [.int 0,.int 1,.int 2,.int 3,.int 10,.int 10006]) (.int i)=some (.int n):=by
 have:i=0\/i=1\/i=2\/i=3\/i=4\/i=5:=by omega
 rcases this with rfl | rfl | rfl | rfl | rfl | rfl
 ·exact ⟨0,⟨by decide,by decide⟩,rfl⟩
 ·exact ⟨1,⟨by decide,by decide⟩,rfl⟩
 ·exact ⟨2,⟨by decide,by decide⟩,rfl⟩
 ·exact ⟨3,⟨by decide,by decide⟩,rfl⟩
 ·exact ⟨10,⟨by decide,by decide⟩,rfl⟩
 ·exact ⟨10006,⟨by decide,by decide⟩,rfl⟩
theorem Em (i:Int) (h0:0<=i) (h1:i < 4):∃ o:Op,cE (.lst [.str "add",.str "sub",.str "mul",.str "less"]) (.int i)=some (.str o.w):=by
 have:i=0\/i=1\/i=2\/i=3:=by omega
 rcases this with rfl | rfl | rfl | rfl
 ·exact ⟨.add,rfl⟩
 ·exact ⟨.sub,rfl⟩
 ·exact ⟨.mul,rfl⟩
 ·exact ⟨.less,rfl⟩
theorem sF (L:Lw T) (ns:List Int) (hl:ns.length<=1000):∀ (deep:Nat) (p:Int),∃ s:Sm,s.ok/\s.size+1<=2 ^ (deep+1)/\∀ (m:Nat) (h:HH),
 runN T G (m+deep+3) "_law_sum" [.p (.lst (ai ns)),.p (.int p),.p (.int deep)] h=some (.p s.enc,h):=by
 intro deep
 induction deep with
 | zero =>
  intro p
  have dr:=fun m q many (hm:0 < many)=>d8 (G:=G) L m ns hl q many hm
  obtain ⟨x,ex⟩:=sC (drw ns (p+2) 4) (cU _ _ (by decide)) (cV _ _ (by decide))
  obtain ⟨n,hn,en⟩:=sD (drw ns (p+2) 6) (cU _ _ (by decide)) (cV _ _ (by decide))
  by_cases c:drw ns (p+1) 2=0
  ·refine ⟨.num n,hn,by simp[Sm.size],fun m h=>?_⟩
   rw[run_eq L.sum rfl]
   simp[-cI,-bK,aT,dr,c,ex,en,af,Sm.enc]
  ·refine ⟨.nam x,trivial,by simp[Sm.size],fun m h=>?_⟩
   rw[run_eq L.sum rfl]
   simp[-cI,-bK,aT,dr,c,ex,en,af,Sm.enc]
 | succ deep ih =>
  intro p
  have dr:=fun m q many (hm:0 < many)=>d8 (G:=G) L m ns hl q many hm
  obtain ⟨x,ex⟩:=sC (drw ns (p+2) 4) (cU _ _ (by decide)) (cV _ _ (by decide))
  obtain ⟨n,hn,en⟩:=sD (drw ns (p+2) 6) (cU _ _ (by decide)) (cV _ _ (by decide))
  obtain ⟨s,so,ss,sr0⟩:=ih (p*2+5)
  obtain ⟨t,to,tt,tr0⟩:=ih (p*2+19)
  have ee:∀ m,m+(deep+1)+2=m+deep+3:=fun m=>by omega
  have sr:=fun m h=>(ee m).symm ▸ sr0 m h
  have tr:=fun m h=>(ee m).symm ▸ tr0 m h
  have d0:¬ ((deep:Int)+1=0):=by omega
  have d1:((deep:Int)+1 - 1)=deep:=by omega
  have b2:big 2=true:=by decide
  have w0:=cU ns p (many:=10) (by decide)
  have w1:=cV ns p (many:=10) (by decide)
  have pw:2 ^ (deep+1+1)=2 ^ (deep+1)+2 ^ (deep+1):=by omega
  by_cases c1:drw ns p 10 < 4
  ·by_cases c:drw ns (p+1) 2=0
   ·refine ⟨.num n,hn,by simp only[Sm.size];omega,fun m h=>?_⟩
    rw[run_eq L.sum rfl]
    simp[-cI,-bK,aT,dr,c,c1,d0,ex,en,af,Sm.enc]
   ·refine ⟨.nam x,trivial,by simp only[Sm.size];omega,fun m h=>?_⟩
    rw[run_eq L.sum rfl]
    simp[-cI,-bK,aT,dr,c,c1,d0,ex,en,af,Sm.enc]
  ·by_cases c2:drw ns p 10 < 6
   ·refine ⟨.cell s,so,by simp only[Sm.size];omega,fun m h=>?_⟩
    rw[run_eq L.sum rfl]
    simp[-cI,-bK,aT,dr,c1,c2,d0,d1,b2,sr,af,Sm.enc]
   ·obtain ⟨o,eo⟩:=Em (drw ns p 10 - 6) (by omega) (by omega)
    refine ⟨.two o s t,⟨so,to⟩,by simp only[Sm.size];omega,fun m h=>?_⟩
    rw[run_eq L.sum rfl]
    simp[-cI,-bK,aT,dr,c1,c2,d0,d1,b2,sr,tr,eo,af,Sm.enc]
end
end BT
end
section
namespace BT
open PySem
noncomputable def ja:S:=(.seq (.ife (.cmp .lt (.var 3 "_law_way") (.cst (.int 5))) (.ret (.tup (.cons (.cst (.str "set")) (.cons (.var 5 "_law_name") (.cons (.var 6 "_law_one") .nil))))) .nil)
 (.seq (.ife (.cmp .lt (.var 3 "_law_way") (.cst (.int 7))) (.ret (.tup (.cons (.cst (.str "put")) (.cons (.call "_law_sum" (.cons (.var 0 "_law_script") (.cons (.bin .add (.var 1 "_law_at") (.cst (.int 9))) (.cons (.cst (.int 1)) .nil)))) (.cons (.var 6 "_law_one") .nil))))) .nil)
 (.seq (.ife (.cmp .lt (.var 3 "_law_way") (.cst (.int 9))) (.ret (.idx (.lst false (.cons (.tup (.cons (.cst (.str "ask")) (.cons (.var 5 "_law_name") .nil))) (.cons (.tup (.cons (.cst (.str "say")) (.cons (.var 6 "_law_one") .nil))) .nil))) (.bin .sub (.var 3 "_law_way") (.cst (.int 7))))) .nil)
 (.seq (.ife (.cmp .lt (.var 3 "_law_way") (.cst (.int 12))) (.ret (.idx (.lst false (.cons (.tup (.cons (.cst (.str "jump")) (.cons (.var 4 "_law_place") .nil))) (.cons (.tup (.cons (.cst (.str "unless")) (.cons (.var 6 "_law_one") (.cons (.var 4 "_law_place") .nil)))) (.cons (.tup (.cons (.cst (.str "unless")) (.cons (.tup (.cons (.cst (.str "name")) (.cons (.var 5 "_law_name") .nil))) (.cons (.var 4 "_law_place") .nil)))) .nil)))) (.bin .sub (.var 3 "_law_way") (.cst (.int 9))))) .nil)
 (.ret (.idx (.lst false (.cons (.tup (.cons (.cst (.str "call")) (.cons (.var 4 "_law_place") .nil))) (.cons (.tup (.cons (.cst (.str "call")) (.cons (.var 4 "_law_place") .nil))) (.cons (.tup (.cons (.cst (.str "back")) .nil)) (.cons (.idx (.lst false (.cons (.tup (.cons (.cst (.str "stop")) .nil)) (.cons (.tup (.cons (.cst (.str "back")) .nil)) .nil))) (.bin .mod (.var 4 "_law_place") (.cst (.int 2)))) .nil))))) (.bin .sub (.var 3 "_law_way") (.cst (.int 12)))))))))
theorem lN:cA=⟨["_law_script","_law_at","_law_size"],["_law_script","_law_at","_law_size","_law_way","_law_place","_law_name","_law_one"],
 (.seq (.set 3 "_law_way" (.call "_law_drawn" (.cons (.var 0 "_law_script") (.cons (.var 1 "_law_at") (.cons (.cst (.int 16)) .nil)))))
 (.seq (.set 4 "_law_place" (.call "_law_drawn" (.cons (.var 0 "_law_script") (.cons (.bin .add (.var 1 "_law_at") (.cst (.int 1))) (.cons (.bin .add (.var 2 "_law_size") (.cst (.int 1))) .nil)))))
 (.seq (.set 5 "_law_name" (.idx (.cst (.str "abc")) (.call "_law_drawn" (.cons (.var 0 "_law_script") (.cons (.bin .add (.var 1 "_law_at") (.cst (.int 2))) (.cons (.cst (.int 3)) .nil))))))
 (.seq (.set 6 "_law_one" (.call "_law_sum" (.cons (.var 0 "_law_script") (.cons (.bin .add (.var 1 "_law_at") (.cst (.int 3))) (.cons (.cst (.int 2)) .nil)))))
 ja))))⟩:=rfl
section
variable {T:FK->Option Fn}{G:Str->Option W}
theorem AB (L:Lw T) (ns:List Int) (hl:ns.length<=1000) (p:Int) (size:Nat):∃ r:Rw,r.ok size/\∀ (m:Nat) (h:HH),
 runN T G (m+6) "_law_row" [.p (.lst (ai ns)),.p (.int p),.p (.int size)] h=some (.p r.enc,h):=by
 have dr:=fun m q many (hm:0 < many)=>d8 (G:=G) L m ns hl q many hm
 obtain ⟨x,ex⟩:=El (drw ns (p+2) 3) (cU _ _ (by decide)) (cV _ _ (by decide))
 obtain ⟨s,so,ss,sr⟩:=sF (G:=G) L ns hl 2 (p+3)
 obtain ⟨t,to,tt,tr⟩:=sF (G:=G) L ns hl 1 (p+9)
 have w0:=cU ns p (many:=16) (by decide)
 have w1:=cV ns p (many:=16) (by decide)
 have sz:(0:Int) < (size:Int)+1:=by omega
 have p0:=cU ns (p+1) sz
 have p1:=cV ns (p+1) sz
 obtain ⟨pl,hpl⟩:∃ pl:Nat,drw ns (p+1) ((size:Int)+1)=(pl:Int):=⟨(drw ns (p+1) ((size:Int)+1)).toNat,by omega⟩
 have ple:pl<=size:=by omega
 have sok:nL s:=⟨so,by omega⟩
 have tok:nL t:=⟨to,by omega⟩
 have sr':=fun m h=>sr (m+0) h
 have tr':=fun m h=>tr (m+1) h
 simp at sr' tr'
 have dp:=fun m h=>dr m (p+1) ((size:Int)+1) sz h
 rw[hpl] at dp
 have pre:∀ (m:Nat) (h:HH),runN T G (m+6) "_law_row" [.p (.lst (ai ns)),.p (.int p),.p (.int size)] h =
  oV (evS (runN T G (m+5)) G ja [some (.p (.lst (ai ns))),some (.p (.int p)),some (.p (.int size)),some (.p (.int (drw ns p 16))),some (.p (.int (pl:Int))),some (.p (.str x.w)),some (.p s.enc)] h) (fin h):=fun m h=>by
  rw[run_eq L.row rfl,lN]
  simp[-bK,dp,dr,ex,sr']
 by_cases c1:drw ns p 16 < 5
 ·refine ⟨.set x s,sok,fun m h=>?_⟩
  rw[pre]
  simp[-cI,-bK,ja,tr',c1,af,Rw.enc]
 ·by_cases c2:drw ns p 16 < 7
  ·refine ⟨.put t s,⟨tok,sok⟩,fun m h=>?_⟩
   rw[pre]
   simp[-cI,-bK,ja,tr',c1,c2,af,Rw.enc]
  ·have c:drw ns p 16=7\/drw ns p 16=8\/drw ns p 16=9\/drw ns p 16=10\/drw ns p 16=11\/drw ns p 16=12\/drw ns p 16=13\/drw ns p 16=14\/drw ns p 16=15:=by omega
   rcases c with c | c | c | c | c | c | c | c | c
   ·refine ⟨.ask x,trivial,fun m h=>?_⟩
    rw[pre]
    simp[-bK,ja,tr',c,af,Rw.enc]
   ·refine ⟨.say s,sok,fun m h=>?_⟩
    rw[pre]
    simp[-bK,ja,tr',c,af,Rw.enc]
   ·refine ⟨.jump pl,ple,fun m h=>?_⟩
    rw[pre]
    simp[-bK,ja,tr',c,af,Rw.enc]
   ·refine ⟨.unless s pl,⟨sok,ple⟩,fun m h=>?_⟩
    rw[pre]
    simp[-bK,ja,tr',c,af,Rw.enc]
   ·refine ⟨.unless (.nam x) pl,⟨⟨trivial,by simp[Sm.size]⟩,ple⟩,fun m h=>?_⟩
    rw[pre]
    simp[-bK,ja,tr',c,af,Rw.enc,Sm.enc]
   ·refine ⟨.call pl,ple,fun m h=>?_⟩
    rw[pre]
    have z:(pl:Int) % 2=0\/(pl:Int) % 2=1:=by omega
    rcases z with z | z<;>simp[-bK,ja,tr',c,z,af,Rw.enc]
   ·refine ⟨.call pl,ple,fun m h=>?_⟩
    rw[pre]
    have z:(pl:Int) % 2=0\/(pl:Int) % 2=1:=by omega
    rcases z with z | z<;>simp[-bK,ja,tr',c,z,af,Rw.enc]
   ·refine ⟨.back,trivial,fun m h=>?_⟩
    rw[pre]
    have z:(pl:Int) % 2=0\/(pl:Int) % 2=1:=by omega
    rcases z with z | z<;>simp[-bK,ja,tr',c,z,af,Rw.enc]
   ·have z:(pl:Int) % 2=0\/(pl:Int) % 2=1:=by omega
    rcases z with z | z
    ·refine ⟨.stop,trivial,fun m h=>?_⟩
     rw[pre]
     simp[-bK,ja,tr',c,z,af,Rw.enc]
    ·refine ⟨.back,trivial,fun m h=>?_⟩
     rw[pre]
     simp[-bK,ja,tr',c,z,af,Rw.enc]
theorem comp_map (f:List D->HH->Option (Option D×HH)) (g:D->D):∀ (ds:List D) (h:HH),(∀ d∈ds,∀ h,f [d] h=some (some (g d),h))->b9 f 1 ds h=some (ds.map g,h):=by
 intro ds
 induction ds with
 | nil=>intro h _;rfl
 | cons d r ih =>
  intro h hf
  have e1:=hf d List.mem_cons_self h
  have e2:=ih h fun x hx=>hf x (List.mem_cons_of_mem _ hx)
  rw[b9,gj]
  simp[e1,e2]
theorem pN {n:Nat}{d:D} (h:d∈upto 0 n):∃ k:Nat,k < n/\d=.int k:=by
 simp[upto] at h
 obtain ⟨k,hk,e⟩:=h
 exact ⟨k,hk,e.symm⟩
theorem pO (n:Nat) (g:D->D):(upto 0 n).map g=(List.range n).map fun (k:Nat)=>g (.int k):=by
 simp[upto,Function.comp_def]
noncomputable def AC:E:=.idx (.lst false (.cons (.cst (.int 0)) (.cons (.cst (.int 1)) (.cons (.cst (.int 5)) (.cons (.cst (.int 10006)) .nil))))) (.call "_law_drawn" (.cons (.var 1 "_law_script") (.cons (.bin .add (.bin .add (.var 2 "_law_at") (.cst (.int 1))) (.var 0 "_law_k")) (.cons (.cst (.int 4)) .nil))))
theorem jS:bG=⟨["_law_script","_law_at"],["_law_script","_law_at"],.ret (.comp false .rng1 (.cons (.call "_law_drawn" (.cons (.var 0 "_law_script") (.cons (.var 1 "_law_at") (.cons (.cst (.int 4)) .nil)))) .nil) ["_law_k"] [(0,"_law_script"),(1,"_law_at")] .nil AC)⟩:=rfl
theorem uH (L:Lw T) (ns:List Int) (hl:ns.length<=1000) (p:Int):∃ asked:List Int,Ask asked/\asked.length<=3/\∀ (m:Nat) (h:HH),
 runN T G (m+3) "_law_asked" [.p (.lst (ai ns)),.p (.int p)] h=some (.p (.lst (ai asked)),h):=by
 have dr:=fun m q many (hm:0 < many)=>d8 (G:=G) L m ns hl q many hm
 have at4:∀ i:Int,0<=i->i < 4->∃ n:Int,Wth n/\cE (.lst [.int 0,.int 1,.int 5,.int 10006]) (.int i)=some (.int n):=by
  intro i h0 h1
  have:i=0\/i=1\/i=2\/i=3:=by omega
  rcases this with rfl | rfl | rfl | rfl
  ·exact ⟨0,⟨by decide,by decide⟩,rfl⟩
  ·exact ⟨1,⟨by decide,by decide⟩,rfl⟩
  ·exact ⟨5,⟨by decide,by decide⟩,rfl⟩
  ·exact ⟨10006,⟨by decide,by decide⟩,rfl⟩
 have ch:∀ k:Nat,∃ n:Int,Wth n/\cE (.lst [.int 0,.int 1,.int 5,.int 10006]) (.int (drw ns (p+1+k) 4))=some (.int n):=fun k =>
  at4 _ (cU _ _ (by decide)) (cV _ _ (by decide))
 obtain ⟨g,hg⟩:=Classical.axiomOfChoice ch
 have w0:=cU ns p (many:=4) (by decide)
 have w1:=cV ns p (many:=4) (by decide)
 refine ⟨(List.range (drw ns p 4).toNat).map g,?_,by simp;omega,fun m h=>?_⟩
 ·intro x hx
  simp at hx
  obtain ⟨k,_,rfl⟩:=hx
  exact (hg k).1
 ·rw[run_eq L.asked rfl,jS]
  have c1:drw ns p 4<=100000:=by omega
  have c0:-100000<=drw ns p 4:=by omega
  have he:∀ (k:Nat) (h:HH),ev (runN T G (m+2)) G AC [some (.p (.int k)),some (.p (.lst (ai ns))),some (.p (.int p))] h=some (.p (.int (g k)),h):=fun k h=>by
   have e:=(hg k).2
   simp[-cI,AC,dr,e]
  have cm:=comp_map (eY (fun _ h=>some ([],h)) (ev (runN T G (m+2)) G AC) [some (.p (.lst (ai ns))),some (.p (.int p))]) (fun d=>match d with | .int k=>.int (g k.toNat) | _=>.non) (upto 0 (drw ns p 4).toNat) h (by
   intro d hd h
   obtain ⟨k,hk,rfl⟩:=pN hd
   simp[dX,he])
  have ln:(drw ns p 4).toNat<=100000:=by omega
  rw[pO] at cm
  have cm':(List.range (drw ns p 4).toNat).map (fun (k:Nat)=>match D.int (k:Int) with | .int k=>D.int (g k.toNat) | _=>.non)=ai ((List.range (drw ns p 4).toNat).map g):=by simp[ai,Function.comp_def]
  rw[cm'] at cm
  simp[dr,c0,c1,cm,gG,ln,af,gk]
noncomputable def xF:E:=.call "_law_row" (.cons (.var 1 "_law_script") (.cons (.bin .add (.bin .add (.var 2 "_law_at") (.cst (.int 10))) (.bin .mul (.cst (.int 40)) (.var 0 "_law_k"))) (.cons (.var 3 "_law_size") .nil)))
structure Drawn (p:Pg):Prop where
 ok:Pg.ok p
 lo:1<=p.length
 hi:p.length<=9
noncomputable def gH (n:Int) (o:Op):Pg:=[.ask .a,.call 4,.say (.nam .a),.jump 0,.put (.nam .a) (.num n),.call 7,.back,.set .b (.two o (.nam .b) (.nam .a)),.back]
theorem nO (n:Int) (o:Op) (h:Wth n):Drawn (gH n o):=by
 refine ⟨?_,by simp[gH],by simp[gH]⟩
 intro r hr
 simp only[gH,List.mem_cons,List.not_mem_nil,or_false] at hr
 rcases hr with rfl | rfl | rfl | rfl | rfl | rfl | rfl | rfl | rfl<;>simp[Rw.ok,gH,nL,Sm.ok,Sm.size,h]
theorem k9 (L:Lw T)
 (ns:List Int) (hl:ns.length<=1000) (p:Int)
 (run1:∀ (m:Nat) (h:HH) (n:Int) (o:Op),drw ns (p+1) 4=0->n=drw ns (p+2) 9->cE (.lst [.str "add",.str "sub"]) (.int (drw ns (p+3) 2))=some (.str o.w) →
  (∀ m q many,0 < many->∀ h,runN T G (m+2) "_law_drawn" [.p (.lst (ai ns)),.p (.int q),.p (.int many)] h=some (.p (.int (drw ns q many)),h)) →
  runN T G (m+7) "_law_program" [.p (.lst (ai ns)),.p (.int p)] h=some (.p (bM (gH n o)),h))
 (run2:∀ (m:Nat) (h:HH) (pg:Pg),drw ns (p+1) 4≠0->pg.length=(1+drw ns p 9).toNat →
  (∀ m q many,0 < many->∀ h,runN T G (m+2) "_law_drawn" [.p (.lst (ai ns)),.p (.int q),.p (.int many)] h=some (.p (.int (drw ns q many)),h)) →
  (∀ h,b9 (eY (fun _ h=>some ([],h)) (ev (runN T G (m+6)) G xF) [some (.p (.lst (ai ns))),some (.p (.int p)),some (.p (.int (1+drw ns p 9)))]) 1 (upto 0 (1+drw ns p 9).toNat) h=some (pg.map Rw.enc,h)) →
  runN T G (m+7) "_law_program" [.p (.lst (ai ns)),.p (.int p)] h=some (.p (bM pg),h)) :
 ∃ pg:Pg,Drawn pg/\∀ (m:Nat) (h:HH),runN T G (m+7) "_law_program" [.p (.lst (ai ns)),.p (.int p)] h=some (.p (bM pg),h):=by
 have dr:=fun m q many (hm:0 < many)=>d8 (G:=G) L m ns hl q many hm
 by_cases c:drw ns (p+1) 4=0
 ·have d0:=cU ns (p+3) (many:=2) (by decide)
  have d1:=cV ns (p+3) (many:=2) (by decide)
  have e0:=cU ns (p+2) (many:=9) (by decide)
  have e1:=cV ns (p+2) (many:=9) (by decide)
  have z:drw ns (p+3) 2=0\/drw ns (p+3) 2=1:=by omega
  have:∃ o:Op,cE (.lst [.str "add",.str "sub"]) (.int (drw ns (p+3) 2))=some (.str o.w):=by
   rcases z with z | z<;>rw[z]
   ·exact ⟨.add,rfl⟩
   ·exact ⟨.sub,rfl⟩
  obtain ⟨o,eo⟩:=this
  exact ⟨gH (drw ns (p+2) 9) o,nO _ _ ⟨by omega,by omega⟩,fun m h=>run1 m h _ o c rfl eo dr⟩
 ·have d0:=cU ns p (many:=9) (by decide)
  have d1:=cV ns p (many:=9) (by decide)
  obtain ⟨sz,hsz⟩:∃ sz:Nat,1+drw ns p 9=(sz:Int):=⟨(1+drw ns p 9).toNat,by omega⟩
  have ch:∀ k:Nat,∃ r:Rw,r.ok sz/\∀ (m:Nat) (h:HH),runN T G (m+6) "_law_row" [.p (.lst (ai ns)),.p (.int (p+10+40*(k:Int))),.p (.int sz)] h=some (.p r.enc,h) :=
   fun k=>AB L ns hl _ sz
  obtain ⟨g,hg⟩:=Classical.axiomOfChoice ch
  refine ⟨(List.range sz).map g,⟨?_,by simp;omega,by simp;omega⟩,fun m h=>run2 m h _ c (by simp;omega) dr fun h=>?_⟩
  ·intro r hr
   simp at hr
   obtain ⟨k,_,rfl⟩:=hr
   simpa using (hg k).1
  ·rw[hsz]
   have b:big 40=true:=by decide
   have he:∀ (k:Nat) (h:HH),ev (runN T G (m+6)) G xF [some (.p (.int k)),some (.p (.lst (ai ns))),some (.p (.int p)),some (.p (.int sz))] h=some (.p (g k).enc,h):=fun k h=>by
    have e:=(hg k).2
    simp[xF,e,b]
   have cm:=comp_map (eY (fun _ h=>some ([],h)) (ev (runN T G (m+6)) G xF) [some (.p (.lst (ai ns))),some (.p (.int p)),some (.p (.int sz))]) (fun d=>match d with | .int k=>(g k.toNat).enc | _=>.non) (upto 0 sz) h (by
    intro d hd h
    obtain ⟨k,hk,rfl⟩:=pN hd
    simp[dX,he])
   rw[pO] at cm
   simp only[Int.toNat_natCast,List.map_map]
   rw[cm]
   rfl
end
end BT
end
section
namespace BT
open PySem
section
variable {T:FK->Option Fn}{G:Str->Option W}
theorem jb:aE=⟨["_law_script","_law_at"],["_law_script","_law_at","_law_size","_law_put","_law_sign","_law_rows"],
 (.seq (.set 2 "_law_size" (.bin .add (.cst (.int 1)) (.call "_law_drawn" (.cons (.var 0 "_law_script") (.cons (.var 1 "_law_at") (.cons (.cst (.int 9)) .nil))))))
 (.seq (.ife (.cmp .eq (.call "_law_drawn" (.cons (.var 0 "_law_script") (.cons (.bin .add (.var 1 "_law_at") (.cst (.int 1))) (.cons (.cst (.int 4)) .nil)))) (.cst (.int 0))) (.seq (.set 3 "_law_put" (.tup (.cons (.cst (.str "put")) (.cons (.tup (.cons (.cst (.str "name")) (.cons (.cst (.str "a")) .nil))) (.cons (.tup (.cons (.cst (.str "num")) (.cons (.call "_law_drawn" (.cons (.var 0 "_law_script") (.cons (.bin .add (.var 1 "_law_at") (.cst (.int 2))) (.cons (.cst (.int 9)) .nil)))) .nil))) .nil)))))
 (.seq (.set 4 "_law_sign" (.idx (.lst false (.cons (.cst (.str "add")) (.cons (.cst (.str "sub")) .nil))) (.call "_law_drawn" (.cons (.var 0 "_law_script") (.cons (.bin .add (.var 1 "_law_at") (.cst (.int 3))) (.cons (.cst (.int 2)) .nil))))))
 (.seq (.set 5 "_law_rows" (.tup (.cons (.tup (.cons (.cst (.str "ask")) (.cons (.cst (.str "a")) .nil))) (.cons (.tup (.cons (.cst (.str "call")) (.cons (.cst (.int 4)) .nil))) (.cons (.tup (.cons (.cst (.str "say")) (.cons (.tup (.cons (.cst (.str "name")) (.cons (.cst (.str "a")) .nil))) .nil))) (.cons (.tup (.cons (.cst (.str "jump")) (.cons (.cst (.int 0)) .nil))) (.cons (.var 3 "_law_put") .nil)))))))
 (.ret (.bin .add (.var 5 "_law_rows") (.tup (.cons (.tup (.cons (.cst (.str "call")) (.cons (.cst (.int 7)) .nil))) (.cons (.tup (.cons (.cst (.str "back")) .nil)) (.cons (.tup (.cons (.cst (.str "set")) (.cons (.cst (.str "b")) (.cons (.tup (.cons (.var 4 "_law_sign") (.cons (.tup (.cons (.cst (.str "name")) (.cons (.cst (.str "b")) .nil))) (.cons (.tup (.cons (.cst (.str "name")) (.cons (.cst (.str "a")) .nil))) .nil)))) .nil)))) (.cons (.tup (.cons (.cst (.str "back")) .nil)) .nil)))))))))) .nil)
 (.ret (.bi .tuple false (.cons (.comp false .rng1 (.cons (.var 2 "_law_size") .nil) ["_law_k"] [(0,"_law_script"),(1,"_law_at"),(2,"_law_size")] .nil xF) .nil)))))⟩:=rfl
theorem pP (L:Lw T) (hP:T "_law_program"=some aE) (ns:List Int) (hl:ns.length<=1000) (p:Int) :
 ∃ pg:Pg,Drawn pg/\∀ (m:Nat) (h:HH),runN T G (m+7) "_law_program" [.p (.lst (ai ns)),.p (.int p)] h=some (.p (bM pg),h):=by
 refine k9 L ns hl p (fun m h n o c en eo dr=>?_) (fun m h pg c el dr cm=>?_)
 ·rw[run_eq hP rfl]
  have d:=fun q many hm h=>dr (m+4) q many hm h
  simp[-cI,aE,d,c,eo,af,bM,gH,Rw.enc,Sm.enc,← en,Nm.w]
 ·rw[run_eq hP rfl]
  have d:=fun q many hm h=>dr (m+4) q many hm h
  have d0:=cU ns p (many:=9) (by decide)
  have d1:=cV ns p (many:=9) (by decide)
  have c0:-100000<=1+drw ns p 9:=by omega
  have c1:1+drw ns p 9<=100000:=by omega
  have c2:pg.length<=100000:=by omega
  have cm':=cm h
  rw[jb]
  simp[-eY,d,c,c0,c1,c2,cm',af,bM,gk]
mutual
theorem pQ:∀ d:D,eqv d d=true
 | .non=>rfl
 | .bl b=>by simp
 | .int i=>by simp
 | .str x=>by simp
 | .tup xs=>by simp[gY xs]
 | .lst xs=>by simp[gY xs]
theorem gY:∀ ds:List D,lG ds ds=true
 | []=>rfl
 | d :: r=>by simp[pQ d,gY r]
end
theorem lg (n:Nat) (xs:List Int):(ai xs).all (dok n)=true:=by simp[ai,List.all_eq_true]
theorem pR (n:Nat) (xs:List Nat):(cH xs).all (dok n)=true:=by simp[cH,List.all_eq_true]
@[simp] theorem En (ds:List D):lG ds ds=true:=gY ds
@[simp] theorem Fc (d:D):eqv d d=true:=pQ d
@[simp] theorem Fd (x:D) (xs:List Int):bO x (.tup (ai xs))=true:=iC (lg 99 xs)
@[simp] theorem Fe (x:D) (xs:List Nat):bO x (.tup (cH xs))=true:=iC (pR 99 xs)
@[simp] theorem G7 (x:D) (xs ys:List Int):bO x (.tup [.tup (ai xs),.tup (ai ys)])=true:=iC (by simp[lg])
end
end BT
end
section
namespace BT
open PySem
section
variable {T:FK->Option Fn}{G:Str->Option W}
@[simp] theorem J0 (st:St):oO st.enc (some 1) (some 3)=some (.tup [.tup (ai st.names),.tup (ai st.cells)]):=rfl
end
end BT
end
section
namespace BT
open PySem
theorem xG (n:Nat) (st:St):dok (n+2) st.enc=true:=by
 simp[St.enc,rj,lg,pR]
theorem AD (L:List St):dok 100 (.lst (L.map St.enc))=true:=by
 rw[rm,List.all_eq_true]
 intro d hd
 simp at hd
 obtain ⟨st,_,rfl⟩:=hd
 exact xG 97 st
@[simp] theorem II (x:D) (st:St):bO x st.enc=true:=iC (xG 98 st)
@[simp] theorem G8 (x:D) (L:List St):bO x (.lst (L.map St.enc))=true:=iC (AD L)
end BT
end
section
namespace BT
open PySem
noncomputable def itr (p:Pg) (asked:List Int):Nat->St
 | 0=>St.zero
 | n+1=>step p asked (itr p asked n)
structure Run (p:Pg) (asked:List Int) (most e:Nat):Prop where
 le:e<=most
 on:∀ i,i < e->over p (itr p asked i)=false
 last:e=most\/over p (itr p asked e)=true
theorem xH (p:Pg) (asked:List Int):∀ (r j:Nat),∃ e,e<=r/\sts p asked r (itr p asked j)=(List.range (e+1)).map (fun i=>itr p asked (j+i))/\(∀ i,i < e->over p (itr p asked (j+i))=false)/\(e=r\/over p (itr p asked (j+e))=true)
 | 0,j=>⟨0,Nat.le_refl _,rfl,fun i hi=>absurd hi (Nat.not_lt_zero _),.inl rfl⟩
 | r+1,j=>by
  rw[sts]
  by_cases c:over p (itr p asked j)=true
  ·rw[if_pos c]
   exact ⟨0,Nat.zero_le _,rfl,fun i hi=>absurd hi (Nat.not_lt_zero _),.inr c⟩
  ·rw[if_neg c]
   obtain ⟨e,h1,h2,h3,h4⟩:=xH p asked r (j+1)
   have c':over p (itr p asked j)=false:=by simpa using c
   refine ⟨e+1,by omega,?_,fun i hi=>?_,?_⟩
   ·show itr p asked j :: sts p asked r (itr p asked (j+1))=_
    rw[h2,List.range_succ_eq_map (n:=e+1),List.map_cons,List.map_map]
    congr 1
    apply List.map_congr_left
    intro i _
    show itr p asked (j+1+i)=itr p asked (j+(i+1))
    congr 1;omega
   ·cases i with
    | zero=>exact c'
    | succ i =>
     have:=h3 i (by omega)
     rw[show j+(i+1)=j+1+i by omega];exact this
   ·rcases h4 with h4 | h4
    ·exact .inl (by omega)
    ·exact .inr (by rw[show j+(e+1)=j+1+e by omega];exact h4)
theorem AE (p:Pg) (asked:List Int) (most:Nat):∃ e,Run p asked most e/\sts p asked most St.zero=(List.range (e+1)).map (itr p asked):=by
 obtain ⟨e,h1,h2,h3,h4⟩:=xH p asked most 0
 refine ⟨e,⟨h1,fun i hi=>by have:=h3 i hi;simpa using this,by simpa using h4⟩,?_⟩
 have:sts p asked most St.zero=sts p asked most (itr p asked 0):=rfl
 rw[this,h2]
 apply List.map_congr_left
 intro i _
 simp
theorem eH {p:Pg}{asked:List Int}{most e:Nat} (hp:Pg.ok p) (ha:Ask asked) (R:Run p asked most e):∀ i,i<=e->At i (itr p asked i)
 | 0,_=>Ay
 | i+1,h=>Az hp ha (eH hp ha R i (by omega)) (R.on i (by omega))
structure Tp where
 p:Pg
 asked:List Int
 gap:Nat
 most:Nat
 kept:List St
 far:Nat
 front:St
 now:Nat
noncomputable def Tp.fs (t:Tp) (r:Nat):List (Str×W):=[("program",.p (bM t.p)),("asked",.p (.lst (ai t.asked))),("gap",.p (.int t.gap)),("most",.p (.int t.most)),("kept",.r r),("farthest",.p (.int t.far)),("front",.p t.front.enc),("now",.p (.int t.now))]
section
variable (t:Tp) (r:Nat)
@[simp] theorem Eo:bP "program" (t.fs r)=some (.p (bM t.p)):=by simp[Tp.fs]
@[simp] theorem G9:bP "asked" (t.fs r)=some (.p (.lst (ai t.asked))):=by simp[Tp.fs]
@[simp] theorem J1:bP "gap" (t.fs r)=some (.p (.int t.gap)):=by simp[Tp.fs]
@[simp] theorem IJ:bP "most" (t.fs r)=some (.p (.int t.most)):=by simp[Tp.fs]
@[simp] theorem AF:bP "kept" (t.fs r)=some (.r r):=by simp[Tp.fs]
@[simp] theorem J2:bP "farthest" (t.fs r)=some (.p (.int t.far)):=by simp[Tp.fs]
@[simp] theorem Hf:bP "front" (t.fs r)=some (.p t.front.enc):=by simp[Tp.fs]
@[simp] theorem J3:bP "now" (t.fs r)=some (.p (.int t.now)):=by simp[Tp.fs]
@[simp] theorem J4:(t.fs r).length=8:=rfl
theorem AG (v:Nat):bN "gap" (.p (.int v)) (t.fs r)=({ t with gap:=v }:Tp).fs r:=by simp[Tp.fs]
theorem xJ (r':Nat):bN "kept" (.r r') (t.fs r)=t.fs r':=by simp[Tp.fs]
theorem AH (v:Nat):bN "farthest" (.p (.int v)) (t.fs r)=({ t with far:=v }:Tp).fs r:=by simp[Tp.fs]
theorem uI (v:St):bN "front" (.p v.enc) (t.fs r)=({ t with front:=v }:Tp).fs r:=by simp[Tp.fs]
theorem dj {m:String} (h:(["program","asked","gap","most","kept","farthest","front","now"]:List String).contains m=false):bP m (t.fs r)=none:=by
 simp only[List.contains_cons,List.contains_nil,Bool.or_false,Bool.or_eq_false_iff,beq_eq_false_iff_ne,ne_eq] at h
 obtain ⟨h1,h2,h3,h4,h5,h6,h7,h8⟩:=h
 simp[Tp.fs,h1,h2,h3,h4,h5,h6,h7,h8]
end
structure TAt (h:HH) (n r:Nat) (t:Tp):Prop where
 ob:oat h n=some (Str.ofString "Tape",t.fs r)
 li:lat h r=some (t.kept.map St.enc)
theorem jA {h:HH}{n:Nat}{q:Str×List (Str×W)} (e:oat h n=some q):n < h.length:=by
 unfold oat at e
 rcases Nat.lt_or_ge n h.length with z | z
 ·exact z
 ·rw[List.getElem?_eq_none z] at e;cases e
theorem lq {h:HH}{n:Nat}{q:List D} (e:lat h n=some q):n < h.length:=by
 unfold lat at e
 rcases Nat.lt_or_ge n h.length with z | z
 ·exact z
 ·rw[List.getElem?_eq_none z] at e;cases e
theorem sG {h:HH}{n r:Nat}{q:Str×List (Str×W)}{xs:List D} (e:oat h n=some q) (e':lat h r=some xs):n≠r:=by
 rintro rfl
 unfold oat at e
 unfold lat at e'
 cases g:h[n]? with
 | none=>rw[g] at e;cases e
 | some c=>rw[g] at e e';cases c<;>simp at e e'
theorem jc {h:HH}{n:Nat} (hn:n < h.length) (c:Cl):oat (h.set n c) n=oM c:=by
 unfold oat;rw[List.getElem?_set_self hn];rfl
theorem qM {h:HH}{n i:Nat} (hn:i≠n) (c:Cl):oat (h.set n c) i=oat h i:=by
 unfold oat;rw[List.getElem?_set_ne (Ne.symm hn)]
theorem xK {h:HH}{n:Nat} (hn:n < h.length) (c:Cl):lat (h.set n c) n=mZ c:=by
 unfold lat;rw[List.getElem?_set_self hn];rfl
theorem lu {h:HH}{n i:Nat} (hn:i≠n) (c:Cl):lat (h.set n c) i=lat h i:=by
 unfold lat;rw[List.getElem?_set_ne (Ne.symm hn)]
theorem xM {h h':HH}{i:Nat} (e:h'[i]?=h[i]?):lat h' i=lat h i:=by unfold lat;rw[e]
theorem qN {h h':HH}{i:Nat} (e:h'[i]?=h[i]?):oat h' i=oat h i:=by unfold oat;rw[e]
theorem AI {h g:HH}{i:Nat} (hi:i < h.length):lat (h++g) i=lat h i:=xM (List.getElem?_append_left hi)
theorem sH {h g:HH}{i:Nat} (hi:i < h.length):oat (h++g) i=oat h i:=qN (List.getElem?_append_left hi)
structure Go (n:Nat) (h:HH) (r:Nat) (t:Tp) (h':HH) (r':Nat) (t':Tp):Prop where
 a:TAt h n r t
 b:TAt h' n r' t'
 len:(h'.length=h.length/\r'=r)\/(h.length<=r')
 le:h.length<=h'.length
 fr:∀ i,i≠n->i≠r->i < h.length->h'[i]?=h[i]?
theorem Go.refl {n:Nat}{h:HH}{r:Nat}{t:Tp} (a:TAt h n r t):Go n h r t h r t:=⟨a,a,.inl ⟨rfl,rfl⟩,Nat.le_refl _,fun _ _ _ _=>rfl⟩
theorem Go.trans {n:Nat}{h h1 h2:HH}{r r1 r2:Nat}{t t1 t2:Tp} (x:Go n h r t h1 r1 t1) (y:Go n h1 r1 t1 h2 r2 t2):Go n h r t h2 r2 t2:=by
 refine ⟨x.a,y.b,?_,Nat.le_trans x.le y.le,fun i h1 h2 h3=>?_⟩
 ·rcases x.len with ⟨a1,a2⟩ | a1
  ·rcases y.len with ⟨b1,b2⟩ | b1
   ·exact .inl ⟨b1.trans a1,b2.trans a2⟩
   ·exact .inr (by omega)
  ·rcases y.len with ⟨b1,b2⟩ | b1
   ·exact .inr (by omega)
   ·exact .inr (by have:=x.le;omega)
 ·have:i≠r1:=by
   rcases x.len with ⟨a1,a2⟩ | a1
   ·rw[a2];exact h2
   ·omega
  rw[y.fr i h1 this (by have:=x.le;omega)]
  exact x.fr i h1 h2 h3
theorem Go.other {n m:Nat}{h h':HH}{r r' s:Nat}{t t' u:Tp} (x:Go n h r t h' r' t') (o:TAt h m s u) (hm:m≠n) (hs:s≠r):TAt h' m s u/\s≠r':=by
 have mr:m≠r:=sG o.ob x.a.li
 have sn:s≠n:=(sG x.a.ob o.li).symm
 refine ⟨⟨(qN (x.fr m hm mr (jA o.ob))).trans o.ob,(xM (x.fr s sn hs (lq o.li))).trans o.li⟩,?_⟩
 rcases x.len with ⟨a1,a2⟩ | a1
 ·rw[a2];exact hs
 ·have:=lq o.li;omega
theorem cW {n:Nat}{h h':HH}{r r':Nat}{t t':Tp} (x:Go n h r t h' r' t') (w:W):fin h w h'=some (w,h'):=by
 unfold fin
 by_cases c:h'.length=h.length
 ·rw[if_pos c]
 ·rw[if_neg c]
  rw[if_neg]
  intro z
  rcases x.len with ⟨a1,a2⟩ | a1
  ·exact c a1
  ·have hn:=jA x.a.ob
   have e:h'[n]?=h[n]?:=by
    have q:=List.getElem?_take_of_lt (l:=h') hn
    rw[z] at q
    exact q.symm
   have e2:oat h' n=oat h n:=qN e
   rw[x.a.ob,x.b.ob] at e2
   have e3:=congrArg (fun q:Option (Str×List (Str×W))=>q.bind fun y=>bP "kept" y.2) e2
   simp only[Option.bind_some,AF,Option.some.injEq,W.r.injEq] at e3
   have:=lq x.a.li
   omega
end BT
end
section
namespace BT
open PySem
noncomputable def bS:Fn:=⟨["thing"],["thing"],
 (.ret (.and (.bi .isInt false (.cons (.var 0 "thing") .nil)) (.not (.bi .isBool false (.cons (.var 0 "thing") .nil)))))⟩
noncomputable def bH:Fn:=⟨["self","program","asked","every","most"],["self","program","asked","every","most"],
 (.seq (.setf (.var 0 "self") "program" (.var 1 "program"))
 (.seq (.setf (.var 0 "self") "asked" (.bi .list false (.cons (.var 2 "asked") .nil)))
 (.seq (.setf (.var 0 "self") "gap" (.bi .max2 false (.cons (.var 3 "every") (.cons (.cst (.int 1)) .nil))))
 (.seq (.setf (.var 0 "self") "most" (.bi .max2 false (.cons (.var 4 "most") (.cons (.cst (.int 0)) .nil))))
 (.seq (.setf (.var 0 "self") "kept" (.lst true (.cons (.call "begun" .nil) .nil)))
 (.seq (.setf (.var 0 "self") "farthest" (.cst (.int 0)))
 (.seq (.setf (.var 0 "self") "front" (.call "begun" .nil))
 (.setf (.var 0 "self") "now" (.cst (.int 0))))))))))⟩
noncomputable def cB:Fn:=⟨["self","moment"],["self","moment","state","step"],
 (.seq (.ex (.meth (.var 0 "self") "check" (.cons (.var 1 "moment") .nil)))
 (.seq (.set 2 "state" (.idx (.fld (.var 0 "self") "kept") (.bin .fdiv (.var 1 "moment") (.fld (.var 0 "self") "gap"))))
 (.seq (.for [(3,"step")] .rng1 (.cons (.bin .mod (.var 1 "moment") (.fld (.var 0 "self") "gap")) .nil) (.set 2 "state" (.meth (.var 0 "self") "behind" (.cons (.var 2 "state") .nil))))
 (.ret (.var 2 "state")))))⟩
noncomputable def bT:Fn:=⟨["self"],["self"],
 (.seq (.ex (.meth (.var 0 "self") "reach" (.cons (.fld (.var 0 "self") "most") .nil)))
 (.ret (.fld (.var 0 "self") "farthest")))⟩
noncomputable def aZ:Fn:=⟨["self","state"],["self","state"],
 (.ret (.call "stepped" (.cons (.fld (.var 0 "self") "program") (.cons (.fld (.var 0 "self") "asked") (.cons (.var 1 "state") .nil)))))⟩
noncomputable def aG:Fn:=⟨["self","moment","state"],["self","moment","state"],
 (.ret (.or (.cmp .ge (.var 1 "moment") (.fld (.var 0 "self") "most")) (.call "is_over" (.cons (.fld (.var 0 "self") "program") (.cons (.var 2 "state") .nil)))))⟩
noncomputable def bf:Fn:=⟨["self","state"],["self","state"],
 (.seq (.ex (.me .append (.fld (.var 0 "self") "kept") (.cons (.var 1 "state") .nil)))
 (.ife (.cmp .gt (.bi .len false (.cons (.fld (.var 0 "self") "kept") .nil)) (.glo "MOST_MARKS")) (.seq (.setf (.var 0 "self") "kept" (.stp true 2 (.fld (.var 0 "self") "kept")))
 (.augf (.var 0 "self") "gap" .mul (.cst (.int 2)))) .nil))⟩
noncomputable def bx:Fn:=⟨["self","moment"],["self","moment"],
 (.whl (.and (.cmp .lt (.fld (.var 0 "self") "farthest") (.var 1 "moment")) (.not (.meth (.var 0 "self") "is_last" (.cons (.fld (.var 0 "self") "farthest") (.cons (.fld (.var 0 "self") "front") .nil))))) (.seq (.setf (.var 0 "self") "front" (.meth (.var 0 "self") "behind" (.cons (.fld (.var 0 "self") "front") .nil)))
 (.seq (.augf (.var 0 "self") "farthest" .add (.cst (.int 1)))
 (.ife (.cmp .eq (.bin .mod (.fld (.var 0 "self") "farthest") (.fld (.var 0 "self") "gap")) (.cst (.int 0))) (.ex (.meth (.var 0 "self") "keep" (.cons (.fld (.var 0 "self") "front") .nil))) .nil))))⟩
noncomputable def bU:Fn:=⟨["self","moment"],["self","moment"],
 (.seq (.ife (.or (.not (.call "is_whole" (.cons (.var 1 "moment") .nil))) (.or (.cmp .lt (.var 1 "moment") (.cst (.int 0))) (.cmp .gt (.var 1 "moment") (.fld (.var 0 "self") "most")))) (.ret (.cst (.bl false))) .nil)
 (.seq (.ex (.meth (.var 0 "self") "reach" (.cons (.var 1 "moment") .nil)))
 (.ret (.cmp .le (.var 1 "moment") (.fld (.var 0 "self") "farthest")))))⟩
noncomputable def bz:Fn:=⟨["self","moment"],["self","moment"],
 (.ife (.not (.meth (.var 0 "self") "has" (.cons (.var 1 "moment") .nil))) .bad .nil)⟩
structure TpP (T:FK->Option Fn) (G:Str->Option W):Prop where
 prg:Prg T G
 is_whole:T "is_whole"=some bS
 init:T (.m "Tape" "__init__")=some bH
 behind:T (.m "Tape" "behind")=some aZ
 is_last:T (.m "Tape" "is_last")=some aG
 keep:T (.m "Tape" "keep")=some bf
 reach:T (.m "Tape" "reach")=some bx
 has:T (.m "Tape" "has")=some bU
 check:T (.m "Tape" "check")=some bz
 at_:T (.m "Tape" "at")=some cB
 MOST_MARKS:G "MOST_MARKS"=some (.p (.int 8))
section
variable {T:FK->Option Fn}{G:Str->Option W}
theorem jd (P:TpP T G) (k:Nat) (i:Int) (h:HH):runN T G (k+1) "is_whole" [.p (.int i)] h=some (.p (.bl true),h):=by
 rw[run_eq P.is_whole rfl]
 simp[bS,af]
theorem fT (P:TpP T G) (k:Nat) {n r:Nat}{t:Tp}{h:HH} (a:TAt h n r t) (hp:Pg.ok t.p) {j:Nat}{st:St} (hj:j<=5000) (at_:At j st) (hb:over t.p st=false):runN T G (k+7) (.m "Tape" "behind") [.o n,.p st.enc] h=some (.p (step t.p t.asked st).enc,h):=by
 rw[run_eq P.behind rfl]
 have s:=pM P.prg k t.p hp t.asked st at_.ok (at_.small hj) hb
 simp[aZ,a.ob,s,af]
theorem gI (P:TpP T G) (k:Nat) {n r:Nat}{t:Tp}{h:HH} (a:TAt h n r t) (mo:Nat) (st:St):runN T G (k+2) (.m "Tape" "is_last") [.o n,.p (.int mo),.p st.enc] h=some (.p (.bl (decide (t.most<=mo)||over t.p st)),h):=by
 rw[run_eq P.is_last rfl]
 have o:=pL P.prg k t.p st
 by_cases c:t.most<=mo
 ·have c1:(t.most:Int)<=(mo:Int):=by omega
  simp[aG,a.ob,c,c1,af]
 ·have c1:¬ (t.most:Int)<=(mo:Int):=by omega
  simp[aG,a.ob,o,c,c1,af]
theorem xN:sliceRange (sliceBounds none none (some 2) 9).1 (sliceBounds none none (some 2) 9).2.1 (sliceBounds none none (some 2) 9).2.2=[0,2,4,6,8]:=by decide +kernel
theorem Ep (x0 x1 x2 x3 x4 x5 x6 x7 x8:D):oS 2 [x0,x1,x2,x3,x4,x5,x6,x7,x8]=[x0,x2,x4,x6,x8]:=by
 show (sliceRange (sliceBounds none none (some 2) 9).1 (sliceBounds none none (some 2) 9).2.1 (sliceBounds none none (some 2) 9).2.2).filterMap _=_
 rw[xN];rfl
noncomputable def Tp.keep (t:Tp) (st:St):Tp:=if t.kept.length < 8 then { t with kept:=t.kept++[st] } else { t with kept:=(List.range 5).filterMap fun i=>(t.kept++[st])[2*i]?,gap:=2*t.gap }
theorem xO (P:TpP T G) (k:Nat) {n r:Nat}{t:Tp}{h:HH} (a:TAt h n r t) (hg:t.gap<=100000) (hl:t.kept.length<=8) (st:St) :
 ∃ h' r',runN T G (k+1) (.m "Tape" "keep") [.o n,.p st.enc] h=some (.p .non,h')/\Go n h r t h' r' (t.keep st):=by
 have nr:=sG a.ob a.li
 have hn:=jA a.ob
 have hr:=lq a.li
 have e1:lat (h.set r (Cl.l (t.kept.map St.enc++[st.enc]))) r=some (t.kept.map St.enc++[st.enc]):=xK hr _
 have e2:oat (h.set r (Cl.l (t.kept.map St.enc++[st.enc]))) n=some (Str.ofString "Tape",t.fs r):=(qM nr _).trans a.ob
 have l0:t.kept.length < 100000:=by omega
 by_cases c:t.kept.length < 8
 ·have c1:¬ (8:Int) < (t.kept.length:Int)+1:=by omega
  have go:Go n h r t (h.set r (Cl.l (t.kept.map St.enc++[st.enc]))) r (t.keep st):=by
   refine ⟨a,⟨?_,?_⟩,.inl ⟨by simp,rfl⟩,by simp,fun i h1 h2 h3=>List.getElem?_set_ne (Ne.symm h2)⟩
   ·rw[Tp.keep,if_pos c];exact e2
   ·rw[Tp.keep,if_pos c,e1];simp
  refine ⟨_,r,?_,go⟩
  rw[run_eq P.keep rfl]
  have f:=cW go (.p .non)
  simp[bf,a.ob,a.li,e1,e2,P.MOST_MARKS,rd,c1,l0,f]
 ·have c8:t.kept.length=8:=by omega
  obtain ⟨x0,x1,x2,x3,x4,x5,x6,x7,ek⟩:∃ x0 x1 x2 x3 x4 x5 x6 x7,t.kept=[x0,x1,x2,x3,x4,x5,x6,x7]:=by
   match t.kept,c8 with
   | [x0,x1,x2,x3,x4,x5,x6,x7],_=>exact ⟨x0,x1,x2,x3,x4,x5,x6,x7,rfl⟩
  have ev:oS 2 (t.kept.map St.enc++[st.enc])=((t.keep st).kept).map St.enc:=by
   rw[Tp.keep,if_neg c,ek]
   exact Ep _ _ _ _ _ _ _ _ _
  have c1:(8:Int) < (t.kept.length:Int)+1:=by omega
  have e3:∀ g:HH,oat ((h.set r (Cl.l (t.kept.map St.enc++[st.enc])))++g) n=some (Str.ofString "Tape",t.fs r):=fun g=>(sH (by simpa using hn)).trans e2
  have e4:(h.set r (Cl.l (t.kept.map St.enc++[st.enc]))).length=h.length:=by simp
  have b0:big (t.gap:Int)=true:=by unfold big;exact decide_eq_true (by omega)
  have go:Go n h r t ((h.set r (Cl.l (t.kept.map St.enc++[st.enc]))++[Cl.l ((t.keep st).kept.map St.enc)]).set n (.o "Tape" ((t.keep st).fs h.length))) h.length (t.keep st):=by
   have hn2:n < (h.set r (Cl.l (t.kept.map St.enc++[st.enc]))++[Cl.l ((t.keep st).kept.map St.enc)]).length:=by simp;omega
   refine ⟨a,⟨jc hn2 _,?_⟩,.inr (Nat.le_refl _),by simp,fun i h1 h2 h3=>?_⟩
   ·rw[lu (Ne.symm (Nat.ne_of_lt hn))]
    have:=JZ (h.set r (Cl.l (t.kept.map St.enc++[st.enc]))) (Cl.l ((t.keep st).kept.map St.enc)) []
    rw[e4] at this
    exact this
   ·rw[List.getElem?_set_ne (Ne.symm h1),List.getElem?_append_left (by simpa using h3),List.getElem?_set_ne (Ne.symm h2)]
  refine ⟨_,_,?_,go⟩
  rw[run_eq P.keep rfl]
  have f:=cW go (.p .non)
  have k2:(t.keep st).fs h.length=({ t with gap:=2*t.gap }:Tp).fs h.length:=by
   rw[Tp.keep,if_neg c];rfl
  have pk:bN "gap" (.p (.int ((t.gap:Int)*2))) (t.fs h.length)=(t.keep st).fs h.length:=by
   rw[k2,← AG t h.length (2*t.gap)]
   congr 3
   show (t.gap:Int)*2=((2*t.gap:Nat):Int)
   omega
  have hn2:n < (h.set r (Cl.l (t.kept.map St.enc++[st.enc]))++[Cl.l ((t.keep st).kept.map St.enc)]).length:=by simp;omega
  have e5:=jc hn2 (.o "Tape" (t.fs h.length))
  rw[C2] at e5
  have s2:∀ x y:Cl,((h.set r (Cl.l (t.kept.map St.enc++[st.enc]))++[Cl.l ((t.keep st).kept.map St.enc)]).set n x).set n y=(h.set r (Cl.l (t.kept.map St.enc++[st.enc]))++[Cl.l ((t.keep st).kept.map St.enc)]).set n y:=fun x y=>by rw[List.set_set]
  simp[bf,a.ob,a.li,e1,e2,e3,e4,P.MOST_MARKS,rd,c1,l0,ev,xJ,e5,b0,pk,s2,f]
end
end BT
end
section
namespace BT
open PySem
structure TI (t:Tp) (e ev:Nat):Prop where
 run:Run t.p t.asked t.most e
 ok:Pg.ok t.p
 ask:Ask t.asked
 g0:0 < t.gap
 g1:t.gap<=1000
 m1:t.most<=1000
 far:t.far<=e
 front:t.front=itr t.p t.asked t.far
 len:t.kept.length=t.far / t.gap+1
 l8:t.kept.length<=8
 kept:∀ j,j < t.kept.length->t.kept[j]?=some (itr t.p t.asked (j*t.gap))
 now:t.now<=t.far
 pw:∃ j,t.gap=ev*2 ^ j/\(0 < j->8<=t.far / (t.gap / 2))
structure Sm8 (t t':Tp):Prop where
 p:t'.p=t.p
 asked:t'.asked=t.asked
 most:t'.most=t.most
 now:t'.now=t.now
theorem Sm8.refl (t:Tp):Sm8 t t:=⟨rfl,rfl,rfl,rfl⟩
theorem Sm8.trans {t u v:Tp} (x:Sm8 t u) (y:Sm8 u v):Sm8 t v:=⟨y.p.trans x.p,y.asked.trans x.asked,y.most.trans x.most,y.now.trans x.now⟩
noncomputable def Tp.on (t:Tp):Tp:={ t with front:=step t.p t.asked t.front,far:=t.far+1 }
noncomputable def Tp.nx (t:Tp):Tp:=if (t.far+1) % t.gap=0 then t.on.keep t.on.front else t.on
theorem xP {f g:Nat} (hg:0 < g) (c:¬ (f+1) % g=0):(f+1) / g=f / g:=by
 have h1:=Nat.div_add_mod f g
 have h2:f % g < g:=Nat.mod_lt _ hg
 have e:f+1=g*(f / g)+(f % g+1):=by omega
 have h3:f % g+1 < g:=by
  rcases Nat.lt_or_ge (f % g+1) g with z | z
  ·exact z
  ·exfalso;apply c
   have:f % g+1=g:=by omega
   rw[e,this,Nat.mul_add_mod,Nat.mod_self]
 rw[e,Nat.mul_add_div hg,Nat.div_eq_of_lt h3];omega
theorem xQ {f g:Nat} (hg:0 < g) (c:(f+1) % g=0):(f+1) / g=f / g+1/\(f / g+1)*g=f+1:=by
 have h1:=Nat.div_add_mod f g
 have h2:f % g < g:=Nat.mod_lt _ hg
 have h3:f % g+1=g:=by
  rcases Nat.lt_or_ge (f % g+1) g with z | z
  ·exfalso
   have e:f+1=g*(f / g)+(f % g+1):=by omega
   rw[e,Nat.mul_add_mod,Nat.mod_eq_of_lt z] at c
   omega
  ·omega
 have e:f+1=(f / g+1)*g:=by rw[Nat.add_mul,Nat.mul_comm (f / g) g];omega
 exact ⟨by rw[e,Nat.mul_div_cancel _ hg],e.symm⟩
theorem TI.nx {t:Tp}{e ev:Nat} (I:TI t e ev) (h:t.far < e):TI t.nx e ev/\Sm8 t t.nx/\t.nx.far=t.far+1:=by
 have g0:=I.g0
 have hf:step t.p t.asked t.front=itr t.p t.asked (t.far+1):=by rw[I.front];rfl
 have mono:∀ g:Nat,t.far / g<=(t.far+1) / g:=fun g=>Nat.div_le_div_right (Nat.le_succ _)
 unfold Tp.nx
 by_cases c:(t.far+1) % t.gap=0
 ·rw[if_pos c]
  obtain ⟨d1,d2⟩:=xQ g0 c
  have hfr:t.on.front=itr t.p t.asked (t.far+1):=hf
  have kp:∀ j,j < t.kept.length+1->(t.kept++[itr t.p t.asked (t.far+1)])[j]?=some (itr t.p t.asked (j*t.gap)):=fun j hj=>by
   rcases Nat.lt_or_ge j t.kept.length with z | z
   ·rw[List.getElem?_append_left z];exact I.kept j z
   ·have ej:j=t.kept.length:=by omega
    subst ej
    rw[List.getElem?_append_right (Nat.le_refl _),Nat.sub_self]
    have:t.kept.length*t.gap=t.far+1:=by rw[I.len];exact d2
    rw[this];rfl
  unfold Tp.keep
  by_cases c2:t.kept.length < 8
  ·have c2':t.on.kept.length < 8:=c2
   rw[if_pos c2']
   refine ⟨⟨I.run,I.ok,I.ask,g0,I.g1,I.m1,h,hf,?_,?_,fun j hj=>?_,?_,?_⟩,⟨rfl,rfl,rfl,rfl⟩,rfl⟩
   ·show (t.kept++[t.on.front]).length=(t.far+1) / t.gap+1
    rw[d1,List.length_append,I.len];rfl
   ·show (t.kept++[t.on.front]).length<=8
    rw[List.length_append];simp;omega
   ·have hj':j < t.kept.length+1:=by
     have:(t.kept++[t.on.front]).length=t.kept.length+1:=by simp
     rw[← this];exact hj
    show (t.kept++[t.on.front])[j]?=some (itr t.p t.asked (j*t.gap))
    rw[hfr];exact kp j hj'
   ·show t.now<=t.far+1;have:=I.now;omega
   ·obtain ⟨j,h1,h2⟩:=I.pw
    exact ⟨j,h1,fun hj=>Nat.le_trans (h2 hj) (mono _)⟩
  ·have c2':¬ t.on.kept.length < 8:=c2
   rw[if_neg c2']
   have l8:t.kept.length=8:=by have:=I.l8;omega
   have f8:t.far+1=8*t.gap:=by rw[← d2,← I.len,l8]
   have le:=I.run.le
   have m1:=I.m1
   have hk:∀ i,i < 5->(t.kept++[itr t.p t.asked (t.far+1)])[2*i]?=some (itr t.p t.asked (i*(2*t.gap))):=fun i hi=>by
    rw[kp (2*i) (by omega)]
    congr 2
    rw[Nat.mul_comm 2 i,Nat.mul_assoc]
   have ek:(List.range 5).filterMap (fun i=>(t.kept++[t.on.front])[2*i]?)=(List.range 5).map fun i=>itr t.p t.asked (i*(2*t.gap)):=by
    rw[hfr,show List.range 5=[0,1,2,3,4] from rfl]
    simp only[List.filterMap_cons,List.filterMap_nil,hk 0 (by decide),hk 1 (by decide),hk 2 (by decide),hk 3 (by decide),hk 4 (by decide),List.map_cons,List.map_nil]
   have dv:(t.far+1) / (2*t.gap)=4:=by
    rw[f8,show 8*t.gap=4*(2*t.gap) by omega]
    exact Nat.mul_div_cancel _ (by omega)
   refine ⟨⟨I.run,I.ok,I.ask,?_,?_,I.m1,h,hf,?_,?_,fun j hj=>?_,?_,?_⟩,⟨rfl,rfl,rfl,rfl⟩,rfl⟩
   ·show 0 < 2*t.gap;omega
   ·show 2*t.gap<=1000;omega
   ·show ((List.range 5).filterMap fun i=>(t.kept++[t.on.front])[2*i]?).length=(t.far+1) / (2*t.gap)+1
    rw[ek,dv];simp
   ·show ((List.range 5).filterMap fun i=>(t.kept++[t.on.front])[2*i]?).length<=8
    rw[ek];simp
   ·have hj':j < 5:=by
     have q:j < ((List.range 5).filterMap fun i=>(t.kept++[t.on.front])[2*i]?).length:=hj
     rw[ek] at q;simpa using q
    show ((List.range 5).filterMap fun i=>(t.kept++[t.on.front])[2*i]?)[j]?=some (itr t.p t.asked (j*(2*t.gap)))
    rw[ek,List.getElem?_map,List.getElem?_range hj'];rfl
   ·show t.now<=t.far+1;have:=I.now;omega
   ·obtain ⟨j,h1,h2⟩:=I.pw
    refine ⟨j+1,?_,fun _=>?_⟩
    ·show 2*t.gap=ev*2 ^ (j+1)
     rw[h1,Nat.pow_succ];rw[Nat.mul_comm 2,Nat.mul_assoc]
    ·show 8<=(t.far+1) / (2*t.gap / 2)
     rw[Nat.mul_div_cancel_left _ (by omega:0 < 2),f8,Nat.mul_div_cancel _ g0]
     exact Nat.le_refl _
 ·rw[if_neg c]
  refine ⟨⟨I.run,I.ok,I.ask,g0,I.g1,I.m1,h,hf,?_,I.l8,I.kept,?_,?_⟩,⟨rfl,rfl,rfl,rfl⟩,rfl⟩
  ·show t.kept.length=(t.far+1) / t.gap+1
   rw[I.len,xP g0 c]
  ·show t.now<=t.far+1;have:=I.now;omega
  ·obtain ⟨j,h1,h2⟩:=I.pw
   exact ⟨j,h1,fun hj=>Nat.le_trans (h2 hj) (mono _)⟩
section
variable {T:FK->Option Fn}{G:Str->Option W}
noncomputable def rcC:E:=(.and (.cmp .lt (.fld (.var 0 "self") "farthest") (.var 1 "moment")) (.not (.meth (.var 0 "self") "is_last" (.cons (.fld (.var 0 "self") "farthest") (.cons (.fld (.var 0 "self") "front") .nil)))))
noncomputable def rcB:S:=(.seq (.setf (.var 0 "self") "front" (.meth (.var 0 "self") "behind" (.cons (.fld (.var 0 "self") "front") .nil)))
 (.seq (.augf (.var 0 "self") "farthest" .add (.cst (.int 1)))
 (.ife (.cmp .eq (.bin .mod (.fld (.var 0 "self") "farthest") (.fld (.var 0 "self") "gap")) (.cst (.int 0))) (.ex (.meth (.var 0 "self") "keep" (.cons (.fld (.var 0 "self") "front") .nil))) .nil)))
theorem gZ (t:Tp) (r:Nat):bP "is_last" (t.fs r)=none:=dj t r rfl
theorem gJ (t:Tp) (r:Nat):bP "behind" (t.fs r)=none:=dj t r rfl
theorem Er (t:Tp) (r:Nat):bP "keep" (t.fs r)=none:=dj t r rfl
theorem sI (t:Tp) (r:Nat):bP "reach" (t.fs r)=none:=dj t r rfl
theorem Hg (t:Tp) (r:Nat):bP "has" (t.fs r)=none:=dj t r rfl
theorem g9 (t:Tp) (r:Nat):bP "check" (t.fs r)=none:=dj t r rfl
theorem Et (t:Tp) (r:Nat):bP "at" (t.fs r)=none:=dj t r rfl
theorem Hh (t:Tp) (r:Nat):bP "end" (t.fs r)=none:=dj t r rfl
theorem Hi {n r:Nat}{t:Tp}{h:HH} (a:TAt h n r t) (t':Tp) (k:t'.kept=t.kept):Go n h r t (h.set n (.o "Tape" (t'.fs r))) r t':=by
 have hn:=jA a.ob
 have nr:=sG a.ob a.li
 exact ⟨a,⟨jc hn _,by rw[lu (Ne.symm nr),k];exact a.li⟩,.inl ⟨by simp,rfl⟩,by simp,fun i h1 _ _=>List.getElem?_set_ne (Ne.symm h1)⟩
theorem AJ (P:TpP T G) (k:Nat) {n r:Nat}{t:Tp}{h:HH}{e ev:Nat} (a:TAt h n r t) (I:TI t e ev) (hl:t.far < e) (w:W) :
 ∃ h' r',evS (runN T G (k+7)) G rcB [some (.o n),some w] h=some (.nx [some (.o n),some w] h')/\Go n h r t h' r' t.nx:=by
 have hn:=jA a.ob
 have atf:=eH I.ok I.ask I.run t.far (by omega)
 have le:=I.run.le
 have m1:=I.m1
 have bh:=fT P k a I.ok (j:=t.far) (st:=t.front) (by omega) (by rw[I.front];exact atf) (by rw[I.front];exact I.run.on _ hl)
 have go1:=Hi a t.on rfl
 have e1:oat (h.set n (.o "Tape" (({ t with front:=step t.p t.asked t.front }:Tp).fs r))) n=some (Str.ofString "Tape",({ t with front:=step t.p t.asked t.front }:Tp).fs r):=jc hn _
 have pf:=uI t r (step t.p t.asked t.front)
 have pa:bN "farthest" (.p (.int ((t.far:Int)+1))) (({ t with front:=step t.p t.asked t.front }:Tp).fs r)=t.on.fs r:=AH ({ t with front:=step t.p t.asked t.front }:Tp) r (t.far+1)
 have e2:oat (h.set n (.o "Tape" (t.on.fs r))) n=some (Str.ofString "Tape",t.on.fs r):=jc hn _
 have g0:(0:Int) < (t.gap:Int):=by have:=I.g0;omega
 have s2:∀ x y:Cl,(h.set n x).set n y=h.set n y:=fun x y=>by rw[List.set_set]
 have of:t.on.far=t.far+1:=rfl
 have og:t.on.gap=t.gap:=rfl
 have pre:evS (runN T G (k+7)) G rcB [some (.o n),some w] h=evS (runN T G (k+7)) G (.ife (.cmp .eq (.bin .mod (.fld (.var 0 "self") "farthest") (.fld (.var 0 "self") "gap")) (.cst (.int 0))) (.ex (.meth (.var 0 "self") "keep" (.cons (.fld (.var 0 "self") "front") .nil))) .nil) [some (.o n),some w] (h.set n (.o "Tape" (t.on.fs r))):=by
  rw[rcB]
  simp[a.ob,bh,gJ,pf,e1,pa,s2]
 rw[pre]
 unfold Tp.nx
 have cm:(((t.far+1) % t.gap:Nat):Int)=((t.far:Int)+1) % (t.gap:Int):=by simp
 by_cases c:(t.far+1) % t.gap=0
 ·rw[if_pos c]
  have c1:((t.far:Int)+1) % (t.gap:Int)=0:=by omega
  obtain ⟨h2,r2,k1,k2⟩:=xO P (k+6) go1.b (by show t.gap<=100000;have:=I.g1;omega) (by show t.kept.length<=8;exact I.l8) t.on.front
  refine ⟨h2,r2,?_,go1.trans k2⟩
  simp[e2,of,og,g0,I.g0,c1,Er,k1]
 ·rw[if_neg c]
  have c1:¬ ((t.far:Int)+1) % (t.gap:Int)=0:=by omega
  refine ⟨_,r,?_,go1⟩
  have c2:(((t.far:Int)+1) % (t.gap:Int)==0)=false:=by simpa using c1
  simp[e2,of,og,g0,I.g0,c2]
theorem nQ (P:TpP T G) (k:Nat) {n r:Nat}{t:Tp}{h:HH}{e ev:Nat} (a:TAt h n r t) (I:TI t e ev) (m:Nat) :
 BT.ev (runN T G (k+7)) G rcC [some (.o n),some (.p (.int m))] h=some (.p (.bl (decide (t.far < min m e))),h):=by
 have il:=gI P (k+5) a t.far t.front
 have le:=I.run.le
 by_cases c:t.far < m
 ·have c1:(t.far:Int) < (m:Int):=by omega
  by_cases c2:t.far < e
  ·have o:over t.p t.front=false:=by rw[I.front];exact I.run.on _ c2
   have q:(decide (t.most<=t.far)||over t.p t.front)=false:=by
    rw[o,Bool.or_false];exact decide_eq_false (by omega)
   rw[q] at il
   have d:decide (t.far < min m e)=true:=decide_eq_true (by omega)
   rw[d]
   simp[rcC,a.ob,c1,c,gZ,il]
  ·have fe:t.far=e:=by have:=I.far;omega
   have q:(decide (t.most<=t.far)||over t.p t.front)=true:=by
    rcases I.run.last with z | z
    ·rw[decide_eq_true (by omega)];rfl
    ·rw[I.front,fe,z,Bool.or_true]
   rw[q] at il
   have d:decide (t.far < min m e)=false:=decide_eq_false (by omega)
   rw[d]
   simp[rcC,a.ob,c1,c,gZ,il]
 ·have c1:¬ (t.far:Int) < (m:Int):=by omega
  have d:decide (t.far < min m e)=false:=decide_eq_false (by omega)
  rw[d]
  simp[rcC,a.ob,c1,c]
theorem AK (P:TpP T G) (k:Nat) (n:Nat) (e ev m:Nat):∀ (d f:Nat) (h:HH) (r:Nat) (t:Tp),TAt h n r t->TI t e ev->min m e - t.far<=d->d<=f →
 ∃ h' r' t',cZ (BT.ev (runN T G (k+7)) G rcC) (evS (runN T G (k+7)) G rcB) (f+1) [some (.o n),some (.p (.int m))] h=some (.nx [some (.o n),some (.p (.int m))] h')/\Go n h r t h' r' t'/\TI t' e ev/\Sm8 t t'/\t'.far=max t.far (min m e):=by
 intro d
 induction d with
 | zero =>
  intro f h r t a I hd hf
  have q:=nQ P k a I m
  rw[decide_eq_false (by omega)] at q
  refine ⟨h,r,t,?_,.refl a,I,.refl t,by omega⟩
  rw[cZ,q,fN,jr]
 | succ d ih =>
  intro f h r t a I hd hf
  by_cases c:t.far < min m e
  ·have q:=nQ P k a I m
   rw[decide_eq_true c] at q
   obtain ⟨h1,r1,b1,g1⟩:=AJ P k a I (by omega) (.p (.int m))
   obtain ⟨I1,s1,f1⟩:=I.nx (by omega)
   cases f with
   | zero=>omega
   | succ f =>
    obtain ⟨h2,r2,t2,b2,g2,I2,s2,f2⟩:=ih f h1 r1 t.nx g1.b I1 (by omega) (by omega)
    refine ⟨h2,r2,t2,?_,g1.trans g2,I2,s1.trans s2,by omega⟩
    rw[cZ,q,fN,kG,b1,dS,b2]
  ·have q:=nQ P k a I m
   rw[decide_eq_false c] at q
   refine ⟨h,r,t,?_,.refl a,I,.refl t,by omega⟩
   rw[cZ,q,fN,jr]
theorem pS:bx=⟨["self","moment"],["self","moment"],.whl rcC rcB⟩:=rfl
theorem mL (P:TpP T G) (k:Nat) {n r:Nat}{t:Tp}{h:HH}{e ev:Nat} (a:TAt h n r t) (I:TI t e ev) (m:Nat) :
 ∃ h' r' t',runN T G (k+8) (.m "Tape" "reach") [.o n,.p (.int m)] h=some (.p .non,h')/\Go n h r t h' r' t'/\TI t' e ev/\Sm8 t t'/\t'.far=max t.far (min m e):=by
 have le:=I.run.le
 have m1:=I.m1
 obtain ⟨h',r',t',b,g,I',s,f⟩:=AK P k n e ev m 99999 99999 h r t a I (by omega) (Nat.le_refl _)
 refine ⟨h',r',t',?_,g,I',s,f⟩
 rw[run_eq P.reach rfl,pS]
 have fn:=cW g (.p .non)
 simp[turns,b,fn]
theorem AL (P:TpP T G) (k:Nat) {n r:Nat}{t:Tp}{h:HH}{e ev:Nat} (a:TAt h n r t) (I:TI t e ev) (m:Nat) (hm:m<=t.most) :
 ∃ h' r' t',runN T G (k+9) (.m "Tape" "has") [.o n,.p (.int m)] h=some (.p (.bl (decide (m<=e))),h')/\Go n h r t h' r' t'/\TI t' e ev/\Sm8 t t'/\t'.far=max t.far (min m e):=by
 obtain ⟨h',r',t',b,g,I',s,f⟩:=mL P k a I m
 refine ⟨h',r',t',?_,g,I',s,f⟩
 rw[run_eq P.has rfl]
 have w:=jd P (k+7) m
 have c1:¬ ((m:Int) < 0):=by omega
 have c2:¬ ((t.most:Int) < (m:Int)):=by omega
 have fn:=fun w=>cW g w
 have far:=I.far
 have d:decide ((m:Int)<=(t'.far:Int))=decide (m<=e):=by
  by_cases c:m<=e
  ·rw[decide_eq_true c];exact decide_eq_true (by omega)
  ·rw[decide_eq_false c];exact decide_eq_false (by omega)
 simp[bU,w,c1,a.ob,c2,sI,b,g.b.ob,fn]
 simpa using d
theorem fJ (P:TpP T G) (k:Nat) {n r:Nat}{t:Tp}{h:HH}{e ev:Nat} (a:TAt h n r t) (I:TI t e ev) (m:Nat) (hm:m<=e) :
 ∃ h' r' t',runN T G (k+10) (.m "Tape" "check") [.o n,.p (.int m)] h=some (.p .non,h')/\Go n h r t h' r' t'/\TI t' e ev/\Sm8 t t'/\t'.far=max t.far m:=by
 obtain ⟨h',r',t',b,g,I',s,f⟩:=AL P k a I m (Nat.le_trans hm I.run.le)
 rw[decide_eq_true hm] at b
 refine ⟨h',r',t',?_,g,I',s,by omega⟩
 rw[run_eq P.check rfl]
 have fn:=cW g (.p .non)
 simp[bz,a.ob,Hg,b,fn]
noncomputable def atB:S:=(.set 2 "state" (.meth (.var 0 "self") "behind" (.cons (.var 2 "state") .nil)))
theorem sJ (P:TpP T G) (k:Nat) {n r:Nat}{t:Tp}{h:HH}{e ev:Nat} (a:TAt h n r t) (I:TI t e ev) (w1:W):∀ (q j:Nat) (x:Option W) (lo:Int),j+q<=e →
 ∃ x',cg (evS (runN T G (k+7)) G atB) [(3,"step")] (upto lo q) [some (.o n),some w1,some (.p (itr t.p t.asked j).enc),x] h=some (.nx [some (.o n),some w1,some (.p (itr t.p t.asked (j+q)).enc),x'] h)
 | 0,j,x,lo,_=>⟨x,rfl⟩
 | q+1,j,x,lo,hj=>by
  have le:=I.run.le
  have m1:=I.m1
  obtain ⟨x',b⟩:=sJ P k a I w1 q (j+1) (some (.p (.int lo))) (lo+1) (by omega)
  refine ⟨x',?_⟩
  have bh:=fT P k a I.ok (j:=j) (st:=itr t.p t.asked j) (by omega) (eH I.ok I.ask I.run j (by omega)) (I.run.on j (by omega))
  have up:upto lo (q+1)=.int lo :: upto (lo+1) q:=by
   unfold upto
   rw[List.range_succ_eq_map,List.map_cons,List.map_map]
   simp only[Int.natCast_zero,Int.add_zero,List.cons.injEq,true_and]
   apply List.map_congr_left
   intro i _
   simp;omega
  rw[up]
  have s1:step t.p t.asked (itr t.p t.asked j)=itr t.p t.asked (j+1):=rfl
  rw[s1] at bh
  have ej:j+1+q=j+(q+1):=by omega
  rw[ej] at b
  have hb:evS (runN T G (k+7)) G atB [some (.o n),some w1,some (.p (itr t.p t.asked j).enc),some (.p (.int lo))] h=some (.nx [some (.o n),some w1,some (.p (itr t.p t.asked (j+1)).enc),some (.p (.int lo))] h):=by
   simp[atB,a.ob,gJ,bh]
  simp[hb,b]
theorem xR:cB=⟨["self","moment"],["self","moment","state","step"],(.seq (.ex (.meth (.var 0 "self") "check" (.cons (.var 1 "moment") .nil)))
 (.seq (.set 2 "state" (.idx (.fld (.var 0 "self") "kept") (.bin .fdiv (.var 1 "moment") (.fld (.var 0 "self") "gap"))))
 (.seq (.for [(3,"step")] .rng1 (.cons (.bin .mod (.var 1 "moment") (.fld (.var 0 "self") "gap")) .nil) atB)
 (.ret (.var 2 "state")))))⟩:=rfl
theorem qO (P:TpP T G) (k:Nat) {n r:Nat}{t:Tp}{h:HH}{e ev:Nat} (a:TAt h n r t) (I:TI t e ev) (m:Nat) (hm:m<=e) :
 ∃ h' r' t',runN T G (k+11) (.m "Tape" "at") [.o n,.p (.int m)] h=some (.p (itr t.p t.asked m).enc,h')/\Go n h r t h' r' t'/\TI t' e ev/\Sm8 t t'/\t'.far=max t.far m:=by
 obtain ⟨h',r',t',b,g,I',s,f⟩:=fJ P k a I m hm
 refine ⟨h',r',t',?_,g,I',s,f⟩
 rw[run_eq P.at_ rfl,xR]
 have fn:=fun w=>cW g w
 have g0:=I'.g0
 have g1:=I'.g1
 have dm:=Nat.div_add_mod m t'.gap
 have md:=Nat.mod_lt m g0
 have hq:m / t'.gap < t'.kept.length:=by
  rw[I'.len]
  have:m / t'.gap<=t'.far / t'.gap:=Nat.div_le_div_right (by omega)
  omega
 have hk:=I'.kept _ hq
 have le:=I'.run.le
 have m1:=I'.m1
 rw[s.p,s.asked] at hk
 have gz:(0:Int) < (t'.gap:Int):=by omega
 have gm:(t'.gap:Int) < 1073741824:=by omega
 have e1:(m:Int) / (t'.gap:Int)=((m / t'.gap:Nat):Int):=by simp
 have e2:(m:Int) % (t'.gap:Int)=((m % t'.gap:Nat):Int):=by simp
 have ix:cE (.lst (t'.kept.map St.enc)) (.int ((m / t'.gap:Nat):Int))=some (itr t.p t.asked (m / t'.gap*t'.gap)).enc:=by
  show atP _ _=_
  rw[e9,List.getElem?_map,hk];rfl
 obtain ⟨x',lp⟩:=sJ P (k+3) g.b I' (.p (.int m)) (m % t'.gap) (m / t'.gap*t'.gap) none 0 (by rw[Nat.mul_comm];omega)
 rw[s.p,s.asked] at lp
 have em:m / t'.gap*t'.gap+m % t'.gap=m:=by rw[Nat.mul_comm];exact dm
 rw[em] at lp
 have rg:fq .rng1 [.int ((m % t'.gap:Nat):Int)]=some (upto 0 (m % t'.gap)):=by
  rw[mj]
  have c:((-100000<=(((m % t'.gap:Nat):Int)):Bool)&&(((m % t'.gap:Nat):Int)<=100000:Bool))=true:=by
   simp only[Bool.and_eq_true,decide_eq_true_eq];omega
  rw[if_pos c];rfl
 simp[-cI,-mj,-Int.natCast_ediv,-Int.natCast_emod,a.ob,g9,b,g.b.ob,g.b.li,rd,gz,g0,gm,e1,e2,ix,rg,gk,lp,fn]
end
end BT
end
section
namespace BT
open PySem
section
variable {T:FK->Option Fn}{G:Str->Option W}
theorem xS {h h':HH} (i:Nat) (hi:i < h.length) (ne:h'[i]?≠h[i]?) (w:W):fin h w h'=some (w,h'):=by
 unfold fin
 by_cases c:h'.length=h.length
 ·rw[if_pos c]
 ·rw[if_neg c,if_neg]
  intro z
  apply ne
  have q:=List.getElem?_take_of_lt (l:=h') hi
  rw[z] at q
  exact q.symm
noncomputable def Tp.new (p:Pg) (asked:List Int) (ev most:Nat):Tp:=⟨p,asked,ev,most,[St.zero],0,St.zero,0⟩
theorem xT (P:TpP T G) (k:Nat) (p:Pg) (asked:List Int) (ev most:Nat) (hv:1<=ev) (h:HH) :
 runN T G (k+2) (.m "Tape" "__init__") [.o h.length,.p (bM p),.p (.lst (ai asked)),.p (.int ev),.p (.int most)] (h++[.o "Tape" []])=some (.p .non,h++[.o "Tape" ((Tp.new p asked ev most).fs (h.length+1)),.l [St.zero.enc]]):=by
 rw[run_eq P.init rfl]
 have b:=uE P.prg k
 have c0:(if (1:Int) > (ev:Int) then (1:Int) else (ev:Int))=(ev:Int):=if_neg (by omega)
 have c1:(if (0:Int) > (most:Int) then (0:Int) else (most:Int))=(most:Int):=if_neg (by omega)
 have f:∀ (c:Cl) (g:HH) (w:W),c≠.o "Tape" []->fin (h++[.o "Tape" []]) w (h++c :: g)=some (w,h++c :: g):=fun c g w hc=>by
  refine xS h.length (by simp) ?_ w
  simp
  exact hc
 have f2:=f (.o "Tape" ((Tp.new p asked ev most).fs (h.length+1))) [.l [St.zero.enc]] (.p .non) (by simp[Tp.fs])
 have fs:(Tp.new p asked ev most).fs (h.length+1)=([("program",.p (bM p)),("asked",.p (.lst (ai asked))),("gap",.p (.int ev)),("most",.p (.int most)),("kept",.r (h.length+1)),("farthest",.p (.int 0)),("front",.p St.zero.enc),("now",.p (.int 0))]:List (Str×W)):=by simp[Tp.fs,Tp.new]
 rw[fs] at f2 ⊢
 rw[bH]
 simp only[fu,List.map_cons,List.map_nil,List.length_cons,List.length_nil]
 simp[c0,c1,b,f2]
theorem Eu {p:Pg}{asked:List Int}{ev most e:Nat} (hp:Pg.ok p) (ha:Ask asked) (R:Run p asked most e) (h1:1<=ev) (h2:ev<=1000) (h3:most<=1000):TI (Tp.new p asked ev most) e ev :=
 ⟨R,hp,ha,h1,h2,h3,Nat.zero_le _,rfl,by simp[Tp.new],by simp[Tp.new],fun j hj=>by
  have:j=0:=by simpa [Tp.new] using hj
  subst this
  simp[Tp.new,itr],Nat.zero_le _,⟨0,by simp[Tp.new],fun z=>absurd z (Nat.lt_irrefl _)⟩⟩
theorem Ew (h:HH) (p:Pg) (asked:List Int) (ev most:Nat):TAt (h++[.o "Tape" ((Tp.new p asked ev most).fs (h.length+1)),.l [St.zero.enc]]) h.length (h.length+1) (Tp.new p asked ev most) :=
 ⟨by simp,by simp[Tp.new]⟩
theorem TAt.app {h g:HH}{n r:Nat}{t:Tp} (a:TAt h n r t):TAt (h++g) n r t:=⟨(sH (jA a.ob)).trans a.ob,(AI (lq a.li)).trans a.li⟩
structure Two (h:HH) (n r:Nat) (t:Tp) (m s:Nat) (u:Tp):Prop where
 a:TAt h n r t
 b:TAt h m s u
 nm:n≠m
 rs:r≠s
theorem Two.fst {h h':HH}{n r r':Nat}{t t':Tp}{m s:Nat}{u:Tp} (x:Two h n r t m s u) (g:Go n h r t h' r' t'):Two h' n r' t' m s u:=by
 obtain ⟨q1,q2⟩:=g.other x.b (Ne.symm x.nm) (Ne.symm x.rs)
 exact ⟨g.b,q1,x.nm,Ne.symm q2⟩
theorem Two.snd {h h':HH}{n r s':Nat}{t u':Tp}{m s:Nat}{u:Tp} (x:Two h n r t m s u) (g:Go m h s u h' s' u'):Two h' n r t m s' u':=by
 obtain ⟨q1,q2⟩:=g.other x.a x.nm x.rs
 exact ⟨q1,g.b,x.nm,q2⟩
end
end BT
end
section
namespace BT
open PySem
noncomputable def ltC:E:=(.and (.cmp .isN (.var 3 "found") (.cst .non)) (.cmp .ge (.var 1 "moment") (.cst (.int 0))))
noncomputable def ltB:S:=(.seq (.set 4 "mark" (.bin .sub (.var 1 "moment") (.bin .mod (.var 1 "moment") (.fld (.var 0 "self") "gap"))))
 (.seq (.set 3 "found" (.meth (.var 0 "self") "last_between" (.cons (.var 4 "mark") (.cons (.var 1 "moment") (.cons (.var 2 "test") .nil)))))
 (.set 1 "moment" (.bin .sub (.var 4 "mark") (.cst (.int 1))))))
noncomputable def aQ:Fn:=⟨["self","moment","test"],["self","moment","test","found","mark"],
 (.seq (.ex (.meth (.var 0 "self") "check" (.cons (.var 1 "moment") .nil)))
 (.seq (.set 3 "found" (.cst .non))
 (.seq (.whl ltC ltB)
 (.ret (.var 3 "found")))))⟩
noncomputable def lbB:S:=(.seq (.ife (.cmp .gt (.var 6 "number") (.var 1 "mark")) (.set 4 "state" (.meth (.var 0 "self") "behind" (.cons (.var 4 "state") .nil))) .nil)
 (.ife (.callv 3 "test" (.cons (.var 4 "state") .nil)) (.set 5 "found" (.var 6 "number")) .nil))
noncomputable def ay:Fn:=⟨["self","mark","moment","test"],["self","mark","moment","test","state","found","number"],
 (.seq (.set 4 "state" (.idx (.fld (.var 0 "self") "kept") (.bin .fdiv (.var 1 "mark") (.fld (.var 0 "self") "gap"))))
 (.seq (.set 5 "found" (.cst .non))
 (.seq (.for [(6,"number")] .rng2 (.cons (.var 1 "mark") (.cons (.bin .add (.var 2 "moment") (.cst (.int 1))) .nil)) lbB)
 (.ret (.var 5 "found")))))⟩
structure TpB (T:FK->Option Fn):Prop where
 last:T (.m "Tape" "last_to")=some aQ
 betw:T (.m "Tape" "last_between")=some ay
noncomputable def fU:Option Nat->D
 | none=>.non
 | some j=>.int j
@[simp] theorem Ex:fU none=.non:=rfl
@[simp] theorem J5 (j:Nat):fU (some j)=.int j:=rfl
structure FL (g:Nat->Bool) (a b:Nat) (o:Option Nat):Prop where
 yes:∀ j,o=some j->a<=j/\j<=b/\g j=true/\∀ i,j < i->i<=b->g i=false
 no:o=none->∀ i,a<=i->i<=b->g i=false
section
variable {T:FK->Option Fn}{G:Str->Option W}
noncomputable def Tst (T:FK->Option Fn) (G:Str->Option W) (n:Nat) (t:Tp) (q:FK) (cs:List Cp) (g:Nat->Bool) (e:Nat):Prop :=
 ∀ k h r t',TAt h n r t'->Sm8 t t'->∀ i,i<=e->runN T G (k+10) q (.p (itr t.p t.asked i).enc :: cs.map Cp.w) h=some (.p (.bl (g i)),h)
theorem nR (t:Tp) (r:Nat):bP "last_to" (t.fs r)=none:=dj t r rfl
theorem Ey (t:Tp) (r:Nat):bP "last_between" (t.fs r)=none:=dj t r rfl
theorem xU {p:Pg}{asked:List Int}{most e:Nat} (R:Run p asked most e) {m:Nat} (h:m<=e):(decide (most<=m)||over p (itr p asked m))=decide (m=e):=by
 have le:=R.le
 by_cases c:m=e
 ·rw[decide_eq_true c]
  rcases R.last with z | z
  ·rw[decide_eq_true (by omega)];rfl
  ·rw[c,z,Bool.or_true]
 ·rw[decide_eq_false c,R.on m (by omega),decide_eq_false (by omega)];rfl
theorem ly (lo:Int) (q:Nat):upto lo (q+1)=.int lo :: upto (lo+1) q:=by
 unfold upto
 rw[List.range_succ_eq_map,List.map_cons,List.map_map]
 simp only[Int.natCast_zero,Int.add_zero,List.cons.injEq,true_and]
 apply List.map_congr_left
 intro i _
 simp;omega
theorem sL (P:TpP T G) (k:Nat) {n r:Nat}{t:Tp}{h:HH}{e ev:Nat} (A:TAt h n r t) (I:TI t e ev) {t0:Tp} (s0:Sm8 t0 t) {q:FK}{cs:List Cp}{g:Nat->Bool}{E:Nat} (tt:Tst T G n t0 q cs g E) (a:Nat) (w2:W):∀ (c j:Nat) (o:Option Nat) (x:Option W),a<=j->j+c<=e->j+c<=E->FL g a j o →
 ∃ o' x',cg (evS (runN T G (k+10)) G lbB) [(6,"number")] (upto ((j+1:Nat):Int) c) [some (.o n),some (.p (.int a)),some w2,some (.c q cs),some (.p (itr t.p t.asked j).enc),some (.p (fU o)),x] h =
  some (.nx [some (.o n),some (.p (.int a)),some w2,some (.c q cs),some (.p (itr t.p t.asked (j+c)).enc),some (.p (fU o')),x'] h)/\FL g a (j+c) o'
 | 0,j,o,x,_,_,_,F=>⟨o,x,rfl,F⟩
 | c+1,j,o,x,h1,h2,h2',F=>by
  have le:=I.run.le
  have m1:=I.m1
  have t1:=tt k h r t A s0 (j+1) (by omega)
  rw[← s0.p,← s0.asked] at t1
  have bh:=fT P (k+3) A I.ok (j:=j) (st:=itr t.p t.asked j) (by omega) (eH I.ok I.ask I.run j (by omega)) (I.run.on j (by omega))
  have s1:step t.p t.asked (itr t.p t.asked j)=itr t.p t.asked (j+1):=rfl
  rw[s1] at bh
  have gt:(a:Int) < ((j+1:Nat):Int):=by omega
  have F1:FL g a (j+1) (if g (j+1)=true then some (j+1) else o):=by
   by_cases c1:g (j+1)=true
   ·rw[if_pos c1]
    exact ⟨fun i e1=>by cases e1;exact ⟨by omega,Nat.le_refl _,c1,fun i h3 h4=>by omega⟩,fun z=>by cases z⟩
   ·rw[if_neg c1]
    have c2:g (j+1)=false:=by simpa using c1
    refine ⟨fun i e1=>?_,fun z i h3 h4=>?_⟩
    ·obtain ⟨q1,q2,q3,q4⟩:=F.yes i e1
     refine ⟨q1,by omega,q3,fun i' h3 h4=>?_⟩
     by_cases c3:i'=j+1
     ·rw[c3];exact c2
     ·exact q4 i' h3 (by omega)
    ·by_cases c3:i=j+1
     ·rw[c3];exact c2
     ·exact F.no z i h3 (by omega)
  obtain ⟨o',x',b,F'⟩:=sL P k A I s0 tt a w2 c (j+1) _ (some (.p (.int ((j+1:Nat):Int)))) (by omega) (by omega) (by omega) F1
  have ej:j+1+c=j+(c+1):=by omega
  rw[ej] at b F'
  refine ⟨o',x',?_,F'⟩
  have bd:evS (runN T G (k+10)) G lbB [some (.o n),some (.p (.int a)),some w2,some (.c q cs),some (.p (itr t.p t.asked j).enc),some (.p (fU o)),some (.p (.int ((j+1:Nat):Int)))] h =
   some (.nx [some (.o n),some (.p (.int a)),some w2,some (.c q cs),some (.p (itr t.p t.asked (j+1)).enc),some (.p (fU (if g (j+1)=true then some (j+1) else o))),some (.p (.int ((j+1:Nat):Int)))] h):=by
   generalize hz:((j+1:Nat):Int)=z at gt
   have ez:∀ i:Nat,i=j+1->(D.int (i:Int))=D.int z:=fun i e1=>by rw[e1,hz]
   cases g1:g (j+1) with
   | true =>
    rw[g1] at t1
    simp[lbB,gt,A.ob,gJ,bh,t1,hz]
   | false =>
    rw[g1] at t1
    simp[lbB,gt,A.ob,gJ,bh,t1]
  have e1:((j+1:Nat):Int)+1=((j+1+1:Nat):Int):=by omega
  rw[ly,e1]
  have st:∀ (d:D) (l:List D) (s':Sl) (w:Option W),cg (evS (runN T G (k+10)) G lbB) [(6,"number")] (d :: l) [some (.o n),some (.p (.int a)),some w2,some (.c q cs),some (.p (itr t.p t.asked j).enc),some (.p (fU o)),w] h =
   fW (evS (runN T G (k+10)) G lbB [some (.o n),some (.p (.int a)),some w2,some (.c q cs),some (.p (itr t.p t.asked j).enc),some (.p (fU o)),some (.p d)] h) (cg (evS (runN T G (k+10)) G lbB) [(6,"number")] l):=fun d l s' w=>rfl
  rw[st _ _ [] x,bd,dS,b]
theorem xV (P:TpP T G) (L:TpB T) (k:Nat) {n r:Nat}{t:Tp}{h:HH}{e ev:Nat} (A:TAt h n r t) (I:TI t e ev) {t0:Tp} (s0:Sm8 t0 t) {q:FK}{cs:List Cp}{g:Nat->Bool}{E:Nat} (tt:Tst T G n t0 q cs g E) (a m:Nat) (h1:a<=m) (h2:m<=t.far) (hE:m<=E) (h3:a % t.gap=0) :
 ∃ o,runN T G (k+11) (.m "Tape" "last_between") [.o n,.p (.int a),.p (.int m),.c q cs] h=some (.p (fU o),h)/\FL g a m o:=by
 have le:=I.run.le
 have m1:=I.m1
 have fr:=I.far
 have g0:=I.g0
 have g1':=I.g1
 have t1:=tt k h r t A s0 a (by omega)
 rw[← s0.p,← s0.asked] at t1
 have F0:FL g a a (if g a=true then some a else none):=by
  by_cases c:g a=true
  ·rw[if_pos c];exact ⟨fun i e1=>by cases e1;exact ⟨Nat.le_refl _,Nat.le_refl _,c,fun i h3 h4=>by omega⟩,fun z=>by cases z⟩
  ·rw[if_neg c];exact ⟨fun i e1=>(by cases e1),fun _ i h3 h4=>by rw[show i=a by omega];simpa using c⟩
 obtain ⟨o,x',b,F⟩:=sL P k A I s0 tt a (.p (.int m)) (m - a) a _ (some (.p (.int (a:Int)))) (Nat.le_refl _) (by omega) (by omega) F0
 rw[show a+(m - a)=m by omega] at b F
 refine ⟨o,?_,F⟩
 rw[run_eq L.betw rfl,ay]
 have hq:a / t.gap < t.kept.length:=by
  rw[I.len]
  have:a / t.gap<=t.far / t.gap:=Nat.div_le_div_right (by omega)
  omega
 have hk:=I.kept _ hq
 have ea:a / t.gap*t.gap=a:=Nat.div_mul_cancel (Nat.dvd_of_mod_eq_zero h3)
 rw[ea] at hk
 have e1:(a:Int) / (t.gap:Int)=((a / t.gap:Nat):Int):=by simp
 have ix:cE (.lst (t.kept.map St.enc)) (.int ((a / t.gap:Nat):Int))=some (itr t.p t.asked a).enc:=by
  show atP _ _=_
  rw[e9,List.getElem?_map,hk];rfl
 have gz:(0:Int) < (t.gap:Int):=by omega
 have gm:(t.gap:Int) < 1073741824:=by omega
 have rg:fq .rng2 [.int (a:Int),.int ((m:Int)+1)]=some (.int (a:Int) :: upto ((a+1:Nat):Int) (m - a)):=by
  rw[gR]
  have c:((-100000<=(a:Int):Bool)&&((a:Int)<=100000:Bool)&&((-100000<=(m:Int)+1:Bool))&&(((m:Int)+1<=100000:Bool)))=true:=by
   simp only[Bool.and_eq_true,decide_eq_true_eq];omega
  rw[if_pos c,show ((m:Int)+1 - (a:Int)).toNat=(m - a)+1 by omega,ly]
  rfl
 have bd:evS (runN T G (k+10)) G lbB [some (.o n),some (.p (.int a)),some (.p (.int m)),some (.c q cs),some (.p (itr t.p t.asked a).enc),some (.p .non),some (.p (.int (a:Int)))] h =
  some (.nx [some (.o n),some (.p (.int a)),some (.p (.int m)),some (.c q cs),some (.p (itr t.p t.asked a).enc),some (.p (fU (if g a=true then some a else none))),some (.p (.int (a:Int)))] h):=by
  cases g1:g a with
  | true=>rw[g1] at t1;simp[lbB,t1]
  | false=>rw[g1] at t1;simp[lbB,t1]
 have st:∀ (d:D) (l:List D) (w:Option W),cg (evS (runN T G (k+10)) G lbB) [(6,"number")] (d :: l) [some (.o n),some (.p (.int a)),some (.p (.int m)),some (.c q cs),some (.p (itr t.p t.asked a).enc),some (.p .non),w] h =
  fW (evS (runN T G (k+10)) G lbB [some (.o n),some (.p (.int a)),some (.p (.int m)),some (.c q cs),some (.p (itr t.p t.asked a).enc),some (.p .non),some (.p d)] h) (cg (evS (runN T G (k+10)) G lbB) [(6,"number")] l):=fun d l w=>rfl
 have lp:cg (evS (runN T G (k+10)) G lbB) [(6,"number")] (.int (a:Int) :: upto ((a+1:Nat):Int) (m - a)) [some (.o n),some (.p (.int a)),some (.p (.int m)),some (.c q cs),some (.p (itr t.p t.asked a).enc),some (.p .non),none] h=some (.nx [some (.o n),some (.p (.int a)),some (.p (.int m)),some (.c q cs),some (.p (itr t.p t.asked m).enc),some (.p (fU o)),x'] h):=by
  rw[st,bd,dS,b]
 generalize upto ((a+1:Nat):Int) (m - a)=ll at rg lp
 simp[-cI,-gR,-Int.natCast_ediv,A.ob,A.li,rd,gz,g0,gm,e1,ix,rg,gk,-cg,lp,af]
theorem sM (P:TpP T G) (L:TpB T) (k:Nat) {n r:Nat}{t:Tp}{h:HH}{e ev:Nat} (A:TAt h n r t) (I:TI t e ev) {t0:Tp} (s0:Sm8 t0 t) {q:FK}{cs:List Cp}{g:Nat->Bool}{E:Nat} (tt:Tst T G n t0 q cs g E) (M:Nat) (hM:M<=t.far) (hE:M<=E):∀ (f mm:Nat) (o:Option Nat) (x:Option W),mm < f->mm<=M+1 →
 (o=none->∀ i,mm<=i->i<=M->g i=false)->(∀ j,o=some j->FL g 0 M (some j)) →
 ∃ o' y x',cZ (BT.ev (runN T G (k+11)) G ltC) (evS (runN T G (k+11)) G ltB) f [some (.o n),some (.p (.int ((mm:Int) - 1))),some (.c q cs),some (.p (fU o)),x] h=some (.nx [some (.o n),y,some (.c q cs),some (.p (fU o')),x'] h)/\FL g 0 M o'
 | 0,mm,o,x,hf,_,_,_=>absurd hf (Nat.not_lt_zero _)
 | f+1,mm,some j,x,hf,hm,i1,i2=>by
  refine ⟨some j,some (.p (.int ((mm:Int) - 1))),x,?_,i2 j rfl⟩
  have ts:BT.ev (runN T G (k+11)) G ltC [some (.o n),some (.p (.int ((mm:Int) - 1))),some (.c q cs),some (.p (fU (some j))),x] h=some (.p (.bl false),h):=by simp[ltC]
  rw[cZ,ts,fN,jr]
 | f+1,0,none,x,hf,hm,i1,i2=>by
  refine ⟨none,some (.p (.int (((0:Nat):Int) - 1))),x,?_,⟨fun j z=>(by cases z),fun _ i h1 h2=>i1 rfl i h1 h2⟩⟩
  have ts:BT.ev (runN T G (k+11)) G ltC [some (.o n),some (.p (.int (((0:Nat):Int) - 1))),some (.c q cs),some (.p (fU none)),x] h=some (.p (.bl false),h):=by simp[ltC]
  rw[cZ,ts,fN,jr]
 | f+1,m+1,none,x,hf,hm,i1,i2=>by
  have e0:((m+1:Nat):Int) - 1=(m:Int):=by omega
  rw[e0]
  have ts:BT.ev (runN T G (k+11)) G ltC [some (.o n),some (.p (.int (m:Int))),some (.c q cs),some (.p (fU none)),x] h=some (.p (.bl true),h):=by simp[ltC]
  have g0:=I.g0
  have dm:=Nat.div_add_mod m t.gap
  have md:=Nat.mod_lt m g0
  have mk:(m - m % t.gap) % t.gap=0:=by
   have:m - m % t.gap=t.gap*(m / t.gap):=by omega
   rw[this];exact Nat.mul_mod_right _ _
  obtain ⟨o1,b1,F1⟩:=xV P L k A I s0 tt (m - m % t.gap) m (by omega) (by omega) (by omega) mk
  have hmm:m % t.gap<=m:=Nat.mod_le _ _
  have em:(m:Int) - (m:Int) % (t.gap:Int)=((m - m % t.gap:Nat):Int):=by
   have:(m:Int) % (t.gap:Int)=((m % t.gap:Nat):Int):=by simp
   rw[this];omega
  have gz:(0:Int) < (t.gap:Int):=by omega
  have bd:evS (runN T G (k+11)) G ltB [some (.o n),some (.p (.int (m:Int))),some (.c q cs),some (.p (fU none)),x] h=some (.nx [some (.o n),some (.p (.int (((m - m % t.gap:Nat):Int) - 1))),some (.c q cs),some (.p (fU o1)),some (.p (.int ((m - m % t.gap:Nat):Int)))] h):=by
   generalize hz:((m - m % t.gap:Nat):Int)=z at b1 em
   simp[ltB,A.ob,gz,g0,em,Ey,b1]
  obtain ⟨o',y,x',b2,F2⟩:=sM P L k A I s0 tt M hM hE f (m - m % t.gap) o1 (some (.p (.int ((m - m % t.gap:Nat):Int)))) (by omega) (by omega) (fun z i h1 h2=>by
   by_cases c:i<=m
   ·exact F1.no z i h1 c
   ·exact i1 rfl i (by omega) h2) (fun j z=>by
   obtain ⟨q1,q2,q3,q4⟩:=F1.yes j z
   refine ⟨fun j' z'=>?_,fun z'=>by cases z'⟩
   cases z'
   refine ⟨Nat.zero_le _,by omega,q3,fun i h1 h2=>?_⟩
   by_cases c:i<=m
   ·exact q4 i h1 c
   ·exact i1 rfl i (by omega) h2)
  refine ⟨o',y,x',?_,F2⟩
  rw[cZ,ts,fN,kG,bd,dS,b2]
theorem pT (P:TpP T G) (L:TpB T) (k:Nat) {n r:Nat}{t:Tp}{h:HH}{e ev:Nat} (a:TAt h n r t) (I:TI t e ev) {q:FK}{cs:List Cp}{g:Nat->Bool}{E:Nat} (tt:Tst T G n t q cs g E) (m:Nat) (hm:m<=e) (hE:m<=E) :
 ∃ o h' r' t',runN T G (k+12) (.m "Tape" "last_to") [.o n,.p (.int m),.c q cs] h=some (.p (fU o),h')/\FL g 0 m o/\Go n h r t h' r' t'/\TI t' e ev/\Sm8 t t':=by
 obtain ⟨h',r',t',b,g1,I',s,f⟩:=fJ P (k+1) a I m hm
 have le:=I.run.le
 have m1:=I.m1
 obtain ⟨o,y,x',w1,F⟩:=sM P L k g1.b I' s tt m (by omega) hE 100000 (m+1) none none (by omega) (Nat.le_refl _) (fun _ i h1 h2=>by omega) (fun j z=>by cases z)
 refine ⟨o,h',r',t',?_,F,g1,I',s⟩
 rw[run_eq L.last rfl,aQ]
 have fn:=fun w=>cW g1 w
 have e0:((m+1:Nat):Int) - 1=(m:Int):=by omega
 rw[e0] at w1
 simp only[Ex] at w1
 simp[a.ob,g9,b,turns,w1,fn]
structure TpE (T:FK->Option Fn):Prop where
 end_:T (.m "Tape" "end")=some bT
theorem xW (P:TpP T G) (M:TpE T) (k:Nat) {n r:Nat}{t:Tp}{h:HH}{e ev:Nat} (a:TAt h n r t) (I:TI t e ev) :
 ∃ h' r' t',runN T G (k+9) (.m "Tape" "end") [.o n] h=some (.p (.int e),h')/\Go n h r t h' r' t'/\TI t' e ev/\Sm8 t t'/\t'.far=e:=by
 obtain ⟨h',r',t',b,g,I',s,f⟩:=mL P k a I t.most
 have le:=I.run.le
 have fr:=I.far
 have fe:t'.far=e:=by omega
 refine ⟨h',r',t',?_,g,I',s,fe⟩
 rw[run_eq M.end_ rfl]
 have fn:=fun w=>cW g w
 simp[bT,a.ob,sI,b,g.b.ob,fe,fn]
end
end BT
end
section
namespace BT
open PySem
noncomputable def cC:Fn:=⟨["thing"],["thing"],
 (.ret (.and (.call "is_whole" (.cons (.var 0 "thing") .nil)) (.chain .le .lt (.cst (.int 0)) (.var 0 "thing") (.glo "CELL_COUNT"))))⟩
noncomputable def aM:Fn:=⟨["thing"],["thing"],
 (.ife (.and (.not (.call "is_name" (.cons (.var 0 "thing") .nil))) (.not (.call "is_cell" (.cons (.var 0 "thing") .nil)))) .bad .nil)⟩
noncomputable def aW:Fn:=⟨["row","state"],["row","state","word"],
 (.seq (.set 2 "word" (.idx (.var 0 "row") (.cst (.int 0))))
 (.seq (.ife (.or (.cmp .eq (.var 2 "word") (.cst (.str "set"))) (.cmp .eq (.var 2 "word") (.cst (.str "ask")))) (.ret (.idx (.var 0 "row") (.cst (.int 1)))) .nil)
 (.ret (.ite (.cmp .eq (.var 2 "word") (.cst (.str "put"))) (.call "cell_by" (.cons (.idx (.var 0 "row") (.cst (.int 1))) (.cons (.var 1 "state") .nil))) (.cst .non)))))⟩
noncomputable def aH:Fn:=⟨["tape","state"],["tape","state"],
 (.ret (.call "written_by" (.cons (.idx (.fld (.var 0 "tape") "program") (.idx (.var 1 "state") (.glo "ROW"))) (.cons (.var 1 "state") .nil))))⟩
noncomputable def bA:Fn:=⟨["tape","moment"],["tape","moment"],
 (.seq (.ex (.meth (.var 0 "tape") "check" (.cons (.var 1 "moment") .nil)))
 (.ex (.meth (.var 0 "tape") "check" (.cons (.bin .sub (.var 1 "moment") (.cst (.int 1))) .nil))))⟩
noncomputable def aI:Fn:=⟨["tape","moment"],["tape","moment"],
 (.seq (.ex (.call "check_step" (.cons (.var 0 "tape") (.cons (.var 1 "moment") .nil))))
 (.ret (.call "written_next" (.cons (.var 0 "tape") (.cons (.meth (.var 0 "tape") "at" (.cons (.bin .sub (.var 1 "moment") (.cst (.int 1))) .nil)) .nil)))))⟩
noncomputable def aN:Fn:=⟨["tape","moment","thing"],["tape","moment","thing","ahead","<writer_of>"],
 (.seq (.ex (.call "check_thing" (.cons (.var 2 "thing") .nil)))
 (.seq (.ex (.meth (.var 0 "tape") "check" (.cons (.var 1 "moment") .nil)))
 (.seq (.ife (.cmp .eq (.var 1 "moment") (.cst (.int 0))) (.ret (.cst .non)) .nil)
 (.seq (.set 3 "ahead" (.methL (.var 0 "tape") "last_to" (.cons (.bin .sub (.var 1 "moment") (.cst (.int 1))) .nil) 12 [(0,"tape"),(2,"thing")]))
 (.ret (.ite (.cmp .isN (.var 3 "ahead") (.cst .non)) (.cst .non) (.bin .add (.var 3 "ahead") (.cst (.int 1)))))))))⟩
noncomputable def bV:Fn:=⟨["tape","moment","thing"],["tape","moment","thing"],
 (.ret (.call "worth_in" (.cons (.meth (.var 0 "tape") "at" (.cons (.var 1 "moment") .nil)) (.cons (.var 2 "thing") .nil))))⟩
noncomputable def aF:Fn:=⟨["tape","moment","thing"],["tape","moment","thing","worth","other","<last_change>"],
 (.seq (.set 3 "worth" (.call "worth_at" (.cons (.var 0 "tape") (.cons (.var 1 "moment") (.cons (.var 2 "thing") .nil)))))
 (.seq (.set 4 "other" (.methL (.var 0 "tape") "last_to" (.cons (.var 1 "moment") .nil) 1 [(2,"thing"),(3,"worth")]))
 (.ret (.ite (.cmp .isN (.var 4 "other") (.cst .non)) (.cst .non) (.bin .add (.var 4 "other") (.cst (.int 1)))))))⟩
structure ThP (T:FK->Option Fn):Prop where
 is_cell:T "is_cell"=some cC
 check:T "check_thing"=some aM
structure WrP (T:FK->Option Fn):Prop where
 written_by:T "written_by"=some aW
 written_next:T "written_next"=some aH
 check_step:T "check_step"=some bA
 thing_written:T "thing_written"=some aI
 writer_of:T "writer_of"=some aN
 l12:T (.l 12)=some rF
structure LcP (T:FK->Option Fn):Prop where
 worth_at:T "worth_at"=some bV
 last_change:T "last_change"=some aF
 l1:T (.l 1)=some zE
inductive Th where
 | nm (x:Nm) | cl (i:Nat) (h:i < 4)
noncomputable def Th.enc:Th->D
 | .nm x=>.str x.w
 | .cl i _=>.int i
noncomputable def Th.val (st:St):Th->Int
 | .nm x=>st.names.getD x.ix 0
 | .cl i _=>st.cells.getD i 0
noncomputable def jf:Option Th->D
 | none=>.non
 | some th=>th.enc
theorem Nm.Hj {x y:Nm} (h:Str.ofString x.w=Str.ofString y.w):x=y:=by
 cases x<;>cases y<;>first | rfl | (simp[Nm.w] at h)
theorem B7 (o:Option Th) (th:Th):eqv (jf o) th.enc=true↔o=some th:=by
 cases o with
 | none=>cases th<;>simp[jf,Th.enc]
 | some t =>
  cases t with
  | nm x =>
   cases th with
   | nm y =>
    simp only[jf,Th.enc,eqv,beq_iff_eq,Option.some.injEq,Th.nm.injEq]
    exact ⟨Nm.Hj,fun h=>by rw[h]⟩
   | cl i h=>simp[jf,Th.enc]
  | cl i h =>
   cases th with
   | nm y=>simp[jf,Th.enc]
   | cl j h' =>
    simp only[jf,Th.enc,eqv,beq_iff_eq,Option.some.injEq,Th.cl.injEq]
    omega
noncomputable def wb (st:St):Rw->Option Th
 | .set x _=>some (.nm x)
 | .ask x=>some (.nm x)
 | .put s _=>some (.cl (s.val st % 4).toNat (by omega))
 | _=>none
noncomputable def wn (t:Tp) (i:Nat):Option Th:=(t.p[(itr t.p t.asked i).row]?).bind (wb (itr t.p t.asked i))
theorem uJ {asked:List Int}{st:St}{r:Rw}{th:Th} (h:wb st r≠some th):th.val (r.next asked st)=th.val st:=by
 cases r with
 | set x s =>
  cases th with
  | nm y =>
   have hn:x.ix≠y.ix:=fun z=>h (by
    have:x=y:=by cases x<;>cases y<;>first | rfl | (simp[Nm.ix] at z)
    rw[this];rfl)
   simp[Th.val,Rw.next,List.getElem?_set_ne hn]
  | cl i hi=>rfl
 | ask x =>
  cases th with
  | nm y =>
   have hn:x.ix≠y.ix:=fun z=>h (by
    have:x=y:=by cases x<;>cases y<;>first | rfl | (simp[Nm.ix] at z)
    rw[this];rfl)
   simp[Th.val,Rw.next,List.getElem?_set_ne hn]
  | cl i hi=>rfl
 | put s u =>
  cases th with
  | nm y=>rfl
  | cl i hi =>
   have hn:(s.val st % 4).toNat≠i:=fun z=>h (by subst z;rfl)
   simp[Th.val,Rw.next,List.getElem?_set_ne hn]
 | _=>cases th<;>rfl
theorem pU {t:Tp}{i:Nat}{th:Th} (h:wn t i≠some th):th.val (itr t.p t.asked (i+1))=th.val (itr t.p t.asked i):=by
 show th.val (step t.p t.asked (itr t.p t.asked i))=_
 unfold step
 unfold wn at h
 cases e:t.p[(itr t.p t.asked i).row]? with
 | none=>rfl
 | some r=>rw[e] at h;exact uJ h
section
variable {T:FK->Option Fn}{G:Str->Option W}
theorem iB (P:Prg T G) (k:Nat) (i:Int) (h:HH):runN T G (k+1) "is_name" [.p (.int i)] h=some (.p (.bl false),h):=by
 rw[run_eq P.is_name rfl]
 simp[bW,P.LETTERS,af]
theorem pV (P:TpP T G) (C:ThP T) (k:Nat) {i:Nat} (hi:i < 4) (h:HH):runN T G (k+2) "is_cell" [.p (.int i)] h=some (.p (.bl true),h):=by
 rw[run_eq C.is_cell rfl]
 have w:=jd P k i h
 have c:(i:Int) < 4:=by omega
 have c0:(0:Int)<=(i:Int):=by omega
 simp[cC,w,P.prg.CELL_COUNT,c,c0,af]
theorem fX (P:TpP T G) (C:ThP T) (k:Nat) (th:Th) (h:HH):runN T G (k+3) "check_thing" [.p th.enc] h=some (.p .non,h):=by
 rw[run_eq C.check rfl]
 cases th with
 | nm x =>
  have n:=jK P.prg (k+1) x h
  simp[aM,Th.enc,n,af]
 | cl i hi =>
  have n:=iB P.prg (k+1) i h
  have c:=pV P C k hi h
  simp[aM,Th.enc,n,c,af]
theorem fy (P:TpP T G) (C:ThP T) (k:Nat) {st:St} (ho:st.ok) (th:Th) (h:HH):runN T G (k+4) "worth_in" [.p st.enc,.p th.enc] h=some (.p (.int (th.val st)),h):=by
 cases th with
 | nm x=>exact i9 P.prg (k+2) st ho x h
 | cl i hi =>
  rw[run_eq P.prg.worth_in rfl]
  have n:=iB P.prg (k+2) i h
  have c:=fX P C k (.cl i hi) h
  have ix:cE (.tup (ai st.cells)) (.int (i:Int))=some (.int (st.cells.getD i 0)):=by
   show atP _ _=_
   rw[e9]
   have:i < st.cells.length:=by rw[ho.clen];exact hi
   simp[ai,List.getElem?_eq_getElem this]
  have i2:cE st.enc (.int 2)=some (.tup (ai st.cells)):=rfl
  simp only[Th.enc] at c
  simp[-m8,bC,Th.enc,Th.val,n,c,P.prg.CELLS,i2,ix,af]
theorem gK (P:Prg T G) (Wr:WrP T) (k:Nat) (m:Nat) (r:Rw) (hr:r.ok m) {st:St} (ho:st.ok) (h:HH):runN T G (k+6) "written_by" [.p r.enc,.p st.enc] h=some (.p (jf (wb st r)),h):=by
 rw[run_eq Wr.written_by rfl]
 cases r with
 | put s u =>
  have c:=jL P k s hr.1 st ho h
  have e:((s.val st % 4).toNat:Int)=s.val st % 4:=by omega
  simp[aW,Rw.enc,c,wb,jf,Th.enc,e,af]
 | _=>simp[aW,Rw.enc,wb,jf,Th.enc,af]
theorem xX {t:Tp}{e:Nat} (R:Run t.p t.asked t.most e) {i:Nat} (hi:i < e):∃ r,t.p[(itr t.p t.asked i).row]?=some r:=by
 have on:=R.on i hi
 unfold over at on
 cases g:t.p[(itr t.p t.asked i).row]? with
 | none=>rw[g] at on;cases on
 | some x=>exact ⟨x,rfl⟩
theorem jB (P:TpP T G) (Wr:WrP T) (k:Nat) {n r:Nat}{t:Tp}{h:HH}{e ev:Nat} (a:TAt h n r t) (I:TI t e ev) (i:Nat) (hi:i < e):runN T G (k+7) "written_next" [.o n,.p (itr t.p t.asked i).enc] h=some (.p (jf (wn t i)),h):=by
 rw[run_eq Wr.written_next rfl]
 obtain ⟨rw0,hr0⟩:=xX I.run hi
 have at_:=eH I.ok I.ask I.run i (by omega)
 have w:=gK P.prg Wr k t.p.length rw0 (I.ok _ (List.mem_of_getElem? hr0)) at_.ok h
 have i1:cE (itr t.p t.asked i).enc (.int 0)=some (.int ((itr t.p t.asked i).row:Int)):=rfl
 have i2:cE (bM t.p) (.int ((itr t.p t.asked i).row:Int))=some rw0.enc:=by
  show atP _ _=_
  rw[e9,List.getElem?_map,hr0];rfl
 have e1:wn t i=wb (itr t.p t.asked i) rw0:=by unfold wn;rw[hr0];rfl
 rw[e1]
 simp[-m8,aH,a.ob,P.prg.ROW,i1,i2,w,af]
noncomputable def gw (t:Tp) (th:Th):Nat->Bool:=fun i=>eqv (jf (wn t i)) th.enc
theorem Hl {t t':Tp} (s:Sm8 t t') (th:Th):gw t' th=gw t th:=by unfold gw wn;rw[s.p,s.asked]
theorem sN (o:Option Th) (th:Th):bO (jf o) th.enc=true:=by cases th<;>simp[Th.enc]
theorem TI.run' {t t':Tp} (s:Sm8 t t') {e ev:Nat} (I:TI t e ev):Run t'.p t'.asked t'.most e/\Pg.ok t'.p/\Ask t'.asked:=by rw[s.p,s.asked,s.most];exact ⟨I.run,I.ok,I.ask⟩
theorem jg (P:TpP T G) (Wr:WrP T) (k:Nat) {n r:Nat}{t:Tp}{h:HH}{e:Nat} (a:TAt h n r t) (R:Run t.p t.asked t.most e) (ok:Pg.ok t.p) (ask:Ask t.asked) (i:Nat) (hi:i < e):runN T G (k+7) "written_next" [.o n,.p (itr t.p t.asked i).enc] h=some (.p (jf (wn t i)),h):=by
 rw[run_eq Wr.written_next rfl]
 obtain ⟨rw0,hr0⟩:=xX R hi
 have at_:=eH ok ask R i (by omega)
 have w:=gK P.prg Wr k t.p.length rw0 (ok _ (List.mem_of_getElem? hr0)) at_.ok h
 have i1:cE (itr t.p t.asked i).enc (.int 0)=some (.int ((itr t.p t.asked i).row:Int)):=rfl
 have i2:cE (bM t.p) (.int ((itr t.p t.asked i).row:Int))=some rw0.enc:=by
  show atP _ _=_
  rw[e9,List.getElem?_map,hr0];rfl
 have e1:wn t i=wb (itr t.p t.asked i) rw0:=by unfold wn;rw[hr0];rfl
 rw[e1]
 simp[-m8,aH,a.ob,P.prg.ROW,i1,i2,w,af]
theorem Ho (P:TpP T G) (Wr:WrP T) {n:Nat}{t:Tp}{e ev:Nat} (I:TI t e ev) (th:Th) (h0:0 < e):Tst T G n t (.l 12) [.o n,.p th.enc] (gw t th) (e - 1):=fun k h r t' a s i hi=>by
 rw[run_eq (k:=k+9) Wr.l12 rfl]
 obtain ⟨R,ok,ask⟩:=TI.run' s I
 have w:=jg P Wr (k+2) a R ok ask i (by omega)
 rw[s.p,s.asked] at w
 have e1:wn t' i=wn t i:=by unfold wn;rw[s.p,s.asked]
 rw[e1] at w
 have ok:=sN (wn t i) th
 simp[-eqv,rF,w,ok,af,gw]
theorem lz (P:TpP T G) (Wr:WrP T) (k:Nat) {n r:Nat}{t:Tp}{h:HH}{e ev:Nat} (a:TAt h n r t) (I:TI t e ev) (m:Nat) (h1:1<=m) (hm:m<=e) :
 ∃ h' r' t',runN T G (k+11) "check_step" [.o n,.p (.int m)] h=some (.p .non,h')/\Go n h r t h' r' t'/\TI t' e ev/\Sm8 t t':=by
 obtain ⟨h1',r1,t1,b1,g1,I1,s1,f1⟩:=fJ P k a I m hm
 obtain ⟨h2,r2,t2,b2,g2,I2,s2,f2⟩:=fJ P k g1.b I1 (m - 1) (by omega)
 have G2:=g1.trans g2
 refine ⟨h2,r2,t2,?_,G2,I2,s1.trans s2⟩
 rw[run_eq Wr.check_step rfl]
 have fn:=cW G2 (.p .non)
 have e1:(m:Int) - 1=((m - 1:Nat):Int):=by omega
 generalize hz:((m - 1:Nat):Int)=z at b2 e1
 simp[bA,a.ob,g9,b1,g1.b.ob,e1,b2,fn]
theorem jh (P:TpP T G) (Wr:WrP T) (k:Nat) {n r:Nat}{t:Tp}{h:HH}{e ev:Nat} (a:TAt h n r t) (I:TI t e ev) (m:Nat) (h1:1<=m) (hm:m<=e) :
 ∃ h' r' t',runN T G (k+12) "thing_written" [.o n,.p (.int m)] h=some (.p (jf (wn t (m - 1))),h')/\Go n h r t h' r' t'/\TI t' e ev/\Sm8 t t':=by
 obtain ⟨h1',r1,t1,b1,g1,I1,s1⟩:=lz P Wr k a I m h1 hm
 obtain ⟨h2,r2,t2,b2,g2,I2,s2,f2⟩:=qO P k g1.b I1 (m - 1) (by omega)
 have G2:=g1.trans g2
 have S2:=s1.trans s2
 have b3:=jB P Wr (k+4) g2.b I2 (m - 1) (by omega)
 rw[S2.p,S2.asked] at b3
 rw[s1.p,s1.asked] at b2
 have e2:wn t2 (m - 1)=wn t (m - 1):=by unfold wn;rw[S2.p,S2.asked]
 rw[e2] at b3
 refine ⟨h2,r2,t2,?_,G2,I2,S2⟩
 rw[run_eq Wr.thing_written rfl]
 have fn:=fun w=>cW G2 w
 have e1:(m:Int) - 1=((m - 1:Nat):Int):=by omega
 generalize hz:((m - 1:Nat):Int)=z at b2 e1
 simp[aI,b1,g1.b.ob,Et,e1,b2,b3,fn]
noncomputable def qP:Option Nat->D
 | none=>.non
 | some j=>.int ((j:Int)+1)
@[simp] theorem J6:qP none=.non:=rfl
@[simp] theorem J7 (j:Nat):qP (some j)=.int ((j:Int)+1):=rfl
theorem qQ (P:TpP T G) (L:TpB T) (C:ThP T) (Wr:WrP T) (k:Nat) {n r:Nat}{t:Tp}{h:HH}{e ev:Nat} (a:TAt h n r t) (I:TI t e ev) (th:Th) (m:Nat) (hm:m<=e) :
 ∃ o h' r' t',runN T G (k+13) "writer_of" [.o n,.p (.int m),.p th.enc] h=some (.p (qP o),h')/\(m=0->o=none)/\(0 < m->FL (gw t th) 0 (m - 1) o)/\Go n h r t h' r' t'/\TI t' e ev/\Sm8 t t':=by
 have b0:=fX P C (k+9) th h
 obtain ⟨h1,r1,t1,b1,g1,I1,s1,f1⟩:=fJ P (k+2) a I m hm
 by_cases c:m=0
 ·subst c
  refine ⟨none,h1,r1,t1,?_,fun _=>rfl,fun z=>absurd z (Nat.lt_irrefl _),g1,I1,s1⟩
  rw[run_eq Wr.writer_of rfl]
  have fn:=fun w=>cW g1 w
  have b1':runN T G (k+12) (.m "Tape" "check") [.o n,.p (.int 0)] h=some (.p .non,h1):=b1
  simp[aN,b0,a.ob,g9,b1',fn]
 ·have tt:=Ho (n:=n) P Wr I1 th (by omega)
  rw[Hl s1] at tt
  obtain ⟨o,h2,r2,t2,b2,F,g2,I2,s2⟩:=pT P L k g1.b I1 tt (m - 1) (by omega) (by omega)
  have G2:=g1.trans g2
  refine ⟨o,h2,r2,t2,?_,fun z=>absurd z c,fun _=>F,G2,I2,s1.trans s2⟩
  rw[run_eq Wr.writer_of rfl]
  have fn:=fun w=>cW G2 w
  have e1:(m:Int) - 1=((m - 1:Nat):Int):=by omega
  have c1:((m:Int)==0)=false:=by rw[beq_eq_false_iff_ne];omega
  generalize hz:((m - 1:Nat):Int)=z at b2 e1
  cases o with
  | none=>simp[aN,b0,a.ob,g9,b1,c,c1,g1.b.ob,e1,nR,b2,fn]
  | some j=>simp[aN,b0,a.ob,g9,b1,c,c1,g1.b.ob,e1,nR,b2,fn]
noncomputable def gc (t:Tp) (th:Th) (w:Int):Nat->Bool:=fun i=>!(th.val (itr t.p t.asked i)==w)
theorem xY {t t':Tp} (s:Sm8 t t') (th:Th) (w:Int):gc t' th w=gc t th w:=by unfold gc;rw[s.p,s.asked]
theorem dw (P:TpP T G) (C:ThP T) (Lc:LcP T) (k:Nat) {n r:Nat}{t:Tp}{h:HH}{e ev:Nat} (a:TAt h n r t) (I:TI t e ev) (th:Th) (m:Nat) (hm:m<=e) :
 ∃ h' r' t',runN T G (k+12) "worth_at" [.o n,.p (.int m),.p th.enc] h=some (.p (.int (th.val (itr t.p t.asked m))),h')/\Go n h r t h' r' t'/\TI t' e ev/\Sm8 t t':=by
 obtain ⟨h1,r1,t1,b1,g1,I1,s1,f1⟩:=qO P k a I m hm
 have b2:=fy P C (k+7) (eH I.ok I.ask I.run m hm).ok th h1
 refine ⟨h1,r1,t1,?_,g1,I1,s1⟩
 rw[run_eq Lc.worth_at rfl]
 have fn:=fun w=>cW g1 w
 simp[bV,a.ob,Et,b1,b2,fn]
theorem J8 (P:TpP T G) (C:ThP T) (Lc:LcP T) {n:Nat}{t:Tp}{e ev:Nat} (I:TI t e ev) (th:Th) (w:Int):Tst T G n t (.l 1) [.p th.enc,.p (.int w)] (gc t th w) e:=fun k h r t' a s i hi=>by
 rw[run_eq (k:=k+9) Lc.l1 rfl]
 have b2:=fy P C (k+5) (eH I.ok I.ask I.run i hi).ok th h
 simp[zE,b2,af,gc]
theorem jT (P:TpP T G) (L:TpB T) (C:ThP T) (Lc:LcP T) (k:Nat) {n r:Nat}{t:Tp}{h:HH}{e ev:Nat} (a:TAt h n r t) (I:TI t e ev) (th:Th) (m:Nat) (hm:m<=e) :
 ∃ o h' r' t',runN T G (k+13) "last_change" [.o n,.p (.int m),.p th.enc] h=some (.p (qP o),h')/\FL (gc t th (th.val (itr t.p t.asked m))) 0 m o/\Go n h r t h' r' t'/\TI t' e ev/\Sm8 t t':=by
 obtain ⟨h1,r1,t1,b1,g1,I1,s1⟩:=dw P C Lc k a I th m hm
 have tt:=J8 (n:=n) P C Lc I1 th (th.val (itr t.p t.asked m))
 rw[xY s1] at tt
 obtain ⟨o,h2,r2,t2,b2,F,g2,I2,s2⟩:=pT P L k g1.b I1 tt m hm hm
 have G2:=g1.trans g2
 refine ⟨o,h2,r2,t2,?_,F,G2,I2,s1.trans s2⟩
 rw[run_eq Lc.last_change rfl]
 have fn:=fun w=>cW G2 w
 cases o with
 | none=>simp[aF,b1,g1.b.ob,nR,b2,fn]
 | some j=>simp[aF,b1,g1.b.ob,nR,b2,fn]
end
end BT
end
section
namespace BT
open PySem
noncomputable def rdC:E:=(.not (.meth (.var 0 "self") "is_last" (.cons (.bin .sub (.bi .len false (.cons (.var 3 "told") .nil)) (.cst (.int 1))) (.cons (.var 2 "state") .nil))))
noncomputable def rdB:S:=(.seq (.set 2 "state" (.meth (.var 0 "self") "behind" (.cons (.var 2 "state") .nil)))
 (.ex (.me .append (.var 3 "told") (.cons (.callv 1 "reader" (.cons (.var 2 "state") .nil)) .nil))))
noncomputable def aJ:Fn:=⟨["self","reader"],["self","reader","state","told"],
 (.seq (.set 2 "state" (.idx (.fld (.var 0 "self") "kept") (.cst (.int 0))))
 (.seq (.set 3 "told" (.lst true (.cons (.callv 1 "reader" (.cons (.var 2 "state") .nil)) .nil)))
 (.seq (.whl rdC rdB)
 (.ret (.var 3 "told")))))⟩
structure TpR (T:FK->Option Fn):Prop where
 readings:T (.m "Tape" "readings")=some aJ
section
variable {T:FK->Option Fn}{G:Str->Option W}
theorem qR (t:Tp) (r:Nat):bP "readings" (t.fs r)=none:=dj t r rfl
noncomputable def Rdg (T:FK->Option Fn) (G:Str->Option W) (n:Nat) (t:Tp) (q:FK) (cs:List Cp) (f:Nat->D) (e:Nat):Prop :=
 ∀ k h r t',TAt h n r t'->Sm8 t t'->∀ i,i<=e->runN T G (k+10) q (.p (itr t.p t.asked i).enc :: cs.map Cp.w) h=some (.p (f i),h)
noncomputable def each (f:Nat->D) (e:Nat):List D:=(List.range (e+1)).map f
theorem gM (f:Nat->D) (e:Nat):(each f e).length=e+1:=by simp[each]
theorem uK (f:Nat->D) (e:Nat):each f (e+1)=each f e++[f (e+1)]:=by
 unfold each
 rw[List.range_succ (n:=e+1),List.map_append];rfl
theorem sO (f:Nat->D) {e i:Nat} (h:i<=e):(each f e)[i]?=some (f i):=by
 unfold each
 rw[List.getElem?_map,List.getElem?_range (by omega)];rfl
theorem AM (P:TpP T G) (k:Nat) {n r:Nat}{t:Tp}{h:HH}{e ev:Nat} (a:TAt h n r t) (I:TI t e ev) {q:FK}{cs:List Cp}{f:Nat->D} (tt:Rdg T G n t q cs f e):∀ (d u m:Nat),e - m=d->d < u->m<=e →
 cZ (BT.ev (runN T G (k+10)) G rdC) (evS (runN T G (k+10)) G rdB) u [some (.o n),some (.c q cs),some (.p (itr t.p t.asked m).enc),some (.r h.length)] (h++[.l (each f m)]) =
  some (.nx [some (.o n),some (.c q cs),some (.p (itr t.p t.asked e).enc),some (.r h.length)] (h++[.l (each f e)])):=by
 intro d
 induction d with
 | zero =>
  intro u m hd hu hm
  have em:m=e:=by omega
  subst em
  cases u with
  | zero=>omega
  | succ u =>
   have A:=a.app (g:=[.l (each f m)])
   have il:=gI P (k+8) A m (itr t.p t.asked m)
   rw[xU I.run hm,decide_eq_true rfl] at il
   have l1:(((each f m).length:Nat):Int) - 1=(m:Int):=by rw[gM];omega
   have ts:BT.ev (runN T G (k+10)) G rdC [some (.o n),some (.c q cs),some (.p (itr t.p t.asked m).enc),some (.r h.length)] (h++[.l (each f m)])=some (.p (.bl false),h++[.l (each f m)]):=by
    simp[rdC,A.ob,gZ,rd,l1,il]
   rw[cZ,ts,fN,jr]
 | succ d ih =>
  intro u m hd hu hm
  cases u with
  | zero=>omega
  | succ u =>
   have A:=a.app (g:=[.l (each f m)])
   have il:=gI P (k+8) A m (itr t.p t.asked m)
   rw[xU I.run hm,decide_eq_false (by omega)] at il
   have l1:(((each f m).length:Nat):Int) - 1=(m:Int):=by rw[gM];omega
   have ts:BT.ev (runN T G (k+10)) G rdC [some (.o n),some (.c q cs),some (.p (itr t.p t.asked m).enc),some (.r h.length)] (h++[.l (each f m)])=some (.p (.bl true),h++[.l (each f m)]):=by
    simp[rdC,A.ob,gZ,rd,l1,il]
   have le:=I.run.le
   have m1:=I.m1
   have bh:=fT P (k+3) A I.ok (j:=m) (st:=itr t.p t.asked m) (by omega) (eH I.ok I.ask I.run m hm) (I.run.on m (by omega))
   have s1:step t.p t.asked (itr t.p t.asked m)=itr t.p t.asked (m+1):=rfl
   rw[s1] at bh
   have t1:=tt k (h++[.l (each f m)]) r t A (.refl t) (m+1) (by omega)
   have l2:(each f m).length < 100000:=by rw[gM];omega
   have bd:evS (runN T G (k+10)) G rdB [some (.o n),some (.c q cs),some (.p (itr t.p t.asked m).enc),some (.r h.length)] (h++[.l (each f m)])=some (.nx [some (.o n),some (.c q cs),some (.p (itr t.p t.asked (m+1)).enc),some (.r h.length)] (h++[.l (each f (m+1))])):=by
    simp[rdB,A.ob,gJ,bh,t1,l2,uK]
   rw[cZ,ts,fN,kG,bd,dS]
   exact ih u (m+1) (by omega) (by omega) (by omega)
theorem nT (P:TpP T G) (Q:TpR T) (k:Nat) {n r:Nat}{t:Tp}{h:HH}{e ev:Nat} (a:TAt h n r t) (I:TI t e ev) {q:FK}{cs:List Cp}{f:Nat->D} (tt:Rdg T G n t q cs f e) :
 runN T G (k+11) (.m "Tape" "readings") [.o n,.c q cs] h=some (.p (.lst (each f e)),h):=by
 have le:=I.run.le
 have m1:=I.m1
 have k0:0 < t.kept.length:=by rw[I.len];exact Nat.succ_pos _
 have hk:=I.kept 0 k0
 rw[Nat.zero_mul] at hk
 have ix:cE (.lst (t.kept.map St.enc)) (.int 0)=some (itr t.p t.asked 0).enc:=by
  show atP _ ((0:Nat):Int)=_
  rw[e9,List.getElem?_map,hk];rfl
 have t0:=tt k h r t a (.refl t) 0 (Nat.zero_le _)
 have lp:=AM P k a I tt (e - 0) 100000 0 rfl (by omega) (Nat.zero_le _)
 have e0:each f 0=[f 0]:=rfl
 rw[e0] at lp
 rw[run_eq Q.readings rfl,aJ]
 simp[-cI,a.ob,a.li,rd,ix,t0,turns,lp,B6]
end
end BT
end
section
namespace BT
open PySem
noncomputable def bg:Fn:=⟨["tape","thing"],["tape","thing","<worths_of>"],
 (.ret (.methL (.var 0 "tape") "readings" .nil 0 [(1,"thing")]))⟩
noncomputable def chC:E:=(.cmp .ne (.idx (.var 1 "worths") (.var 0 "moment")) (.idx (.var 1 "worths") (.bin .sub (.var 0 "moment") (.cst (.int 1)))))
noncomputable def chE:E:=(.comp false .rng2 (.cons (.cst (.int 1)) (.cons (.bi .len false (.cons (.var 2 "worths") .nil)) .nil)) ["moment"] [(2,"worths")] (.cons chC .nil) (.var 0 "moment"))
noncomputable def cD:Fn:=⟨["tape","thing"],["tape","thing","worths"],
 (.seq (.set 2 "worths" (.call "worths_of" (.cons (.var 0 "tape") (.cons (.var 1 "thing") .nil))))
 (.ret chE))⟩
noncomputable def spB:S:=(.putd 2 "counts" (.var 3 "worth") (.bin .add (.dgt (.var 2 "counts") (.var 3 "worth") (.cst (.int 0))) (.cst (.int 1))))
noncomputable def c6:Fn:=⟨["tape","thing"],["tape","thing","counts","worth"],
 (.seq (.set 2 "counts" .dnew)
 (.seq (.for [(3,"worth")] .seq (.cons (.call "worths_of" (.cons (.var 0 "tape") (.cons (.var 1 "thing") .nil))) .nil) spB)
 (.ret (.dsi (.var 2 "counts")))))⟩
noncomputable def c7:Fn:=⟨["tape","moment","term"],["tape","moment","term"],
 (.ret (.call "reckoned" (.cons (.var 2 "term") (.cons (.meth (.var 0 "tape") "at" (.cons (.var 1 "moment") .nil)) .nil))))⟩
structure ChP (T:FK->Option Fn):Prop where
 worths_of:T "worths_of"=some bg
 changes:T "changes"=some cD
 l0:T (.l 0)=some zD
structure SpP (T:FK->Option Fn):Prop where
 spread:T "spread"=some c6
structure SuP (T:FK->Option Fn):Prop where
 sum_at:T "sum_at"=some c7
theorem nU {F:FK->List W->HH->Option (W×HH)}{G:Str->Option W}{sr:Sr}{sa:Es}{tg:List Str}{fv:List (Nat×Str)}{cond:Es}{elt:E}{s:Sl}{h h1 h2:HH}{ws:List W}{ds xs:List D}{fs:Sl} (e1:evs F G sa s h=some (ws,h1)) (e2:(rds ws h1).bind (fq sr)=some ds) (e3:frees s fv=some fs) (e4:gk ws=true) (e5:b9 (eY (evs F G cond) (BT.ev F G elt) fs) tg.length ds h1=some (xs,h2)) (e6:xs.length<=100000):BT.ev F G (.comp false sr sa tg fv cond elt) s h=some (.p (.lst xs),h2):=by
 rw[BT.ev,e1,bZ]
 unfold vL
 rw[e2,e3]
 show (if gk ws=true then _ else _)=_
 rw[if_pos e4,e5,bZ]
 unfold kF
 rw[if_pos (show xs.length<=lim from e6)];rfl
theorem xZ {α:Type} (f:List D->HH->Option (Option D×HH)) (mk:α->D) (g:α->Option D) (h:HH):∀ (l:List α),(∀ x∈l,f [mk x] h=some (g x,h))->b9 f 1 (l.map mk) h=some (l.filterMap g,h):=by
 intro l
 induction l with
 | nil=>intro _;rfl
 | cons x r ih =>
  intro hf
  rw[List.map_cons,b9,gj]
  show bnd (f [mk x] h) (vI (b9 f 1 (r.map mk)))=_
  rw[hf x List.mem_cons_self,bZ,rB,ih fun y hy=>hf y (List.mem_cons_of_mem _ hy),bZ,oR,List.filterMap_cons]
  cases g x<;>rfl
theorem Ez {α:Type} (f:List D->HH->Option (Option D×HH)) (mk:α->D) (g:α->Option D) (Iv:HH->Prop):∀ (l:List α),(∀ x∈l,∀ h,Iv h->∃ h',f [mk x] h=some (g x,h')/\Iv h')->∀ h,Iv h->∃ h',b9 f 1 (l.map mk) h=some (l.filterMap g,h')/\Iv h':=by
 intro l
 induction l with
 | nil=>intro _ h hi;exact ⟨h,rfl,hi⟩
 | cons x r ih =>
  intro hf h hi
  obtain ⟨h1,e1,i1⟩:=hf x List.mem_cons_self h hi
  obtain ⟨h2,e2,i2⟩:=ih (fun y hy=>hf y (List.mem_cons_of_mem _ hy)) h1 i1
  refine ⟨h2,?_,i2⟩
  rw[List.map_cons,b9,gj]
  show bnd (f [mk x] h) (vI (b9 f 1 (r.map mk)))=_
  rw[e1,bZ,rB,e2,bZ,oR,List.filterMap_cons]
  cases g x<;>rfl
theorem AN {α β:Type} (p:α->Bool) (m:α->β) (l:List α):l.filterMap (fun x=>if p x=true then some (m x) else none)=(l.filter p).map m:=by
 induction l with
 | nil=>rfl
 | cons x r ih =>
  rw[List.filterMap_cons,List.filter_cons]
  cases p x with
  | true=>simp[ih]
  | false=>simp[ih]
noncomputable def wv (t:Tp) (th:Th) (i:Nat):Int:=th.val (itr t.p t.asked i)
theorem mO {t t':Tp} (s:Sm8 t t') (th:Th):wv t' th=wv t th:=by funext i;unfold wv;rw[s.p,s.asked]
noncomputable def wvD (t:Tp) (th:Th) (i:Nat):D:=.int (wv t th i)
noncomputable def chl (v:Nat->Int) (e:Nat):List Nat:=(List.range e).filter fun k=>decide (v (k+1)≠v k)
noncomputable def chD (v:Nat->Int) (e:Nat):List D:=(chl v e).map fun (k:Nat)=>.int ((k:Int)+1)
section
variable {T:FK->Option Fn}{G:Str->Option W}
theorem J9 (P:TpP T G) (C:ThP T) (Q:ChP T) {n:Nat}{t:Tp}{e ev:Nat} (I:TI t e ev) (th:Th):Rdg T G n t (.l 0) [.p th.enc] (wvD t th) e:=fun k h r t' a s i hi=>by
 rw[run_eq (k:=k+9) Q.l0 rfl]
 have b2:=fy P C (k+5) (eH I.ok I.ask I.run i hi).ok th h
 simp[zD,b2,af,wvD,wv]
theorem lA (P:TpP T G) (C:ThP T) (R:TpR T) (Q:ChP T) (k:Nat) {n r:Nat}{t:Tp}{h:HH}{e ev:Nat} (a:TAt h n r t) (I:TI t e ev) (th:Th) :
 runN T G (k+12) "worths_of" [.o n,.p th.enc] h=some (.p (.lst (each (wvD t th) e)),h):=by
 have b1:=nT P R k a I (J9 P C Q I th)
 rw[run_eq Q.worths_of rfl]
 simp[bg,a.ob,qR,b1,af]
theorem pW (P:TpP T G) (C:ThP T) (R:TpR T) (Q:ChP T) (k:Nat) {n r:Nat}{t:Tp}{h:HH}{e ev:Nat} (a:TAt h n r t) (I:TI t e ev) (th:Th) :
 runN T G (k+13) "changes" [.o n,.p th.enc] h=some (.p (.lst (chD (wv t th) e)),h):=by
 have b1:=lA P C R Q k a I th
 have le:=I.run.le
 have m1:=I.m1
 rw[run_eq Q.changes rfl,cD]
 have ct:∀ i:Nat,i < e->BT.ev (runN T G (k+12)) G chC [some (.p (.int ((1:Int)+(i:Int)))),some (.p (.lst (each (wvD t th) e)))] h=some (.p (.bl (!(wv t th (i+1)==wv t th i))),h):=fun i hi=>by
  have x1:cE (.lst (each (wvD t th) e)) (.int ((1:Int)+(i:Int)))=some (wvD t th (i+1)):=by
   rw[show (1:Int)+(i:Int)=((i+1:Nat):Int) by omega]
   show atP _ _=_
   rw[e9,sO _ (by omega)]
  have x2:cE (.lst (each (wvD t th) e)) (.int ((1:Int)+(i:Int) - 1))=some (wvD t th i):=by
   rw[show (1:Int)+(i:Int) - 1=(i:Int) by omega]
   show atP _ _=_
   rw[e9,sO _ (by omega)]
  simp[-cI,chC,rd,x1,x2,wvD]
 have rg:fq .rng2 [.int 1,.int (((each (wvD t th) e).length:Nat):Int)]=some (upto 1 e):=by
  rw[gR,gM]
  have c:((-100000<=(1:Int):Bool)&&((1:Int)<=100000:Bool)&&((-100000<=((e+1:Nat):Int):Bool))&&((((e+1:Nat):Int)<=100000:Bool)))=true:=by
   simp only[Bool.and_eq_true,decide_eq_true_eq];omega
  rw[if_pos c,show (((e+1:Nat):Int) - 1).toNat=e by omega]
 have cm:b9 (eY (evs (runN T G (k+12)) G (.cons chC .nil)) (BT.ev (runN T G (k+12)) G (.var 0 "moment")) [some (.p (.lst (each (wvD t th) e)))]) 1 (upto 1 e) h=some (chD (wv t th) e,h):=by
  have e0:chD (wv t th) e=(List.range e).filterMap fun k=>if decide (wv t th (k+1)≠wv t th k)=true then some (D.int ((k:Int)+1)) else none:=(AN _ _ _).symm
  rw[e0]
  refine xZ _ (fun (k:Nat)=>D.int (1+(k:Int))) _ h (List.range e) fun i hi=>?_
  have c:=ct i (List.mem_range.mp hi)
  have sl:([D.int ((1:Int)+(i:Int))].map dX++[some (.p (.lst (each (wvD t th) e)))]:Sl)=[some (.p (.int ((1:Int)+(i:Int)))),some (.p (.lst (each (wvD t th) e)))]:=rfl
  unfold eY
  rw[sl,Int.add_comm (i:Int) 1]
  by_cases q:wv t th (i+1)=wv t th i
  ·rw[q,beq_self_eq_true,Bool.not_true] at c
   simp[evs,c,q]
  ·rw[beq_eq_false_iff_ne.mpr q,Bool.not_false] at c
   simp[evs,c,q]
 have cl:(chD (wv t th) e).length<=100000:=by
  unfold chD chl
  rw[List.length_map]
  have:=List.length_filter_le (fun k=>decide (wv t th (k+1)≠wv t th k)) (List.range e)
  rw[List.length_range] at this
  omega
 have ce:BT.ev (runN T G (k+12)) G chE [some (.o n),some (.p th.enc),some (.p (.lst (each (wvD t th) e)))] h=some (.p (.lst (chD (wv t th) e)),h):=by
  refine nU (ws:=[.p (.int 1),.p (.int (((each (wvD t th) e).length:Nat):Int))]) (h1:=h) (fs:=[some (.p (.lst (each (wvD t th) e)))]) ?_ rg rfl rfl cm cl
  simp[rd]
 simp[b1,ce,af]
theorem Hq (h:HH) (d:D) (c:Cl):fin h (.p d) (h++[c])=some (.p d,h):=iz h [c] d
@[simp] theorem MQ (h:HH) (a:Cl) (r:HH):dat (h++a :: r) h.length=tT a:=by simp[dat]
theorem AO (F:FK->List W->HH->Option (W×HH)) (w0 w1:W) (h:HH):∀ (q j:Nat) (x:Option W),j+q<=50000->cg (evS F G spB) [(3,"worth")] (List.replicate q (.int 0)) [some w0,some w1,some (.r h.length),x] (h++[.d (if j=0 then [] else [(.inl 0,.int (j:Int))])]) =
 some (.nx [some w0,some w1,some (.r h.length),if q=0 then x else some (.p (.int 0))] (h++[.d (if j+q=0 then [] else [(.inl 0,.int ((j+q:Nat):Int))])])):=by
 intro q
 induction q with
 | zero=>intro j x _;rfl
 | succ q ih =>
  intro j x hj
  have st:∀ l,cg (evS F G spB) [(3,"worth")] (.int 0 :: l) [some w0,some w1,some (.r h.length),x] (h++[.d (if j=0 then [] else [(.inl 0,.int (j:Int))])]) =
   fW (evS F G spB [some w0,some w1,some (.r h.length),some (.p (.int 0))] (h++[.d (if j=0 then [] else [(.inl 0,.int (j:Int))])])) (cg (evS F G spB) [(3,"worth")] l):=fun l=>rfl
  have bd:evS F G spB [some w0,some w1,some (.r h.length),some (.p (.int 0))] (h++[.d (if j=0 then [] else [(.inl 0,.int (j:Int))])])=some (.nx [some w0,some w1,some (.r h.length),some (.p (.int 0))] (h++[.d [(.inl 0,.int ((j+1:Nat):Int))]])):=by
   by_cases c:j=0
   ·subst c
    simp[spB,f9,mh]
   ·simp[spB,f9,mh,c]
  rw[List.replicate_succ,st,bd,dS]
  have:=ih (j+1) (some (.p (.int 0))) (by omega)
  rw[if_neg (by omega)] at this
  rw[this,show j+1+q=j+(q+1) by omega,if_neg (show ¬ q+1=0 by omega)]
  by_cases c:q=0
  ·rw[if_pos c]
  ·rw[if_neg c]
theorem pX (P:TpP T G) (C:ThP T) (R:TpR T) (Q:ChP T) (Sp:SpP T) (k:Nat) {n r:Nat}{t:Tp}{h:HH}{e ev:Nat} (a:TAt h n r t) (I:TI t e ev) (th:Th) (h0:∀ i,i<=e->wv t th i=0) :
 runN T G (k+13) "spread" [.o n,.p th.enc] h=some (.p (.lst [.tup [.int 0,.int ((e:Int)+1)]]),h):=by
 have le:=I.run.le
 have m1:=I.m1
 have b1:=lA P C R Q k (a.app (g:=[.d []])) I th
 have ew:each (wvD t th) e=List.replicate (e+1) (.int 0):=by
  refine List.eq_replicate_iff.mpr ⟨gM _ _,fun d hd=>?_⟩
  unfold each at hd
  obtain ⟨i,hi,rfl⟩:=List.mem_map.mp hd
  have:=List.mem_range.mp hi
  unfold wvD
  rw[h0 i (by omega)]
 rw[ew] at b1
 have lp:=AO (G:=G) (runN T G (k+12)) (.o n) (.p th.enc) h (e+1) 0 none (by omega)
 rw[if_pos rfl,Nat.zero_add,if_neg (by omega),if_neg (by omega)] at lp
 have e1:((e+1:Nat):Int)=(e:Int)+1:=by omega
 rw[run_eq Sp.spread rfl,c6]
 generalize hl:List.replicate (e+1) (D.int 0)=ll at b1 lp
 rw[e1] at lp
 simp[-cg,b1,gk,lp,d9,Hq]
theorem lB (P:TpP T G) (S:SuP T) (k:Nat) {n r:Nat}{t:Tp}{h:HH}{e ev:Nat} (a:TAt h n r t) (I:TI t e ev) (s:Sm) (hs:s.size<=40000) (hok:s.ok) (m:Nat) (hm:m<=e) :
 ∃ h' r' t',runN T G (k+12) "sum_at" [.o n,.p (.int m),.p s.enc] h=some (.p (.int (s.val (itr t.p t.asked m))),h')/\Go n h r t h' r' t'/\TI t' e ev/\Sm8 t t':=by
 obtain ⟨h1,r1,t1,b1,g1,I1,s1,f1⟩:=qO P k a I m hm
 have b2:=cF P.prg (k+7) s hs hok (itr t.p t.asked m) (eH I.ok I.ask I.run m hm).ok h1
 refine ⟨h1,r1,t1,?_,g1,I1,s1⟩
 rw[run_eq S.sum_at rfl]
 have fn:=fun w=>cW g1 w
 simp[c7,a.ob,Et,b1,b2,fn]
end
end BT
end
section
namespace BT
open PySem
theorem mP {T:FK->Option Fn}{G:Str->Option W} (L:Lw T) (ns:List Int) (hl:ns.length<=1000) (q many:Int) (hm:0 < many):∃ z:Nat,(z:Int) < many/\∀ k h,runN T G (k+2) "_law_drawn" [.p (.lst (ai ns)),.p (.int q),.p (.int many)] h=some (.p (.int (z:Int)),h):=by
 have h0:=cU ns q hm
 have h1:=cV ns q hm
 refine ⟨(drw ns q many).toNat,by omega,fun k h=>?_⟩
 have:=d8 (G:=G) L k ns hl q many hm h
 rw[this]
 congr 4
 omega
theorem mQ {t:Tp}{th:Th}:∀ (d j:Nat),(∀ i,j<=i->i < j+d->gw t th i=false)->wv t th (j+d)=wv t th j
 | 0,j,_=>rfl
 | d+1,j,h=>by
  have e1:=mQ d j fun i h1 h2=>h i h1 (by omega)
  have e2:wn t (j+d)≠some th:=fun z=>by
   have:=h (j+d) (by omega) (by omega)
   unfold gw at this
   rw[(B7 _ _).mpr z] at this;cases this
  show th.val (itr t.p t.asked (j+d+1))=_
  rw[pU e2];exact e1
theorem nV {v:Nat->Int}{e k:Nat}:k∈chl v e↔k < e/\v (k+1)≠v k:=by
 unfold chl
 rw[List.mem_filter,List.mem_range,decide_eq_true_eq]
theorem nW {t:Tp}{th:Th}{e k:Nat} (h:k∈chl (wv t th) e):wn t k=some th:=Classical.byContradiction fun z=>(nV.mp h).2 (pU z)
theorem nX (v:Nat->Int) (e:Nat):(chl v e).length<=e:=by
 have:=List.length_filter_le (fun k=>decide (v (k+1)≠v k)) (List.range e)
 rw[List.length_range] at this
 exact this
theorem EA (v:Nat->Int) (e:Nat):(chl v e).Nodup:=List.Nodup.sublist List.filter_sublist List.nodup_range
theorem pY {v:Nat->Int}{e:Nat} (h:chl v e=[]):∀ i,i<=e->v i=v 0
 | 0,_=>rfl
 | i+1,hi=>by
  have e1:=pY h i (by omega)
  rw[← e1]
  exact Classical.byContradiction fun z=>by
   have:i∈chl v e:=nV.mpr ⟨by omega,z⟩
   rw[h] at this;cases this
theorem ya {v:Nat->Int}{e j:Nat} (hj:j < e) (h1:v (j+1)≠v j) (h2:∀ i,j < i->i<=e->v i=v e):∃ l,chl v e=l++[j]:=by
 refine ⟨(List.range j).filter fun k=>decide (v (k+1)≠v k),?_⟩
 unfold chl
 obtain ⟨d,rfl⟩:∃ d,e=j+1+d:=⟨e - (j+1),by omega⟩
 rw[List.range_add,List.filter_append,List.range_succ,List.filter_append]
 have e1:([j].filter fun k=>decide (v (k+1)≠v k))=[j]:=by simp[h1]
 have e2:(((List.range d).map fun x=>j+1+x).filter fun k=>decide (v (k+1)≠v k))=[]:=by
  rw[List.filter_eq_nil_iff]
  intro k hk
  obtain ⟨i,hi,rfl⟩:=List.mem_map.mp hk
  have:=List.mem_range.mp hi
  rw[h2 (j+1+i) (by omega) (by omega),h2 (j+1+i+1) (by omega) (by omega)]
  simp
 rw[e1,e2,List.append_nil]
theorem AQ (t:Tp) (th:Th):wv t th 0=0:=by
 unfold wv
 cases th with
 | nm x=>cases x<;>rfl
 | cl i h =>
  have:i=0\/i=1\/i=2\/i=3:=by omega
  rcases this with rfl | rfl | rfl | rfl<;>rfl
theorem AR (l:List Nat) (j:Nat):cE (.lst ((l++[j]).map fun (k:Nat)=>D.int ((k:Int)+1))) (.int (-1))=some (.int ((j:Int)+1)):=by
 show atP _ _=_
 unfold atP place
 simp only[List.map_append,List.map_cons,List.map_nil,List.length_append,List.length_map,List.length_cons,List.length_nil,Nat.zero_add]
 rw[if_neg (by decide),if_pos (by omega),show (-1+((l.length+1:Nat):Int)).toNat=l.length by omega]
 simp
theorem yb (xs:List Int) (v:Int):ded (xs++[v])=if (ded xs).any (·==v) then ded xs else ded xs++[v]:=by
 unfold ded
 rw[List.foldl_append];rfl
theorem yc:∀ (n:Nat) (xs:List Int),xs.length=n->xs.Nodup->ded xs=xs
 | 0,xs,h,_=>by
  have:=List.length_eq_zero_iff.mp h
  subst this;rfl
 | n+1,xs,h,nd=>by
  have hne:xs≠[]:=fun z=>by rw[z] at h;cases h
  have e1:=List.dropLast_concat_getLast hne
  rw[← e1] at nd ⊢
  have nd1:=(List.nodup_append.mp nd).1
  rw[yb,yc n _ (by rw[List.length_dropLast];omega) nd1,if_neg]
  intro z
  obtain ⟨y,hy,e⟩:=List.any_eq_true.mp z
  have:=(List.nodup_append.mp nd).2.2 y hy _ List.mem_cons_self
  exact this (eq_of_beq e)
theorem mR:∀ (xs:List Int),intsOf (ai xs)=some xs
 | []=>rfl
 | x :: xs=>by
  show (intsOf (ai xs)).map (x :: ·)=_
  rw[mR xs];rfl
noncomputable def Rw.lO:Rw->D
 | .set x s=>.tup [.str "set",.str x.w]
 | .put s t=>.tup [.str "put",s.enc]
 | .ask x=>.tup [.str "ask",.str x.w]
 | .say s=>.tup [.str "say",s.enc]
 | .jump p=>.tup [.str "jump",.int p]
 | .unless s p=>.tup [.str "unless",s.enc]
 | .call p=>.tup [.str "call",.int p]
 | .back=>.tup [.str "back"]
 | .stop=>.tup [.str "stop"]
theorem AS (r:Rw):oO r.enc none (some 2)=some r.lO:=by cases r<;>rfl
noncomputable def EB:E:=(.cmp .ne (.call "thing_written" (.cons (.var 1 "_law_tape") (.cons (.var 0 "_law_at") .nil))) (.var 2 "_law_thing"))
noncomputable def Hr:E:=(.comp false .seq (.cons (.var 6 "_law_row_here") .nil) ["_law_at"] [(2,"_law_tape"),(5,"_law_thing")] (.cons EB .nil) (.var 0 "_law_at"))
noncomputable def Hs:E:=(.comp false .seq (.cons (.var 1 "_law_program_here") .nil) ["_law_line"] [] .nil (.slc (.var 0 "_law_line") .nil (.cons (.cst (.int 2)) .nil)))
noncomputable def yd:E:=(.and (.cmp .nmem (.tup (.cons (.cst (.str "set")) (.cons (.var 5 "_law_thing") .nil))) Hs) (.and (.cmp .nmem (.tup (.cons (.cst (.str "ask")) (.cons (.var 5 "_law_thing") .nil))) (.var 1 "_law_program_here")) (.cmp .ne (.var 6 "_law_row_here") (.lst false .nil))))
noncomputable def EC:E:=(.cmp .ne (.call "sum_at" (.cons (.var 2 "_law_tape") (.cons (.var 3 "_law_end") (.cons (.tup (.cons (.cst (.str "name")) (.cons (.var 5 "_law_thing") .nil))) .nil)))) (.call "worth_at" (.cons (.var 2 "_law_tape") (.cons (.var 3 "_law_end") (.cons (.var 5 "_law_thing") .nil)))))
noncomputable def ED:E:=(.cmp .ne (.call "sum_at" (.cons (.var 2 "_law_tape") (.cons (.var 3 "_law_end") (.cons (.tup (.cons (.cst (.str "cell")) (.cons (.tup (.cons (.cst (.str "num")) (.cons (.bin .add (.var 5 "_law_thing") (.cst (.int 4))) .nil))) .nil))) .nil)))) (.call "worth_at" (.cons (.var 2 "_law_tape") (.cons (.var 3 "_law_end") (.cons (.var 5 "_law_thing") .nil)))))
noncomputable def AU:E:=(.and (.cmp .eq (.var 6 "_law_row_here") (.lst false .nil)) (.cmp .ne (.call "spread" (.cons (.var 2 "_law_tape") (.cons (.var 5 "_law_thing") .nil))) (.lst false (.cons (.tup (.cons (.cst (.int 0)) (.cons (.bin .add (.var 3 "_law_end") (.cst (.int 1))) .nil))) .nil))))
noncomputable def AV:E:=(.and (.cmp .notN (.var 7 "_law_last") (.cst .non)) (.or (.cmp .ne (.var 7 "_law_last") (.idx (.var 6 "_law_row_here") (.neg (.cst (.int 1))))) (.cmp .lt (.call "writer_of" (.cons (.var 2 "_law_tape") (.cons (.var 3 "_law_end") (.cons (.var 5 "_law_thing") .nil)))) (.var 7 "_law_last"))))
noncomputable def AW:E:=(.and (.cmp .notN (.var 7 "_law_last") (.cst .non)) (.cmp .ne (.call "worth_at" (.cons (.var 2 "_law_tape") (.cons (.var 7 "_law_last") (.cons (.var 5 "_law_thing") .nil)))) (.call "worth_at" (.cons (.var 2 "_law_tape") (.cons (.var 3 "_law_end") (.cons (.var 5 "_law_thing") .nil))))))
noncomputable def AX:S:=(.ife (.bi .isStr false (.cons (.var 5 "_law_thing") .nil)) (.seq (.ife yd (.ret (.cst (.bl false))) .nil)
 (.ife EC (.ret (.cst (.bl false))) .nil)) (.ife ED (.ret (.cst (.bl false))) .nil))
noncomputable def pZ:S:=(.seq (.set 6 "_law_row_here" (.call "changes" (.cons (.var 2 "_law_tape") (.cons (.var 5 "_law_thing") .nil))))
 (.seq (.set 4 "_law_every" (.bin .add (.var 4 "_law_every") (.var 6 "_law_row_here")))
 (.seq (.ife (.cmp .ne Hr (.lst false .nil)) (.ret (.cst (.bl false))) .nil)
 (.seq AX
 (.seq (.ife AU (.ret (.cst (.bl false))) .nil)
 (.seq (.set 7 "_law_last" (.call "last_change" (.cons (.var 2 "_law_tape") (.cons (.var 3 "_law_end") (.cons (.var 5 "_law_thing") .nil)))))
 (.seq (.ife AV (.ret (.cst (.bl false))) .nil)
 (.ife AW (.ret (.cst (.bl false))) .nil))))))))
noncomputable def dz:Fn:=⟨["_law_script"],["_law_script","_law_program_here","_law_tape","_law_end","_law_every","_law_thing","_law_row_here","_law_last"],
 (.seq (.set 1 "_law_program_here" (.call "_law_program" (.cons (.var 0 "_law_script") (.cons (.cst (.int 20)) .nil))))
 (.seq (.set 2 "_law_tape" (.make "Tape" (.cons (.var 1 "_law_program_here") (.cons (.call "_law_asked" (.cons (.var 0 "_law_script") (.cons (.cst (.int 450)) .nil))) (.cons (.bin .add (.cst (.int 1)) (.call "_law_drawn" (.cons (.var 0 "_law_script") (.cons (.cst (.int 441)) (.cons (.cst (.int 5)) .nil))))) (.cons (.call "_law_drawn" (.cons (.var 0 "_law_script") (.cons (.cst (.int 440)) (.cons (.cst (.int 13)) .nil)))) .nil))))))
 (.seq (.set 3 "_law_end" (.meth (.var 2 "_law_tape") "end" .nil))
 (.seq (.set 4 "_law_every" (.lst false .nil))
 (.seq (.for [(5,"_law_thing")] .seq (.cons (.lst false (.cons (.cst (.str "a")) (.cons (.cst (.str "b")) (.cons (.cst (.str "f")) (.cons (.cst (.int 0)) (.cons (.cst (.int 1)) (.cons (.cst (.int 2)) (.cons (.cst (.int 3)) .nil)))))))) .nil) pZ)
 (.ret (.cmp .eq (.bi .nset false (.cons (.var 4 "_law_every") .nil)) (.bi .len false (.cons (.var 4 "_law_every") .nil)))))))))⟩
structure Ka (T:FK->Option Fn):Prop where
 lw:Lw T
 program:T "_law_program"=some aE
 law:T "law"=some dz
section
variable {T:FK->Option Fn}{G:Str->Option W}
theorem k24_w (P:TpP T G) (Wr:WrP T) (k:Nat) (w0 w1 w3 w4:W) (x7:Option W) {n r:Nat}{t:Tp}{h:HH}{e ev:Nat} (a:TAt h n r t) (I:TI t e ev) (th:Th) :
 ∃ h' r' t',BT.ev (runN T G (k+13)) G Hr [some w0,some w1,some (.o n),some w3,some w4,some (.p th.enc),some (.p (.lst (chD (wv t th) e))),x7] h=some (.p (.lst []),h')/\TAt h' n r' t'/\TI t' e ev/\Sm8 t t':=by
 obtain ⟨h',c,r',t',a',I',s'⟩:=Ez (eY (evs (runN T G (k+13)) G (.cons EB .nil)) (BT.ev (runN T G (k+13)) G (.var 0 "_law_at")) [some (.o n),some (.p th.enc)]) (fun (j:Nat)=>D.int ((j:Int)+1)) (fun _=>none) (fun h=>∃ r' t',TAt h n r' t'/\TI t' e ev/\Sm8 t t') (chl (wv t th) e) (fun j hj h ⟨r1,t1,a1,I1,s1⟩=>by
  obtain ⟨h2,r2,t2,b2,g2,I2,s2⟩:=jh P Wr (k+1) a1 I1 (j+1) (by omega) (by have:=(nV.mp hj).1;omega)
  have e1:wn t1 (j+1 - 1)=some th:=by
   rw[Nat.add_sub_cancel]
   have:=nW hj
   unfold wn at this ⊢
   rw[s1.p,s1.asked];exact this
  rw[e1] at b2
  have e2:((j+1:Nat):Int)=(j:Int)+1:=by omega
  rw[e2] at b2
  have ok:=sN (some th) th
  have q:=(B7 (some th) th).mpr rfl
  refine ⟨h2,?_,r2,t2,g2.b,I2,s1.trans s2⟩
  simp[-eqv,eY,dX,EB,b2,ok,q]) h ⟨r,t,a,I,.refl t⟩
 refine ⟨h',r',t',?_,a',I',s'⟩
 have fm:(chl (wv t th) e).filterMap (fun _=>(none:Option D))=[]:=by
  induction chl (wv t th) e with
  | nil=>rfl
  | cons x l ih=>rw[List.filterMap_cons];exact ih
 rw[fm] at c
 exact nU (ws:=[.p (.lst (chD (wv t th) e))]) (h1:=h) (fs:=[some (.o n),some (.p th.enc)]) (by simp) rfl rfl rfl c (by simp)
theorem Hu (F:FK->List W->HH->Option (W×HH)) (w0 w2 w3 w4:W) (x7:Option W) {t:Tp}{h:HH}{e ev:Nat} (I:TI t e ev) (hp:t.p.length<=1000) (x:Nm) :
 BT.ev F G yd [some w0,some (.p (bM t.p)),some w2,some w3,some w4,some (.p (Th.nm x).enc),some (.p (.lst (chD (wv t (.nm x)) e))),x7] h=some (.p (.bl false),h):=by
 have cl:BT.ev F G Hs [some w0,some (.p (bM t.p)),some w2,some w3,some w4,some (.p (Th.nm x).enc),some (.p (.lst (chD (wv t (.nm x)) e))),x7] h=some (.p (.lst (t.p.map Rw.lO)),h):=by
  have c:=xZ (eY (evs F G .nil) (BT.ev F G (.slc (.var 0 "_law_line") .nil (.cons (.cst (.int 2)) .nil))) []) Rw.enc (fun r=>some r.lO) h t.p (fun r _=>by
   have:=AS r
   simp[eY,dX,this])
  have fm:t.p.filterMap (fun r=>some r.lO)=t.p.map Rw.lO:=by rw[← List.filterMap_eq_map];rfl
  rw[fm] at c
  exact nU (ws:=[.p (bM t.p)]) (h1:=h) (fs:=[]) (by simp) rfl rfl rfl c (by rw[List.length_map];omega)
 have c1:fk .nmem (.tup [.str "set",.str x.w]) (.lst (t.p.map Rw.lO))=some (!((t.p.map Rw.lO).any fun y=>eqv y (.tup [.str "set",.str x.w]))):=by
  rw[aO,if_pos (List.all_eq_true.mpr fun y _=>iC (by simp))]
 have c2:fk .nmem (.tup [.str "ask",.str x.w]) (bM t.p)=some (!((t.p.map Rw.enc).any fun y=>eqv y (.tup [.str "ask",.str x.w]))):=by
  show fk .nmem (.tup [.str "ask",.str x.w]) (.tup (t.p.map Rw.enc))=_
  rw[aX,if_pos (List.all_eq_true.mpr fun y _=>iC (by simp))]
 have key:chl (wv t (.nm x)) e≠[]->((t.p.map Rw.lO).any fun y=>eqv y (.tup [.str "set",.str x.w]))=true\/((t.p.map Rw.enc).any fun y=>eqv y (.tup [.str "ask",.str x.w]))=true:=fun hne=>by
  obtain ⟨j,hj⟩:=List.exists_mem_of_ne_nil _ hne
  have wj:=nW hj
  unfold wn at wj
  cases g:t.p[(itr t.p t.asked j).row]? with
  | none=>rw[g] at wj;cases wj
  | some rw0 =>
   rw[g] at wj
   have mem:=List.mem_of_getElem? g
   cases rw0 with
   | set y s =>
    have ey:y=x:=by
     have:=Option.some.inj wj
     cases this;rfl
    subst ey
    exact .inl (List.any_eq_true.mpr ⟨_,List.mem_map.mpr ⟨_,mem,rfl⟩,by simp[Rw.lO]⟩)
   | ask y =>
    have ey:y=x:=by
     have:=Option.some.inj wj
     cases this;rfl
    subst ey
    exact .inr (List.any_eq_true.mpr ⟨_,List.mem_map.mpr ⟨_,mem,rfl⟩,by simp[Rw.enc]⟩)
   | put s u=>cases wj
   | _=>cases wj
 generalize ((t.p.map Rw.lO).any fun y=>eqv y (.tup [.str "set",.str x.w]))=b1 at c1 key
 generalize ((t.p.map Rw.enc).any fun y=>eqv y (.tup [.str "ask",.str x.w]))=b2 at c2 key
 have e1:(Th.nm x).enc=.str x.w:=rfl
 rw[e1] at cl ⊢
 cases b1 with
 | true=>simp[-aO,yd,cl,c1]
 | false =>
  cases b2 with
  | true=>simp[-aO,-aX,yd,cl,c1,c2]
  | false =>
   have e0:chD (wv t (.nm x)) e=[]:=by
    unfold chD
    cases g:chl (wv t (.nm x)) e with
    | nil=>rfl
    | cons y l=>rcases key (by rw[g];simp) with z | z<;>cases z
   rw[e0] at cl ⊢
   simp[-aO,-aX,yd,cl,c1,c2]
theorem Hv (P:TpP T G) (C:ThP T) (Lc:LcP T) (S:SuP T) (k:Nat) (w0 w1 w4 w6:W) (x7:Option W) {n r:Nat}{t:Tp}{h:HH}{e ev:Nat} (a:TAt h n r t) (I:TI t e ev) (x:Nm) :
 ∃ h' r' t',BT.ev (runN T G (k+13)) G EC [some w0,some w1,some (.o n),some (.p (.int e)),some w4,some (.p (Th.nm x).enc),some w6,x7] h=some (.p (.bl false),h')/\TAt h' n r' t'/\TI t' e ev/\Sm8 t t':=by
 obtain ⟨h1,r1,t1,b1,g1,I1,s1⟩:=lB P S (k+1) a I (.nam x) (by simp[Sm.size]) trivial e (Nat.le_refl _)
 obtain ⟨h2,r2,t2,b2,g2,I2,s2⟩:=dw P C Lc (k+1) g1.b I1 (.nm x) e (Nat.le_refl _)
 rw[s1.p,s1.asked] at b2
 refine ⟨h2,r2,t2,?_,g2.b,I2,s1.trans s2⟩
 have e1:(Sm.nam x).enc=.tup [.str "name",.str x.w]:=rfl
 have e2:(Sm.nam x).val (itr t.p t.asked e)=(Th.nm x).val (itr t.p t.asked e):=rfl
 rw[e1,e2] at b1
 simp only[Th.enc] at b2 ⊢
 simp[EC,b1,b2]
theorem Hw (P:TpP T G) (C:ThP T) (Lc:LcP T) (S:SuP T) (k:Nat) (w0 w1 w4 w6:W) (x7:Option W) {n r:Nat}{t:Tp}{h:HH}{e ev:Nat} (a:TAt h n r t) (I:TI t e ev) (i:Nat) (hi:i < 4) :
 ∃ h' r' t',BT.ev (runN T G (k+13)) G ED [some w0,some w1,some (.o n),some (.p (.int e)),some w4,some (.p (Th.cl i hi).enc),some w6,x7] h=some (.p (.bl false),h')/\TAt h' n r' t'/\TI t' e ev/\Sm8 t t':=by
 obtain ⟨h1,r1,t1,b1,g1,I1,s1⟩:=lB P S (k+1) a I (.cell (.num ((i:Int)+4))) (by simp[Sm.size]) (show Wth _ from ⟨by omega,by omega⟩) e (Nat.le_refl _)
 obtain ⟨h2,r2,t2,b2,g2,I2,s2⟩:=dw P C Lc (k+1) g1.b I1 (.cl i hi) e (Nat.le_refl _)
 rw[s1.p,s1.asked] at b2
 refine ⟨h2,r2,t2,?_,g2.b,I2,s1.trans s2⟩
 have e1:(Sm.cell (.num ((i:Int)+4))).enc=.tup [.str "cell",.tup [.str "num",.int ((i:Int)+4)]]:=rfl
 have e2:(Sm.cell (.num ((i:Int)+4))).val (itr t.p t.asked e)=(Th.cl i hi).val (itr t.p t.asked e):=by
  show (itr t.p t.asked e).cells.getD (((i:Int)+4) % 4).toNat 0=(itr t.p t.asked e).cells.getD i 0
  congr 1
  omega
 rw[e1,e2] at b1
 simp only[Th.enc] at b2 ⊢
 simp[ED,b1,b2]
theorem Hx (P:TpP T G) (C:ThP T) (R:TpR T) (Q:ChP T) (Sp:SpP T) (k:Nat) (w0 w1 w4:W) (x7:Option W) {n r:Nat}{t:Tp}{h:HH}{e ev:Nat} (a:TAt h n r t) (I:TI t e ev) (th:Th) :
 BT.ev (runN T G (k+13)) G AU [some w0,some w1,some (.o n),some (.p (.int e)),some w4,some (.p th.enc),some (.p (.lst (chD (wv t th) e))),x7] h=some (.p (.bl false),h):=by
 cases g:chl (wv t th) e with
 | nil =>
  have e0:chD (wv t th) e=[]:=by unfold chD;rw[g];rfl
  have b1:=pX P C R Q Sp k a I th fun i hi=>by rw[pY g i hi,AQ]
  rw[e0]
  simp[AU,b1,bO]
 | cons x l =>
  have e0:chD (wv t th) e=.int ((x:Int)+1) :: l.map fun (k:Nat)=>.int ((k:Int)+1):=by unfold chD;rw[g];rfl
  rw[e0]
  simp[AU]
theorem Hy (P:TpP T G) (L:TpB T) (C:ThP T) (Wr:WrP T) (k:Nat) (w0 w1 w4:W) {n r:Nat}{t:Tp}{h:HH}{e ev:Nat} (a:TAt h n r t) (I:TI t e ev) (th:Th) {o:Option Nat} (F:FL (gc t th (wv t th e)) 0 e o) :
 ∃ h' r' t',BT.ev (runN T G (k+13)) G AV [some w0,some w1,some (.o n),some (.p (.int e)),some w4,some (.p th.enc),some (.p (.lst (chD (wv t th) e))),some (.p (qP o))] h=some (.p (.bl false),h')/\TAt h' n r' t'/\TI t' e ev/\Sm8 t t':=by
 cases o with
 | none=>exact ⟨h,r,t,by simp[AV],a,I,.refl t⟩
 | some j =>
  obtain ⟨_,j2,j3,j4⟩:=F.yes j rfl
  have hne:wv t th j≠wv t th e:=fun z=>by
   have z':th.val (itr t.p t.asked j)=wv t th e:=z
   unfold gc at j3
   rw[z'] at j3
   simp at j3
  have aft:∀ i,j < i->i<=e->wv t th i=wv t th e:=fun i h1 h2=>by
   have:=j4 i h1 h2
   unfold gc at this
   have:th.val (itr t.p t.asked i)=wv t th e:=by simpa using this
   exact this
  have je:j < e:=by
   rcases Nat.lt_or_ge j e with z | z
   ·exact z
   ·exact absurd (by rw[show j=e by omega]) hne
  obtain ⟨l,hl⟩:=ya je (by rw[aft (j+1) (by omega) (by omega)];exact fun z=>hne z.symm) aft
  have ix:=AR l j
  rw[← hl] at ix
  obtain ⟨o2,h1,r1,t1,b1,z0,z1,g1,I1,s1⟩:=qQ P L C Wr k a I th e (Nat.le_refl _)
  refine ⟨h1,r1,t1,?_,g1.b,I1,s1⟩
  have F1:=z1 (by omega)
  have ex:∃ i,j<=i/\i < e/\gw t th i=true:=Classical.byContradiction fun no=>hne (by
   have:=mQ (t:=t) (th:=th) (e - j) j fun i h1 h2=>by
    cases gi:gw t th i with
    | false=>rfl
    | true=>exact absurd ⟨i,h1,by omega,gi⟩ no
   rw[show j+(e - j)=e by omega] at this
   exact this.symm)
  obtain ⟨i,i1,i2,i3⟩:=ex
  cases o2 with
  | none=>rw[F1.no rfl i (Nat.zero_le _) (by omega)] at i3;cases i3
  | some i0 =>
   obtain ⟨_,q2,q3,q4⟩:=F1.yes i0 rfl
   have hi0:i<=i0:=by
    rcases Nat.lt_or_ge i0 i with z | z
    ·rw[q4 i z (by omega)] at i3;cases i3
    ·exact z
   have c1:¬ ((i0:Int)+1 < (j:Int)+1):=by omega
   have c2:¬ (i0 < j):=by omega
   have ix':cE (.lst (chD (wv t th) e)) (.int (-1))=some (.int ((j:Int)+1)):=ix
   simp[-cI,AV,ix',b1,c1,c2]
theorem Hz (P:TpP T G) (C:ThP T) (Lc:LcP T) (k:Nat) (w0 w1 w4 w6:W) {n r:Nat}{t:Tp}{h:HH}{e ev:Nat} (a:TAt h n r t) (I:TI t e ev) (th:Th) {o:Option Nat} (F:FL (gc t th (wv t th e)) 0 e o) :
 ∃ h' r' t',BT.ev (runN T G (k+13)) G AW [some w0,some w1,some (.o n),some (.p (.int e)),some w4,some (.p th.enc),some w6,some (.p (qP o))] h=some (.p (.bl false),h')/\TAt h' n r' t'/\TI t' e ev/\Sm8 t t':=by
 cases o with
 | none=>exact ⟨h,r,t,by simp[AW],a,I,.refl t⟩
 | some j =>
  obtain ⟨_,j2,j3,j4⟩:=F.yes j rfl
  have hne:wv t th j≠wv t th e:=fun z=>by
   have z':th.val (itr t.p t.asked j)=wv t th e:=z
   unfold gc at j3
   rw[z'] at j3
   simp at j3
  have je:j < e:=by
   rcases Nat.lt_or_ge j e with z | z
   ·exact z
   ·exact absurd (by rw[show j=e by omega]) hne
  have aft:wv t th (j+1)=wv t th e:=by
   have:=j4 (j+1) (by omega) (by omega)
   unfold gc at this
   have:th.val (itr t.p t.asked (j+1))=wv t th e:=by simpa using this
   exact this
  obtain ⟨h1,r1,t1,b1,g1,I1,s1⟩:=dw P C Lc (k+1) a I th (j+1) (by omega)
  obtain ⟨h2,r2,t2,b2,g2,I2,s2⟩:=dw P C Lc (k+1) g1.b I1 th e (Nat.le_refl _)
  rw[s1.p,s1.asked] at b2
  have aft':th.val (itr t.p t.asked (j+1))=th.val (itr t.p t.asked e):=aft
  rw[aft'] at b1
  have e2:((j+1:Nat):Int)=(j:Int)+1:=by omega
  rw[e2] at b1
  exact ⟨h2,r2,t2,by simp[AW,b1,b2],g2.b,I2,s1.trans s2⟩
theorem HA (P:TpP T G) (C:ThP T) (Lc:LcP T) (S:SuP T) (k:Nat) (w0 w4:W) (x7:Option W) {n r:Nat}{t:Tp}{h:HH}{e ev:Nat} (a:TAt h n r t) (I:TI t e ev) (hp:t.p.length<=1000) (th:Th) :
 ∃ h' r' t',evS (runN T G (k+13)) G AX [some w0,some (.p (bM t.p)),some (.o n),some (.p (.int e)),some w4,some (.p th.enc),some (.p (.lst (chD (wv t th) e))),x7] h=some (.nx [some w0,some (.p (bM t.p)),some (.o n),some (.p (.int e)),some w4,some (.p th.enc),some (.p (.lst (chD (wv t th) e))),x7] h')/\TAt h' n r' t'/\TI t' e ev/\Sm8 t t':=by
 cases th with
 | nm x =>
  have q1:=Hu (G:=G) (h:=h) (runN T G (k+13)) w0 (.o n) (.p (.int e)) w4 x7 I hp x
  obtain ⟨h1,r1,t1,q2,a1,I1,s1⟩:=Hv P C Lc S k w0 (.p (bM t.p)) w4 (.p (.lst (chD (wv t (.nm x)) e))) x7 a I x
  refine ⟨h1,r1,t1,?_,a1,I1,s1⟩
  have is:isS (Th.nm x).enc=true:=rfl
  generalize (Th.nm x).enc=d at q1 q2 is ⊢
  simp[AX,is,q1,q2]
 | cl i hi =>
  obtain ⟨h1,r1,t1,q2,a1,I1,s1⟩:=Hw P C Lc S k w0 (.p (bM t.p)) w4 (.p (.lst (chD (wv t (.cl i hi)) e))) x7 a I i hi
  refine ⟨h1,r1,t1,?_,a1,I1,s1⟩
  have is:isS (Th.cl i hi).enc=false:=rfl
  generalize (Th.cl i hi).enc=d at q2 is ⊢
  simp[AX,is,q2]
structure EE (T:FK->Option Fn) (G:Str->Option W):Prop where
 P:TpP T G
 L:TpB T
 C:ThP T
 Wr:WrP T
 Lc:LcP T
 S:SuP T
 R:TpR T
 Q:ChP T
 Sp:SpP T
theorem ye (A:EE T G) (k:Nat) (w0:W) (x6 x7:Option W) {n r:Nat}{t:Tp}{h:HH}{e ev:Nat} (a:TAt h n r t) (I:TI t e ev) (hp:t.p.length<=1000) (th:Th) (E:List D) (hE:E.length<=50000) :
 ∃ y7 h' r' t',evS (runN T G (k+13)) G pZ [some w0,some (.p (bM t.p)),some (.o n),some (.p (.int e)),some (.p (.lst E)),some (.p th.enc),x6,x7] h=some (.nx [some w0,some (.p (bM t.p)),some (.o n),some (.p (.int e)),some (.p (.lst (E++chD (wv t th) e))),some (.p th.enc),some (.p (.lst (chD (wv t th) e))),y7] h')/\TAt h' n r' t'/\TI t' e ev/\Sm8 t t':=by
 have le:=I.run.le
 have m1:=I.m1
 have b1:=pW A.P A.C A.R A.Q k a I th
 have cl:E.length+(chD (wv t th) e).length<=100000:=by
  unfold chD
  rw[List.length_map]
  have:=nX (wv t th) e
  omega
 obtain ⟨h2,r2,t2,b2,a2,I2,s2⟩:=k24_w A.P A.Wr k w0 (.p (bM t.p)) (.p (.int e)) (.p (.lst (E++chD (wv t th) e))) x7 a I th
 obtain ⟨h3,r3,t3,b3,a3,I3,s3⟩:=HA A.P A.C A.Lc A.S k w0 (.p (.lst (E++chD (wv t th) e))) x7 a2 I2 (by rw[s2.p];exact hp) th
 rw[s2.p,mO s2] at b3
 have S3:=s2.trans s3
 have b4:=Hx A.P A.C A.R A.Q A.Sp k w0 (.p (bM t.p)) (.p (.lst (E++chD (wv t th) e))) x7 a3 I3 th
 rw[mO S3] at b4
 obtain ⟨o,h5,r5,t5,b5,F5,g5,I5,s5⟩:=jT A.P A.L A.C A.Lc k a3 I3 th e (Nat.le_refl _)
 have F5':FL (gc t3 th (wv t3 th e)) 0 e o:=F5
 have S5:=S3.trans s5
 rw[← xY s5,← mO s5] at F5'
 obtain ⟨h6,r6,t6,b6,a6,I6,s6⟩:=Hy A.P A.L A.C A.Wr k w0 (.p (bM t.p)) (.p (.lst (E++chD (wv t th) e))) g5.b I5 th F5'
 rw[mO S5] at b6
 rw[← xY s6,← mO s6] at F5'
 obtain ⟨h7,r7,t7,b7,a7,I7,s7⟩:=Hz A.P A.C A.Lc k w0 (.p (bM t.p)) (.p (.lst (E++chD (wv t th) e))) (.p (.lst (chD (wv t th) e))) a6 I6 th F5'
 refine ⟨some (.p (qP o)),h7,r7,t7,?_,a7,I7,(S5.trans s6).trans s7⟩
 simp[pZ,b1,cl,b2,b3,b4,b5,b6,b7]
noncomputable def uL:List Th:=[.nm .a,.nm .b,.nm .f,.cl 0 (by decide),.cl 1 (by decide),.cl 2 (by decide),.cl 3 (by decide)]
noncomputable def chI (v:Nat->Int) (e:Nat):List Int:=(chl v e).map fun (k:Nat)=>(k:Int)+1
theorem HB (v:Nat->Int) (e:Nat):ai (chI v e)=chD v e:=by unfold chI chD ai;rw[List.map_map];rfl
noncomputable def jU (t:Tp) (e:Nat) (ths:List Th):List Int:=(ths.map fun th=>chI (wv t th) e).flatten
theorem AY {t t':Tp} (s:Sm8 t t') (e:Nat) (ths:List Th):jU t' e ths=jU t e ths:=by
 unfold jU
 congr 1
 apply List.map_congr_left
 intro th _
 rw[mO s]
theorem yf {t:Tp}{e:Nat}{ths:List Th}{z:Int} (h:z∈jU t e ths):∃ th∈ths,∃ k:Nat,z=(k:Int)+1/\wn t k=some th:=by
 unfold jU at h
 obtain ⟨l,hl,hz⟩:=List.mem_flatten.mp h
 obtain ⟨th,hth,rfl⟩:=List.mem_map.mp hl
 obtain ⟨k,hk,rfl⟩:=List.mem_map.mp hz
 exact ⟨th,hth,k,rfl,nW hk⟩
theorem sP (t:Tp) (e:Nat):∀ (ths:List Th),ths.Nodup->(jU t e ths).Nodup
 | [],_=>List.nodup_nil
 | th :: ths,nd=>by
  have ih:=sP t e ths (List.nodup_cons.mp nd).2
  show (chI (wv t th) e++jU t e ths).Nodup
  refine List.nodup_append.mpr ⟨?_,ih,fun x hx y hy=>?_⟩
  ·unfold chI
   exact List.Pairwise.map (fun (k:Nat)=>(k:Int)+1) (fun x y h z=>h (by omega)) (EA _ _)
  ·rintro rfl
   obtain ⟨k,hk,rfl⟩:=List.mem_map.mp hx
   obtain ⟨th',h1,k',h2,h3⟩:=yf hy
   have:k'=k:=by omega
   subst this
   have:=nW hk
   rw[h3] at this
   cases this
   exact (List.nodup_cons.mp nd).1 h1
theorem p5 (t:Tp) (e:Nat):∀ (ths:List Th),(jU t e ths).length<=ths.length*e
 | []=>Nat.zero_le _
 | th :: ths=>by
  have ih:=p5 t e ths
  have h1:=nX (wv t th) e
  show (chI (wv t th) e++jU t e ths).length<=_
  rw[List.length_append,List.length_cons,Nat.succ_mul]
  unfold chI
  rw[List.length_map]
  omega
theorem p6 (A:EE T G) (k:Nat) (w0:W) (n e ev:Nat):∀ (ths:List Th) (x5 x6 x7:Option W) (E:List Int) (h:HH) (r:Nat) (t:Tp),TAt h n r t->TI t e ev->t.p.length<=1000->E.length+ths.length*e<=50000 →
 ∃ y5 y6 y7 h' r' t',cg (evS (runN T G (k+13)) G pZ) [(5,"_law_thing")] (ths.map Th.enc) [some w0,some (.p (bM t.p)),some (.o n),some (.p (.int e)),some (.p (.lst (ai E))),x5,x6,x7] h=some (.nx [some w0,some (.p (bM t.p)),some (.o n),some (.p (.int e)),some (.p (.lst (ai (E++jU t e ths)))),y5,y6,y7] h')/\TAt h' n r' t'/\TI t' e ev/\Sm8 t t'
 | [],x5,x6,x7,E,h,r,t,a,I,hp,hE=>⟨x5,x6,x7,h,r,t,by show some _=_;rw[show jU t e []=[] from rfl,List.append_nil],a,I,.refl t⟩
 | th :: ths,x5,x6,x7,E,h,r,t,a,I,hp,hE=>by
  rw[List.length_cons,Nat.succ_mul] at hE
  obtain ⟨y7,h1,r1,t1,b1,a1,I1,s1⟩:=ye A k w0 x6 x7 a I hp th (ai E) (by unfold ai;rw[List.length_map];omega)
  have e1:ai E++chD (wv t th) e=ai (E++chI (wv t th) e):=by
   rw[← HB];unfold ai;rw[List.map_append]
  rw[e1] at b1
  have hl:(chI (wv t th) e).length<=e:=by unfold chI;rw[List.length_map];exact nX _ _
  obtain ⟨z5,z6,z7,h2,r2,t2,b2,a2,I2,s2⟩:=p6 A k w0 n e ev ths (some (.p th.enc)) (some (.p (.lst (chD (wv t th) e)))) y7 (E++chI (wv t th) e) h1 r1 t1 a1 I1 (by rw[s1.p];exact hp) (by rw[List.length_append];omega)
  rw[s1.p,AY s1,List.append_assoc] at b2
  refine ⟨z5,z6,z7,h2,r2,t2,?_,a2,I2,s1.trans s2⟩
  have st:∀ (d:D) (l:List D),cg (evS (runN T G (k+13)) G pZ) [(5,"_law_thing")] (d :: l) [some w0,some (.p (bM t.p)),some (.o n),some (.p (.int e)),some (.p (.lst (ai E))),x5,x6,x7] h=fW (evS (runN T G (k+13)) G pZ [some w0,some (.p (bM t.p)),some (.o n),some (.p (.int e)),some (.p (.lst (ai E))),some (.p d),x6,x7] h) (cg (evS (runN T G (k+13)) G pZ) [(5,"_law_thing")] l):=fun d l=>rfl
  rw[List.map_cons,st,b1,dS,b2]
  rfl
theorem uM (A:EE T G) (M:TpE T) (Lx:Ka T) (ns:List Int) (hl:ns.length<=1000) (k:Nat):∃ h',runN T G (k+14) "law" [.p (.lst (ai ns))] []=some (.p (.bl true),h'):=by
 have P:=A.P
 obtain ⟨pg,dp,rp⟩:=pP (G:=G) Lx.lw Lx.program ns hl 20
 obtain ⟨asked,ha,hal,ra⟩:=uH (G:=G) Lx.lw ns hl 450
 have rp':=rp (k+6)
 have ra':=ra (k+10)
 obtain ⟨mo,hmo,rmo⟩:=mP (G:=G) Lx.lw ns hl 440 13 (by decide)
 obtain ⟨v1,hv1,rv1⟩:=mP (G:=G) Lx.lw ns hl 441 5 (by decide)
 have rmo':=rmo (k+11)
 have rv1':=rv1 (k+11)
 obtain ⟨e,R,es⟩:=AE pg asked mo
 have le:=R.le
 have c1:1+(v1:Int)=((v1+1:Nat):Int):=by omega
 have in1:runN T G (k+13) (.m "Tape" "__init__") [.o 0,.p (bM pg),.p (.lst (ai asked)),.p (.int ((v1+1:Nat):Int)),.p (.int (mo:Int))] [.o "Tape" []]=some (.p .non,[.o "Tape" ((Tp.new pg asked (v1+1) mo).fs 1),.l [St.zero.enc]]):=xT P (k+11) pg asked (v1+1) mo (by omega) []
 have A0:TAt [.o "Tape" ((Tp.new pg asked (v1+1) mo).fs 1),.l [St.zero.enc]] 0 1 (Tp.new pg asked (v1+1) mo):=Ew [] pg asked (v1+1) mo
 have I0:TI (Tp.new pg asked (v1+1) mo) e (v1+1):=Eu dp.ok ha R (by omega) (by omega) (by omega)
 obtain ⟨h1,r1,t1,b1,g1,I1,s1,f1⟩:=xW P M (k+4) A0 I0
 have tp1:t1.p=pg:=s1.p
 have hp:t1.p.length<=1000:=by rw[tp1];have:=dp.hi;omega
 obtain ⟨y5,y6,y7,h2,r2,t2,b2,a2,I2,s2⟩:=p6 A k (.p (.lst (ai ns))) 0 e (v1+1) uL none none none [] h1 r1 t1 g1.b I1 hp (by show 0+7*e<=50000;omega)
 rw[tp1,List.nil_append] at b2
 have nd:=sP t1 e uL (by unfold uL;simp)
 have ln:=p5 t1 e uL
 have l7:uL.length=7:=rfl
 rw[l7] at ln
 generalize hE:jU t1 e uL=E at b2 nd ln
 have f0:fin [] (.p (.bl true)) h2=some (.p (.bl true),[]):=by
  have:=iz [] h2 (.bl true)
  simpa using this
 have ns':biD .nset [.lst (ai E)]=some (.int ((E.length:Nat):Int)):=by
  rw[oQ,mR,Option.bind_some,if_pos (by omega),yc _ E rfl nd]
 have nl:(ai E).length=E.length:=by unfold ai;rw[List.length_map]
 refine ⟨[],?_⟩
 rw[run_eq Lx.law rfl,dz]
 generalize hz1:((v1+1:Nat):Int)=z1 at in1 c1
 have b2':cg (evS (runN T G (k+13)) G pZ) [(5,"_law_thing")] [.str "a",.str "b",.str "f",.int 0,.int 1,.int 2,.int 3] [some (.p (.lst (ai ns))),some (.p (bM pg)),some (.o 0),some (.p (.int (e:Int))),some (.p (.lst [])),none,none,none] h1=some (.nx [some (.p (.lst (ai ns))),some (.p (bM pg)),some (.o 0),some (.p (.int (e:Int))),some (.p (.lst (ai E))),y5,y6,y7] h2):=b2
 simp[-cg,rp',ra',rmo',rv1',c1,in1,A0.ob,Hh,b1,gk,b2',ns',nl,f0]
end
end BT
end
section
namespace BF
open PySem PySem.Spec PyProof.Rows L2 BS
noncomputable def qS (P:Program) (w:World) (K:PySem.W.Frag) (mg:Str->Option Value) (x:Str) (z:BT.W):Prop:=∃ u v,mg x=some u/\RelV v u/\∀ m H,RW P w K m H v z
theorem yh {P:Program}{w:World}{K:PySem.W.Frag}{h:Heap}{mg:Str->Option Value} (X:K.In h) (G:h.Ns mainGlobals mg) {x:Str}{n:Int}{t:Tok} (a:PySem.W.nsIn K mainGlobals x=some (some (.int n t))):qS P w K mg x (.p (.int n)) :=
 ⟨_,.int n,PySem.W.mg_of X G a,⟨t,rfl⟩,fun _ _=>.p (.int n)⟩
inductive dB:List Str->List Value->Prop where
 | nil:dB [] []
 | cons {x:Str}{xs:List Str}{t:Tok}{vs:List Value} (h:PyData.strOk x=true) (r:dB xs vs):dB (x :: xs) (.str x t :: vs)
theorem dB.vals:∀ {xs:List Str}{vs:List Value},dB xs vs->aq (xs.map V.str) vs
 | _,_,.nil=>.nil
 | _,_,.cons _ r=>.cons ⟨_,rfl⟩ r.vals
theorem dB.rds {K:PySem.W.Frag}{m:List Addr}{H:Hp}:∀ {xs:List Str}{vs:List Value},dB xs vs->RDs K m H (xs.map V.str) (xs.map BT.D.str)
 | _,_,.nil=>.nil
 | _,_,.cons h r=>.cons (.str _ h) r.rds
theorem dB.len:∀ {xs:List Str}{vs:List Value},dB xs vs->vs.length=xs.length
 | _,_,.nil=>rfl
 | _,_,.cons _ r=>by simp[r.len]
theorem yi {P:Program}{w:World}{K:PySem.W.Frag}{h:Heap}{mg:Str->Option Value} (X:K.In h) (G:h.Ns mainGlobals mg) {x:Str}{f:Addr}{its:Array Value}{n:Nat}{sl:Array (Option Value)}{xs:List Str} (a:PySem.W.nsIn K mainGlobals x=some (some (.ref f)))
 (l:K.lookup f=some ⟨.type "tuple",none,.seq its n,sl⟩) (hl:xs.length<=1000) (r:dB xs its.toList):qS P w K mg x (.p (.tup (xs.map BT.D.str))):=by
 refine ⟨_,.ref f,PySem.W.mg_of X G a,rfl,fun m H=>.p (.tup (.inr ⟨_,its,n,⟨l,rfl,rfl,?_,r.vals⟩,rfl⟩) r.rds)⟩
 have:=r.len
 have e:its.size=xs.length:=by rw[← this];simp
 rw[e]
 exact Nat.le_of_lt (tS hl)
inductive ff (w:World):List (Str×Int)->List DictEntry->Prop where
 | nil:ff w [] []
 | cons {x:Str}{n:Int}{kvs:List (Str×Int)}{t u:Tok}{es:List DictEntry} (r:ff w kvs es):ff w ((x,n) :: kvs) (⟨PyData.keyHash w.params x,.str x t,.int n u⟩ :: es)
theorem ff.ex {P:Program}{w:World}:∀ {kvs:List (Str×Int)}{es:List DictEntry},ff w kvs es->∃ vs:List (Key×Value),KV ((kvs.map fun q=>(q.1,V.int q.2)).map fun q=>((Sum.inr q.1:Key),q.2)) vs/\Pairs (aU P w) es vs/\vs.map (·.1)=kvs.map (fun q=>(Sum.inr q.1:Key))/\(∀ e∈es,∃ k,(aU P w).is k e.key=true/\e.hash=(aU P w).hash k)
 | _,_,.nil=>⟨[],.nil,.nil,rfl,fun e he=>nomatch he⟩
 | _,_,@ff.cons _ x n kvs t u es r=>by
  obtain ⟨vs,h1,h2,h3,h4⟩:=r.ex (P:=P)
  have is:(aU P w).is (Sum.inr x) (.str x t)=true:=by show Value.isStrOf x (.str x t)=true;simp[Value.isStrOf]
  refine ⟨(Sum.inr x,.int n u) :: vs,.cons ⟨rfl,u,rfl⟩ h1,.cons is rfl h2,by simp[h3],fun e he=>?_⟩
  rcases List.mem_cons.mp he with rfl | he
  ·exact ⟨Sum.inr x,is,rfl⟩
  ·exact h4 e he
theorem uN {P:Program}{w:World}{K:PySem.W.Frag}{h:Heap}{mg:Str->Option Value} (X:K.In h) (G:h.Ns mainGlobals mg) {x:Str}{f:Addr}{es:Array DictEntry}{n:Nat}{kvs:List (Str×Int)} (a:PySem.W.nsIn K mainGlobals x=some (some (.ref f)))
 (l:K.lookup f=some { cls:=.type "dict",data:=.dict es n }) (hf:(f==sysModules)=false) (r:ff w kvs es.toList) (nd:(kvs.map (·.1)).Nodup):qS P w K mg x (.k (kvs.map fun q=>(q.1,BT.D.int q.2))):=by
 obtain ⟨vs,h1,h2,h3,h4⟩:=r.ex (P:=P)
 refine ⟨_,.ref f,PySem.W.mg_of X G a,rfl,fun m H=>.k (es:=kvs.map fun q=>(q.1,V.int q.2)) ⟨hf,vs,h1,fun hh Kh=>⟨_,es,n,Kh _ _ l,⟨rfl,rfl,rfl⟩,rfl,fun e he=>h4 e (by simpa using he),h2,?_⟩⟩ ?_⟩
 ·rw[h3]
  have e:(kvs.map fun q=>(Sum.inr q.1:Key))=(kvs.map (·.1)).map Sum.inr:=by simp
  rw[e]
  exact List.pairwise_map.mpr (nd.imp fun h z=>h (Sum.inr.inj z))
 ·clear r nd h1 h2 h3 h4 l
  induction kvs with
  | nil=>exact .nil
  | cons q kvs ih=>exact .cons (fun _ _=>.int _) ih
noncomputable def look {κ α:Type} [DecidableEq κ] (l:List (κ×α)) (x:κ):Option α:=match l with
 | []=>none
 | (y,a) :: r=>if y=x then some a else look r x
theorem gO {κ α:Type} [DecidableEq κ] {Q:κ->α->Prop}:∀ {l:List (κ×α)} (_:∀ p∈l,Q p.1 p.2) {x:κ}{a:α},look l x=some a->Q x a
 | [],_,_,_,e=>by cases e
 | (y,b) :: r,h,x,a,e=>by
  rw[look] at e
  split at e
  ·rename_i z
   cases e
   subst z
   exact h (y,b) List.mem_cons_self
  ·exact gO (fun p hp=>h p (List.mem_cons_of_mem _ hp)) e
theorem gB {K:PySem.W.Frag}{m:List Addr}{H:Hp}:∀ ns:List Int,RDs K m H (ns.map V.int) (BT.ai ns)
 | []=>.nil
 | n :: r=>.cons (.int n) (gB r)
theorem yj {P:Program}{w:World}{K:PySem.W.Frag}{g:List BT.W->BT.HH->Option (BT.W×BT.HH)}{H:Hp}{a:Addr}{ns:List Int} (tb:TB K H) (hS:LL K H a (ns.map V.int)) (e:∃ h',g [.p (.lst (BT.ai ns))] []=some (.p (.bl true),h')):spF P w K g [.ref a] H (fun v _=>v=.bl true) fun _ _ _=>False:=by
 obtain ⟨h',e⟩:=e
 refine ⟨[],_,[],_,h',⟨List.nodup_nil,rfl,fun i a xs z=>by simp at z,tb⟩,.cons (.p (.lst (hS.elim (fun q=>.inl ⟨q,by simp⟩) .inr) (gB ns))) .nil,e,fun v H' m' _ _ r=>ju r⟩
end BF
end
section
namespace BG
open PySem PySem.Spec PySem.Calls PyProof.Rows L2 BS BF
theorem AZ {h:Heap}{K:PySem.W.Frag} (H:∀ p∈K,h.get? p.1=some p.2):K.In h:=by
 intro a o e
 obtain ⟨p,hp,he⟩:∃ p∈K,p.1=a/\p.2=o:=by
  clear H
  induction K with
  | nil=>cases e
  | cons q r ih =>
   rw[List.lookup_cons] at e
   split at e
   ·rename_i c
    cases e
    exact ⟨q,List.mem_cons_self,(eq_of_beq c).symm,rfl⟩
   ·obtain ⟨p,hp,he⟩:=ih e
    exact ⟨p,List.mem_cons_of_mem _ hp,he⟩
 rw[← he.1,← he.2]
 exact H p hp
theorem yk {K:PySem.W.Frag}{f:Addr}{x qual:Str}{st:Stmt} (e:yw K f=some (qU x qual st)):∃ fd,Fun K x qual st f fd/\∃ kV doc pm an cdv ct,fd=PySem.W.fnOf x qual (c9 st) (ah st) (aa st) .none kV doc pm an cdv ct:=by
 unfold yw at e
 split at e
 ·rename_i oc od fd sl l
  have e':=Option.some.inj e
  unfold qU at e'
  obtain ⟨nm,ql,pa,bo,sc,gl,cl,de,kw,dc,pm,an,co,ct,bu⟩:=fd
  simp only[FS.mk.injEq] at e'
  obtain ⟨rfl,rfl,rfl,rfl,rfl,rfl,rfl,rfl,rfl,hc⟩:=e'
  have F:=CZ (K:=K) (x:=nm) (qual:=ql) (st:=st) (f:=f) (kV:=kw) (doc:=dc) (pm:=pm) (an:=an) (cdv:=co) (ct:=ct) l hc (by simp only[PySem.W.keepIn,l])
  exact ⟨_,F,kw,dc,pm,an,co,ct,rfl⟩
 ·cases e
theorem nth {α:Type}{l:List α}{a:α} (i:Nat) (h:l[i]?=some a):a∈l:=List.mem_of_getElem? h
noncomputable def p7 (ns:List Str):Bool:=ns.all fun n=>!(n.cps[0]?==some 60)
theorem HC (y:Str):(BT.cQ y).cps[0]?=some 60:=by
 show (((#[60]:Array Nat)++y.cps)++#[62])[0]?=some 60
 rw[← Array.getElem?_toList]
 simp
theorem A1 {y z:Str} (h:BT.cQ y=BT.cQ z):y=z:=by
 have e:((#[60]:Array Nat)++y.cps)++#[62]=((#[60]:Array Nat)++z.cps)++#[62]:=congrArg Str.cps h
 have e2:y.cps.toList=z.cps.toList:=by
  have:=congrArg Array.toList e
  simpa using this
 cases y;cases z;exact congrArg Str.mk (Array.toList_inj.mp e2)
theorem lC {ns:List Str} (h:p7 ns=true) (y:Str):ns.contains (BT.cQ y)=false:=by
 cases e:ns.contains (BT.cQ y) with
 | false=>rfl
 | true =>
  have:=List.all_eq_true.mp h _ (List.contains_iff_mem.mp e)
  rw[HC] at this
  cases this
theorem aB {K:PySem.W.Frag}{q:Str}{fd:FuncData}{fn:BT.Fn} (h:p7 fn.ns=true):jJ K q fd fn:=fun y hy=>by rw[lC h y] at hy;cases hy
section
variable {P:Program}{w:World}{K:PySem.W.Frag}{h:Heap}{mg:Str->Option Value}
theorem nY {o:Option (Option Value)}{f:Addr} (e:refOf o=some f):o=some (some (.ref f)):=by
 unfold refOf at e
 split at e
 ·cases e;rfl
 ·cases e
theorem az (X:K.In h) (G:h.Ns mainGlobals mg) {x:Str}{f:Addr}{st:Stmt}{fn:BT.Fn} (e:cN K (.fn x f st)=cO w (.fn x f st))
 (sc:aj fn.ns fn.ps (aa st)) (hb:∀ (kV doc pm:Value) (an:Option Addr) (cdv ct:Value) (us:List Value),us.length=fn.ps.length->bindArgs (PySem.W.fnOf x x (c9 st) (ah st) (aa st) .none kV doc pm an cdv ct) ⟨us,[]⟩=pure (fn.ps.zip us))
 (ck:CSs (aa st) fn.ns fn.body (ah st)) (tg:∀ fd,PySem.W.nsIn K mainGlobals x=some (some (.ref f))->(∃ oc od sl,K.lookup f=some ⟨oc,od,.func fd,sl⟩)->jJ K x fd fn):Def K mg x fn:=by
 simp only[cN,cO,Ov.fn.injEq] at e
 obtain ⟨fd,F,kV,doc,pm,an,cdv,ct,rfl⟩:=yk e.2
 refine ⟨f,_,st,PySem.W.mg_of X G (nY e.1),F,sc,F.binds hb,ck,tg _ (nY e.1) ?_⟩
 obtain ⟨oc,od,kV,doc,pm,an,cdv,ct,osl,e1,lk,_⟩:=F.ex
 exact ⟨oc,od,osl,lk⟩
theorem yl {c:Str}{C:Addr} (e:cN K (.cls c C)=cO w (.cls c C)):kH K c C:=by
 simp only[cN,cO,Ov.b.injEq,Ff,Bool.and_eq_true,decide_eq_true_eq] at e
 obtain ⟨⟨⟨⟨⟨h1,h2⟩,h3⟩,h4⟩,h5⟩,h6⟩:=e
 refine ⟨h1,⟨h2,h3,h4,h5⟩,fun f hf=>?_⟩
 have hm:f∈attrs:=List.contains_iff_mem.mp hf
 exact of_decide_eq_true (p:=PySem.W.findIn K (.ref C) f=some none) (List.all_eq_true.mp h6 f hm)
theorem cM (X:K.In h) (G:h.Ns mainGlobals mg) {c:Str}{C:Addr}{m x qual:Str}{f:Addr}{st:Stmt}{fn:BT.Fn} (ec:cN K (.cls c C)=cO w (.cls c C)) (em:cN K (.mk C)=cO w (.mk C)) (e:cN K (.me C m x qual f st)=cO w (.me C m x qual f st))
 (sc:aj fn.ns fn.ps (aa st)) (hb:∀ (kV doc pm:Value) (an:Option Addr) (cdv ct:Value) (us:List Value),us.length=fn.ps.length->bindArgs (PySem.W.fnOf x qual (c9 st) (ah st) (aa st) .none kV doc pm an cdv ct) ⟨us,[]⟩=pure (fn.ps.zip us))
 (ck:CSs (aa st) fn.ns fn.body (ah st)) (tg:p7 fn.ns=true):xw K mg c m fn:=by
 have hC:=yl ec
 simp only[cN,cO,Ov.fn.injEq] at e
 obtain ⟨e1,e2⟩:=e
 obtain ⟨fd,F,kV,doc,pm,an,cdv,ct,rfl⟩:=yk e2
 have e1':meB K C m f=true:=by
  cases q:meB K C m f with
  | true=>rfl
  | false=>rw[q] at e1;cases e1
 simp only[meB,Bool.and_eq_true,decide_eq_true_eq] at e1'
 simp only[cN,cO,Ov.b.injEq,mkB,Bool.and_eq_true] at em
 refine ⟨C,f,_,x,qual,st,hC,PySem.W.mg_of X G hC.cn,⟨e1'.1,e1'.2,F.kp⟩,fun z=>?_,F,sc,F.binds hb,ck,aB tg⟩
 subst z
 exact ⟨em.1,e1'.1,e1'.2,em.2⟩
theorem none_of (X:K.In h) (G:h.Ns mainGlobals mg) {x:Str} (e:cN K (.no x)=cO w (.no x)):mg x=none:=by
 simp only[cN,cO,Ov.b.injEq,decide_eq_true_eq] at e
 exact PySem.W.mg_none_of X G e
theorem ym {v:Value}{x:Int} (h:intOf v=some x):∃ t,v=.int x t:=by
 cases v<;>simp[intOf] at h
 exact ⟨_,by rw[h]⟩
theorem yo {v:Value}{x:Str} (h:strOf v=some x):∃ t,v=.str x t:=by
 cases v<;>simp[strOf] at h
 exact ⟨_,by rw[h]⟩
theorem cK (X:K.In h) (G:h.Ns mainGlobals mg) {x:Str}{n:Int} (e:cN K (.int x n)=cO w (.int x n)):qS P w K mg x (.p (.int n)):=by
 simp only[cN,cO,Ov.int.injEq] at e
 split at e
 ·rename_i v hv
  obtain ⟨t,rfl⟩:=ym e
  exact yh X G hv
 ·cases e
theorem sQ:∀ {xs:List Str}{vs:List Value},xs.all PyData.strOk=true->vs.map strOf=xs.map some->dB xs vs
 | [],[],_,_=>.nil
 | [],_ :: _,_,h=>by simp at h
 | _ :: _,[],_,h=>by simp at h
 | x :: xs,v :: vs,k,h=>by
  simp only[List.map_cons,List.cons.injEq] at h
  simp only[List.all_cons,Bool.and_eq_true] at k
  obtain ⟨t,rfl⟩:=yo h.1
  exact .cons k.1 (sQ k.2 h.2)
theorem sR:∀ {kvs:List (Str×Int)}{es:List DictEntry},es.map (fun e=>(e.hash,strOf e.key,intOf e.val))=kvs.map (fun q=>(PyData.keyHash w.params q.1,some q.1,some q.2))->ff w kvs es
 | [],[],_=>.nil
 | [],_ :: _,h=>by simp at h
 | _ :: _,[],h=>by simp at h
 | (x,n) :: kvs,⟨ha,k,v⟩ :: es,h=>by
  simp only[List.map_cons,List.cons.injEq,Prod.mk.injEq] at h
  obtain ⟨⟨rfl,h2,h3⟩,hr⟩:=h
  obtain ⟨t,rfl⟩:=yo h2
  obtain ⟨u,rfl⟩:=ym h3
  exact .cons (sR hr)
theorem yp (X:K.In h) (G:h.Ns mainGlobals mg) {x:Str}{f:Addr}{xs:List Str} (e:cN K (.tup x f xs)=cO w (.tup x f xs)) (hl:xs.length<=1000) (hs:xs.all PyData.strOk=true):qS P w K mg x (.p (.tup (xs.map BT.D.str))):=by
 simp only[cN,cO,Ov.seq.injEq] at e
 obtain ⟨e1,e2,e3⟩:=e
 obtain ⟨o,l,e4⟩:=Option.map_eq_some_iff.mp e2
 rw[l] at e3
 obtain ⟨cl,di,da,sl⟩:=o
 simp only[shp,Prod.mk.injEq] at e4
 obtain ⟨rfl,rfl,e5⟩:=e4
 have:sl=#[]:=Array.eq_empty_of_size_eq_zero e5
 subst this
 simp only[Option.bind_some,Bw] at e3
 cases da<;>simp only[Option.some.injEq,reduceCtorEq] at e3
 exact yi X G (nY e1) l hl (sQ hs e3)
theorem yq (X:K.In h) (G:h.Ns mainGlobals mg) {x:Str}{f:Addr}{kvs:List (Str×Int)} (e:cN K (.dct x f kvs)=cO w (.dct x f kvs)) (hf:(f==sysModules)=false) (nd:(kvs.map (·.1)).Nodup):qS P w K mg x (.k (kvs.map fun q=>(q.1,BT.D.int q.2))):=by
 simp only[cN,cO,Ov.dct.injEq] at e
 obtain ⟨e1,e2,e3⟩:=e
 obtain ⟨o,l,e4⟩:=Option.map_eq_some_iff.mp e2
 rw[l] at e3
 obtain ⟨cl,di,da,sl⟩:=o
 simp only[shp,Prod.mk.injEq] at e4
 obtain ⟨rfl,rfl,e5⟩:=e4
 have:sl=#[]:=Array.eq_empty_of_size_eq_zero e5
 subst this
 simp only[Option.bind_some,Bx] at e3
 cases da<;>simp only[Option.some.injEq,reduceCtorEq] at e3
 exact uN X G (nY e1) l hf (sR e3) nd
end
theorem yr {α:Type}{us:List α}{n:Nat} (h:us.length=n+1):∃ a r,us=a :: r/\r.length=n:=by
 cases us with
 | nil=>simp at h
 | cons a r=>exact ⟨a,r,rfl,by simpa using h⟩
theorem len0 {α:Type}{us:List α} (h:us.length=0):us=[]:=List.eq_nil_of_length_eq_zero h
theorem lP {α:Type}{us:List α} (h:us.length=1):∃ a0,us=[a0]:=by
 obtain ⟨a0,r,rfl,g⟩:=yr h
 exact ⟨a0,by rw[len0 g]⟩
theorem dY {α:Type}{us:List α} (h:us.length=2):∃ a0 a1,us=[a0,a1]:=by
 obtain ⟨a0,r,rfl,g⟩:=yr h
 obtain ⟨a1,rfl⟩:=lP g
 exact ⟨a0,a1,rfl⟩
theorem gP {α:Type}{us:List α} (h:us.length=3):∃ a0 a1 a2,us=[a0,a1,a2]:=by
 obtain ⟨a0,r,rfl,g⟩:=yr h
 obtain ⟨a1,a2,rfl⟩:=dY g
 exact ⟨a0,a1,a2,rfl⟩
theorem EF {α:Type}{us:List α} (h:us.length=4):∃ a0 a1 a2 a3,us=[a0,a1,a2,a3]:=by
 obtain ⟨a0,r,rfl,g⟩:=yr h
 obtain ⟨a1,a2,a3,rfl⟩:=gP g
 exact ⟨a0,a1,a2,a3,rfl⟩
theorem Kc {α:Type}{us:List α} (h:us.length=5):∃ a0 a1 a2 a3 a4,us=[a0,a1,a2,a3,a4]:=by
 obtain ⟨a0,r,rfl,g⟩:=yr h
 obtain ⟨a1,a2,a3,a4,rfl⟩:=EF g
 exact ⟨a0,a1,a2,a3,a4,rfl⟩
noncomputable abbrev BdT (x qual:Str) (st:Stmt) (fn:BT.Fn):Prop:=∀ (kV doc pm:Value) (an:Option Addr) (cdv ct:Value) (us:List Value),us.length=fn.ps.length->bindArgs (PySem.W.fnOf x qual (c9 st) (ah st) (aa st) .none kV doc pm an cdv ct) ⟨us,[]⟩=pure (fn.ps.zip us)
noncomputable def sS (K:PySem.W.Frag) (mg:Str->Option Value) (p:BT.FK×BT.Fn):Prop:=(∀ x,p.1=.f x->Def K mg x p.2)/\(∀ c m,p.1=.m c m->xw K mg c m p.2)/\∀ L,p.1=.l L->BT.nq L=some p.2/\∃ ns bt,p.2=⟨ns,ns,.ret bt⟩/\∀ y,ns.contains (BT.cQ y)=false
theorem dd {K:PySem.W.Frag}{mg:Str->Option Value}{x:Str}{fn:BT.Fn} (d:Def K mg x fn):sS K mg (.f x,fn):=⟨fun y e=>by cases e;exact d,fun c m e=>(by cases e),fun L e=>by cases e⟩
theorem dm {K:PySem.W.Frag}{mg:Str->Option Value}{c m:Str}{fn:BT.Fn} (d:xw K mg c m fn):sS K mg (.m c m,fn):=⟨fun y e=>(by cases e),fun c m e=>by cases e;exact d,fun L e=>by cases e⟩
theorem dl {K:PySem.W.Frag}{mg:Str->Option Value}{L:Nat}{ns:List Str}{bt:BT.E} (h:BT.nq L=some ⟨ns,ns,.ret bt⟩) (n:p7 ns=true):sS K mg (.l L,⟨ns,ns,.ret bt⟩):=⟨fun y e=>(by cases e),fun c m e=>(by cases e),fun M e=>by cases e;exact ⟨h,ns,bt,rfl,lC n⟩⟩
structure A2 (K:PySem.W.Frag) (tl:List (Str×Addr×Addr)):Prop where
 all:∀ z∈BT.dN,(∃ c P,(z,c,P)∈tl/\PySem.W.tabIn K z=some (c,P))\/PySem.W.tabIn K z=none
 hd:∀ q∈tl,PySem.W.codeHdIn K q.2.1 q.2.2=true
theorem fV {K:PySem.W.Frag}{w:World}{x:Str}{c P:Addr} (e:cN K (.tab x c P)=cO w (.tab x c P)):PySem.W.tabIn K x=some (c,P)/\PySem.W.codeHdIn K c P=true:=by
 simp only[cN,cO,Ov.b.injEq,Bool.and_eq_true,decide_eq_true_eq] at e
 exact e
theorem b8 {K:PySem.W.Frag}{w:World}{x:Str} (e:cN K (.no x)=cO w (.no x)):PySem.W.tabIn K x=none:=by
 simp only[cN,cO,Ov.b.injEq,decide_eq_true_eq] at e
 unfold PySem.W.tabIn
 rw[e]
theorem yt {K:PySem.W.Frag}{x:Str}{f c P:Addr}{oc:Value}{od:Option Addr}{fd:FuncData}{sl:Array (Option Value)} (h1:PySem.W.nsIn K mainGlobals x=some (some (.ref f))) (h2:K.lookup f=some ⟨oc,od,.func fd,sl⟩) (h:PySem.W.tabIn K x=some (c,P)):fd.code=.ref c:=by
 unfold PySem.W.tabIn at h
 rw[h1] at h
 simp only[h2] at h
 split at h
 ·rename_i c' hc
  split at h
  ·split at h
   ·cases h;exact hc
   ·cases h
  ·cases h
 ·cases h
theorem EG {K:PySem.W.Frag}{w:World}{b:Addr} (e:cN K (.bm b)=cO w (.bm b)):∃ bm ob,PySem.W.nsIn K mainGlobals "__builtins__"=some (some (.ref bm))/\bm≠builtinsNs/\K.lookup bm=some ob/\ob.cls=.type "module"/\ob.dict=some builtinsNs/\ob.data=.plain:=by
 simp only[cN,cO,Ov.b.injEq,bmB,Bool.and_eq_true,decide_eq_true_eq] at e
 obtain ⟨⟨e1,e2⟩,e3⟩:=e
 split at e3
 ·rename_i d sl l
  exact ⟨b,_,e1,e2,l,rfl,congrArg some (eq_of_beq e3),rfl⟩
 ·cases e3
noncomputable def tabsOk (tl:List (Str×Addr×Addr)):Bool:=tl.all fun p=>tl.all fun q=>!(p.2.2==q.2.2)||p.1==q.1
theorem nZ {K:PySem.W.Frag}{w:World}{x:Str}{fn:BT.Fn}{ns:List Str}{tl:List (Str×Addr×Addr)}{f c P b:Addr} (hns:fn.ns=ns++[BT.cQ x]) (h0:p7 ns=true) (mem:x∈BT.dN) (hT:A2 K tl) (hk:tabsOk tl=true) (hm:(x,c,P)∈tl) (et:cN K (.tab x c P)=cO w (.tab x c P)) (eb:cN K (.bm b)=cO w (.bm b)) :
 ∀ fd,PySem.W.nsIn K mainGlobals x=some (some (.ref f))->(∃ oc od sl,K.lookup f=some ⟨oc,od,.func fd,sl⟩)->jJ K x fd fn:=fun fd h1 ⟨oc,od,sl,h2⟩ y hy=>by
 obtain ⟨t1,t2⟩:=fV et
 have e:y=x:=by
  have m:=List.contains_iff_mem.mp hy
  rw[hns] at m
  rcases List.mem_append.mp m with m | m
  ·have:=lC h0 y
   rw[List.contains_iff_mem.mpr m] at this;cases this
  ·exact A1 (by simpa using m)
 subst e
 refine ⟨rfl,mem,⟨c,P,t1,yt h1 h2 t1,t2,fun z hz c2 e2=>?_⟩,EG eb⟩
 rcases hT.all z hz with ⟨c3,P3,m3,e3⟩ | e3
 ·rw[e2] at e3
  cases e3
  have:=List.all_eq_true.mp (List.all_eq_true.mp hk _ m3) _ hm
  simp only[beq_self_eq_true,Bool.not_true,Bool.false_or] at this
  exact eq_of_beq this
 ·rw[e2] at e3;cases e3
theorem qT {K:PySem.W.Frag}{b:Addr}{o:Obj} (e:K.lookup b=some o):b∈K.map (·.1):=List.mem_map.mpr ⟨(b,o),PySem.W.mem_of_lookupK e,rfl⟩
theorem uO {P:Program}{w:World}{K:PySem.W.Frag}{mg mb:Str->Option Value}{k:Nat}{fa a:Addr}{fd:FuncData}{x:Str}{sp:Sp}{s₁:Shared}{vs:List Value}{ns:List Int}{tl:List (Str×Addr×Addr)}
 (KX:K.In s₁.heap) (hns:s₁.heap.Ns mainGlobals mg) (hb:s₁.heap.Ns builtinsNs mb) (hbb:∀ x:Str,x≠"__name__"->mb x=bootBuiltins x) (hlim:s₁.heap.NoLimit) (hg:s₁.gens=#[])
 (ha:s₁.heap.get? a=some { cls:=.type "list",data:=.seq vs.toArray }) (hi:IntsAre vs ns) (hl:ns.length<=sizeLine) (hr:bJ k callerA)
 (hT:A2 K tl) (hTs:∀ p∈tl,s₁.heap.get? p.2.2=some (PySem.W.tabObj #[])) (hTk:∀ p∈tl,K.lookup p.2.2=none)
 (F:∀ base:Heap,dg P w K mg base CX0 k fa fd [x] sp) (hbind:∀ (s:Shared) (u:Value),K.In s.heap->BindsTo s fd ⟨[u],[]⟩ [(x,u)])
 (hsp:∀ H:Hp,TB K H->LL K H a (ns.map V.int)->sp [.ref a] H (fun v _=>v=.bl true) fun _ _ _=>False) :
 codeAny (model P w) callerA (.call (.ref fa) ⟨[.ref a],[]⟩) (fun r s'=>r=.ok (.ret (.bool true))/\OldK s₁.heap s'.heap/\s'.os=s₁.os/\AllBare s'.gens) s₁:=by
 have rv:=jn hi
 have lenV:=hi.length
 have tne:∀ p∈tl,p.2.2≠a:=fun p hp z=>by
  have:=hTs p hp
  rw[z,ha] at this;cases this
 let so:HO:=.frz { cls:=.type "list",data:=.seq vs.toArray } (.lst (ns.map V.int))
 let H:Hp:=fun b=>if ∃ p∈tl,p.2.2=b then some (.tbl #[]) else if b=a/\K.lookup a=none then some so else none
 have Ht:∀ p∈tl,H p.2.2=some (.tbl #[]):=fun p hp=>if_pos ⟨p,hp,rfl⟩
 have Hcase:∀ b u,H b=some u->(∃ p∈tl,p.2.2=b/\u=.tbl #[])\/(b=a/\K.lookup a=none/\u=so):=fun b u e=>by
  by_cases c1:∃ p∈tl,p.2.2=b
  ·have e':some (HO.tbl #[])=some u:=(if_pos c1).symm.trans e
   obtain ⟨p,hp,h2⟩:=c1
   exact .inl ⟨p,hp,h2,(Option.some.inj e').symm⟩
  ·have e':(if b=a/\K.lookup a=none then some so else none)=some u:=(if_neg c1).symm.trans e
   by_cases c2:b=a/\K.lookup a=none
   ·rw[if_pos c2] at e'
    exact .inr ⟨c2.1,c2.2,(Option.some.inj e').symm⟩
   ·rw[if_neg c2] at e';cases e'
 have noA:∀ {b:Addr}{o:Obj}{es:Array DictEntry}{ep:Nat},s₁.heap.get? b=some o->o.data=.dict es ep->H b=none:=fun {b o es ep} e d=>by
  cases q:H b with
  | none=>rfl
  | some u =>
   rcases Hcase b u q with ⟨p,hp,h2,_⟩ | ⟨h2,_⟩
   ·have z:=hTs p hp
    rw[h2,e] at z;cases z;cases d
   ·rw[h2,ha] at e;cases e
    have d':Data.seq vs.toArray _=Data.dict es ep:=d
    cases d'
 have nsK:∀ {b:Addr}{m:Str->Option Value},s₁.heap.Ns b m->(jj s₁.heap H).Ns b m:=fun {b m} ⟨o,es,ep,e,d,r⟩=>⟨o,es,ep,j9 e (noA e d),d,r⟩
 have hKb:K.In (jj s₁.heap H):=fun b o e=>j9 (KX b o e) (by
  cases q:H b with
  | none=>rfl
  | some u =>
   rcases Hcase b u q with ⟨p,hp,h2,_⟩ | ⟨h2,h3,_⟩
   ·rw[← h2,hTk p hp] at e;cases e
   ·rw[h2,h3] at e;cases e)
 have hM:Mod K mg (jj s₁.heap H):=⟨hKb,nsK hns,⟨mb,nsK hb,hbb⟩,let ⟨mc,h1,h2⟩:=hlim;⟨mc,nsK h1,h2⟩⟩
 have hok:HOk P w H s₁.heap:=fun b u e=>by
  rcases Hcase b u e with ⟨p,hp,h2,rfl⟩ | ⟨h2,_,rfl⟩
  ·subst h2;exact hTs p hp
  ·subst h2;exact ⟨ha,by rw[List.length_map];exact hl,vs,_,rv,ha⟩
 have e0:iN P w K mg (jj s₁.heap H) callerA [] s₁ H:=⟨rfl,hM,fun b o e=>qV e,Nat.le_of_eq (lT _ _),trivial,fun b hb=>absurd (show b∈([]:List Addr) from hb) (by simp),hok,.of_eq hg⟩
 have tb:TB K H:=fun z hz c Pt e=>by
  rcases hT.all z hz with ⟨c3,P3,m3,e3⟩ | e3
  ·rw[e] at e3;cases e3
   exact ⟨#[],Ht _ m3,trivial,fun pos v q=>by cases q⟩
  ·rw[e] at e3;cases e3
 have hS:LL K H a (ns.map V.int):=by
  cases hk:K.lookup a with
  | some o =>
   have e:=KX a o hk
   rw[ha] at e
   cases e
   exact .inr ⟨vs,_,hk,by rw[lenV];exact hl,rv⟩
  | none =>
   refine .inl (.inr ⟨{ cls:=.type "list",data:=.seq vs.toArray },?_⟩)
   have e1:H a=(if a=a/\K.lookup a=none then some so else none):=if_neg fun ⟨p,hp,z⟩=>tne p hp z
   rw[e1,if_pos ⟨rfl,hk⟩]
 refine codeAny_mono ((F _).run callerA [] s₁ H ⟨[.ref a],[]⟩ [.ref a] [.ref a] _ _ hr e0 (hbind s₁ (.ref a) KX) (.cons rfl .nil) (hsp H tb hS)) fun r s' h=>?_
 cases r with
 | error e=>exact False.elim h
 | ok fl =>
  cases fl with
  | next=>exact False.elim h
  | brk=>exact False.elim h
  | cont=>exact False.elim h
  | ret u =>
   obtain ⟨v,H',os,bare,un,hok',r',q⟩:=h
   have q':v=.bl true:=q
   subst q'
   obtain rfl:u=Value.bool true:=r'
   have kp:∀ b o,s₁.heap.get? b=some o->(s'.heap.get? b=some o)\/∃ p∈tl,p.2.2=b/\∃ more,s'.heap.get? b=some (PySem.W.tabObj (#[]++more)):=fun b o e=>by
    cases q:H b with
    | none=>exact .inl (un.keep b o e q (by intro z;exact absurd (show b∈([]:List Addr) from z) (by simp)) (by simp))
    | some u =>
     rcases Hcase b u q with ⟨p,hp,h2,rfl⟩ | ⟨h2,h3,rfl⟩
     ·obtain ⟨more,z⟩:=un.tbls b _ q
      exact .inr ⟨p,hp,h2,more,hok' b _ z⟩
     ·have z2:=un.frzs b _ _ q
      obtain ⟨e1,_⟩:=hok b _ q
      obtain ⟨e2,_⟩:=hok' b _ z2
      rw[e] at e1;cases e1
      exact .inl e2
   refine ⟨rfl,⟨fun b o e=>?_,fun b o e=>?_⟩,os,bare⟩
   ·rcases kp b o e with z | ⟨p,hp,rfl,more,z⟩
    ·exact .inl z
    ·have e2:=hTs p hp
     rw[e] at e2
     cases e2
     have tA:=(PySem.W.codeHd_of_K KX (hT.hd p hp)).tab e
     exact .inr (.inl ⟨tA.isCodeTable,rfl,#[],more,rfl,z⟩)
   ·rcases kp b o e with z | ⟨p,hp,rfl,more,z⟩
    ·exact ⟨o,z⟩
    ·exact ⟨_,z⟩
theorem oE {l:PySem.W.OpenLaw}{n k:Nat}{q:Program}{loose:List Str}{XP:(Str->Option Value)->Heap->Prop}{d:DefRec}{as:List Addr}{qs:List Qy}{ts:List Addr}{tl:List (Str×Addr×Addr)}{T:BT.FK->Option BT.Fn}{G:Str->Option BT.W}{fn:BT.Fn}{x:Str}
 (hn:l.most=some n) (hn2:n<=sizeLine) (hdf:d.params.defaults=[]) (hr:bJ (2*k) callerA) (hps:fn.ps=[x]) (hT:T (.f d.name)=some fn) (hts:ts=tl.map (·.2.2)) (hto:tl.all (fun p=>!as.contains p.2.2)=true)
 (FT:∀ (w:World) (K:PySem.W.Frag),(∀ q∈qs,cN K q=cO w q)->A2 K tl)
 (F:∀ (P:Program) (w:World) (mg:Str->Option Value) (K:PySem.W.Frag) (h:Heap),K.In h->h.Ns mainGlobals mg->(∀ q∈qs,cN K q=cO w q)->Txt P w K mg T G)
 (hrun:∀ ns:List Int,ns.length<=n->∃ h',BT.runN T G k (.f d.name) [.p (.lst (BT.ai ns))] []=some (.p (.bl true),h')) :
 PySem.W.WalkO q loose XP (sees as qs ts).says l.row.toRowW d [] (fun f vs=>PySem.call f vs):=by
 refine Att.jF hn hdf fun w s₀ s₁ mg mb fa o pm cd doc a vs ns Gr Y ho hd hcd hmg hobj hints hlen hg=>?_
 obtain ⟨K,k0,k1,k2,k3⟩:=Y
 have KX:=AZ k1
 have X:=F l.prog w mg K s₁.heap KX Gr.T.g k2
 obtain ⟨f,fd,st,h1,h2,h3,h4,h5,h6⟩:=(X.defs _ fn hT).ex
 rw[hmg] at h1
 cases h1
 refine uO (sp:=spF l.prog w K (BT.runN T G k (.f d.name))) (x:=x) (k:=2*k) (fd:=fd) (tl:=tl) KX Gr.T.g Gr.T.b Gr.T.builtins Gr.T.nolimit hg hobj hints (Nat.le_trans hlen hn2) hr (FT w K k2) (fun p hp=>k3 _ (by rw[hts];exact List.mem_map_of_mem hp)) (fun p hp=>?_) (fun base=>?_) (fun s u hK=>?_) (fun H tb hS=>yj tb hS (hrun ns hlen))
 ·cases e:K.lookup p.2.2 with
  | none=>rfl
  | some o =>
   have m:=qT e
   rw[k0] at m
   have:=List.all_eq_true.mp hto p hp
   rw[List.contains_iff_mem.mpr m] at this;cases this
 ·have:=Ek (base:=base) X k (.f d.name) fn hT _ fd d.name d.name st h2 h3 h5 h6
  rw[hps] at this
  exact this
 ·have:=h4 s [u] hK (by rw[hps];rfl)
  rw[hps] at this
  exact this
end BG
end
section
namespace BL
open PySem PySem.Spec PyProof.Rows L2 BS BF BG
theorem Kd:CSs (aa (top 10)) BT.bS.ns BT.bS.body (ah (top 10)):=by
 repeat' (first | rfl | constructor | decide +kernel)
theorem Ke:aj BT.bS.ns BT.bS.ps (aa (top 10)):=by constructor<;>first | rfl | decide +kernel
theorem Kf:BdT "is_whole" "is_whole" (top 10) BT.bS:=fun _ _ _ _ _ _ us hl=>by obtain ⟨a0,rfl⟩:=lP hl;rfl
theorem Kg:CSs (aa (top 11)) BT.bW.ns BT.bW.body (ah (top 11)):=by
 repeat' (first | rfl | constructor | decide +kernel)
theorem Kl:aj BT.bW.ns BT.bW.ps (aa (top 11)):=by constructor<;>first | rfl | decide +kernel
theorem Km:BdT "is_name" "is_name" (top 11) BT.bW:=fun _ _ _ _ _ _ us hl=>by obtain ⟨a0,rfl⟩:=lP hl;rfl
theorem Kn:CSs (aa (top 12)) BT.cC.ns BT.cC.body (ah (top 12)):=by
 repeat' (first | rfl | constructor | decide +kernel)
theorem Ko:aj BT.cC.ns BT.cC.ps (aa (top 12)):=by constructor<;>first | rfl | decide +kernel
theorem Kp:BdT "is_cell" "is_cell" (top 12) BT.cC:=fun _ _ _ _ _ _ us hl=>by obtain ⟨a0,rfl⟩:=lP hl;rfl
theorem Kq:CSs (aa (top 13)) BT.aV.ns BT.aV.body (ah (top 13)):=by
 repeat' (first | rfl | constructor | decide +kernel)
theorem Kr:aj BT.aV.ns BT.aV.ps (aa (top 13)):=by constructor<;>first | rfl | decide +kernel
theorem Ks:BdT "inner_sums" "inner_sums" (top 13) BT.aV:=fun _ _ _ _ _ _ us hl=>by obtain ⟨a0,rfl⟩:=lP hl;rfl
theorem Ku:CSs (aa (top 22)) BT.dW.ns BT.dW.body (ah (top 22)):=by
 repeat' (first | rfl | constructor | decide +kernel)
theorem Kv:aj BT.dW.ns BT.dW.ps (aa (top 22)):=by constructor<;>first | rfl | decide +kernel
theorem Kw:BdT "begun" "begun" (top 22) BT.dW:=fun _ _ _ _ _ _ us hl=>by obtain rfl:=len0 hl;rfl
theorem Kx:CSs (aa (top 23)) BT.aM.ns BT.aM.body (ah (top 23)):=by
 repeat' (first | rfl | constructor | decide +kernel)
theorem Kz:aj BT.aM.ns BT.aM.ps (aa (top 23)):=by constructor<;>first | rfl | decide +kernel
theorem KA:BdT "check_thing" "check_thing" (top 23) BT.aM:=fun _ _ _ _ _ _ us hl=>by obtain ⟨a0,rfl⟩:=lP hl;rfl
theorem KB:CSs (aa (top 24)) BT.bC.ns BT.bC.body (ah (top 24)):=by
 repeat' (first | rfl | constructor | decide +kernel)
theorem KC:aj BT.bC.ns BT.bC.ps (aa (top 24)):=by constructor<;>first | rfl | decide +kernel
theorem KG:BdT "worth_in" "worth_in" (top 24) BT.bC:=fun _ _ _ _ _ _ us hl=>by obtain ⟨a0,a1,rfl⟩:=dY hl;rfl
theorem KH:CSs (aa (top 25)) BT.bQ.ns BT.bQ.body (ah (top 25)):=by
 repeat' (first | rfl | constructor | decide +kernel)
theorem KI:aj BT.bQ.ns BT.bQ.ps (aa (top 25)):=by constructor<;>first | rfl | decide +kernel
theorem KJ:BdT "laid_out" "laid_out" (top 25) BT.bQ:=fun _ _ _ _ _ _ us hl=>by obtain ⟨a0,rfl⟩:=lP hl;rfl
theorem KM:CSs (aa (top 26)) BT.c5.ns BT.c5.body (ah (top 26)):=by
 repeat' (first | rfl | constructor | decide +kernel)
theorem KN:aj BT.c5.ns BT.c5.ps (aa (top 26)):=by constructor<;>first | rfl | decide +kernel
theorem KO:BdT "of_two" "of_two" (top 26) BT.c5:=fun _ _ _ _ _ _ us hl=>by obtain ⟨a0,a1,a2,rfl⟩:=gP hl;rfl
theorem KP:CSs (aa (top 27)) BT.aY.ns BT.aY.body (ah (top 27)):=by
 repeat' (first | rfl | constructor | decide +kernel)
theorem KQ:aj BT.aY.ns BT.aY.ps (aa (top 27)):=by constructor<;>first | rfl | decide +kernel
theorem KR:BdT "worth_of" "worth_of" (top 27) BT.aY:=fun _ _ _ _ _ _ us hl=>by obtain ⟨a0,a1,a2,rfl⟩:=gP hl;rfl
theorem KS:CSs (aa (top 28)) BT.bR.ns BT.bR.body (ah (top 28)):=by
 repeat' (first | rfl | constructor | decide +kernel)
theorem KU:aj BT.bR.ns BT.bR.ps (aa (top 28)):=by constructor<;>first | rfl | decide +kernel
theorem KW:BdT "reckoned" "reckoned" (top 28) BT.bR:=fun _ _ _ _ _ _ us hl=>by obtain ⟨a0,a1,rfl⟩:=dY hl;rfl
theorem KY:CSs (aa (top 29)) BT.cy.ns BT.cy.body (ah (top 29)):=by
 repeat' (first | rfl | constructor | decide +kernel)
theorem KZ:aj BT.cy.ns BT.cy.ps (aa (top 29)):=by constructor<;>first | rfl | decide +kernel
theorem K0:BdT "cell_by" "cell_by" (top 29) BT.cy:=fun _ _ _ _ _ _ us hl=>by obtain ⟨a0,a1,rfl⟩:=dY hl;rfl
theorem K1:CSs (aa (top 30)) BT.bX.ns BT.bX.body (ah (top 30)):=by
 repeat' (first | rfl | constructor | decide +kernel)
theorem K2:aj BT.bX.ns BT.bX.ps (aa (top 30)):=by constructor<;>first | rfl | decide +kernel
theorem K3:BdT "is_over" "is_over" (top 30) BT.bX:=fun _ _ _ _ _ _ us hl=>by obtain ⟨a0,a1,rfl⟩:=dY hl;rfl
theorem K4:CSs (aa (top 31)) BT.aA.ns BT.aA.body (ah (top 31)):=by
 repeat' (first | rfl | constructor | decide +kernel)
theorem K5:aj BT.aA.ns BT.aA.ps (aa (top 31)):=by constructor<;>first | rfl | decide +kernel
theorem K6:BdT "place_behind" "place_behind" (top 31) BT.aA:=fun _ _ _ _ _ _ us hl=>by obtain ⟨a0,a1,rfl⟩:=dY hl;rfl
theorem K7:CSs (aa (top 32)) BT.bw.ns BT.bw.body (ah (top 32)):=by
 repeat' (first | rfl | constructor | decide +kernel)
theorem K8:aj BT.bw.ns BT.bw.ps (aa (top 32)):=by constructor<;>first | rfl | decide +kernel
theorem K9:BdT "with_worth" "with_worth" (top 32) BT.bw:=fun _ _ _ _ _ _ us hl=>by obtain ⟨a0,a1,a2,rfl⟩:=gP hl;rfl
theorem La:CSs (aa (top 33)) BT.bD.ns BT.bD.body (ah (top 33)):=by
 repeat' (first | rfl | constructor | decide +kernel)
theorem Lb:aj BT.bD.ns BT.bD.ps (aa (top 33)):=by constructor<;>first | rfl | decide +kernel
theorem Ld:BdT "with_name" "with_name" (top 33) BT.bD:=fun _ _ _ _ _ _ us hl=>by obtain ⟨a0,a1,a2,rfl⟩:=gP hl;rfl
theorem Lg:CSs (aa (top 34)) BT.bY.ns BT.bY.body (ah (top 34)):=by
 repeat' (first | rfl | constructor | decide +kernel)
theorem Lh:aj BT.bY.ns BT.bY.ps (aa (top 34)):=by constructor<;>first | rfl | decide +kernel
theorem Li:BdT "brought" "brought" (top 34) BT.bY:=fun _ _ _ _ _ _ us hl=>by obtain ⟨a0,a1,rfl⟩:=dY hl;rfl
theorem Lj:CSs (aa (top 35)) BT.cz.ns BT.cz.body (ah (top 35)):=by
 repeat' (first | rfl | constructor | decide +kernel)
theorem Lk:aj BT.cz.ns BT.cz.ps (aa (top 35)):=by constructor<;>first | rfl | decide +kernel
theorem Ll:BdT "stepped" "stepped" (top 35) BT.cz:=fun _ _ _ _ _ _ us hl=>by obtain ⟨a0,a1,a2,rfl⟩:=gP hl;rfl
theorem Lm:CSs (aa (top 37)) BT.c7.ns BT.c7.body (ah (top 37)):=by
 repeat' (first | rfl | constructor | decide +kernel)
theorem Ln:aj BT.c7.ns BT.c7.ps (aa (top 37)):=by constructor<;>first | rfl | decide +kernel
theorem Lo:BdT "sum_at" "sum_at" (top 37) BT.c7:=fun _ _ _ _ _ _ us hl=>by obtain ⟨a0,a1,a2,rfl⟩:=gP hl;rfl
theorem Lp:CSs (aa (top 38)) BT.bV.ns BT.bV.body (ah (top 38)):=by
 repeat' (first | rfl | constructor | decide +kernel)
theorem Lq:aj BT.bV.ns BT.bV.ps (aa (top 38)):=by constructor<;>first | rfl | decide +kernel
theorem Lr:BdT "worth_at" "worth_at" (top 38) BT.bV:=fun _ _ _ _ _ _ us hl=>by obtain ⟨a0,a1,a2,rfl⟩:=gP hl;rfl
theorem Ls:CSs (aa (top 39)) BT.bg.ns BT.bg.body (ah (top 39)):=by
 repeat' (first | rfl | constructor | decide +kernel)
theorem Lu:aj BT.bg.ns BT.bg.ps (aa (top 39)):=by constructor<;>first | rfl | decide +kernel
theorem Lv:BdT "worths_of" "worths_of" (top 39) BT.bg:=fun _ _ _ _ _ _ us hl=>by obtain ⟨a0,a1,rfl⟩:=dY hl;rfl
theorem Ly:CSs (aa (top 40)) BT.cD.ns BT.cD.body (ah (top 40)):=by
 repeat' (first | rfl | constructor | decide +kernel)
theorem Lz:aj BT.cD.ns BT.cD.ps (aa (top 40)):=by constructor<;>first | rfl | decide +kernel
theorem LA:BdT "changes" "changes" (top 40) BT.cD:=fun _ _ _ _ _ _ us hl=>by obtain ⟨a0,a1,rfl⟩:=dY hl;rfl
theorem LB:CSs (aa (top 41)) BT.aF.ns BT.aF.body (ah (top 41)):=by
 repeat' (first | rfl | constructor | decide +kernel)
theorem LC:aj BT.aF.ns BT.aF.ps (aa (top 41)):=by constructor<;>first | rfl | decide +kernel
theorem LD:BdT "last_change" "last_change" (top 41) BT.aF:=fun _ _ _ _ _ _ us hl=>by obtain ⟨a0,a1,a2,rfl⟩:=gP hl;rfl
theorem LG:CSs (aa (top 42)) BT.c6.ns BT.c6.body (ah (top 42)):=by
 repeat' (first | rfl | constructor | decide +kernel)
theorem LH:aj BT.c6.ns BT.c6.ps (aa (top 42)):=by constructor<;>first | rfl | decide +kernel
theorem LJ:BdT "spread" "spread" (top 42) BT.c6:=fun _ _ _ _ _ _ us hl=>by obtain ⟨a0,a1,rfl⟩:=dY hl;rfl
theorem LK:CSs (aa (top 44)) BT.aW.ns BT.aW.body (ah (top 44)):=by
 repeat' (first | rfl | constructor | decide +kernel)
theorem LM:aj BT.aW.ns BT.aW.ps (aa (top 44)):=by constructor<;>first | rfl | decide +kernel
theorem LN:BdT "written_by" "written_by" (top 44) BT.aW:=fun _ _ _ _ _ _ us hl=>by obtain ⟨a0,a1,rfl⟩:=dY hl;rfl
theorem LO:CSs (aa (top 45)) BT.aH.ns BT.aH.body (ah (top 45)):=by
 repeat' (first | rfl | constructor | decide +kernel)
theorem LP:aj BT.aH.ns BT.aH.ps (aa (top 45)):=by constructor<;>first | rfl | decide +kernel
theorem LQ:BdT "written_next" "written_next" (top 45) BT.aH:=fun _ _ _ _ _ _ us hl=>by obtain ⟨a0,a1,rfl⟩:=dY hl;rfl
theorem LR:CSs (aa (top 46)) BT.bA.ns BT.bA.body (ah (top 46)):=by
 repeat' (first | rfl | constructor | decide +kernel)
theorem LS:aj BT.bA.ns BT.bA.ps (aa (top 46)):=by constructor<;>first | rfl | decide +kernel
theorem LU:BdT "check_step" "check_step" (top 46) BT.bA:=fun _ _ _ _ _ _ us hl=>by obtain ⟨a0,a1,rfl⟩:=dY hl;rfl
theorem LV:CSs (aa (top 47)) BT.aI.ns BT.aI.body (ah (top 47)):=by
 repeat' (first | rfl | constructor | decide +kernel)
theorem LW:aj BT.aI.ns BT.aI.ps (aa (top 47)):=by constructor<;>first | rfl | decide +kernel
theorem LY:BdT "thing_written" "thing_written" (top 47) BT.aI:=fun _ _ _ _ _ _ us hl=>by obtain ⟨a0,a1,rfl⟩:=dY hl;rfl
theorem LZ:CSs (aa (top 48)) BT.aN.ns BT.aN.body (ah (top 48)):=by
 repeat' (first | rfl | constructor | decide +kernel)
theorem L0:aj BT.aN.ns BT.aN.ps (aa (top 48)):=by constructor<;>first | rfl | decide +kernel
theorem L1:BdT "writer_of" "writer_of" (top 48) BT.aN:=fun _ _ _ _ _ _ us hl=>by obtain ⟨a0,a1,a2,rfl⟩:=gP hl;rfl
theorem L3:CSs (aa (top 53)) BT.bE.ns BT.bE.body (ah (top 53)):=by
 repeat' (first | rfl | constructor | decide +kernel)
theorem L4:aj BT.bE.ns BT.bE.ps (aa (top 53)):=by constructor<;>first | rfl | decide +kernel
theorem L5:BdT "_law_cell" "_law_cell" (top 53) BT.bE:=fun _ _ _ _ _ _ us hl=>by obtain ⟨a0,a1,rfl⟩:=dY hl;rfl
theorem L6:CSs (aa (top 54)) BT.bF.ns BT.bF.body (ah (top 54)):=by
 repeat' (first | rfl | constructor | decide +kernel)
theorem L7:aj BT.bF.ns BT.bF.ps (aa (top 54)):=by constructor<;>first | rfl | decide +kernel
theorem L8:BdT "_law_drawn" "_law_drawn" (top 54) BT.bF:=fun _ _ _ _ _ _ us hl=>by obtain ⟨a0,a1,a2,rfl⟩:=gP hl;rfl
theorem Ma:CSs (aa (top 55)) BT.aT.ns BT.aT.body (ah (top 55)):=by
 repeat' (first | rfl | constructor | decide +kernel)
theorem Mb:aj BT.aT.ns BT.aT.ps (aa (top 55)):=by constructor<;>first | rfl | decide +kernel
theorem Mc:BdT "_law_sum" "_law_sum" (top 55) BT.aT:=fun _ _ _ _ _ _ us hl=>by obtain ⟨a0,a1,a2,rfl⟩:=gP hl;rfl
theorem Mf:CSs (aa (top 56)) BT.cA.ns BT.cA.body (ah (top 56)):=by
 repeat' (first | rfl | constructor | decide +kernel)
theorem Mg:aj BT.cA.ns BT.cA.ps (aa (top 56)):=by constructor<;>first | rfl | decide +kernel
theorem Mh:BdT "_law_row" "_law_row" (top 56) BT.cA:=fun _ _ _ _ _ _ us hl=>by obtain ⟨a0,a1,a2,rfl⟩:=gP hl;rfl
theorem Mi:CSs (aa (top 57)) BT.aE.ns BT.aE.body (ah (top 57)):=by
 repeat' (first | rfl | constructor | decide +kernel)
theorem Mj:aj BT.aE.ns BT.aE.ps (aa (top 57)):=by constructor<;>first | rfl | decide +kernel
theorem Ml:BdT "_law_program" "_law_program" (top 57) BT.aE:=fun _ _ _ _ _ _ us hl=>by obtain ⟨a0,a1,rfl⟩:=dY hl;rfl
theorem Mm:CSs (aa (top 58)) BT.bG.ns BT.bG.body (ah (top 58)):=by
 repeat' (first | rfl | constructor | decide +kernel)
theorem Mn:aj BT.bG.ns BT.bG.ps (aa (top 58)):=by constructor<;>first | rfl | decide +kernel
theorem Mp:BdT "_law_asked" "_law_asked" (top 58) BT.bG:=fun _ _ _ _ _ _ us hl=>by obtain ⟨a0,a1,rfl⟩:=dY hl;rfl
theorem Mq:CSs (aa (top 59)) BT.dz.ns BT.dz.body (ah (top 59)):=by
 repeat' (first | rfl | constructor | decide +kernel)
theorem Mr:aj BT.dz.ns BT.dz.ps (aa (top 59)):=by constructor<;>first | rfl | decide +kernel
theorem Ms:BdT "law" "law" (top 59) BT.dz:=fun _ _ _ _ _ _ us hl=>by obtain ⟨a0,rfl⟩:=lP hl;rfl
theorem EI:CSs (aa (aK 51 0)) BT.bH.ns BT.bH.body (ah (aK 51 0)):=by
 repeat' (first | rfl | constructor | decide +kernel)
theorem EJ:aj BT.bH.ns BT.bH.ps (aa (aK 51 0)):=by constructor<;>first | rfl | decide +kernel
theorem EK:BdT "__init__" "Tape.__init__" (aK 51 0) BT.bH:=fun _ _ _ _ _ _ us hl=>by obtain ⟨a0,a1,a2,a3,a4,rfl⟩:=Kc hl;rfl
theorem EL:CSs (aa (aK 51 1)) BT.cB.ns BT.cB.body (ah (aK 51 1)):=by
 repeat' (first | rfl | constructor | decide +kernel)
theorem EM:aj BT.cB.ns BT.cB.ps (aa (aK 51 1)):=by constructor<;>first | rfl | decide +kernel
theorem EN:BdT "at" "Tape.at" (aK 51 1) BT.cB:=fun _ _ _ _ _ _ us hl=>by obtain ⟨a0,a1,rfl⟩:=dY hl;rfl
theorem EO:CSs (aa (aK 51 2)) BT.bT.ns BT.bT.body (ah (aK 51 2)):=by
 repeat' (first | rfl | constructor | decide +kernel)
theorem ER:aj BT.bT.ns BT.bT.ps (aa (aK 51 2)):=by constructor<;>first | rfl | decide +kernel
theorem ES:BdT "end" "Tape.end" (aK 51 2) BT.bT:=fun _ _ _ _ _ _ us hl=>by obtain ⟨a0,rfl⟩:=lP hl;rfl
theorem A3:CSs (aa (aK 51 10)) BT.aZ.ns BT.aZ.body (ah (aK 51 10)):=by
 repeat' (first | rfl | constructor | decide +kernel)
theorem A4:aj BT.aZ.ns BT.aZ.ps (aa (aK 51 10)):=by constructor<;>first | rfl | decide +kernel
theorem A5:BdT "behind" "Tape.behind" (aK 51 10) BT.aZ:=fun _ _ _ _ _ _ us hl=>by obtain ⟨a0,a1,rfl⟩:=dY hl;rfl
theorem A6:CSs (aa (aK 51 11)) BT.aG.ns BT.aG.body (ah (aK 51 11)):=by
 repeat' (first | rfl | constructor | decide +kernel)
theorem A7:aj BT.aG.ns BT.aG.ps (aa (aK 51 11)):=by constructor<;>first | rfl | decide +kernel
theorem A8:BdT "is_last" "Tape.is_last" (aK 51 11) BT.aG:=fun _ _ _ _ _ _ us hl=>by obtain ⟨a0,a1,a2,rfl⟩:=gP hl;rfl
theorem A9:CSs (aa (aK 51 12)) BT.bf.ns BT.bf.body (ah (aK 51 12)):=by
 repeat' (first | rfl | constructor | decide +kernel)
theorem Ba:aj BT.bf.ns BT.bf.ps (aa (aK 51 12)):=by constructor<;>first | rfl | decide +kernel
theorem Bb:BdT "keep" "Tape.keep" (aK 51 12) BT.bf:=fun _ _ _ _ _ _ us hl=>by obtain ⟨a0,a1,rfl⟩:=dY hl;rfl
theorem Bc:CSs (aa (aK 51 13)) BT.bx.ns BT.bx.body (ah (aK 51 13)):=by
 repeat' (first | rfl | constructor | decide +kernel)
theorem Bd:aj BT.bx.ns BT.bx.ps (aa (aK 51 13)):=by constructor<;>first | rfl | decide +kernel
theorem Be:BdT "reach" "Tape.reach" (aK 51 13) BT.bx:=fun _ _ _ _ _ _ us hl=>by obtain ⟨a0,a1,rfl⟩:=dY hl;rfl
theorem Bf:CSs (aa (aK 51 14)) BT.bU.ns BT.bU.body (ah (aK 51 14)):=by
 repeat' (first | rfl | constructor | decide +kernel)
theorem Bg:aj BT.bU.ns BT.bU.ps (aa (aK 51 14)):=by constructor<;>first | rfl | decide +kernel
theorem Bh:BdT "has" "Tape.has" (aK 51 14) BT.bU:=fun _ _ _ _ _ _ us hl=>by obtain ⟨a0,a1,rfl⟩:=dY hl;rfl
theorem Bj:CSs (aa (aK 51 15)) BT.bz.ns BT.bz.body (ah (aK 51 15)):=by
 repeat' (first | rfl | constructor | decide +kernel)
theorem Bk:aj BT.bz.ns BT.bz.ps (aa (aK 51 15)):=by constructor<;>first | rfl | decide +kernel
theorem Bl:BdT "check" "Tape.check" (aK 51 15) BT.bz:=fun _ _ _ _ _ _ us hl=>by obtain ⟨a0,a1,rfl⟩:=dY hl;rfl
theorem Bm:CSs (aa (aK 51 16)) BT.aJ.ns BT.aJ.body (ah (aK 51 16)):=by
 repeat' (first | rfl | constructor | decide +kernel)
theorem Bo:aj BT.aJ.ns BT.aJ.ps (aa (aK 51 16)):=by constructor<;>first | rfl | decide +kernel
theorem Bp:BdT "readings" "Tape.readings" (aK 51 16) BT.aJ:=fun _ _ _ _ _ _ us hl=>by obtain ⟨a0,a1,rfl⟩:=dY hl;rfl
theorem Bq:CSs (aa (aK 51 19)) BT.aQ.ns BT.aQ.body (ah (aK 51 19)):=by
 repeat' (first | rfl | constructor | decide +kernel)
theorem Br:aj BT.aQ.ns BT.aQ.ps (aa (aK 51 19)):=by constructor<;>first | rfl | decide +kernel
theorem Bs:BdT "last_to" "Tape.last_to" (aK 51 19) BT.aQ:=fun _ _ _ _ _ _ us hl=>by obtain ⟨a0,a1,a2,rfl⟩:=gP hl;rfl
theorem Bt:CSs (aa (aK 51 20)) BT.ay.ns BT.ay.body (ah (aK 51 20)):=by
 repeat' (first | rfl | constructor | decide +kernel)
theorem Bu:aj BT.ay.ns BT.ay.ps (aa (aK 51 20)):=by constructor<;>first | rfl | decide +kernel
theorem Bv:BdT "last_between" "Tape.last_between" (aK 51 20) BT.ay:=fun _ _ _ _ _ _ us hl=>by obtain ⟨a0,a1,a2,a3,rfl⟩:=EF hl;rfl
noncomputable def tab:List (BT.FK×BT.Fn):=[(.f "is_whole",BT.bS),(.f "is_name",BT.bW),(.f "is_cell",BT.cC),(.f "inner_sums",BT.aV),(.f "begun",BT.dW),(.f "check_thing",BT.aM),(.f "worth_in",BT.bC),(.f "laid_out",BT.bQ),(.f "of_two",BT.c5),(.f "worth_of",BT.aY),(.f "reckoned",BT.bR),(.f "cell_by",BT.cy),(.f "is_over",BT.bX),(.f "place_behind",BT.aA),(.f "with_worth",BT.bw),(.f "with_name",BT.bD),(.f "brought",BT.bY),(.f "stepped",BT.cz),(.f "sum_at",BT.c7),(.f "worth_at",BT.bV),(.f "worths_of",BT.bg),(.f "changes",BT.cD),(.f "last_change",BT.aF),(.f "spread",BT.c6),(.f "written_by",BT.aW),(.f "written_next",BT.aH),(.f "check_step",BT.bA),(.f "thing_written",BT.aI),(.f "writer_of",BT.aN),(.f "_law_cell",BT.bE),(.f "_law_drawn",BT.bF),(.f "_law_sum",BT.aT),(.f "_law_row",BT.cA),(.f "_law_program",BT.aE),(.f "_law_asked",BT.bG),(.f "law",BT.dz),(.m "Tape" "__init__",BT.bH),(.m "Tape" "at",BT.cB),(.m "Tape" "end",BT.bT),(.m "Tape" "behind",BT.aZ),(.m "Tape" "is_last",BT.aG),(.m "Tape" "keep",BT.bf),(.m "Tape" "reach",BT.bx),(.m "Tape" "has",BT.bU),(.m "Tape" "check",BT.bz),(.m "Tape" "readings",BT.aJ),(.m "Tape" "last_to",BT.aQ),(.m "Tape" "last_between",BT.ay),(.l 0,BT.zD),(.l 1,BT.zE),(.l 12,BT.rF)]
noncomputable def glo:List (Str×BT.W):=[("CELL_COUNT",.p (.int 4)),("WORTH_COUNT",.p (.int 10007)),("ROW",.p (.int 0)),("NAMES",.p (.int 1)),("CELLS",.p (.int 2)),("CALLS",.p (.int 3)),("ASKED",.p (.int 4)),("SAID",.p (.int 5)),("MOST_CALLS",.p (.int 6)),("MOST_MARKS",.p (.int 8)),("LETTERS",.p (.tup ((["a","b","c","d","e","f"]:List Str).map BT.D.str))),("INNER_COUNTS",.k (([("num",0),("name",0),("cell",1),("add",2),("sub",2),("mul",2),("less",2)]:List (Str×Int)).map fun q=>(q.1,BT.D.int q.2)))]
noncomputable abbrev T:BT.FK->Option BT.Fn:=look tab
noncomputable abbrev G:Str->Option BT.W:=look glo
theorem prg:BT.Prg T G:=⟨rfl,rfl,rfl,rfl,rfl,rfl,rfl,rfl,rfl,rfl,rfl,rfl,rfl,rfl,rfl,rfl,rfl,rfl,rfl,rfl,rfl,rfl,rfl,rfl,rfl,rfl⟩
theorem tpp:BT.TpP T G:=⟨prg,rfl,rfl,rfl,rfl,rfl,rfl,rfl,rfl,rfl,rfl⟩
theorem run (ns:List Int) (h:ns.length<=1000):∃ h',BT.runN T G 40 "law" [.p (.lst (BT.ai ns))] []=some (.p (.bl true),h'):=BT.uM ⟨tpp,⟨rfl,rfl⟩,⟨rfl,rfl⟩,⟨rfl,rfl,rfl,rfl,rfl,rfl⟩,⟨rfl,rfl,rfl⟩,⟨rfl⟩,⟨rfl⟩,⟨rfl,rfl,rfl⟩,⟨rfl⟩⟩ ⟨rfl⟩ ⟨⟨rfl,rfl,rfl,rfl,rfl⟩,rfl,rfl⟩ ns h 26
theorem HD (w:World) (K:PySem.W.Frag) (hq:∀ q∈qys,cN K q=cO w q):A2 K tl:=by
 refine ⟨fun z hz=>?_,fun p hp=>?_⟩
 ·simp only[BT.dN,List.mem_cons,List.not_mem_nil,or_false] at hz
  rcases hz with rfl | rfl | rfl | rfl | rfl | rfl | rfl | rfl | rfl | rfl | rfl | rfl | rfl | rfl | rfl
  ·exact .inl ⟨206,202,nth 0 rfl,(fV (w:=w) (hq _ (nth 67 rfl))).1⟩
  ·exact .inl ⟨218,214,nth 1 rfl,(fV (w:=w) (hq _ (nth 68 rfl))).1⟩
  ·exact .inr (b8 (w:=w) (hq _ (nth 69 rfl)))
  ·exact .inr (b8 (w:=w) (hq _ (nth 70 rfl)))
  ·exact .inr (b8 (w:=w) (hq _ (nth 71 rfl)))
  ·exact .inr (b8 (w:=w) (hq _ (nth 72 rfl)))
  ·exact .inr (b8 (w:=w) (hq _ (nth 73 rfl)))
  ·exact .inr (b8 (w:=w) (hq _ (nth 74 rfl)))
  ·exact .inr (b8 (w:=w) (hq _ (nth 75 rfl)))
  ·exact .inr (b8 (w:=w) (hq _ (nth 76 rfl)))
  ·exact .inr (b8 (w:=w) (hq _ (nth 77 rfl)))
  ·exact .inr (b8 (w:=w) (hq _ (nth 78 rfl)))
  ·exact .inl ⟨260,256,nth 2 rfl,(fV (w:=w) (hq _ (nth 79 rfl))).1⟩
  ·exact .inr (b8 (w:=w) (hq _ (nth 80 rfl)))
  ·exact .inr (b8 (w:=w) (hq _ (nth 81 rfl)))
 ·simp only[tl,List.mem_cons,List.not_mem_nil,or_false] at hp
  rcases hp with rfl | rfl | rfl
  ·exact (fV (w:=w) (hq _ (nth 67 rfl))).2
  ·exact (fV (w:=w) (hq _ (nth 68 rfl))).2
  ·exact (fV (w:=w) (hq _ (nth 79 rfl))).2
theorem txt (P:Program) (w:World) (mg:Str->Option Value) (K:PySem.W.Frag) (h:Heap) (X:K.In h) (Gh:h.Ns mainGlobals mg) (hq:∀ q∈qys,cN K q=cO w q):Txt P w K mg T G:=by
 have tbf:=HD w K hq
 have all:∀ p∈tab,sS K mg p:=by
  intro p hp
  simp only[tab,List.mem_cons,List.not_mem_nil,or_false] at hp
  rcases hp with rfl | rfl | rfl | rfl | rfl | rfl | rfl | rfl | rfl | rfl | rfl | rfl | rfl | rfl | rfl | rfl | rfl | rfl | rfl | rfl | rfl | rfl | rfl | rfl | rfl | rfl | rfl | rfl | rfl | rfl | rfl | rfl | rfl | rfl | rfl | rfl | rfl | rfl | rfl | rfl | rfl | rfl | rfl | rfl | rfl | rfl | rfl | rfl | rfl | rfl | rfl
  ·exact dd (az X Gh (hq _ (nth 0 rfl)) Ke Kf Kd (fun _ _ _=>aB (by decide +kernel)))
  ·exact dd (az X Gh (hq _ (nth 1 rfl)) Kl Km Kg (fun _ _ _=>aB (by decide +kernel)))
  ·exact dd (az X Gh (hq _ (nth 2 rfl)) Ko Kp Kn (fun _ _ _=>aB (by decide +kernel)))
  ·exact dd (az X Gh (hq _ (nth 3 rfl)) Kr Ks Kq (fun _ _ _=>aB (by decide +kernel)))
  ·exact dd (az X Gh (hq _ (nth 4 rfl)) Kv Kw Ku (fun _ _ _=>aB (by decide +kernel)))
  ·exact dd (az X Gh (hq _ (nth 5 rfl)) Kz KA Kx (fun _ _ _=>aB (by decide +kernel)))
  ·exact dd (az X Gh (hq _ (nth 6 rfl)) KC KG KB (fun _ _ _=>aB (by decide +kernel)))
  ·exact dd (az X Gh (hq _ (nth 7 rfl)) KI KJ KH (fun _ _ _=>aB (by decide +kernel)))
  ·exact dd (az X Gh (hq _ (nth 8 rfl)) KN KO KM (fun _ _ _=>aB (by decide +kernel)))
  ·exact dd (az X Gh (hq _ (nth 9 rfl)) KQ KR KP (fun _ _ _=>aB (by decide +kernel)))
  ·exact dd (az X Gh (hq _ (nth 10 rfl)) KU KW KS (fun _ _ _=>aB (by decide +kernel)))
  ·exact dd (az X Gh (hq _ (nth 11 rfl)) KZ K0 KY (fun _ _ _=>aB (by decide +kernel)))
  ·exact dd (az X Gh (hq _ (nth 12 rfl)) K2 K3 K1 (fun _ _ _=>aB (by decide +kernel)))
  ·exact dd (az X Gh (hq _ (nth 13 rfl)) K5 K6 K4 (fun _ _ _=>aB (by decide +kernel)))
  ·exact dd (az X Gh (hq _ (nth 14 rfl)) K8 K9 K7 (fun _ _ _=>aB (by decide +kernel)))
  ·exact dd (az X Gh (hq _ (nth 15 rfl)) Lb Ld La (fun _ _ _=>aB (by decide +kernel)))
  ·exact dd (az X Gh (hq _ (nth 16 rfl)) Lh Li Lg (fun _ _ _=>aB (by decide +kernel)))
  ·exact dd (az X Gh (hq _ (nth 17 rfl)) Lk Ll Lj (fun _ _ _=>aB (by decide +kernel)))
  ·exact dd (az X Gh (hq _ (nth 18 rfl)) Ln Lo Lm (fun _ _ _=>aB (by decide +kernel)))
  ·exact dd (az X Gh (hq _ (nth 19 rfl)) Lq Lr Lp (fun _ _ _=>aB (by decide +kernel)))
  ·exact dd (az X Gh (hq _ (nth 20 rfl)) Lu Lv Ls (nZ (f:=207) (ns:=BT.bg.ns.dropLast) (by decide +kernel) (by decide +kernel) (by decide +kernel) tbf (by decide +kernel) (nth 0 rfl) (hq _ (nth 67 rfl)) (hq _ (nth 82 rfl))))
  ·exact dd (az X Gh (hq _ (nth 21 rfl)) Lz LA Ly (fun _ _ _=>aB (by decide +kernel)))
  ·exact dd (az X Gh (hq _ (nth 22 rfl)) LC LD LB (nZ (f:=219) (ns:=BT.aF.ns.dropLast) (by decide +kernel) (by decide +kernel) (by decide +kernel) tbf (by decide +kernel) (nth 1 rfl) (hq _ (nth 68 rfl)) (hq _ (nth 82 rfl))))
  ·exact dd (az X Gh (hq _ (nth 23 rfl)) LH LJ LG (fun _ _ _=>aB (by decide +kernel)))
  ·exact dd (az X Gh (hq _ (nth 24 rfl)) LM LN LK (fun _ _ _=>aB (by decide +kernel)))
  ·exact dd (az X Gh (hq _ (nth 25 rfl)) LP LQ LO (fun _ _ _=>aB (by decide +kernel)))
  ·exact dd (az X Gh (hq _ (nth 26 rfl)) LS LU LR (fun _ _ _=>aB (by decide +kernel)))
  ·exact dd (az X Gh (hq _ (nth 27 rfl)) LW LY LV (fun _ _ _=>aB (by decide +kernel)))
  ·exact dd (az X Gh (hq _ (nth 28 rfl)) L0 L1 LZ (nZ (f:=261) (ns:=BT.aN.ns.dropLast) (by decide +kernel) (by decide +kernel) (by decide +kernel) tbf (by decide +kernel) (nth 2 rfl) (hq _ (nth 79 rfl)) (hq _ (nth 82 rfl))))
  ·exact dd (az X Gh (hq _ (nth 29 rfl)) L4 L5 L3 (fun _ _ _=>aB (by decide +kernel)))
  ·exact dd (az X Gh (hq _ (nth 30 rfl)) L7 L8 L6 (fun _ _ _=>aB (by decide +kernel)))
  ·exact dd (az X Gh (hq _ (nth 31 rfl)) Mb Mc Ma (fun _ _ _=>aB (by decide +kernel)))
  ·exact dd (az X Gh (hq _ (nth 32 rfl)) Mg Mh Mf (fun _ _ _=>aB (by decide +kernel)))
  ·exact dd (az X Gh (hq _ (nth 33 rfl)) Mj Ml Mi (fun _ _ _=>aB (by decide +kernel)))
  ·exact dd (az X Gh (hq _ (nth 34 rfl)) Mn Mp Mm (fun _ _ _=>aB (by decide +kernel)))
  ·exact dd (az X Gh (hq _ (nth 35 rfl)) Mr Ms Mq (fun _ _ _=>aB (by decide +kernel)))
  ·exact dm (cM X Gh (hq _ (nth 83 rfl)) (hq _ (nth 84 rfl)) (hq _ (nth 85 rfl)) EJ EK EI (by decide +kernel))
  ·exact dm (cM X Gh (hq _ (nth 83 rfl)) (hq _ (nth 84 rfl)) (hq _ (nth 86 rfl)) EM EN EL (by decide +kernel))
  ·exact dm (cM X Gh (hq _ (nth 83 rfl)) (hq _ (nth 84 rfl)) (hq _ (nth 87 rfl)) ER ES EO (by decide +kernel))
  ·exact dm (cM X Gh (hq _ (nth 83 rfl)) (hq _ (nth 84 rfl)) (hq _ (nth 88 rfl)) A4 A5 A3 (by decide +kernel))
  ·exact dm (cM X Gh (hq _ (nth 83 rfl)) (hq _ (nth 84 rfl)) (hq _ (nth 89 rfl)) A7 A8 A6 (by decide +kernel))
  ·exact dm (cM X Gh (hq _ (nth 83 rfl)) (hq _ (nth 84 rfl)) (hq _ (nth 90 rfl)) Ba Bb A9 (by decide +kernel))
  ·exact dm (cM X Gh (hq _ (nth 83 rfl)) (hq _ (nth 84 rfl)) (hq _ (nth 91 rfl)) Bd Be Bc (by decide +kernel))
  ·exact dm (cM X Gh (hq _ (nth 83 rfl)) (hq _ (nth 84 rfl)) (hq _ (nth 92 rfl)) Bg Bh Bf (by decide +kernel))
  ·exact dm (cM X Gh (hq _ (nth 83 rfl)) (hq _ (nth 84 rfl)) (hq _ (nth 93 rfl)) Bk Bl Bj (by decide +kernel))
  ·exact dm (cM X Gh (hq _ (nth 83 rfl)) (hq _ (nth 84 rfl)) (hq _ (nth 94 rfl)) Bo Bp Bm (by decide +kernel))
  ·exact dm (cM X Gh (hq _ (nth 83 rfl)) (hq _ (nth 84 rfl)) (hq _ (nth 95 rfl)) Br Bs Bq (by decide +kernel))
  ·exact dm (cM X Gh (hq _ (nth 83 rfl)) (hq _ (nth 84 rfl)) (hq _ (nth 96 rfl)) Bu Bv Bt (by decide +kernel))
  ·exact dl rfl (by decide +kernel)
  ·exact dl rfl (by decide +kernel)
  ·exact dl rfl (by decide +kernel)
 refine ⟨fun x fn e=>?_,fun c m fn e=>?_,fun L fn e=>?_,fun x z e=>?_,fun x hx=>?_⟩
 ·exact gO (Q:=fun k fn=>∀ x,k=.f x->Def K mg x fn) (l:=tab) (fun p hp=>(all p hp).1) e x rfl
 ·exact gO (Q:=fun k fn=>∀ c m,k=.m c m->xw K mg c m fn) (l:=tab) (fun p hp=>(all p hp).2.1) e c m rfl
 ·exact gO (Q:=fun k fn=>∀ L,k=.l L->BT.nq L=some fn/\∃ ns bt,fn=⟨ns,ns,.ret bt⟩/\∀ y,ns.contains (BT.cQ y)=false) (l:=tab) (fun p hp=>(all p hp).2.2) e L rfl
 ·refine gO (Q:=fun x z=>qS P w K mg x z) (l:=glo) (fun p hp=>?_) e
  simp only[glo,List.mem_cons,List.not_mem_nil,or_false] at hp
  rcases hp with rfl | rfl | rfl | rfl | rfl | rfl | rfl | rfl | rfl | rfl | rfl | rfl
  ·exact cK X Gh (hq _ (nth 36 rfl))
  ·exact cK X Gh (hq _ (nth 37 rfl))
  ·exact cK X Gh (hq _ (nth 38 rfl))
  ·exact cK X Gh (hq _ (nth 39 rfl))
  ·exact cK X Gh (hq _ (nth 40 rfl))
  ·exact cK X Gh (hq _ (nth 41 rfl))
  ·exact cK X Gh (hq _ (nth 42 rfl))
  ·exact cK X Gh (hq _ (nth 43 rfl))
  ·exact cK X Gh (hq _ (nth 44 rfl))
  ·exact cK X Gh (hq _ (nth 45 rfl))
  ·exact yp X Gh (hq _ (nth 46 rfl)) (by decide) (by decide +kernel)
  ·exact yq X Gh (hq _ (nth 47 rfl)) (by decide) (by decide +kernel)
 ·simp only[DI,List.mem_cons,List.not_mem_nil,or_false] at hx
  rcases hx with rfl | rfl | rfl | rfl | rfl | rfl | rfl | rfl | rfl | rfl | rfl | rfl | rfl | rfl | rfl | rfl | rfl | rfl | rfl
  ·exact none_of X Gh (hq _ (nth 48 rfl))
  ·exact none_of X Gh (hq _ (nth 49 rfl))
  ·exact none_of X Gh (hq _ (nth 50 rfl))
  ·exact none_of X Gh (hq _ (nth 51 rfl))
  ·exact none_of X Gh (hq _ (nth 52 rfl))
  ·exact none_of X Gh (hq _ (nth 53 rfl))
  ·exact none_of X Gh (hq _ (nth 54 rfl))
  ·exact none_of X Gh (hq _ (nth 55 rfl))
  ·exact none_of X Gh (hq _ (nth 56 rfl))
  ·exact none_of X Gh (hq _ (nth 57 rfl))
  ·exact none_of X Gh (hq _ (nth 58 rfl))
  ·exact none_of X Gh (hq _ (nth 59 rfl))
  ·exact none_of X Gh (hq _ (nth 60 rfl))
  ·exact none_of X Gh (hq _ (nth 61 rfl))
  ·exact none_of X Gh (hq _ (nth 62 rfl))
  ·exact none_of X Gh (hq _ (nth 63 rfl))
  ·exact none_of X Gh (hq _ (nth 64 rfl))
  ·exact none_of X Gh (hq _ (nth 65 rfl))
  ·exact none_of X Gh (hq _ (nth 66 rfl))
noncomputable abbrev lw:DefRec:=⟨"law",c9 (top 59),ah (top 59),aa (top 59),IK (top 59)⟩
theorem df:PySem.W.defOf qg "law"=some (lw,[]):=by kernel_rfl
theorem th:pg.theDef "law"=some (lw.params,lw.body,lw.scope):=by kernel_rfl
theorem walk:PySem.W.WalkO qg loo (PySem.W.XL qg []) (sees adr qys tas).says PySem.Challenge.rw_backtape_k24_whole_things.row.toRowW lw [] (fun f vs=>PySem.call f vs) :=
 oE (l:=PySem.Challenge.rw_backtape_k24_whole_things) (n:=63) (k:=40) (x:="_law_script") (d:=lw) (T:=T) (G:=G) (ts:=tas) (fn:=BT.dz) rfl (by decide) rfl ⟨rfl,by decide,by decide⟩ rfl rfl (tl:=tl) rfl (by decide +kernel) HD txt fun ns hl=>run ns (by omega)
end BL
open PySem PySem.W PyProof.Rows
set_option maxRecDepth 100000 in
set_option maxHeartbeats 0 in
theorem PySem.Challenge.cw_backtape_k24_whole_things_holds : PySem.Challenge.rw_backtape_k24_whole_things.Holds := by
 w_on;refine PySem.W.holds_law (by decide +kernel) fun said=>?_
 refine PySem.W.holds_open (q:=BL.qg) (loose:=BL.loo) (XP:=XL BL.qg []) (YP:=(BG.sees BL.adr BL.qys BL.tas).says) (d:=BL.lw) (kwd:=[]) BL.left (BG.sees BL.adr BL.qys BL.tas).of (BG.sees BL.adr BL.qys BL.tas).keeps (fun s e=>xl_of s (Bool.and_eq_true_iff.mp e).1) XL.keeps BL.df BL.th (by kernel_rfl) (fun s e=>recFacts_of (Bool.and_eq_true_iff.mp e).2) rfl (by first | assumption | decide +kernel) (by decide +kernel) ⟨rfl,rfl,rfl,rfl,rfl,by decide +kernel⟩ ?hw BL.walk
 (case hw=>w_witness2)
#print axioms PySem.Challenge.cw_backtape_k24_whole_things_holds
end
end

import PyProof.Rows.All
import Wide.All
import OpenK.AllK
import Wide.FinOn
import PySem.Challenge.RW_argosy_k29_whole_one_rival_at_most
set_option Elab.async false
set_option linter.all false
set_option maxRecDepth 100000
namespace L3
open Lean in
local macro_rules|`(command|lay_z_part $k:num $m:num)=>do
 let k:=k.getNat
 let m:=m.getNat
 let v(s:String)(i:Nat):=mkIdent (.mkSimple s!"{s}{i}")
 let r(s:String)(n:Nat):=(Array.range n).map (v s)
 let xs:=r "x" k
 let ts:=r "T" k
 let ps:=r "p" m
 let pt<-ts.foldrM (init:=<-`(Prop)) fun t a=>`($t->$a)
 let b<-ps.mapM fun p=>if k==0 then pure (p:Term) else `($p $xs*)
 let cj<-b.pop.foldrM (init:=b.back!) fun p a=>`($p /\ $a)
 let ex<-xs.foldrM (init:=cj) fun x a=>`(∃$x:ident,$a)
 let im<-b.foldrM (init:=<-`(C)) fun p a=>`($p->$a)
 let al<-xs.foldrM (init:=im) fun x a=>`(∀$x:ident,$a)
 let pf<-if k==0 then if m==2 then `(k h.1 h.2) else `($(v "A" (m-1)) h.2 (k h.1)) else if m==1 then if k==1 then `(Exists.elim h k) else `(Exists.elim h fun a h=>$(v "E" (k-1)) h (k a)) else `($(v "E" k) h fun $xs* t=>$(v "A" m) t (k $xs*))
 let n:=if k==0 then v "A" m else if m==1 then v "E" k else v s!"D{k}_" m
 `(command|theorem $n {$ts* :Sort _} {$ps* :$pt} {C:Prop} (h:$ex) (k:$al):C:=$pf)
lay_z_part 0 2
lay_z_part 0 3
lay_z_part 0 4
lay_z_part 0 5
lay_z_part 0 6
lay_z_part 0 7
lay_z_part 0 8
lay_z_part 0 9
lay_z_part 0 10
lay_z_part 0 11
lay_z_part 0 12
lay_z_part 0 13
lay_z_part 0 14
lay_z_part 0 15
lay_z_part 0 16
lay_z_part 0 17
lay_z_part 0 18
lay_z_part 1 1
lay_z_part 2 1
lay_z_part 3 1
lay_z_part 4 1
lay_z_part 5 1
lay_z_part 6 1
lay_z_part 7 1
lay_z_part 8 1
lay_z_part 9 1
lay_z_part 10 1
lay_z_part 11 1
lay_z_part 12 1
lay_z_part 1 2
lay_z_part 1 3
lay_z_part 1 4
lay_z_part 1 5
lay_z_part 1 6
lay_z_part 1 7
lay_z_part 2 2
lay_z_part 2 3
lay_z_part 2 4
lay_z_part 2 5
lay_z_part 2 6
lay_z_part 2 8
lay_z_part 2 9
lay_z_part 3 2
lay_z_part 3 3
lay_z_part 3 4
lay_z_part 3 5
lay_z_part 3 6
lay_z_part 3 7
lay_z_part 3 8
lay_z_part 4 2
lay_z_part 4 3
lay_z_part 4 4
lay_z_part 4 5
lay_z_part 4 6
lay_z_part 4 7
lay_z_part 4 8
lay_z_part 4 10
lay_z_part 5 2
lay_z_part 5 4
lay_z_part 5 6
lay_z_part 5 7
lay_z_part 5 8
lay_z_part 5 10
lay_z_part 5 14
lay_z_part 6 2
lay_z_part 6 3
lay_z_part 6 6
lay_z_part 6 11
lay_z_part 7 2
lay_z_part 7 5
lay_z_part 7 8
lay_z_part 7 12
lay_z_part 9 3
lay_z_part 10 2
lay_z_part 10 4
lay_z_part 10 6
lay_z_part 10 10
lay_z_part 10 12
lay_z_part 10 18
lay_z_part 11 2
lay_z_part 11 9
lay_z_part 11 12
lay_z_part 12 2
lay_z_part 12 11
lay_z_part 12 14
end L3
open Lean Parser.Tactic in
def L3.core (s:Syntax):Syntax:=Id.run do
 let mut s:=s
 for _ in [0:6] do
  if s.isOfKind ``rintroPat.one || s.isOfKind ``rcasesPatLo&&s[1].getNumArgs==0 then s:=s[0]
  else if s.isOfKind ``rcasesPatMed&&s[0].getNumArgs==1 then s:=s[0][0]
  else if s.isOfKind ``rcasesPat.paren then s:=s[1]
 return s
open Lean Parser.Tactic in
def L3.items? (s:Syntax):Option (Array Syntax) :=
 let s:=L3.core s
 if s.isOfKind ``rcasesPat.tuple then some s[1].getSepArgs else none
open Lean Parser.Tactic in
def L3.plain? (s:Syntax):Option Syntax :=
 let s:=L3.core s
 if s.isOfKind ``rcasesPat.one then some s[0] else if s.isOfKind ``rcasesPat.ignore then some s else none
open Lean Parser.Tactic in
def L3.med:Syntax->Syntax
 | s=>if s.getKind==``rcasesPatLo then s[0] else if s.getKind==``rintroPat.one then Syntax.node .none ``rcasesPatMed #[Syntax.node .none `null #[s[0]]] else s
open Lean Parser.Tactic in
def L3.after (t:Ident) (p:Syntax):MacroM (TSyntax `tactic):=do
 let q:TSyntax ``rcasesPatMed:=⟨L3.med p⟩
 if (L3.items? p).isSome then `(tactic|obtain $q :=$t) else `(tactic|rcases $t:ident with $q)
open Lean Parser.Tactic in
def L3.split (ps:Array Syntax) (e:Term):MacroM (TSyntax `tactic):=do
 let n:=ps.size
 let mut bs:Array Term:=#[]
 let mut af:Array (Option (TSyntax `tactic)):=#[]
 let mut hit:=n
 let mut nm:Array (TSyntax ``Lean.binderIdent):=#[]
 let hole <-`(Lean.binderIdent| _)
 for i in [0:n] do
  let p:=ps[i]!
  if hit==n&&e.raw.isIdent then
   if let some x:=L3.plain? p then
    if x.isIdent&&x.getId==e.raw.getId then hit:=i
  match L3.plain? p with
  | some x =>
   if x.isIdent then
    if hit<n&&x.getId != `rfl then
     bs:=bs.push (mkIdent (<-Macro.addMacroScope (.mkSimple s!"u{i}")))
     af:=af.push none
     let y:Ident:=⟨x⟩
     nm:=nm.push (<-`(Lean.binderIdent| $y:ident))
     continue
    nm:=nm.push hole
    if x.getId==`rfl then
     let t:=mkIdent (<-Macro.addMacroScope (.mkSimple s!"t{i}"))
     bs:=bs.push t
     af:=af.push (some (<-`(tactic|subst $t:ident)))
    else
     bs:=bs.push ⟨x⟩
     af:=af.push none
   else
    bs:=bs.push (<-`(_))
    af:=af.push none
    nm:=nm.push hole
  | none =>
   nm:=nm.push hole
   let t:=mkIdent (<-Macro.addMacroScope (.mkSimple s!"t{i}"))
   bs:=bs.push t
   af:=af.push (some (<-L3.after t p))
 let r:=mkIdent (<-Macro.addMacroScope `tr)
 let cl:Array (TSyntax `tactic) <-if e.raw.isIdent then do
   let x:Ident:=⟨e.raw⟩
   pure #[<-`(tactic|try clear $x)]
  else pure #[]
 let mut alts:Array (TSyntax ``tacticSeq):=#[]
 for j in [0:n] do
  let k:=n-1-j
  let mut sub:Array (TSyntax ``tacticSeq):=#[]
  for l in [0:n-k] do
   let m:=n-k-l
   if k==0&&m==1 then continue
   let f:=mkIdent (.mkStr (.mkStr (.mkSimple "_root_") "L3") (if k==0 then s!"A{m}" else if m==1 then s!"E{k}" else s!"D{k}_{m}"))
   let whole:=k+m==n
   let c:=k+m-1
   let b:=if whole then bs else (bs.extract 0 c).push r
   let mut q:Array (TSyntax `tactic):=#[<-`(tactic|refine $f $e fun $b*=>?_)]++cl
   if hit<(if whole then n else c) then
    let l:=if whole then nm.extract hit n else (nm.extract hit c).push hole
    q:=q.push (<-`(tactic|rename_i $l*))
   for i in [0:if whole then n else c] do
    if let some t:=af[i]! then q:=q.push t
   unless whole do
    let rest:=(ps.extract c n)
    let tup:TSyntax ``rcasesPatMed:=⟨Syntax.node .none ``rcasesPatMed #[Syntax.node .none `null #[Syntax.node .none ``rcasesPat.tuple #[mkAtom "⟨",Syntax.node .none `null (rest.foldl (init:=#[]) fun a x=>if a.isEmpty then #[x] else (a.push (mkAtom ",")).push x),mkAtom "⟩"]]]⟩
    q:=q.push (<-`(tactic|obtain $tup :=$r))
   sub:=sub.push (<-`(tacticSeq| $[$q];*))
  if k==0 then alts:=alts++sub
  else
   let f:=mkIdent (.mkStr (.mkStr (.mkSimple "_root_") "L3") s!"E{k}")
   let us <-(Array.range (k+1)).mapM fun _=>`(_)
   alts:=alts.push (<-`(tacticSeq| (fail_if_success fail_if_success refine $f $e fun $us*=>?_); first $[| $sub]*))
 `(tactic|first $[| $alts]*)
open Lean Parser.Tactic in
def L3.pat:Nat->Syntax->Syntax
 |0,s=>s
 |n+1,s=>
  let o(k:Name)(a:Array Syntax):Syntax:=.node .none k a
  let t(a:Array Syntax):=o ``rcasesPat.tuple #[mkAtom "⟨",o `null (mkSepArray (a.map fun x=>o ``rcasesPatLo #[o ``rcasesPatMed #[o `null #[L3.pat n x]],o `null #[]]) (mkAtom ",")),mkAtom "⟩"]
  if s.isIdent then o ``rcasesPat.one #[s] else if s.isOfKind ``Parser.Term.tuple then t (#[s[1][0]]++s[1][2].getSepArgs) else if s.isOfKind ``Parser.Term.anonymousCtor then t s[1].getSepArgs else o ``rcasesPat.ignore #[mkAtom "_"]
open Lean in
def L3.og:MacroM Unit:=do
 if let .original ..:=(<-getRef).getHeadInfo then return
 Macro.throwUnsupported
open Lean in
def L3.ap(e:Term):MacroM Term:=do
 let a<-`(?_)
 if e.raw.isOfKind ``Parser.Term.app then return ⟨e.raw.setArg 1 (mkNullNode (e.raw[1].getArgs.push a))⟩
 `($e $a)
theorem L3.r(h:1=1:=by rfl):1=1:=h
theorem L3.d(h:1=1:=by decide):1=1:=h
set_option genSizeOf false
set_option compiler.extract_closed false
set_option bootstrap.genMatcherCode false
noncomputable section
section
local macro_rules
 |`(tactic|obtain $p:rcasesPatMed:=$e:term)=>do
  match L3.items? p with
  | some ps=>if ps.size<2 then Lean.Macro.throwUnsupported else L3.split ps e
  | none=>Lean.Macro.throwUnsupported
local macro_rules
 |`(tactic|rintro $ps*)=>do
  let mut seq:Array (Lean.TSyntax `tactic):=#[]
  let mut any:=false
  for p in ps do
   match L3.plain? p with
   | some x =>
    if x.isIdent then
     if x.getId==`rfl then
      let t:=Lean.mkIdent (<-Lean.Macro.addMacroScope `t)
      seq:=seq.push (<-`(tactic|intro $t:ident))
      seq:=seq.push (<-`(tactic|subst $t:ident))
     else
      let x:Lean.Ident:=⟨x⟩
      seq:=seq.push (<-`(tactic|intro $x:ident))
    else seq:=seq.push (<-`(tactic|intro _))
   | none =>
    if (L3.items? p).isNone then Lean.Macro.throwUnsupported
    any:=true
    let t:=Lean.mkIdent (<-Lean.Macro.addMacroScope `t)
    seq:=seq.push (<-`(tactic|intro $t:ident))
    seq:=seq.push (<-L3.after t p)
  if !any then Lean.Macro.throwUnsupported
  `(tactic|($[$seq];*))

local macro_rules
 |`(tactic|let ($x,$xs,*):=$e)=>do
  let t<-`(⟨$x,$xs,*⟩)
  let p:Lean.TSyntax ``Lean.Parser.Tactic.rcasesPatMed:=⟨.node .none ``Lean.Parser.Tactic.rcasesPatMed #[.node .none `null #[L3.pat 9 t]]⟩
  `(tactic|obtain $p := $e)
 |`(tactic|let $x:ident := $e)=>`(tactic|have $x:ident := $e)
 |`(tactic|let $x:ident : $t := $e)=>`(tactic|have $x:ident : $t := $e)
local macro_rules
 |`(tactic|w_on)=>`(tactic|walk_at "k")
 |`(tactic|kd_p)=>`(tactic|walk_at "r")
local macro_rules(kind:=Lean.Parser.Command.declaration)|s=>do
 let d:=s[1]
 let t:=d[2][1][0]
 unless d.isOfKind ``Lean.Parser.Command.definition&&d[3].isOfKind ``Lean.Parser.Command.declValSimple&&s[0].getPos?.isNone&& !t.isMissing&& !["Prop","Sp","TE","R2","TS","TI","TT","TG","TA","TO"].any (fun x=>(t.reprint.getD "").endsWith x) do Lean.Macro.throwUnsupported
 return s.setArg 1<|.node .none ``Lean.Parser.Command.«theorem» #[Lean.mkAtom "theorem",d[1],.node .none ``Lean.Parser.Command.declSig #[d[2][0],t],d[3]]
local macro_rules
 |`(())=>do
  L3.og
  `(by omega)
 |`(($e,$es,*))=>do
  L3.og
  if es.elemsAndSeps.size%2==0 then Lean.Macro.throwUnsupported
  `(⟨$e,$es,*⟩)
local macro_rules|`(⋯)=>do
  L3.og
  `(by first|grind -order|grind)
local macro_rules|`(tactic|grind)=>do
  L3.og
  `(tactic|first|grind -order|grind)
local macro_rules|`(∅)=>do
  L3.og
  `(by simp)
local macro_rules|`(tactic|lia)=>do
  L3.og
  `(tactic|omega)
local macro_rules|`(tactic|done)=>do
  L3.og
  `(tactic|assumption)
local macro_rules|`(tactic|show $e)=>do
  L3.og
  `(tactic|refine $e)
local macro_rules|`(tactic|ext $x*)=>do
  L3.og
  let mut y:Array Lean.Term:=#[]
  for p in x do
   if let some z:=L3.plain? p then
    if z.isIdent then
     if z.getId != `rfl then y:=y.push ⟨z⟩
    else y:=y.push (<-`(_))
  if y.size==x.size then `(tactic|intro $y*) else `(tactic|rintro $x*)
local macro_rules|`(tactic|erw[$es,*])=>do
  L3.og
  let t<-es.getElems.mapM fun r=>do `(tactic|refine $(<-L3.ap ⟨r.raw[1]⟩))
  `(tactic|($[$t];*))
local macro_rules|`(command|omit $x* in $c)=>do
 let x:=x.map (·.raw.getId)
 let g n:=(x.idxOf? n).bind fun i=>if i%2==0 then x[i+1]? else none
 let d<-c.raw.replaceM fun s=>return match s.isStrLit? with
  |some v=>(g (.mkSimple v)).map fun n=>Lean.Syntax.mkStrLit n.toString
  |_=>if s.isIdent then some (Lean.mkIdentFrom s ((g s.getId).getD (s.getId.components.foldl (fun a n=>a++(g n).getD n) .anonymous))) else none
 return Lean.mkNullNode #[c,d]
local macro_rules|`(↥$t)=>do
  L3.og
  `(autoParam $t L3.r._auto_1)
local macro_rules|`(⇑$t)=>do
  L3.og
  `(autoParam $t L3.d._auto_1)
def ae:=@PySem.wpAny_bind
def au:=@List.length_map
def aK:=@List.getElem?_eq_getElem
def aH:=@List.getElem?_map
def aR:=@PySem.Heap.get?_push_of_some
def aw:=@PySem.wpAny_pure
def aD:=@Nat.le_refl
def Ag:=@List.mem_map
def bF:=@List.not_mem_nil
def bR:=@PySem.Heap.get?_push_size
def bw:=@PySem.Heap.lt_size
def cb:=@List.mem_cons
def bO:=@List.map_append
def c6:=@List.length_append
def cF:=@List.mem_append_right
def dr:=@List.mem_of_getElem?
def cM:=@Nat.lt_of_lt_of_le
def fj:=@List.getElem?_append_right
def cN:=@Bool.false_ne_true
def cO:=@PySem.wpAny_setState_of
def cP:=@of_decide_eq_true
def Ra:=@List.mem_singleton
def cG:=@List.getElem_mem
def Ah:=@List.mem_filter
def ui:=@List.mem_append
def aO:=@if_neg
def bW:=@Nat.ne_of_lt
def cH:=@Option.some.inj
def cW:=@decide_eq_false
def cf:=@Nat.le_trans
def Rb:=@List.getElem?_eq_some_iff
def cY:=@decide_eq_true
def fV:=@List.nodup_cons
def cQ:=@List.map_cons
def dH:=@PySem.PassesOwn.never
def cm:=@Nat.zero_le
def fW:=@List.length_filter_le
def Rc:=@List.pairwise_iff_getElem
def d_:=@List.length_take
def bf:=@if_pos
def fX:=@List.mem_append_left
def gp:=@List.getElem?_eq_none
def dA:=@PySem.wpAny_holding
def fk:=@List.take_length
def iL:=@List.getElem?_append_left
def fM:=@List.size_toArray
def du:=@List.map_map
def eQ:=@PySem.Heap.size_push
def gW:=@List.mem_cons_of_mem
def cR:=@PySem.wpAny_mono
def gK:=@List.mem_cons_self
def gX:=@Array.length_toList
def gL:=@List.length_range
def gY:=@decide_eq_true_iff
def gq:=@Bool.and_eq_true
def ij:=@List.map_congr_left
def Re:=@List.mem_iff_getElem
def mF:=@List.take_succ_eq_append_getElem
def Gh:=@List.pairwise_map
def fq:=@Nat.lt_or_ge
def gZ:=@PySem.wpAny_call_entry
def ik:=@PySem.wpAny_newObj_type
def iM:=@Nat.lt_of_le_of_lt
def iN:=@List.filter_append
def cS:=@or_false
def ku:=@List.take_of_length_le
def ky:=@PySem.Heap.get?_update_other
def j6:=@PySem.wpAny_setField_rec
def mG:=@Array.getD_eq_getD_getElem?
def qA:=@PyProof.Rows.F.plain_set_update_loop
def fY:=@Nat.ne_of_gt
def Gi:=@List.nodup_append
def iO:=@Nat.not_lt_zero
def il:=@List.take_succ
def QU:=@List.mem_range
def j7:=@List.filter_cons
def kz:=@List.flatten_append
def jB:=@PySem.Heap.SameBut.refl
def iP:=@List.Perm.refl
def lN:=@PySem.Around.under_plainId
def o9:=@Array.getElem?_eq_getElem
def lO:=@PySem.Heap.SameBut.update
def kA:=@PySem.wpAny_truthy_bool
def kB:=@decide_eq_true_eq
def jC:=@PySem.codeAny_builtin
def jD:=@List.append_nil
def g_:=@PySem.wpAny_field
def oa:=@PySem.wpAny_callSpecial?_slot
def kC:=@List.length_cons
def qB:=@PyProof.Rows.callWith_type1
def j8:=@Bool.true_and
def jE:=@PySem.wpAny_seqItems
def lP:=@PySem.fits_of_scanBound
def qF:=@List.getD_eq_getElem?_getD
def gr:=@PySem.wpAny_ite
def mH:=@PySem.Calls.spliced_cons
def j9:=@Nat.le_of_lt
def iQ:=@PySem.sizeLine_eq
def ip:=@PySem.wpAny_rule
def Ai:=@PyProof.Rows.F.entry_set_update_loop
def qH:=@PySem.Calls.callWith_builtin
def Rf:=@List.mem_flatten
def Aj:=@List.all_eq_true
def uj:=@List.length_eraseIdx_of_lt
def lQ:=@PyProof.Rows.IntsAre.length
def qJ:=@PySem.F.slot_dict_get
def qK:=@List.take_append_drop
def mI:=@List.find?_cons
def mJ:=@List.filter_nil
def og:=@PySem.wpAny_storeSet_of
def oh:=@Nat.lt_trichotomy
def kD:=@Nat.lt_trans
def oi:=@List.getElem_take
def oj:=@List.append_assoc
def lR:=@PySem.wpAny_standAt
def uk:=@List.filterMap_cons_some
def um:=@List.filterMap_cons_none
def om:=@PySem.wpAny_askSetting
def uo:=@PySem.F.plainAttrs_dict
def kE:=@Nat.le_succ
def qM:=@PySem.wpAny_Call_Name_kw
def qO:=@PySem.tupleKind_room_in1
def lS:=@PySem.codeAny_mono
def lT:=@PySem.call_meetsIn
def oo:=@PySem.wpAny_passesOwn
def oq:=@List.range_succ
def mK:=@Nat.lt_irrefl
def qP:=@List.flatten_cons
def fO:=@not_or
def Ak:=@PySem.F.slot_tuple_iterator_next
def ur:=@PySem.Calls.evalArgs_plain
def ot:=@Bool.false_and
def jF:=@PySem.W.kia_one
def qQ:=@List.length_drop
def uv:=@List.length_flatten
def ou:=@PySem.plainId_quiet
def ox:=@List.any_cons
def qR:=@PyProof.Rows.get?_update_seq
def uw:=@PySem.wpAny_pyIter_tuple
def ux:=@of_decide_eq_false
def uy:=@List.getElem?_drop
def Rg:=@List.length_eq_zero_iff
def uz:=@PySem.wpAny_pyIter_list
def Al:=@PySem.F.entry_dict_get
def qS:=@List.nodup_nil
def uA:=@PySem.Calls.spliced_nil
def Am:=@List.length_singleton
def An:=@PySem.Heap.get?_update_self
def uB:=@PySem.wpAny_isInstance
def qW:=@List.all_cons
def Ao:=@List.mem_of_mem_take
def Gj:=@PySem.F.slot_dict_setdefault
def uC:=@Option.map_some
def uD:=@List.forIn_cons
def uE:=@Int.emod_nonneg
def Ap:=@List.getElem?_range
def Aq:=@List.filter_sublist
def Ar:=@List.filterMap_cons
def qX:=@Nat.add_comm
def qY:=@List.map_nil
def q_:=@List.all_map
def As:=@Int.emod_lt_of_pos
def Gk:=@List.getLast?_eq_getElem?
def Au:=@PySem.wpAny_Call_method
def Av:=@not_false_eq_true
def kF:=@if_true
def Gm:=@PySem.wpAny_comprehension_free
def uF:=@Bool.and_true
def Aw:=@PySem.wpAny_pyIter_zip
def Gn:=@PySem.F.plainAttrs_list
def Ax:=@Nat.lt_succ_self
def uG:=@PySem.wpAny_typeOf
def Gp:=@PySem.wpAny_pyNext_list_item
def r8:=@PySem.intKind_is
def Rh:=@Option.map_eq_some_iff
def Gq:=@List.getElem?_set_self
def Ay:=@PySem.wpAny_execs_nil
def Az:=@PySem.codeAny_of_tree
def AA:=@Nat.min_eq_left
def AB:=@PySem.F.slot_zip_next
def Gr:=@PySem.wpAny_pyNext_list_end
def Gs:=@PySem.builtinLookup_eq_fast
def Gu:=@PySem.F.slot_dict_pop
def Gv:=@List.length_replicate
def Gw:=@Array.getElem?_toList
def Gx:=@PySem.wpAny_updateSeq_pair
def AC:=@PySem.isSubtype_type
def AD:=@PySem.entryFor_alias
def AE:=@List.take_zero
def Gy:=@List.getElem?_set_ne
def AF:=@List.forIn_nil
def Ri:=@List.length_pos_iff
def Gz:=@List.getElem_of_mem
def AG:=@PySem.wpAny_onRaise
def AH:=@List.sum_cons
def GA:=@PyProof.Rows.assignInOrder_cons
def GB:=@Nat.eq_zero_or_pos
def QV:=@List.pairwise_cons
def GC:=@Array.forIn_toList
namespace L2
open PySem PySem.Spec PyProof.Rows
abbrev aF:=Sum Int Str
noncomputable def jJ:aF->Value->Bool
 |.inl k,v=>Value.isInt k v
 |.inr x,v=>Value.isStrOf x v
noncomputable def GG(w:World):aF->Int
 |.inl k=>hashInt k
 |.inr x=>hashStr w x
theorem jK:∀{k:aF} {v:Value},jJ k v=true->(∃i t,k=Sum.inl i/\v=Value.int i t)\/(∃x t,k=Sum.inr x/\v=Value.str x t)
 |.inl i,v,h=>by
  let(t,e):=Value.isInt_shape (k:=i) (v:=v) h
  grind
 |.inr x,v,h=>by
  let(t,e):=Value.isStrOf_shape (x:=x) (v:=v) h
  grind
def GH(i:Int)(t:Tok):jJ (.inl i) (.int i t)=true:=by simp[jJ,Value.isInt]
def GI(x:Str)(t:Tok):jJ (.inr x) (.str x t)=true:=by simp[jJ,Value.isStrOf]
def GJ(a b:Int):decide ((Sum.inl a:aF)=Sum.inl b)=(a==b):=by
 grind
def GK(a b:Str):decide ((Sum.inr a:aF)=Sum.inr b)=decide (a=b):=by
 grind
def GL(a:Int)(b:Str):decide ((Sum.inl a:aF)=Sum.inr b)=false:=cW (λq=>nomatch q)
def GM(a:Str)(b:Int):decide ((Sum.inr a:aF)=Sum.inl b)=false:=cW (λq=>nomatch q)
noncomputable def cI(prog:Program)(w:World):PySem.KeyKind prog w aF where
 is:=jJ
 hash:=GG w
 inj:=λv a b ha hb=>by
  rcases jK ha with⟨i,t,rfl,rfl⟩|⟨x,t,rfl,rfl⟩
  .rcases jK hb with⟨j,u,rfl,e⟩|⟨y,u,rfl,e⟩
   .grind
   .grind
  .rcases jK hb with⟨j,u,rfl,e⟩|⟨y,u,rfl,e⟩
   .grind
   .grind
 byValue:=λk v h=>by
  rcases jK h with⟨i,t,rfl,rfl⟩|⟨x,t,rfl,rfl⟩<;>rfl
 pyHash:=λhv h=>by
  rcases jK hv with⟨i,t,rfl,rfl⟩|⟨x,t,rfl,rfl⟩
  .show wpAny_pyHash_int h
  .show wpAny_pyHash_str h
 eqBool:=λhu hv h=>by
  rcases jK hu with⟨i,t,rfl,rfl⟩|⟨x,t,rfl,rfl⟩
  .rcases jK hv with⟨j,u,rfl,rfl⟩|⟨y,u,rfl,rfl⟩
   .rw[GJ]at h;show wpAny_eqBool_int h
   .rw[GL]at h;show SeqAt.EqAt.int_str i t y u _ _ _ _ h
  .rcases jK hv with⟨j,u,rfl,rfl⟩|⟨y,u,rfl,rfl⟩
   .rw[GM]at h;show SeqAt.EqAt.str_int x t j u _ _ _ _ h
   .rw[GK]at h;show wpAny_eqBool_str h
 «strs»:=λk x t v h=>by
  rcases jK h with⟨i,u,rfl,e⟩|⟨y,u,rfl,e⟩
  .grind
  .injection e with e1 _;subst e1;cases v<;>rfl
def GN(prog:Program)(w:World)(k:aF)(v:Value):(cI prog w).is k v=jJ k v:=rfl
def GO(prog:Program)(w:World)(i:Int)(t:Tok):(cI prog w).is (.inl i) (.int i t)=true:=GH i t
def GP(prog:Program)(w:World)(x:Str)(t:Tok):(cI prog w).is (.inr x) (.str x t)=true:=GI x t
inductive V where
 |non|bl (b:Bool)|int (i:Int)|str (x:Str)|byt (b:Array UInt8)|flt (b:UInt64)|ref (a:Addr)|ty (n:String)
 deriving DecidableEq
abbrev LE:=List Int
abbrev LT:=List V
abbrev T0:=List Value
abbrev Tk:=List Addr
abbrev Tl:=List (Addr×Obj)
abbrev Tm:=List (aF×V)
def aV:V->Value->Prop
 |.non,u=>u=Value.none
 |.bl b,u=>u=Value.bool b
 |.int i,u=>∃t,u=Value.int i t
 |.str x,u=>∃t,u=Value.str x t
 |.byt b,u=>∃t,u=Value.bytes b t
 |.flt b,u=>∃t,u=Value.float b t
 |.ref a,u=>u=Value.ref a
 |.ty n,u=>u=Value.type n
abbrev a_:LT->T0->Prop:=Paired aV
def a_.length{xs:LT}{us:T0}(r:a_ xs us):xs.length=us.length:=Paired.length r
theorem a_.get:∀{xs:LT} {us:T0} {i:Nat} {x:V},a_ xs us->xs[i]?=some x->∃u,us[i]?=some u/\aV x u
 |_,_,_,_,.nil,e=>by simp at e
 |_,_,0,_,.cons r _,e=>by simp at e;subst e;show(_,rfl,r)
 |_,_,i+1,x,.cons _ t,e=>by
  let(u,h1,h2):=a_.get (i:=i) (x:=x) t ⋯
  grind
theorem a_.set{x:V}{u:Value}(r:aV x u):∀{xs:LT} {us:T0} (i:Nat),a_ xs us->a_ (xs.set i x) (us.set i u)
 |_,_,_,.nil=>.nil
 |_,_,0,.cons _ t=>.cons r t
 |_,_,i+1,.cons q t=>.cons q (a_.set r i t)
theorem a_.append:∀{xs ys:LT} {us ws:T0},a_ xs us->a_ ys ws->a_ (xs++ys) (us++ws)
 |_,_,_,_,.nil,s=>s
 |_,_,_,_,.cons r t,s=>.cons r (a_.append t s)
theorem a_.take:∀{xs:LT} {us:T0} (n:Nat),a_ xs us->a_ (xs.take n) (us.take n)
 |_,_,0,_=>.nil
 |_,_,_+1,.nil=>.nil
 |_,_,n+1,.cons r t=>.cons r (a_.take n t)
theorem a_.drop:∀{xs:LT} {us:T0} (n:Nat),a_ xs us->a_ (xs.drop n) (us.drop n)
 |_,_,0,r=>r
 |_,_,_+1,.nil=>.nil
 |_,_,n+1,.cons _ t=>a_.drop n t
def eR:Option V->Option Value->Prop
 |some v,some u=>aV v u
 |none,none=>True
 |_,_=>False
def KV{κ:Type}:List (κ×V)->List (κ×Value)->Prop:=Paired λ(p:κ×V) (q:κ×Value)=>p.1=q.1/\aV p.2 q.2
noncomputable def kV:aF->V
 |.inl i=>.int i
 |.inr x=>.str x
inductive HO where
 |lst (xs:LT)
 |tup (xs:LT)
 |dK (kvs:Tm)|dT (kvs:List (List aF×V))
 |set (S:Int->Bool) (n:Nat)
 |ins (C dx:Addr) (fs:List (Str×V))
 |own (x:Addr)
 |xd (fs:List (Str×V))
 |met (f x:Addr)
 |rng (lo hi:Int)
 |frz (o:Obj) (u:HO)
 |tbl (ps:Array Value)
 |ext (φ:Heap->Prop)
abbrev Hp:=Addr->Option HO
noncomputable def aa(H:Hp)(a:Addr)(o:HO):Hp:=λb=>if b=a then some o else H b
def ar{H:Hp}{a:Addr}{o:HO}:aa H a o a=some o:=by unfold aa;rw[bf rfl]
def aB{H:Hp}{a b:Addr}{o:HO}(h:b≠a):aa H a o b=H b:=by unfold aa;rw[aO h]
def uO{H:Hp}{a:Addr}{o u:HO}:aa (aa H a o) a u=aa H a u:=by
 funext b;unfold aa;split<;>rfl
def bp{H:Hp}{a b:Addr}{o u:HO}(h:H a=some o)(h':H b=some u)(d:o≠u):a≠b:=by
 grind
def bq{H:Hp}{a b:Addr}{o:HO}(h:H a=some o)(h':H b=none):a≠b:=by
 grind
section
variable(P:Program)(w:World)
def c8(H:Hp)(h:Heap)(a:Addr):HO->Prop
 |.lst xs=>xs.length<=sizeLine/\∃(av:T0) (n:Nat),a_ xs av/\h.get? a=some {cls:=.type "list",data:=.seq av.toArray n}
 |.tup xs=>xs.length<=sizeLine/\∃av:T0,a_ xs av/\IsTup h a av.toArray
 |.dK kvs=>kvs.length<=sizeLine/\(a==sysModules)=false/\∃vs,KV kvs vs/\h.DictOf (cI P w) a vs
 |.dT kvs=>kvs.length<=sizeLine/\(a==sysModules)=false/\∃xs:List (List aF×Addr×Value),
   Paired (λ(p:List aF×V) (q:List aF×Addr×Value)=>p.1=q.1/\H q.2.1=some (.tup (p.1.map kV))/\aV p.2 q.2.2) kvs xs/\
   ∃o es ep,h.get? a=some o/\o.ExactDict/\o.data=.dict es ep/\es.toList=xs.map (entryOfKey (tupleKind (cI P w)))/\(xs.map (·.1)).Nodup
 |.set S n=>h.SetOf (intKind P w) a S n
 |.ins C dx fs=>H dx=some (.own a)/\fs.length<=1000/\dx≠a/\h.get? a=some (W.instObj C dx)/\
   ∃mA,h.Ns1 dx mA/\(∀f,eR (fs.lookup f) (mA f))/\PySem.Within mA (fs.map (·.1))
 |.own _=>∃o,h.get? a=some o
 |.xd fs=>∃mA,h.Ns1 a mA/\∀f,eR (fs.lookup f) (mA f)
 |.rng lo hi=>∃t u v,h.get? a=some {cls:=.type "range",data:=.fields #[.int lo t,.int hi u,.int 1 v]}
 |.frz o u=>h.get? a=some o/\c8 H h a u
 |.tbl ps=>h.get? a=some {cls:=.none,data:=.fields ps}
 |.met f x=>h.get? a=some (W.methodObj (.ref f) (.ref x))
 |.ext φ=>φ h/\(∃o,h.get? a=some o)/\∀h1 h2:Heap,φ h1->(∀o,h1.get? a=some o->h2.get? a=some o)->φ h2
def cz(H:Hp)(h:Heap):Prop:=∀a o,H a=some o->c8 P w H h a o
end
section
variable{P:Program}{w:World}{H H':Hp}{h h':Heap}{a:Addr}{o:HO}
def c8.lt(x:c8 P w H h a o):a<h.objs.size:=by
 cases o with
 |lst xs=>obtain⟨_,_,_,_,e⟩:=x;show bw e
 |tup xs=>obtain⟨_,_,_,p⟩:=x;show p.lt
 |dK kvs=>obtain⟨_,_,_,_,o,_,_,e,_⟩:=x;show bw e
 |dT kvs=>obtain⟨_,_,_,_,o,_,_,e,_⟩:=x;show bw e
 |set S n=>obtain⟨o,_,_,_,e,_⟩:=x;show bw e
 |ins C dx fs=>obtain⟨_,_,_,e,_⟩:=x;show bw e
 |own y=>obtain⟨_,e⟩:=x;show bw e
 |xd fs=>obtain⟨_,⟨_,_,_,e,_⟩,_⟩:=x;show bw e
 |rng lo hi=>obtain⟨_,_,_,e⟩:=x;show bw e
 |frz ob u=>obtain⟨e,_⟩:=x;show bw e
 |tbl ps=>show bw (show h.get? a=some _ from x)
 |met f y=>show bw (show h.get? a=some _ from x)
 |ext φ=>obtain⟨_,⟨_,e⟩,_⟩:=x;show bw e
theorem Paired.mapP{α β:Type}{F G:α->β->Prop}:∀{XH:List α} {XG:List β},Paired F XH XG->(∀a b,F a b->G a b)->Paired G XH XG
 |_,_,.nil,_=>.nil
 |_,_,.cons r t,f=>.cons (f _ _ r) (Paired.mapP t f)
def c8.stay(x:c8 P w H h a o)(k:∀b u,(b=a\/H b=some (.own a))->h.get? b=some u->h'.get? b=some u)
  (ho:∀b,H b=some (.own a)->H' b=some (.own a)) (ht:∀b xs,H b=some (.tup xs)->H' b=some (.tup xs)):c8 P w H' h' a o:=by
 induction o with
 |lst xs=>obtain⟨z,av,n,r,e⟩:=x;show(z,av,n,r,k _ _ (.inl rfl) e)
 |tup xs=>obtain⟨z,av,r,ob,e,c⟩:=x;show(z,av,r,ob,k _ _ (.inl rfl) e,c)
 |dK kvs=>obtain⟨z,y,vs,r,ob,es,ep,e,c⟩:=x;show(z,y,vs,r,ob,es,ep,k _ _ (.inl rfl) e,c)
 |dT kvs=>
  let(z,y,xs,r,ob,es,ep,e,c):=x;show(z,y,xs,Paired.mapP r λp q z=>(z.1,ht _ _ z.2.1,z.2.2),ob,es,ep,k _ _ (.inl rfl) e,c)
 |set S n=>obtain⟨ob,es,ep,t,e,c⟩:=x;show(ob,es,ep,t,k _ _ (.inl rfl) e,c)
 |ins C dx fs=>
  let(d,z,ne,e,mA,(od,es,ep,e2,c),r):=x;show(ho _ d,z,ne,k _ _ (.inl rfl) e,mA,(od,es,ep,k _ _ (.inr d) e2,c),r)
 |own y=>obtain⟨ob,e⟩:=x;show(ob,k _ _ (.inl rfl) e)
 |xd fs=>obtain⟨mA,⟨od,es,ep,e,c⟩,r⟩:=x;show(mA,(od,es,ep,k _ _ (.inl rfl) e,c),r)
 |rng lo hi=>obtain⟨t,u,v,e⟩:=x;show(t,u,v,k _ _ (.inl rfl) e)
 |frz ob u ih=>obtain⟨e,q⟩:=x;show(k _ _ (.inl rfl) e,ih q)
 |tbl ps=>
  let e:h.get? a=some {cls:=.none,data:=.fields ps}:=x
  change h'.get? a=some {cls:=.none,data:=.fields ps}
  grind
 |met f y=>
  let e:h.get? a=some (W.methodObj (.ref f) (.ref y)):=x
  change h'.get? a=some (W.methodObj (.ref f) (.ref y))
  grind
 |ext φ=>obtain⟨p,⟨o,e⟩,st⟩:=x;show(st _ _ p λo q=>k _ _ (.inl rfl) q,(o,k _ _ (.inl rfl) e),st)
def cz.lt(x:cz P w H h)(e:H a=some o):a<h.objs.size:=(x a o e).lt
def cz.fresh(x:cz P w H h)(e:h.objs.size<=a):H a=none:=by
 cases q:H a with
 |none=>rfl
 |some u=>show absurd (cM (x.lt q) e) (mK _)
def cz.kept(x:cz P w H h)(k:∀b u,h.get? b=some u->h'.get? b=some u):cz P w H h':=λa o e=>
 (x a o e).stay (λb u _ q=>k b u q) (λ_ q=>q) λ_ _ q=>q
def cz.laid(x:cz P w H h)(k:∀b u,h.get? b=some u->h'.get? b=some u)(hp:h.objs.size<=a)(new:c8 P w (aa H a o) h' a o):cz P w (aa H a o) h':=λb u e=>by
 let hn:=x.fresh hp;by_cases hb:b=a
 .subst hb;rw[ar]at e;cases e;show new
 .rw[aB hb]at e
  show(x b u e).stay (λc v _ q=>k c v q) (λc q=>by rw[aB (bq q hn)];show q) λc xs q=>by rw[aB (bq q hn)];show q
end
def Rd(H:Hp)(a:Addr)(u:HO):Prop:=H a=some u\/∃o,H a=some (.frz o u)
def Rd.of{H:Hp}{a:Addr}{u:HO}(h:H a=some u):Rd H a u:=.inl h
def Rd.ok{P:Program}{w:World}{H:Hp}{h:Heap}{a:Addr}{u:HO}(r:Rd H a u)(x:cz P w H h):c8 P w H h a u:=by
 rcases r with r|⟨o,r⟩
 .show x a u r
 .let(_,q):=x a _ r;show q
def oJ:Option HO->Prop
 |some (.lst _)=>True
 |some (.dK _)=>True
 |some (.dT _)=>True
 |some (.set _ _)=>True
 |some (.ins _ _ _)=>True
 |some (.ext _)=>True
 |_=>False
section
variable{P:Program}{w:World}{H:Hp}{h h':Heap}{x e:Addr}{o':HO}
def cz.write(ok:cz P w H h)(mu:oJ (H x))(he:e=x\/H e=some (.own x))(k:∀b u,b≠e->h.get? b=some u->h'.get? b=some u)(Yc:∃u,h'.get? e=some u)
  (new:c8 P w (aa H x o') h' x o'):cz P w (aa H x o') h':=λb u q=>by
 let XB:∀c y,H c=some (.own y)->c≠x:=λc y r z=>by subst z;rw[r]at mu;show mu
 let ntup:∀c xs,H c=some (.tup xs)->c≠x:=λc xs r z=>by subst z;rw[r]at mu;show mu
 by_cases hb:b=x
 .subst hb;rw[ar]at q;cases q;show new
 .rw[aB hb]at q;by_cases hbe:b=e
  .let q':H b=some (.own x):=by
    rcases he with z|z
    .show absurd (hbe.trans z) hb
    .rw[hbe];show z
   rw[q]at q';cases q';let(v,hv):=Yc;show(v,by rw[hbe];show hv)
  .show(ok b u q).stay (λc v hc r=>k c v ?_ r) (λc r=>by rw[aB (XB c b r)];show r) λc xs r=>by rw[aB (ntup c xs r)];show r
   rcases hc with rfl|hc
   .show hbe
   .ext rfl
    rcases he with z|z
    .show XB c b hc z
    .rw[hc]at z;cases z;show hb rfl
end
structure Un(fs ex:Tk)(H H':Hp)(h h':Heap):Prop where
 keep:∀b o,h.get? b=some o->H b=none->b∉fs->b∉ex->h'.get? b=some o
 slot:∀b o,h.get? b=some o->H b=none->b∈fs->b∉ex->∃sl,h'.get? b=some {o with slots:=sl}
 free:∀b o,h.get? b=some o->H b=none->b∉ex->H' b=none
 there:∀b o,h.get? b=some o->b∉ex->∃o',h'.get? b=some o'
 tups:∀b xs,H b=some (.tup xs)->H' b=some (.tup xs)
 frzs:∀b o u,H b=some (.frz o u)->H' b=some (.frz o u)
 tbls:∀b ps,H b=some (.tbl ps)->∃more,H' b=some (.tbl (ps++more))
section
variable{fs fs' ex ex':Tk}{H H1 H2:Hp}{h h1 h2 h':Heap}{a x e:Addr}{o:HO}
def Un.any(u:Un fs ex H H1 h h1){b:Addr}{ob:Obj}(q:h.get? b=some ob)(n:H b=none)(hx:b∉ex):∃sl,h1.get? b=some {ob with slots:=sl}:=by
 by_cases hb:b∈fs
 .show u.slot b ob q n hb hx
 .show(ob.slots,u.keep b ob q n hb hx)
def Un.kept(k:∀b u,h.get? b=some u->h'.get? b=some u):Un fs ex H H h h':=
 (λb ob q _ _ _=>k b ob q,λb ob q _ _ _=>(ob.slots,k b ob q),λ_ _ _ n _=>n,λb ob q _=>(ob,k b ob q),λ_ _ q=>q,λ_ _ _ q=>q,λ_ ps q=>(#[],by rw[q];simp))
def Un.refl:Un fs ex H H h h:=Un.kept λ_ _ q=>q
def Un.laid(k:∀b u,h.get? b=some u->h'.get? b=some u)(hp:h.objs.size<=a)(hn:H a=none):Un fs ex H (aa H a o) h h' where
 keep:=λb u q _ _ _=>k b u q
 slot:=λb u q _ _ _=>(u.slots,k b u q)
 free:=λb u q n _=>by rw[aB (bW (cM (bw q) hp))];show n
 there:=λb u q _=>(u,k b u q)
 tups:=λb xs q=>by rw[aB (bq q hn)];show q
 frzs:=λb u xs q=>by rw[aB (bq q hn)];show q
 tbls:=λb ps q=>(#[],by rw[aB (bq q hn),q];simp)
def Un.write(mu:oJ (H x))(he:e=x\/H e=some (.own x))(k:∀b u,b≠e->h.get? b=some u->h'.get? b=some u)(Yc:∃u,h'.get? e=some u):Un fs ex H (aa H x o) h h':=by
 let hx:∀b,H b=none->b≠x:=λb n z=>by subst z;rw[n]at mu;show mu
 let hb:∀b,H b=none->b≠e:=λb n z=>by
  grind
 let hm:∀b u,H b=some u->¬oJ (some u)->b≠x:=λb u q nm z=>by subst z;rw[q]at mu;show nm mu
 show(λb u q n _ _=>k b u (hb b n) q,λb u q n _ _=>(u.slots,k b u (hb b n) q),λb u q n _=>by rw[aB (hx b n)];show n,λb u q _=>?_,
  λb xs q=>by rw[aB (hm b _ q λz=>z)];show q,λb u xs q=>by rw[aB (hm b _ q λz=>z)];show q,λb ps q=>(#[],by rw[aB (hm b _ q λz=>z),q];simp))
 grind
end
noncomputable def rj(h:Heap)(H:Hp):Tk:=(List.range h.objs.size).filter λa=>(H a).isSome
noncomputable def jL(h:Heap)(H:Hp):Heap:=W.hideAll h (rj h H)
def GQ(h:Heap)(H:Hp):(jL h H).objs.size=h.objs.size:=W.hideAll_size _ _
def GR{h:Heap}{H:Hp}{b:Addr}{o:Obj}(e:h.get? b=some o)(n:H b=none):(jL h H).get? b=some o:=
 W.hideAll_get _ e λhm=>by
  let q:(H b).isSome=true:=(Ah.mp hm).2
  grind
def GS{h:Heap}{H:Hp}{b:Addr}{o:Obj}(e:(jL h H).get? b=some o):h.get? b=some o/\H b=none:=by
 let e':h.get? b=some o:=W.of_hideAll (rj h H) e;show(e',?_)
 cases q:H b with
 |none=>rfl
 |some x=>
  let hm:b∈rj h H:=Ah.mpr (QU.mpr (bw e'),by simp[q]);let z:(jL h H).get? b=none:=W.hideAll_none (rj h H) hm
  grind
structure Mod(K:W.Frag)(mg:Str->Option Value)(base:Heap):Prop where
 kin:K.In base
 glob:base.Ns mainGlobals mg
 blt:∃mb,base.Ns builtinsNs mb/\∀x:Str,x≠"__name__"->mb x=bootBuiltins x
 nolimit:base.NoLimit
set_option genInjectivity false in
structure Cx where
 prog:Program
 w:World
 K:W.Frag
 mg:Str->Option Value
 base:Heap
 A:Around
 N:List Str
 s₀:Shared
 H₀:Hp
 env:Env
 outer:List Env
 stack:List Env
 ex:Tk
 fn:Str->Bool
 calm:Bool
 pn:Tl
 xe:Value->Shared->Prop
noncomputable def gs(l:List Env):Tk:=l.filterMap (·.frame)
abbrev Cx.fs(X:Cx):Tk:=gs X.outer
def rm(sc:Scope)(x:Str):Prop:=sc.names.lookup x=some .local \/sc.names.lookup x=some .cell\/sc.names.lookup x=some .free
def lV(sc:Scope)(x:Str):Prop:=sc.names.lookup x=some .local \/sc.names.lookup x=some .cell
def GT(env:Env)(h:Heap)(m:Str->Option Value)(x:Str)(u:Value):Prop:=
 (env.kindOf x=some .local /\m x=some u)\/((env.kindOf x=some .cell\/env.kindOf x=some .free)/\∃c,env.cells.lookup x=some c/\h.IsCell c (some u))
structure Cx.Ok(X:Cx):Prop where
 mod:Mod X.K X.mg X.base
 kind:X.env.scope.kind=.function
 glob:X.env.globals=mainGlobals
 blt:X.env.builtins=builtinsNs
 above:X.s₀.heap.objs.size<=X.env.locals
 inj:∀x y c,X.env.cells.lookup x=some c->X.env.cells.lookup y=some c->x=y
 has:∀x,(X.env.kindOf x=some .cell\/X.env.kindOf x=some .free)->∃c,X.env.cells.lookup x=some c
 cab:∀x c,X.fn x=true->X.env.cells.lookup x=some c->X.s₀.heap.objs.size<=c
 hd:X.calm=true->X.A.handled=none
 frames:X.A.frames=some X.stack
 stk:X.stack=X.outer\/(X.stack=X.env::X.outer/\X.env.frame=some X.env.locals)
 exf:∀b∈X.ex,b≠X.env.locals/\∀x c,X.env.cells.lookup x=some c->c≠b
 bs:∀b o,X.base.get? b=some o->X.s₀.heap.get? b=some o/\X.H₀ b=none
 bsz:X.base.objs.size<=X.s₀.heap.objs.size
 noex:∀b o,X.base.get? b=some o->b∉X.ex
 exfs:∀b∈X.ex,b∉X.fs
 funs:X.s₀.heap.FunFrames X.base X.outer
 frf:∀b∈X.fs,X.H₀ b=none
structure Inv(X:Cx)(a9:Tl)(Z:List (Option V))(H:Hp)(s:Shared):Prop where
 ok:X.Ok
 os:s.os=X.s₀.os
 bare:AllBare s.gens
 base:Un X.fs X.ex X.H₀ H X.s₀.heap s.heap
 loc:∃m,s.heap.Ns X.env.locals m/\∀(i:Nat) (x:Str) (v:V),X.N[i]?=some x->Z[i]?=some (some v)->rm X.env.scope x->∃u,aV v u/\GT X.env s.heap m x u
 cell:∀x c,X.env.cells.lookup x=some c->∃v,s.heap.IsCell c v
 free:H X.env.locals=none
 freeC:∀x c,X.env.cells.lookup x=some c->H c=none
 pin:∀p∈X.pn++a9,s.heap.get? p.1=some p.2/\H p.1=none/\p.1≠X.env.locals/\p.1∉X.fs/\∀v,p.2.data≠ .cell v
 hok:cz X.prog X.w H s.heap
 len:Z.length=X.N.length
section
variable{X:Cx}{a9:Tl}{Z:List (Option V)}{H H':Hp}{s:Shared}{h':Heap}
def Cx.Ok.nofr(ok:X.Ok){b:Addr}{o:Obj}(e:X.base.get? b=some o):b∉X.fs:=λhb=>by
 have:=(ok.funs.mem hb).1
 grind
def Inv.bs(I:Inv X a9 Z H s):∀b o,X.base.get? b=some o->s.heap.get? b=some o/\H b=none:=λb o e=>
 (I.base.keep b o (I.ok.bs b o e).1 (I.ok.bs b o e).2 (I.ok.nofr e) (I.ok.noex b o e),I.base.free b o (I.ok.bs b o e).1 (I.ok.bs b o e).2 (I.ok.noex b o e))
def Inv.bk(I:Inv X a9 Z H s):∀b o,X.base.get? b=some o->s.heap.get? b=some o:=λb o e=>(I.bs b o e).1
def Inv.mod(I:Inv X a9 Z H s):Mod X.K X.mg X.base:=I.ok.mod
def Inv.kIn(I:Inv X a9 Z H s):X.K.In s.heap:=I.ok.mod.kin.keeps I.bk
def Inv.lt(I:Inv X a9 Z H s):X.env.locals<s.heap.objs.size:=let(_,hn,_):=I.loc;hn.lt
def Inv.sz(I:Inv X a9 Z H s):X.s₀.heap.objs.size<=s.heap.objs.size:=cf I.ok.above (j9 I.lt)
def Inv.nofs(I:Inv X a9 Z H s){a:Addr}(h:s.heap.objs.size<=a):a∉X.fs:=λhb=>by
 let(_,o,ho,_):=I.ok.funs.mem hb;show absurd (cM (bw ho) (cf I.sz h)) (mK _)
def Inv.cne(I:Inv X a9 Z H s):∀x c,X.env.cells.lookup x=some c->c≠X.env.locals:=λx c e z=>by
 let(v,o,ho,hd):=I.cell x c e;let(m,(o',es,ep,UN,VS,_),_):=I.loc
 grind
def Inv.funs(I:Inv X a9 Z H s):s.heap.FunFrames X.base X.outer:=by
 let all:∀(l:List Env),(∀b∈gs l,b∈X.fs)->X.s₀.heap.FunFrames X.base l->s.heap.FunFrames X.base l:=by
  ext l
  induction l with
  |nil=>ext _ _;trivial
  |cons env r ih=>
   ext hs hl;let(hk,(L,o,hf,hn,ho,hd),hr):=hl;let hL:L∈X.fs:=hs L (by unfold gs;rw[Ar,hf];show gK);let(sl,e):=I.base.slot L o ho (I.ok.frf L hL) hL λz=>I.ok.exfs L z hL;show(hk,(L,_,hf,hn,e,hd),ih (λb hb=>hs b (by unfold gs;rw[Ar,hf];show gW _ hb)) hr)
 show all X.outer (λ_ hb=>hb) I.ok.funs
def Inv.stack(I:Inv X a9 Z H s):s.heap.FunFrames X.base X.stack:=by
 rcases I.ok.stk with e|⟨e,hf⟩
 .rw[e];show I.funs
 .rw[e];let(m,hn,_):=I.loc;show .cons (by rw[I.ok.kind];decide) hf hn ?_ I.funs;show Heap.get?_none_of_le (cf I.ok.bsz I.ok.above)
def Inv.stkSub(I:Inv X a9 Z H s):∀b∈gs X.stack,b∈X.env.locals::X.fs:=λb hb=>by
 rcases I.ok.stk with e|⟨e,hf⟩
 .grind
 .rw[e]at hb;unfold gs at hb;rw[Ar,hf]at hb;show hb
def Inv.stkFree(I:Inv X a9 Z H s):∀b∈gs X.stack,H b=none:=λb hb=>by
 rcases cb.mp (I.stkSub b hb)with e|hb
 .rw[e];show I.free
 .let(_,o,ho,_):=I.ok.funs.mem hb;show I.base.free b o ho (I.ok.frf b hb) λz=>I.ok.exfs b z hb
def Inv.step{g':Array GenState}{t':Nat}{d':Drawn}{ch:Tk}(I:Inv X a9 Z H s)
  (hch:∀b∈ch,(b∈X.ex\/X.s₀.heap.objs.size<=b)/\b≠X.env.locals/\(∀x c,X.env.cells.lookup x=some c->c≠b)/\∀p∈X.pn++a9,p.1≠b)
  (keep:∀b o,b≠X.env.locals->b∉X.fs->b∉ch->s.heap.get? b=some o->H b=none->h'.get? b=some o)
  (slot:∀b o,b≠X.env.locals->b∈X.fs->b∉ch->s.heap.get? b=some o->H b=none->∃sl,h'.get? b=some {o with slots:=sl}) (free:∀b o,b∉ch->s.heap.get? b=some o->H b=none->H' b=none)
  (there:∀b o,b∉ch->s.heap.get? b=some o->∃o',h'.get? b=some o')
  (tups:∀b xs,H b=some (.tup xs)->H' b=some (.tup xs)) (frzs:∀b o u,H b=some (.frz o u)->H' b=some (.frz o u)) (tbls:∀b ps,H b=some (.tbl ps)->∃more,H' b=some (.tbl (ps++more)))
  (ns:∀m,s.heap.Ns X.env.locals m->h'.Ns X.env.locals m) (hok:cz X.prog X.w H' h') (hg:AllBare g'):
  Inv X a9 Z H' {s with heap:=h',gens:=g',drawn:=d',toks:=t'}:=by
 let neL:∀b o,X.s₀.heap.get? b=some o->b≠X.env.locals:=λb o e=>bW (cM (bw e) I.ok.above)
 let ZH:∀b o,X.s₀.heap.get? b=some o->b∉X.ex->b∉ch:=λb o e hx hb=>by
  rcases(hch b hb).1 with z|z
  .grind
  .show absurd (cM (bw e) z) (mK _)
 let YD:∀x c,X.env.cells.lookup x=some c->∀v,s.heap.IsCell c v->h'.IsCell c v:=λx c e v (o,ho,hd)=>by
  let YV:c∉ch:=λz=>(hch c z).2.2.1 x c e rfl;by_cases hc:c∈X.fs
  .let(sl,q):=slot c o (I.cne x c e) hc YV ho (I.freeC x c e);show(_,q,hd)
  .show(o,keep c o (I.cne x c e) hc YV ho (I.freeC x c e),hd)
 show(I.ok,I.os,hg,(λb o e n hb hx=>?_,λb o e n hb hx=>?_,λb o e n hx=>?_,λb o e hx=>?_,λb xs e=>tups b xs (I.base.tups b xs e),λb o xs e=>frzs b o xs (I.base.frzs b o xs e),λb ps e=>?_),?_,λx c e=>?_,?_,λx c e=>?_,λp hp=>?_,hok,I.len)
 .show keep b o (neL b o e) hb (ZH b o e hx) (I.base.keep b o e n hb hx) (I.base.free b o e n hx)
 .let(sl,e1):=I.base.slot b o e n hb hx;let(sl',e2):=slot b _ (neL b o e) hb (ZH b o e hx) e1 (I.base.free b o e n hx)
  grind
 .let(o',e1):=I.base.there b o e hx;show free b o' (ZH b o e hx) e1 (I.base.free b o e n hx)
 .let(o',e1):=I.base.there b o e hx
  grind
 .let(m1,e1):=I.base.tbls b ps e
  grind
 .let(m,hn,hl):=I.loc;show(m,ns m hn,λi x v e1 e2 e3=>?_);let(u,r,l):=hl i x v e1 e2 e3;show(u,r,?_)
  rcases l with l|⟨k,c,e,z⟩
  .show .inl l
  .show .inr (k,c,e,YD x c e _ z)
 .let(v,z):=I.cell x c e
  grind
 .let(m,(o,_,_,ho,_),_):=I.loc;show free _ o (λz=>(hch _ z).2.1 rfl) ho I.free
 .let(v,o,ho,hd):=I.cell x c e;show free c o (λz=>(hch c z).2.2.1 x c e rfl) ho (I.freeC x c e)
 .let(e,n,ne,nf,d):=I.pin p hp
  grind
def Inv.un{t':Nat}(I:Inv X a9 Z H s)(u:Un X.fs [] H H' s.heap h')(hok:cz X.prog X.w H' h'):Inv X a9 Z H' {s with heap:=h',toks:=t'}:=by
 let(m,(o,es,ep,ho,r),_):=id I.loc;let(sl,hL):=u.any ho I.free ∅
 show I.step (g':=s.gens) (d':=s.drawn) (ch:=[]) (λ_ z=>nomatch z) (λb o _ hb _ e n=>u.keep b o e n hb ∅) (λb o _ hb _ e n=>u.slot b o e n hb ∅) (λb o _ e n=>u.free b o e n ∅) (λb o _ e=>u.there b o e ∅) u.tups u.frzs u.tbls (λm' hm=>by
  let(o',es',ep',UN,r'):=hm;rw[ho]at UN;cases UN
  show(_,es',ep',hL,r')) hok I.bare
def Inv.call{g':Array GenState}{t':Nat}{d':Drawn}{ch:Tk}(I:Inv X a9 Z H s)(u:Un (gs X.stack) ch H H' s.heap h')(hok:cz X.prog X.w H' h')(hg:AllBare g')
  (hch:∀b∈ch,(b∈X.ex\/X.s₀.heap.objs.size<=b)/\b≠X.env.locals/\(∀x c,X.env.cells.lookup x=some c->c≠b)/\∀p∈X.pn++a9,p.1≠b):
  Inv X a9 Z H' {s with heap:=h',gens:=g',drawn:=d',toks:=t'}:=by
 let(m,(o,es,ep,ho,r),_):=id I.loc;let(sl,hL):=u.any ho I.free λz=>(hch _ z).2.1 rfl
 show I.step (ch:=ch) hch (λb o hL hb hc e n=>u.keep b o e n (λz=>(cb.mp (I.stkSub b z)).elim hL hb) hc) (λb o _ _ hc e n=>u.any e n hc) (λb o hc e n=>u.free b o e n hc) (λb o hc e=>u.there b o e hc) u.tups u.frzs u.tbls (λm' hm=>by
  let(o',es',ep',UN,r'):=hm;rw[ho]at UN;cases UN
  show(_,es',ep',hL,r')) hok hg
def Inv.turned{t':Nat}{it:Addr}(I:Inv X a9 Z H s)(k:∀b o,b≠it->s.heap.get? b=some o->h'.get? b=some o)(hn:H it=none)(hL:it≠X.env.locals)
  (h1:it∈X.ex\/X.s₀.heap.objs.size<=it) (h2:∀x c,X.env.cells.lookup x=some c->c≠it) (h3:∀p∈X.pn++a9,p.1≠it):Inv X a9 Z H {s with heap:=h',toks:=t'}:=by
 let nit:∀b u,H b=some u->b≠it:=λb u e z=>by rw[z,hn]at e;cases e
 show I.step (g':=s.gens) (d':=s.drawn) (ch:=[it]) (λb hb=>?_) (λb o _ _ hc e _=>k b o (λz=>hc (by simp[z])) e) (λb o _ _ hc e _=>(o.slots,k b o (λz=>hc (by simp[z])) e)) (λ_ _ _ _ n=>n)
  (λb o hc e=>(o,k b o (λz=>hc (by simp[z])) e)) (λ_ _ e=>e) (λ_ _ _ e=>e) (λb ps e=>(#[],by rw[e];simp)) (λm hm=>?_) (λb u e=>?_) I.bare
 .grind
 .let(o,es,ep,ho,r):=hm;show(o,es,ep,k _ o (Ne.symm hL) ho,r)
 .show(I.hok b u e).stay (λc v hc q=>k c v ?_ q) (λ_ q=>q) λ_ _ q=>q
  grind
def Inv.tok(I:Inv X a9 Z H s)(t:Nat):Inv X a9 Z H {s with toks:=t}:=I.un (h':=s.heap) (t':=t) Un.refl I.hok
def Inv.kept{t':Nat}(I:Inv X a9 Z H s)(k:∀b u,s.heap.get? b=some u->h'.get? b=some u):Inv X a9 Z H {s with heap:=h',toks:=t'}:=I.un (Un.kept k) (I.hok.kept k)
def Inv.laid{a:Addr}{o:HO}{t':Nat}(I:Inv X a9 Z H s)(k:∀b u,s.heap.get? b=some u->h'.get? b=some u)(hp:s.heap.objs.size<=a)(new:c8 X.prog X.w (aa H a o) h' a o):
  Inv X a9 Z (aa H a o) {s with heap:=h',toks:=t'}:=I.un (Un.laid k hp (I.hok.fresh hp)) (I.hok.laid k hp new)
def Inv.write{x e:Addr}{o:HO}{t':Nat}(I:Inv X a9 Z H s)(mu:oJ (H x))(he:e=x\/H e=some (.own x))(k:∀b u,b≠e->s.heap.get? b=some u->h'.get? b=some u)(Yc:∃u,h'.get? e=some u)
  (new:c8 X.prog X.w (aa H x o) h' x o):Inv X a9 Z (aa H x o) {s with heap:=h',toks:=t'}:=I.un (Un.write mu he k Yc) (I.hok.write mu he k Yc new)
def Inv.pins_of{VC:Tl}(I:Inv X a9 Z H s)(h:∀p∈VC,s.heap.get? p.1=some p.2/\H p.1=none/\p.1≠X.env.locals/\p.1∉X.fs/\∀v,p.2.data≠ .cell v):Inv X VC Z H s:=
 (I.ok,I.os,I.bare,I.base,I.loc,I.cell,I.free,I.freeC,λp hp=>(ui.mp hp).elim (λz=>I.pin p (fX _ z)) (h p),I.hok,I.len)
def BG{N:List Str}(hN:N.Nodup){i j:Nat}{x:Str}(a:N[i]?=some x)(b:N[j]?=some x):i=j:=by
 let(h1,e1):=Rb.mp a;let(h2,e2):=Rb.mp b;show(List.getElem_inj hN).mp (e1.trans e2.symm)
def BH{M:Model}{A:Around}{E:Value->Shared->Prop}{i:Nat}{x:Str}{v:V}{u:Value}{Q:Unit->Shared->Prop}(I:Inv X a9 Z H s)(hN:X.N.Nodup)(hi:X.N[i]?=some x)(hx:lV X.env.scope x)(r:aV v u)
  (h:∀s',Inv X a9 (Z.set i (some v)) H s'->(∃a,Heap.SameBut a s.heap s'.heap/\(a=X.env.locals\/X.env.cells.lookup x=some a))->Q ⟨⟩ s') (hf:X.fn x=true\/X.env.scope.names.lookup x=some .local :=by first|exact .inl rfl|exact .inr rfl|assumption):wpAny M A (storeName X.env x u) Q E s:=by
 let(m,hn,hl):=id I.loc
 let jc6:(X.env.scope.kind==.class||(X.env.scope.kind==.module && X.env.locals !=X.env.globals))=false:=by rw[I.ok.kind];rfl
 let Ya:i<Z.length:=by rw[I.len];show(Rb.mp hi).1
 let cne:=I.cne
 let TK:∀{a:Addr} {h':Heap},(∃o,s.heap.get? a=some o/\H a=none)->Heap.SameBut a s.heap h'->cz X.prog X.w H h':=λ{a h'} ha hs b ob e=>by
  let(_,_,VQ):=ha;show(I.hok b ob e).stay (λc w' hc q=>(hs.2 c ?_).trans q) (λ_ q=>q) λ_ _ q=>q;ext rfl
  rcases hc with rfl|hc
  .rw[VQ]at e;cases e
  .rw[VQ]at hc;cases hc
 rcases hx with hk|hk
 .show wpAny_storeName_local hk hn (λh' hn' hs=>?_) jc6;let(oL,_,_,Vq,_):=id hn;show h _ (I.ok,I.os,I.bare,(λb o e n hb hx=>?_,λb o e n hb hx=>?_,I.base.free,λb o e hx=>?_,I.base.tups,I.base.frzs,I.base.tbls),(_,hn',λj y v' e1 e2 e3=>?_),λy c e=>?_,I.free,I.freeC,λp hp=>?_,TK (oL,Vq,I.free) hs,by simpa using I.len) (_,hs,.inl rfl)
  .show(hs.2 b (bW (cM (bw e) I.ok.above))).trans (I.base.keep b o e n hb hx)
  .let(sl,e1):=I.base.slot b o e n hb hx;show(sl,(hs.2 b (bW (cM (bw e) I.ok.above))).trans e1)
  .let(o',e1):=I.base.there b o e hx;show(o',(hs.2 b (bW (cM (bw e) I.ok.above))).trans e1)
  .by_cases hj:j=i
   .subst hj;rw[hi]at e1;cases e1;rw[Gq Ya]at e2;cases e2;show(u,r,.inl (hk,∅))
   .rw[Gy (Ne.symm hj)]at e2;let(u',r',q):=hl j y v' e1 e2 e3;show(u',r',?_)
    rcases q with⟨k,e⟩|⟨k,c,e,z⟩
    .show .inl (k,?_);have:y≠x:=λe=>hj (BG hN e1 (e▸hi));simp[this,e]
    .show .inr (k,c,e,z.sameBut hs (cne y c e))
  .let(w',z):=I.cell y c e;show(w',z.sameBut hs (cne y c e))
  .let(e,n,ne,nf,d):=I.pin p hp;show((hs.2 p.1 ne).trans e,n,ne,nf,d)
 .let hfn:X.fn x=true:=by
   rcases hf with z|z
   .show z
   .rw[z]at hk;cases hk
  let(c,hc):=I.ok.has x (.inl hk);let(w',z):=I.cell x c hc;show wpAny_storeName_cell I.ok.kind hk hc z (λh' RV hs=>?_);let(oc,hoc,ja7):=id z;show h {s with heap:=h'} ⟨I.ok,I.os,I.bare,⟨λb o e n hb hx=>?_,λb o e n hb hx=>?_,I.base.free,λb o e hx=>?_,I.base.tups,I.base.frzs,I.base.tbls⟩,(m,hn.sameBut hs (Ne.symm (cne x c hc)),λj y v' e1 e2 e3=>?_),λy c' e=>?_,I.free,I.freeC,λp hp=>?_,TK (oc,hoc,I.freeC x c hc) hs,by simpa using I.len⟩ (c,hs,.inr hc)
  .show(hs.2 b (bW (cM (bw e) (I.ok.cab x c hfn hc)))).trans (I.base.keep b o e n hb hx)
  .let(sl,e1):=I.base.slot b o e n hb hx;show(sl,(hs.2 b (bW (cM (bw e) (I.ok.cab x c hfn hc)))).trans e1)
  .let(o',e1):=I.base.there b o e hx;show(o',(hs.2 b (bW (cM (bw e) (I.ok.cab x c hfn hc)))).trans e1)
  .by_cases hj:j=i
   .subst hj;rw[hi]at e1;cases e1;rw[Gq Ya]at e2;cases e2;show(u,r,.inr (.inl hk,c,hc,RV))
   .rw[Gy (Ne.symm hj)]at e2;let(u',r',q):=hl j y v' e1 e2 e3;show(u',r',?_)
    rcases q with q|⟨k,c',e,z'⟩
    .show .inl q
    .show .inr (k,c',e,z'.sameBut hs ?_);ext rfl;show hj (BG hN e1 (I.ok.inj _ _ _ e hc▸hi))
  .by_cases hcc:c'=c
   .subst hcc;show(_,RV)
   .let(w2,z2):=I.cell y c' e;show(w2,z2.sameBut hs hcc)
  .let(e,n,ne,nf,d):=I.pin p hp;show((hs.2 p.1 ?_).trans e,n,ne,nf,d);ext q;rw[q,hoc]at e;let q':oc=p.2:=cH e;show d w' (by rw[<-q'];show ja7)
def oK{M:Model}{A:Around}{E:Value->Shared->Prop}{i:Nat}{x:Str}{v:V}{u:Value}{Q:Unit->Shared->Prop}(I:Inv X a9 Z H s)(hN:X.N.Nodup)(hi:X.N[i]?=some x)(hx:lV X.env.scope x)(r:aV v u)
  (h:∀s',Inv X a9 (Z.set i (some v)) H s'->Q ⟨⟩ s') (hf:X.fn x=true\/X.env.scope.names.lookup x=some .local :=by first|exact .inl rfl|exact .inr rfl|assumption):wpAny M A (storeName X.env x u) Q E s:=
 BH I hN hi hx r (λs' I' _=>h s' I') hf
def Inv.call'{s':Shared}{ch:Tk}(I:Inv X a9 Z H s)(ho:s'.os=s.os)(u:Un (gs X.stack) ch H H' s.heap s'.heap)(hok:cz X.prog X.w H' s'.heap)(hg:AllBare s'.gens)
  (hch:∀b∈ch,(b∈X.ex\/X.s₀.heap.objs.size<=b)/\b≠X.env.locals/\(∀x c,X.env.cells.lookup x=some c->c≠b)/\∀p∈X.pn++a9,p.1≠b):Inv X a9 Z H' s':=by
 let(h',g',d',t',o'):=s';let e:o'=s.os:=ho;subst e;show I.call (g':=g') (t':=t') (d':=d') u hok hg hch
end
abbrev XK:=Value->Option Addr->Hp->Prop
abbrev St:=List (Option V)
abbrev VK:=V->Hp->Prop
abbrev TE:=St->Hp->VK->Prop
abbrev TT:=St->Hp->(Bool->Hp->Prop)->Prop
abbrev TA:=St->Hp->(LT->Hp->Prop)->Prop
set_option genInjectivity false in
structure gu where
 nx:St->Hp->Prop
 rt:VK
 bk:St->Hp->Prop:=λ_ _=>False
 ct:St->Hp->Prop:=λ_ _=>False
abbrev TS:=gu->St->Hp->Prop
def EP(X:Cx)(a9:Tl)(Z:St)(Q:VK)(u:Value)(s':Shared):Prop:=∃v H',Inv X a9 Z H' s'/\aV v u/\Q v H'
def TP(X:Cx)(a9:Tl)(Z:St)(Q:Bool->Hp->Prop)(b:Bool)(s':Shared):Prop:=∃H',Inv X a9 Z H' s'/\Q b H'
def AP(X:Cx)(a9:Tl)(Z:St)(Q:LT->Hp->Prop)(us:T0)(s':Shared):Prop:=∃vs H',Inv X a9 Z H' s'/\a_ vs us/\Q vs H'
def SP(X:Cx)(a9:Tl)(D:gu)(f:Flow)(s':Shared):Prop:=
 match f with
 |.next=>∃Z' H',Inv X a9 Z' H' s'/\D.nx Z' H'
 |.brk=>∃Z' H',Inv X a9 Z' H' s'/\D.bk Z' H'
 |.cont=>∃Z' H',Inv X a9 Z' H' s'/\D.ct Z' H'
 |.ret u=>∃v Z' H',Inv X a9 Z' H' s'/\aV v u/\D.rt v H'
def PE(X:Cx)(e:Expr)(t:TE):Prop:=
 ∀(a9:Tl) (s:Shared) (Z:St) (H:Hp) (Q:VK),Inv X a9 Z H s->t Z H Q->wpAny (model X.prog X.w) X.A (eval e X.env) (EP X a9 Z Q) X.xe s
def PT(X:Cx)(e:Expr)(t:TT):Prop:=
 ∀(a9:Tl) (s:Shared) (Z:St) (H:Hp) (Q:Bool->Hp->Prop),Inv X a9 Z H s->t Z H Q->wpAny (model X.prog X.w) X.A (isTrue e X.env (eval e X.env)) (TP X a9 Z Q) X.xe s
def PW(X:Cx)(e:Expr)(t:TT):Prop:=
 ∀(TJ:Sem Value) (a9:Tl) (s:Shared) (Z:St) (H:Hp) (Q:Bool->Hp->Prop),Inv X a9 Z H s->t Z H Q->wpAny (model X.prog X.w) X.A (isTrue e X.env TJ) (TP X a9 Z Q) X.xe s
def PW.pt{X:Cx}{e:Expr}{t:TT}(h:PW X e t):PT X e t:=h _
def PA(X:Cx)(es:List Expr)(t:TA):Prop:=
 ∀(pos:Pos) (a9:Tl) (s:Shared) (Z:St) (H:Hp) (Q:LT->Hp->Prop),Inv X a9 Z H s->t Z H Q->wpAny (model X.prog X.w) X.A (spliced (backTo pos (starEach es X.env))) (AP X a9 Z Q) X.xe s
def PS(X:Cx)(st:Stmt)(t:TS):Prop:=
 ∀(a9:Tl) (s:Shared) (Z:St) (H:Hp) (D:gu),Inv X a9 Z H s->t D Z H->wpAny (model X.prog X.w) X.A (exec st X.env) (SP X a9 D) X.xe s
def gv(X:Cx)(st:List Stmt)(t:TS):Prop:=
 ∀(a9:Tl) (s:Shared) (Z:St) (H:Hp) (D:gu),Inv X a9 Z H s->t D Z H->wpAny (model X.prog X.w) X.A (execs st X.env) (SP X a9 D) X.xe s
def aI{α:Type}{t:Sem α}{Q Q':α->Shared->Prop}{M:Model}{A:Around}{E:Value->Shared->Prop}{s:Shared}(h:wpAny M A t Q E s)(hQ:∀a s,Q a s->Q' a s):wpAny M A t Q' E s:=cR h hQ λ_ _ x=>x
section
variable{X:Cx}
def eT(i:Nat):TE:=λZ H Q=>∃v,Z[i]?=some (some v)/\Q v H
def tC(v:V):TE:=λ_ H Q=>Q v H
def GU{i:Nat}{x:Str}{pos:Pos}(hN:X.N[i]?=some x)(hv:rm X.env.scope x)(hd:⇑((x==("__debug__":Str))=false))(hcd:⇑((x==("__classdict__":Str))=false)):PE X (.Name x pos) (eT i):=by
 ext a9 s Z H Q I h;let(v,e,h):=h;let(m,hn,hl):=I.loc;let(u,r,l):=hl i x v hN e hv
 let fin:EP X a9 Z Q u s:=(v,H,I,r,h)
 rcases l with⟨hk,hm⟩|⟨hk,c,hc,hcell⟩
 .show wpAny_Name (wpAny_loadName_local I.ok.kind hk hn hm fin) hd
 .rcases hk with hk|hk
  .show wpAny_Name (wpAny_loadName_cell I.ok.kind hk hc hcell fin) hd
  .show wpAny_Name (wpAny_loadName_free I.ok.kind hk hc hcell fin hcd) hd
def ay{i j pos}:PE X (.Constant (.int i) j pos) (tC (.int i)):=λ_ _ _ H _ I h=>wpAny_Constant_int (.int i,H,I.tok _,(_,rfl),h)
def fQ{b j pos}:PE X (.Constant (.bool b) j pos) (tC (.bl b)):=λ_ _ _ H _ I h=>Constant_bool (.bl b,H,I,rfl,h)
def rn{j pos}:PE X (.Constant .none j pos) (tC .non):=λ_ _ _ H _ I h=>Constant_none (.non,H,I,rfl,h)
def aT{x j pos}:PE X (.Constant (.str x) j pos) (tC (.str x)):=λ_ _ _ H _ I h=>Calls.Constant_str (.str x,H,I.tok _,(_,rfl),h)
def Gl(X:Cx)(x:Str):Prop:=X.env.kindOf x=some .globalImplicit
def rp{E:Value->Shared->Prop}{a9:Tl}{s:Shared}{Z:St}{H:Hp}{x:Str}{u:Value}{pos:Pos}{Q:Value->Shared->Prop}(I:Inv X a9 Z H s)(hg:Gl X x)(hm:X.mg x=some u)(h:Q u s)
  (hd:⇑((x==("__debug__":Str))=false)):wpAny (model X.prog X.w) X.A (eval (.Name x pos) X.env) Q E s:=
 Calls.Name_function_global I.ok.kind hg (Calls.loadGlobal_global (by rw[I.ok.glob];show I.mod.glob.keeps I.bk) hm h) hd
def kK{E:Value->Shared->Prop}{a9:Tl}{s:Shared}{Z:St}{H:Hp}{x:Str}{u:Value}{pos:Pos}{Q:Value->Shared->Prop}(I:Inv X a9 Z H s)(hg:Gl X x)(hm:X.mg x=none)(hv:bootBuiltins x=some u)(h:Q u s)
  (hn:⇑(x≠"__name__")) (hd:⇑((x==("__debug__":Str))=false)):wpAny (model X.prog X.w) X.A (eval (.Name x pos) X.env) Q E s:=by
 let(mb,h1,h2):=I.mod.blt;show Calls.Name_function_global I.ok.kind hg (Calls.loadGlobal_builtin (by rw[I.ok.glob];show I.mod.glob.keeps I.bk) hm (by rw[I.ok.blt];show h1.keeps I.bk) ((h2 x hn).trans hv) h) hd
def fz{x:Str}{v:V}{u:Value}{pos:Pos}(hg:Gl X x)(hm:X.mg x=some u)(r:aV v u)(hd:⇑((x==("__debug__":Str))=false)):PE X (.Name x pos) (tC v):=
 λ_ _ _ H _ I h=>rp I hg hm (v,H,I,r,h) hd
def rq{x:Str}{v:V}{u:Value}{pos:Pos}(hg:Gl X x)(hm:X.mg x=none)(hv:bootBuiltins x=some u)(r:aV v u)(hn:⇑(x≠"__name__"))(hd:⇑((x==("__debug__":Str))=false)):PE X (.Name x pos) (tC v):=
 λ_ _ _ H _ I h=>kK I hg hm hv (v,H,I,r,h) hn hd
variable{a b:Expr}{ta tb:TE}{pos:Pos}
def PC(X:Cx)(op:CmpOp)(a b:Expr)(t:TE):Prop:=
 ∀(a9:Tl) (s:Shared) (Z:St) (H:Hp) (Q:VK),Inv X a9 Z H s->t Z H Q->
  wpAny (model X.prog X.w) X.A (eval a X.env) (λv Rk=>wpAny (model X.prog X.w) X.A (eval b X.env) (λu Rn=>wpAny (model X.prog X.w) X.A (compareOp op v u) (EP X a9 Z Q) X.xe Rn) X.xe Rk) X.xe s
def BI(b:Expr){op:CmpOp}(h:op≠ .In)(h2:op≠ .NotIn):behindInMarks op b=false:=by
 let e1:(op==CmpOp.In)=false:=⋯
 let e2:(op==CmpOp.NotIn)=false:=⋯
 cases b<;>simp[behindInMarks,e1,e2]
def BJ(ta:TE):TE:=λZ H Q=>ta Z H λx H1=>Q (.bl (decide (x=.non))) H1
def BK(ta:TE):TE:=λZ H Q=>ta Z H λx H1=>Q (.bl (!decide (x=.non))) H1
def aV.none_iff{x:V}{v:Value}(r:aV x v):(v==Value.none)=decide (x=.non):=by
 cases x with
 |non=>cases r;rfl
 |bl _=>cases r;rfl
 |int _=>obtain⟨t,rfl⟩:=r;rfl
 |str _=>obtain⟨t,rfl⟩:=r;rfl
 |byt _=>obtain⟨t,rfl⟩:=r;rfl
 |flt _=>obtain⟨t,rfl⟩:=r;rfl
 |ref _=>cases r;rfl
 |ty _=>cases r;rfl
def BL{j Rv}(ha:PE X a ta):PC X .Is a (.Constant .none j Rv) (BJ ta):=by
 ext a9 s Z H Q I h;show aI (ha a9 s Z H _ I h) λv s1 (x,H1,I1,r1,q1)=>?_;show Constant_none (is_none_gen (.bl _,H1,I1,by rw[r1.none_iff];rfl,q1))
def BM{j Rv}(ha:PE X a ta):PC X .IsNot a (.Constant .none j Rv) (BK ta):=by
 ext a9 s Z H Q I h;show aI (ha a9 s Z H _ I h) λv s1 (x,H1,I1,r1,q1)=>?_;show Constant_none (isnot_none_gen (.bl _,H1,I1,by rw[r1.none_iff];rfl,q1))
def tB(t:TE):TT:=λZ H Q=>t Z H λx H1=>∃c,x=.bl c/\Q c H1
def uP{op:CmpOp}{t:TE}(h:PC X op a b t)(h1:behindInMarks op b=false:=by first|exact BI _ (by decide) (by decide)|rfl):PE X (.Compare a [op] [b] pos) t:=λa9 s Z H Q I hw=>wpAny_Compare1 (h a9 s Z H Q I hw) h1
def iS{op:CmpOp}{t:TE}(h:PC X op a b t)(h1:behindInMarks op b=false:=by first|exact BI _ (by decide) (by decide)|rfl):PT X (.Compare a [op] [b] pos) (tB t):=by
 ext a9 s Z H Q I hw;show wpAny_isTrue_Compare1 (aI (h a9 s Z H _ I hw) λv s1 h1=>aI h1 λu s2 h2=>aI h2 λc s3 (x,H1,I1,r1,q1)=>?_) h1;let(d,rfl,q):=q1;cases r1;show kA (H1,I1,q)
def eh{e:Expr}{t:TE}(h:PE X e t)(he:∀TJ,isTrue e X.env TJ=(do let v<-TJ;standAt e.pos;holding [v] (truthy v)):=by intro _;rfl):PT X e (tB t):=by
 ext a9 s Z H Q I hw;show isTrue_plain (aI (h a9 s Z H _ I hw) λv s1 (x,H1,I1,r1,q1)=>?_) (he _);let(d,rfl,q):=q1;cases r1;show kA (H1,I1,q)
variable{tA YJ:TT}{rest:List Expr}
def BN(t u:TT):TT:=λZ H Q=>t Z H λc H1=>if c=true then u Z H1 Q else Q false H1
def BO(t u:TT):TT:=λZ H Q=>t Z H λc H1=>if c=true then Q true H1 else u Z H1 Q
def BP(t:TT):TT:=λZ H Q=>t Z H λc H1=>Q (!c) H1
def kL(ha:PT X a tA):PW X (.BoolOp .And [a] pos) tA:=by
 ext wh a9 s Z H Q I h;show isTrue_and (aI (ha a9 s Z H Q I h) λc s1 e=>?_)
 cases c with
 |true=>show isTrue_and_nil e
 |false=>show e
def iT(ha:PT X a tA):PW X (.BoolOp .Or [a] pos) tA:=by
 ext wh a9 s Z H Q I h;show isTrue_or (aI (ha a9 s Z H Q I h) λc s1 e=>?_)
 cases c with
 |false=>show isTrue_or_nil e
 |true=>show e
def jb(ha:PT X a tA)(hb:PW X (.BoolOp .And (b::rest) pos) YJ):PW X (.BoolOp .And (a::b::rest) pos) (BN tA YJ):=by
 ext wh a9 s Z H Q I h;show isTrue_and (aI (ha a9 s Z H _ I h) λc s1 (H1,I1,q1)=>?_)
 cases c with
 |true=>show hb wh a9 s1 Z H1 Q I1 q1
 |false=>show(H1,I1,q1)
def hU(ha:PT X a tA)(hb:PW X (.BoolOp .Or (b::rest) pos) YJ):PW X (.BoolOp .Or (a::b::rest) pos) (BO tA YJ):=by
 ext wh a9 s Z H Q I h;show isTrue_or (aI (ha a9 s Z H _ I h) λc s1 (H1,I1,q1)=>?_)
 cases c with
 |true=>show(H1,I1,q1)
 |false=>show hb wh a9 s1 Z H1 Q I1 q1
def fu(ha:PT X a tA):PT X (.UnaryOp .Not a pos) (BP tA):=by
 ext a9 s Z H Q I h;show isTrue_not (ha a9 s Z H (λc H1=>Q (!c) H1) I h)
def BQ(ta tb:TE):TE:=λZ H Q=>ta Z H λx H1=>∃c,x=.bl c/\if c=true then tb Z H1 Q else Q (.bl false) H1
def BR(ta tb:TE):TE:=λZ H Q=>ta Z H λx H1=>∃c,x=.bl c/\if c=true then Q (.bl true) H1 else tb Z H1 Q
def BS(ta:TE):TE:=λZ H Q=>ta Z H λx H1=>∃c,x=.bl c/\Q (.bl (!c)) H1
def iq{op}{t:TE}(h:PE X a t):PE X (.BoolOp op [a] pos) t:=λa9 s Z H Q I hw=>BoolOp_one (h a9 s Z H Q I hw)
def gw(ha:PE X a ta)(hb:PE X (.BoolOp .And (b::rest) pos) tb):PE X (.BoolOp .And (a::b::rest) pos) (BQ ta tb):=by
 ext a9 s Z H Q I h;show BoolOp_and (aI (ha a9 s Z H _ I h) λv s1 (x,H1,I1,r1,q1)=>?_);let(c,rfl,q1):=q1;cases r1;erw[kA]
 cases c with
 |true=>show hb a9 s1 Z H1 Q I1 q1
 |false=>show(.bl false,H1,I1,rfl,q1)
def GV(ha:PE X a ta)(hb:PE X (.BoolOp .Or (b::rest) pos) tb):PE X (.BoolOp .Or (a::b::rest) pos) (BR ta tb):=by
 ext a9 s Z H Q I h;show BoolOp_or (aI (ha a9 s Z H _ I h) λv s1 (x,H1,I1,r1,q1)=>?_);let(c,rfl,q1):=q1;cases r1;erw[kA]
 cases c with
 |false=>show hb a9 s1 Z H1 Q I1 q1
 |true=>show(.bl true,H1,I1,rfl,q1)
def BU(ha:PE X a ta):PE X (.UnaryOp .Not a pos) (BS ta):=by
 ext a9 s Z H Q I h;show UnaryOp_ (aI (ha a9 s Z H _ I h) λv s1 (x,H1,I1,r1,q1)=>?_);let(c,rfl,q1):=q1;cases r1;show not_of (kA (.bl (!c),H1,I1,rfl,q1))
def BV(t:TT)(ta tb:TE):TE:=λZ H Q=>t Z H λc H1=>if c=true then ta Z H1 Q else tb Z H1 Q
def BW{c:Expr}(hc:PT X c tA)(ha:PE X a ta)(hb:PE X b tb):PE X (.IfExp c a b pos) (BV tA ta tb):=by
 ext a9 s Z H Q I h;show wpAny_IfExp (aI (hc a9 s Z H _ I h) λd s1 (H1,I1,q1)=>?_)
 cases d with
 |true=>show ha a9 s1 Z H1 Q I1 q1
 |false=>show hb a9 s1 Z H1 Q I1 q1
end
def ah(K:W.Frag)(H:Hp)(a:Addr)(xs:LT):Prop:=
 Rd H a (.lst xs)\/
  ∃(o:Obj) (av:Array Value) (n:Nat),K.lookup a=some o/\o.cls=.type "list"/\o.dict=none/\o.data=.seq av n/\av.size<=sizeLine/\a_ xs av.toList
def az(K:W.Frag)(H:Hp)(a:Addr)(xs:LT):Prop:=
 Rd H a (.tup xs)\/
  ∃(o:Obj) (av:Array Value) (n:Nat),K.lookup a=some o/\o.cls=.type "tuple"/\o.data=.seq av n/\av.size<=sizeLine/\a_ xs av.toList
noncomputable def GW:Value->Option V
 |.none=>some .non
 |.bool b=>some (.bl b)
 |.int i _=>some (.int i)
 |.str x _=>some (.str x)
 |.bytes b _=>some (.byt b)
 |.float b _=>some (.flt b)
 |.ref a=>some (.ref a)
 |.type n=>some (.ty n)
 |_=>none
def aV.abs{x:V}{u:Value}(r:aV x u):GW u=some x:=by
 cases x with
 |non=>cases r;rfl
 |bl _=>cases r;rfl
 |int _=>obtain⟨t,rfl⟩:=r;rfl
 |str _=>obtain⟨t,rfl⟩:=r;rfl
 |byt _=>obtain⟨t,rfl⟩:=r;rfl
 |flt _=>obtain⟨t,rfl⟩:=r;rfl
 |ref _=>cases r;rfl
 |ty _=>cases r;rfl
def aV.inj{x y:V}{u:Value}(r:aV x u)(q:aV y u):x=y:=cH (r.abs.symm.trans q.abs)
theorem a_.inj:∀{xs ys:LT} {us:T0},a_ xs us->a_ ys us->xs=ys
 |_,_,_,.nil,.nil=>rfl
 |_,_,_,.cons r t,.cons r' t'=>by rw[r.inj r',a_.inj t t']
section
variable{X:Cx}{a9:Tl}{Z:St}{H:Hp}{s:Shared}{a:Addr}{xs ys:LT}
def ah.of{K:W.Frag}(h:H a=some (.lst xs)):ah K H a xs:=.inl (.inl h)
def az.of{K:W.Frag}(h:H a=some (.tup xs)):az K H a xs:=.inl (.inl h)
def Inv.list(I:Inv X a9 Z H s)(h:ah X.K H a xs):∃av:T0,a_ xs av/\PlainL s.heap a av.toArray/\xs.length<=sizeLine:=by
 rcases h with h|⟨o,av,n,hk,hc,hd,hs,hz,r⟩
 .let(z,av,n,r,e):=h.ok I.hok;show(av,r,(_,n,e,rfl,rfl,rfl),z)
 .show(av.toList,r,(o,n,I.kIn a o hk,hc,hd,by simpa using hs),?_);let e:=r.length
  grind
def Inv.tuple(I:Inv X a9 Z H s)(h:az X.K H a xs):∃av:T0,a_ xs av/\IsTup s.heap a av.toArray/\xs.length<=sizeLine:=by
 rcases h with h|⟨o,av,n,hk,hc,hs,hz,r⟩
 .let(z,av,r,p):=h.ok I.hok
  grind
 .show(av.toList,r,(o,I.kIn a o hk,hc,n,by simpa using hs),?_);let e:=r.length
  grind
def Inv.list_inj(I:Inv X a9 Z H s)(h:ah X.K H a xs)(h':ah X.K H a ys):xs=ys:=by
 let(av,r,(o,n,e,_,_,d),_):=I.list h;let(its',r',(o',n',e',_,_,d'),_):=I.list h';rw[e]at e';cases e';rw[d]at d';injection d' with d1 _
 have:av=its':=⋯
 subst this;show r.inj r'
def Inv.tuple_inj(I:Inv X a9 Z H s)(h:az X.K H a xs)(h':az X.K H a ys):xs=ys:=by
 let(av,r,(o,e,_,n,d),_):=I.tuple h;let(its',r',(o',e',_,n',d'),_):=I.tuple h';rw[e]at e';cases e';rw[d]at d';injection d' with d1 _
 have:av=its':=⋯
 subst this;show r.inj r'
end
abbrev Cx.wish(X:Cx)(E:Value->Shared->Prop):Cx:={X with xe:=E}
abbrev Cx.nox(X:Cx):Cx:=X.wish λ_ _=>False
def Cx.Ok.wish{X:Cx}(ok:X.Ok)(E:Value->Shared->Prop):(X.wish E).Ok:=
 (ok.mod,ok.kind,ok.glob,ok.blt,ok.above,ok.inj,ok.has,ok.cab,ok.hd,ok.frames,ok.stk,ok.exf,ok.bs,ok.bsz,ok.noex,ok.exfs,ok.funs,ok.frf)
def Cx.Ok.unwish{X:Cx}{E:Value->Shared->Prop}(ok:(X.wish E).Ok):X.Ok:=
 (ok.mod,ok.kind,ok.glob,ok.blt,ok.above,ok.inj,ok.has,ok.cab,ok.hd,ok.frames,ok.stk,ok.exf,ok.bs,ok.bsz,ok.noex,ok.exfs,ok.funs,ok.frf)
section
variable{X:Cx}{a9:Tl}{Z:St}{H:Hp}{s:Shared}{E:Value->Shared->Prop}
def Inv.wish(I:Inv X a9 Z H s)(E:Value->Shared->Prop):Inv (X.wish E) a9 Z H s:=(I.ok.wish E,I.os,I.bare,I.base,I.loc,I.cell,I.free,I.freeC,I.pin,I.hok,I.len)
def Inv.unwish(I:Inv (X.wish E) a9 Z H s):Inv X a9 Z H s:=(I.ok.unwish,I.os,I.bare,I.base,I.loc,I.cell,I.free,I.freeC,I.pin,I.hok,I.len)
def SP.unwish{D:gu}{f:Flow}{s':Shared}(h:SP (X.wish E) a9 D f s'):SP X a9 D f s':=by
 cases f with
 |next=>obtain⟨Z',H',I,q⟩:=h;show(Z',H',I.unwish,q)
 |brk=>obtain⟨Z',H',I,q⟩:=h;show(Z',H',I.unwish,q)
 |cont=>obtain⟨Z',H',I,q⟩:=h;show(Z',H',I.unwish,q)
 |ret u=>obtain⟨v,Z',H',I,r,q⟩:=h;show(v,Z',H',I.unwish,r,q)
def gv.nox{st:List Stmt}{t:TS}(h:gv X.nox st t):gv X st t:=λa9 s Z H D I hw=>
 cR (h a9 s Z H D (I.wish _) hw) (λ_ _ q=>q.unwish) λ_ _ z=>False.elim z
end
section
variable{X:Cx}{st:Stmt}{rest:List Stmt}{t u:TS}{e:Expr}{te:TE}{pos:Pos}
def BX:TS:=λD Z H=>D.nx Z H
def BY(t u:TS):TS:=λD Z H=>t {D with nx:=u D} Z H
def bD:gv X [] BX:=λ_ _ Z H _ I h=>Ay (Z,H,I,h)
def aG(h1:PS X st t)(h2:gv X rest u):gv X (st::rest) (BY t u):=by
 ext a9 s Z H D I h;show wpAny_execs_cons (aI (h1 a9 s Z H {D with nx:=u D} I h) λf s1 q=>?_)
 cases f with
 |next=>
  let(Z',H',I',q):=q;show h2 a9 s1 Z' H' D I' q
 |ret v=>show q
 |brk=>show q
 |cont=>show q
def aA(h1:PS X st t):gv X [st] t:=by
 ext a9 s Z H D I h;show wpAny_execs_cons (aI (h1 a9 s Z H D I h) λf s1 q=>?_)
 cases f with
 |next=>show Ay q
 |ret v=>show q
 |brk=>show q
 |cont=>show q
def Inv.quiet{a9:Tl}{Z:St}{H:Hp}{s:Shared}(I:Inv X a9 Z H s):interactive X.env=false:=by simp[interactive,I.ok.kind]
def BZ(te:TE):TS:=λD Z H=>te Z H λ_ H1=>D.nx Z H1
def eB(he:PE X e te)(hs:↥(swapsWith e none pos.line X.env=pure false)):PS X (.Expr e pos) (BZ te):=by
 ext a9 s Z H D I h;show wpAny_Expr_any (aI (he a9 s Z H _ I h) λv s1 (x,H1,I1,r1,q1)=>(Z,H1,I1,q1)) I.quiet hs
def B_(te:TE):TS:=λD Z H=>te Z H D.rt
def aQ(he:PE X e te):PS X (.Return (some e) pos) (B_ te):=by
 ext a9 s Z H D I h;show wpAny_Return_some (aI (he a9 s Z H _ I h) λv s1 (x,H1,I1,r1,q1)=>(x,Z,H1,I1,r1,q1))
def C0(c:TT)(t u:TS):TS:=λD Z H=>c Z H λb H1=>if b=true then t D Z H1 else u D Z H1
def bx{c:Expr}{a b:List Stmt}{tc:TT}(hc:PT X c tc)(ha:gv X a t)(hb:gv X b u):PS X (.If c a b pos) (C0 tc t u):=by
 ext a9 s Z H D I h;show wpAny_If (aI (hc a9 s Z H _ I h) λd s1 (H1,I1,q1)=>?_)
 cases d with
 |true=>show ha a9 s1 Z H1 D I1 q1
 |false=>show hb a9 s1 Z H1 D I1 q1
end
abbrev TG:=V->St->Hp->(St->Hp->Prop)->Prop
abbrev jc:=LT->St->Hp->(St->Hp->Prop)->Prop
def PG(X:Cx)(V':Expr)(t:TG):Prop:=
 ∀(a9:Tl) (s:Shared) (Z:St) (H:Hp) (v:V) (u:Value) (Q:St->Hp->Prop),Inv X a9 Z H s->aV v u->t v Z H Q->
  wpAny (model X.prog X.w) X.A (assign V' X.env u) (λ_ s'=>∃Z' H',Inv X a9 Z' H' s'/\Q Z' H') X.xe s
def oM(X:Cx)(ts:List Expr)(t:jc):Prop:=
 ∀(a9:Tl) (s:Shared) (Z:St) (H:Hp) (vs:LT) (us:T0) (Q:St->Hp->Prop),Inv X a9 Z H s->a_ vs us->t vs Z H Q->
  wpAny (model X.prog X.w) X.A (assignInOrder ((assignEach ts X.env).map (·.2)) us) (λ_ s'=>∃Z' H',Inv X a9 Z' H' s'/\Q Z' H') X.xe s
abbrev rA:=V->V->V->Hp->(Hp->Prop)->Prop
def C1(X:Cx)(t:rA):Prop:=
 ∀(a9:Tl) (s:Shared) (Z:St) (H:Hp) (o i v:V) (ov iv u:Value) (Q:Hp->Prop),Inv X a9 Z H s->aV o ov->aV i iv->aV v u->t o i v H Q->
  wpAny (model X.prog X.w) X.A (setItem ov iv u) (λ_ s'=>∃H',Inv X a9 Z H' s'/\Q H') X.xe s
abbrev oN:=V->V->Hp->VK->Prop
def C2(X:Cx)(op:Operator)(t:oN):Prop:=
 ∀(a9:Tl) (s:Shared) (Z:St) (H:Hp) (x y:V) (v u:Value) (Q:VK),Inv X a9 Z H s->aV x v->aV y u->t x y H Q->
  wpAny (model X.prog X.w) X.A (inplaceOp op v u) (EP X a9 Z Q) X.xe s
section
variable{X:Cx}{pos:Pos}
def dB(i:Nat):TG:=λv Z H Q=>Q (Z.set i (some v)) H
def GX{i:Nat}{x:Str}(hN:X.N.Nodup)(hi:X.N[i]?=some x)(hx:lV X.env.scope x)(hf:X.fn x=true\/X.env.scope.names.lookup x=some .local :=by first|exact .inl rfl|exact .inr rfl|assumption):PG X (.Name x pos) (dB i):=by
 ext a9 s Z H v u Q I r h;show wpAny_assign_Name (oK I hN hi hx r (λs' I'=>(_,H,I',h)) hf)
noncomputable def oO:jc:=λvs Z H Q=>vs=[]/\Q Z H
noncomputable def kM(t:TG)(u:jc):jc:=λvs Z H Q=>∃v r,vs=v::r/\t v Z H λZ' H'=>u r Z' H' Q
def fE:oM X [] oO:=by
 ext a9 s Z H vs us Q I r h;let(e,h):=h;subst e;cases r;show assignInOrder_nil (Z,H,I,h)
def c9{e:Expr}{es:List Expr}{t:TG}{u:jc}(h1:PG X e t)(h2:oM X es u)
  (hs:↥((assignEach (e::es) X.env).map (·.2)=assign e X.env::(assignEach es X.env).map (·.2))):oM X (e::es) (kM t u):=by
 ext a9 s Z H vs us Q I r h;let(v,vr,e1,h):=h;subst e1
 cases r with
 |cons r rr=>
  rw[hs];show GA (aI (h1 a9 s Z H _ _ _ I r h) λ_ s1 (Z1,H1,I1,q1)=>?_);show h2 a9 s1 Z1 H1 _ _ Q I1 rr q1
def mM(K:W.Frag)(n:Nat)(t:jc):TG:=λv Z H Q=>∃a xs,v=.ref a/\az K H a xs/\xs.length=n/\t xs Z H Q
def GY{es:List Expr}{k:Nat}{t:jc}{n:Nat}(hc:X.calm=true)(h:oM X es t)
  (hn:↥((assignEach es X.env).length=n)) (hst:↥((assignEach es X.env).findIdx? (·.1)=none)):PG X (.Tuple es k pos) (mM X.K n t):=by
 ext a9 s Z H v u Q I r hw;let(a,xs,e1,hq,hl,hw):=hw;subst e1;cases r;let(av,rv,ht,hz):=I.tuple hq;show assign_Tuple_tuple (I.ok.hd hc) ht (by simp[hn,<-hl,rv.length]) hst λh' hx=>?_;let I1:Inv X a9 Z H {s with heap:=h'}:=I.kept (t':=s.toks) λb o e=>hx b o (bW (bw e)) e;show h a9 _ Z H xs _ Q I1 () hw
def C3(to ti:TE)(t:rA):TG:=λv Z H Q=>to Z H λo H1=>ti Z H1 λi H2=>t o i v H2 λH3=>Q Z H3
def mN{o i:Expr}{to ti:TE}{t:rA}(ho:PE X o to)(hi:PE X i ti)(hs:C1 X t)
  (ha:∀v,assign (.Subscript o i pos) X.env v=(do
   let ov<-holding [v] (eval o X.env)
   let iv<-holding [v,ov] (eval i X.env)
   standAt pos
   holding [v,ov,iv] (setItem ov iv v)
   release [v,ov,iv] []):=by intro _;rfl):PG X (.Subscript o i pos) (C3 to ti t):=by
 ext a9 s Z H v u Q I r h;rw[ha];show ae (dA (aI (ho a9 s Z H _ I h) λov s1 (x,H1,I1,r1,q1)=>?_));show ae (dA (aI (hi a9 s1 Z H1 _ I1 q1) λiv s2 (y,H2,I2,r2,q2)=>?_));show ae (lR (ae (dA (aI (hs a9 s2 Z H2 x y v ov iv u _ I2 r1 r2 r q2) λ_ s3 (H3,I3,q3)=>?_))));show wpAny_release (Z,H3,I3,q3)
def kN(te:TE)(g:TG):TS:=λD Z H=>te Z H λx H1=>g x Z H1 D.nx
def kO{tg e:Expr}{te:TE}{g:TG}(he:PE X e te)(hg:PG X tg g)(hs:↥(swapsWithSole [tg] e pos.line X.env=pure false))(hw:↥(swappedStores [tg] e X.env=pure none))
  (h1:↥((assignEach [tg] X.env).map (·.2)=[assign tg X.env])):PS X (.Assign [tg] e pos) (kN te g):=by
 ext a9 s Z H D I h;show wpAny_Assign_stores (aI (he a9 s Z H _ I h) λv s1 (x,H1,I1,r1,q1)=>?_) hs hw;rw[h1];show aI (hg a9 s1 Z H1 x v _ I1 r1 q1) λ_ s2 q=>q
def C4{i:Nat}{x:Str}{e:Expr}{te:TE}{Rv:Pos}(hN:X.N.Nodup)(hi:X.N[i]?=some x)(hx:lV X.env.scope x)(he:PE X e te)(hs:↥(swapsWith e (some (.Name x Rv)) pos.line X.env=pure false))(hf:X.fn x=true\/X.env.scope.names.lookup x=some .local :=by first|exact .inl rfl|exact .inr rfl|assumption):
  PS X (.Assign [.Name x Rv] e pos) (kN te (dB i)):=by
 ext a9 s Z H D I h;show wpAny_Assign_Name (aI (he a9 s Z H _ I h) λv s1 (y,H1,I1,r1,q1)=>?_) hs;show oK I1 hN hi hx r1 (λs2 I2=>(_,H1,I2,q1)) hf
def C5(i j:Nat)(ta:TA):TS:=λD Z H=>ta Z H λvs H1=>∃v w,vs=[v,w]/\D.nx ((Z.set i (some v)).set j (some w)) H1
def GZ{i j:Nat}{x y:Str}{a b:Expr}{ta:TA}{px py pt:Pos}{kt k2 pt2}(hc:X.calm=true)(hN:X.N.Nodup)(hi:X.N[i]?=some x)(hj:X.N[j]?=some y)(hij:i≠j)
  (hx:X.env.scope.names.lookup x=some .local) (hy:X.env.scope.names.lookup y=some .local) (ha:PA X [a,b] ta)
  (hw:swappedStores [.Tuple [.Name x px,.Name y py] kt pt] (.Tuple [a,b] k2 pt2) X.env=pure (some [x,y]))
  (hs:↥(swapsWithSole [.Tuple [.Name x px,.Name y py] kt pt] (.Tuple [a,b] k2 pt2) pos.line X.env=pure false)):
  PS X (.Assign [.Tuple [.Name x px,.Name y py] kt pt] (.Tuple [a,b] k2 pt2) pos) (C5 i j ta):=by
 ext a9 s Z H D I h;rw[exec_Assign_arm];show ae (lR ?_);rw[hs];show ae (aw ?_);rw[aO (by decide)];show ae (Tuple_ (aI (ha _ a9 s Z H _ I h) λus s1 (vs,H1,I1,r1,q1)=>?_));let(v,w,e1,q1):=q1;subst e1
 obtain⟨u1,u2,rfl,rv,RM⟩:∃u1 u2,us=[u1,u2]/\aV v u1/\aV w u2:=by
  cases r1 with
  |cons p q=>
   cases q with
   |cons p' q'=>
    cases q'
    grind
 show ik ?_ (by change 2<=sizeLine;decide);let I2:Inv X a9 Z H1 {s1 with heap:=s1.heap.push {cls:=.type "tuple",data:=.seq [u1,u2].toArray}}:=I1.kept (t':=s1.toks) λb o e=>aR _ e;rw[hw];show ae (aw ?_)
 change wpAny (model X.prog X.w) X.A (do rule "assign.swapped-stores";let items<-unpackItems (.ref s1.heap.objs.size) 2 none;assignInOrder [λv=>bindName X.env y v,λv=>bindName X.env x v] items.reverse;pure Flow.next) _ _ _
 show ae (ip (ae (unpackItems_tuple (items:= #[u1,u2]) (I.ok.hd hc) (IsTup.new s1.heap _) λh' VI=>?_)));let I3:=I2.kept (h':=h') (t':=s1.toks) λb o e=>VI b o (bW (bw e)) e
 change wpAny _ _ (assignInOrder [λv=>bindName X.env y v,λv=>bindName X.env x v] [u2,u1] >>=λ_=>pure Flow.next) _ _ _
 show ae (GA (wpAny_bindName (oK I3 hN hj (.inl hy) RM (λs2 I4=>?_) (.inr hy))));show GA (wpAny_bindName (oK I4 hN hi (.inl hx) rv (λs3 I5=>assignInOrder_nil (aw ?_)) (.inr hx)));rw[List.set_comm _ _ (Ne.symm hij)]at I5;show(_,H1,I5,q1)
def C6(i:Nat)(te:TE)(ti:oN):TS:=λD Z H=>∃x,Z[i]?=some (some x)/\te Z H λy H1=>ti x y H1 λz H2=>D.nx (Z.set i (some z)) H2
def G_{i:Nat}{x:Str}{e:Expr}{te:TE}{op:Operator}{ti:oN}{Rv:Pos}(hN:X.N.Nodup)(hi:X.N[i]?=some x)(hx:lV X.env.scope x)(he:PE X e te)(ho:C2 X op ti)(hf:X.fn x=true\/X.env.scope.names.lookup x=some .local :=by first|exact .inl rfl|exact .inr rfl|assumption):
  PS X (.AugAssign (.Name x Rv) op e pos) (C6 i te ti):=by
 ext a9 s Z H D I h;let(v,e1,h):=h;let(m,hn,hl):=I.loc
 let vis:rm X.env.scope x:=by rcases hx with k|k;show .inl k;show .inr (.inl k)
 let(u,r,l):=hl i x v hi e1 vis;erw[wpAny_AugAssign_Name]
 let go:wpAny (model X.prog X.w) X.A (eval e X.env) (λw Rn=>wpAny (model X.prog X.w) X.A (inplaceOp op u w) (λr RJ=>wpAny (model X.prog X.w) X.A (storeName X.env x r) (λ_=>SP X a9 D .next) X.xe RJ) X.xe Rn) X.xe s:=by
  show aI (he a9 s Z H _ I h) λw s1 (y,H1,I1,r1,q1)=>?_;show aI (ho a9 s1 Z H1 v y u w _ I1 r r1 q1) λz s2 (zv,H2,I2,r2,q2)=>?_;show oK I2 hN hi hx r2 (λs3 I3=>(_,H2,I3,q2)) hf
 rcases l with⟨hk,hm⟩|⟨hk,c,hc,hcell⟩
 .show wpAny_loadName_local I.ok.kind hk hn hm go
 .rcases hk with hk|hk
  .show wpAny_loadName_cell I.ok.kind hk hc hcell go
  .rcases hx with k|k
   .have:X.env.scope.names.lookup x=some .free:=hk
    grind
   .have:X.env.scope.names.lookup x=some .free:=hk
    grind
noncomputable def C7(f:Int->Int->Int):oN:=λx y H Q=>∃i j,x=.int i/\y=.int j/\Q (.int (f i j)) H
def Hb:C2 X .Add (C7 λi j=>i+j):=by
 ext a9 s Z H x y v u Q I r1 r2 h;let(i,j,e1,e2,q):=h;subst e1;subst e2;let(t,rfl):=r1;let(t',rfl):=r2;show iadd_int (.int _,H,I.tok _,(_,rfl),q)
end
section
variable{X:Cx}{pos:Pos}
def C8(c:TT)(tb:TS):TS:=λD Z H=>∃W:Nat->St->Hp->Prop,(∃m,W m Z H)/\∀m Z H,W m Z H->
 c Z H λb H1=>if b=true then ∃N:St->Hp->Prop,(∀Z' H',N Z' H'->∃m',m'<m/\W m' Z' H')/\tb {D with nx:=N,ct:=N,bk:=D.nx} Z H1 else D.nx Z H1
def Hc{c:Expr}{body:List Stmt}{tc:TT}{tb:TS}(hp:PassesOwn (model X.prog X.w) X.A X.env X.xe)(hc:PT X c tc)(hb:gv X body tb):PS X (.While c body [] pos) (C8 tc tb):=by
 ext a9 s Z H D I h;let(W,(m0,w0),turn):=h;show wpAny_While (codeAny_whileLoop (λn s'=>∃Z' H',Inv X a9 Z' H' s'/\W n Z' H') ?_ m0 (Z,H,I,w0));ext n s1 ⟨Z1,H1,I1,w1⟩;show oo hp (aI (hc a9 s1 Z1 H1 _ I1 (turn n Z1 H1 w1)) λb s2 (H2,I2,q2)=>?_)
 cases b with
 |true=>
  let(N,hN,q2):=q2;rw[bf rfl];show oo hp (aI (hb a9 s2 Z1 H2 _ I2 q2) λf s3 q3=>?_)
  cases f with
  |next=>
   let(Z3,H3,I3,n3):=q3;let(m',hm,w3):=hN Z3 H3 n3;show(m',hm,Z3,H3,I3,w3)
  |cont=>
   let(Z3,H3,I3,n3):=q3;let(m',hm,w3):=hN Z3 H3 n3;show(m',hm,Z3,H3,I3,w3)
  |brk=>show q3
  |ret v=>show q3
 |false=>
  rw[aO cN];show Ay (Z1,H2,I2,q2)
end
set_option genInjectivity false in
structure It where
 go:Nat->Hp->Prop
 yld:Nat->Hp->V->Hp->Prop
 stop:Nat->Hp->Prop
def cC(X:Cx)(a9:Tl)(H:Hp)(b:Addr):Prop:=
 H b=none/\b≠X.env.locals/\b∉X.fs/\(b∈X.ex\/X.s₀.heap.objs.size<=b)/\(∀x c,X.env.cells.lookup x=some c->c≠b)/\∀p∈X.pn++a9,p.1≠b
def Inv.fpOk{X:Cx}{a9:Tl}{Z:St}{H H':Hp}{s:Shared}{b:Addr}(I:Inv X a9 Z H s)(hb:s.heap.objs.size<=b)(hn:H' b=none):cC X a9 H' b:=by
 show(hn,fY (cM I.lt hb),I.nofs hb,.inr (cf I.sz hb),λx c e z=>?_,λp hp z=>?_)
 .let(v,q):=I.cell x c e;show absurd (cM q.lt ⋯) (mK _)
 .show absurd (cM (bw (I.pin p hp).1) ⋯) (mK _)
structure ir(P:Program)(w:World)(K:W.Frag)(tg:Expr)(J:It)(fp:Tk)(it:Addr)(tn:Nat->Heap->Prop):Prop where
 mem:it∈fp
 obj:∀i h,tn i h->∀b∈fp,∃o,h.get? b=some o/\∀v,o.data≠ .cell v
 keep:∀i h h',tn i h->(∀b∈fp,∀o,h.get? b=some o->h'.get? b=some o)->tn i h'
 item:∀(X:Cx),X.prog=P->X.w=w->X.K=K->X.calm=true->∀(i:Nat) (a9:Tl) (s:Shared) (Z:St) (H:Hp) (E:Value->Shared->Prop),Inv X a9 Z H s->(∀b∈fp,cC X a9 H b)->tn i s.heap->J.go i H->
  wpAny (model P w) X.A (pyNext (.ref it)) (λr s1=>∃u,r=some u/\
   wpAny (model P w) X.A (letOwnedTupleGo tg (.ref it) u) (λ_ s2=>∃x H',Inv X a9 Z H' s2/\aV x u/\J.yld i H x H'/\tn (i+1) s2.heap/\∀b∈fp,H' b=none) E s1) E s
 done:∀(X:Cx),X.prog=P->X.w=w->X.K=K->X.calm=true->∀(i:Nat) (a9:Tl) (s:Shared) (Z:St) (H:Hp) (E:Value->Shared->Prop),Inv X a9 Z H s->(∀b∈fp,cC X a9 H b)->tn i s.heap->J.stop i H->
  wpAny (model P w) X.A (pyNext (.ref it)) (λr s1=>r=none/\Inv X a9 Z H s1) E s
 self:∀(A:Around) (i:Nat) (s:Shared) (Q:Value->Shared->Prop) (E:Value->Shared->Prop),tn i s.heap->Q (.ref it) s->wpAny (model P w) A (pyIter (.ref it)) Q E s
abbrev TI:=St->Hp->(It->Hp->Prop)->Prop
def C9(X:Cx)(a9:Tl)(Z:St)(tg:Expr)(R:It->Hp->Prop)(XN:Value)(s2:Shared):Prop:=
 ∃(it:Addr) (fp:Tk) (tn:Nat->Heap->Prop) (J:It) (H':Hp),XN=.ref it/\Inv X a9 Z H' s2/\ir X.prog X.w X.K tg J fp it tn/\tn 0 s2.heap/\(∀b∈fp,cC X a9 H' b)/\R J H'
def PI(X:Cx)(tg iter:Expr)(wi:TI):Prop:=
 ∀(a9:Tl) (s:Shared) (Z:St) (H:Hp) (R:It->Hp->Prop),Inv X a9 Z H s->wi Z H R->
  wpAny (model X.prog X.w) X.A (eval iter X.env) (λv s1=>wpAny (model X.prog X.w) X.A (pyIter v) (C9 X a9 Z tg R) X.xe s1) X.xe s
def rB{M:Model}{A:Around}{E:Value->Shared->Prop}{s:Shared}{tg:Expr}{it:Addr}{u:Value}{o:Obj}{n:String}{vs:Array Value}{Q:Unit->Shared->Prop}(ho:s.heap.get? it=some o)(hc:o.cls=.type n)(hd:o.data=.fields vs)
  (hn:["enumerate","zip","dict_itemiterator","dict_reverseitemiterator","odict_iterator","itertools.zip_longest","itertools.pairwise"].contains n=false) (hQ:Q ⟨⟩ s):wpAny M A (letOwnedTupleGo tg (.ref it) u) Q E s:=by
 unfold letOwnedTupleGo
 cases tg<;>first
  |show aw hQ
  |(cases u<;>first
    |show aw hQ
    |(show ae (wpAny_load ho ?_)
      rw[hc,hd]
      change wpAny M A (if(["enumerate","zip","dict_itemiterator","dict_reverseitemiterator","odict_iterator","itertools.zip_longest","itertools.pairwise"].contains n && vs[0]?==some (rawInt _))=true then _ else _) Q E s
      rw[aO ⋯]
      show aw hQ))
noncomputable def rC(K:W.Frag)(a:Addr):It:=
 (λi H=>∃xs x,ah K H a xs/\xs[i]?=some x,λi H x H'=>H'=H/\∀xs,ah K H a xs->xs[i]?=some x,λi H=>∃xs,ah K H a xs/\xs.length<=i)
noncomputable def jM(K:W.Frag)(a:Addr):It:=
 (λi H=>∃xs x,az K H a xs/\xs[i]?=some x,λi H x H'=>H'=H/\∀xs,az K H a xs->xs[i]?=some x,λi H=>∃xs,az K H a xs/\xs.length<=i)
noncomputable def mO(lo:Int)(n:Nat):It:=(λi _=>i<n,λi H x H'=>H'=H/\x=.int (lo+i),λi _=>n<=i)
def Hd{P:Program}{w:World}{K:W.Frag}{tg:Expr}(a it:Addr):ir P w K tg (rC K a) [it] it (λi h=>h.IsListIter it a i) where
 mem:=∅
 obj:=λi h st b hb=>by
  let e:b=it:=⋯
  subst e;let(o,e,c,d):=st
  grind
 keep:=λi h h' st k=>st.at λo e=>k it ∅ o e
 item:=by
  ext X hP hw hK hc i a9 s Z H E I hf st hg;subst hP hw hK;let(xs,x,hq,hx):=hg;let(av,rv,p,hz):=I.list hq;let(u,hu,ru):=rv.get hx;let(f0,f1,f2,f3,f4,f5):=hf it ∅;show Gp st p.isList (x:=u) ⋯ λh' SG sb=>?_;let I1:Inv X a9 Z H {s with heap:=h'}:=I.turned (t':=s.toks) (λb o hb e=>(sb.2 b hb).trans e) f0 f1 f3 f4 f5;let(o,e,c,d):=id SG;show(u,rfl,rB (s:={s with heap:=h'}) e c d (by decide) ⟨x,H,I1,ru,⟨rfl,λys hy=>by rw[I.list_inj hy hq];show hx⟩,SG,λb hb=>(hf b hb).1⟩)
 done:=by
  ext X hP hw hK hc i a9 s Z H E I hf st hg;subst hP hw hK;let(xs,hq,hx):=hg;let(av,rv,p,hz):=I.list hq;let(f0,f1,f2,f3,f4,f5):=hf it ∅;let hl:=rv.length
  show Gr (I.ok.hd hc) st p.isList ⋯ λh' eb=>(rfl,I.turned (t':=s.toks) (λb o hb e=>eb b o hb e) f0 f1 f3 f4 f5)
 self:=λ_ _ _ _ _ st h=>wpAny_pyIter_listiter st h
def He{P:Program}{w:World}{K:W.Frag}{tg:Expr}(a it:Addr):ir P w K tg (jM K a) [it] it (λi h=>h.IsTupleIter it a i) where
 mem:=∅
 obj:=λi h st b hb=>by
  let e:b=it:=by simpa using hb
  subst e;let(o,e,c,d):=st;show(o,e,λv z=>by rw[d]at z;cases z)
 keep:=λi h h' st k=>st.at λo e=>k it ∅ o e
 item:=by
  ext X hP hw hK hc i a9 s Z H E I hf st hg;subst hP hw hK;let(xs,x,hq,hx):=hg;let(av,rv,p,hz):=I.tuple hq;let(u,hu,ru):=rv.get hx;let(f0,f1,f2,f3,f4,f5):=hf it ∅;show wpAny_pyNext_tuple_item st (show s.heap.IsTuple a av.toArray from p) (x:=u) (by simpa using hu) λh' SG sb=>?_;let I1:Inv X a9 Z H {s with heap:=h'}:=I.turned (t':=s.toks) (λb o hb e=>(sb.2 b hb).trans e) f0 f1 f3 f4 f5;let(o,e,c,d):=id SG;show(u,rfl,rB (s:={s with heap:=h'}) e c d (by decide) ⟨x,H,I1,ru,⟨rfl,λys hy=>by rw[I.tuple_inj hy hq];show hx⟩,SG,λb hb=>(hf b hb).1⟩)
 done:=by
  ext X hP hw hK hc i a9 s Z H E I hf st hg;subst hP hw hK;let(xs,hq,hx):=hg;let(av,rv,p,hz):=I.tuple hq;let(f0,f1,f2,f3,f4,f5):=hf it ∅;let hl:=rv.length
  show wpAny_pyNext_tuple_end (I.ok.hd hc) st (show s.heap.IsTuple a av.toArray from p) (by simp;lia) λh' eb=>(rfl,I.turned (t':=s.toks) (λb o hb e=>eb b o hb e) f0 f1 f3 f4 f5)
 self:=λ_ _ _ _ _ st h=>wpAny_pyIter_tupleiter st h
def Hg{P:Program}{w:World}{K:W.Frag}{tg:Expr}(it:Addr)(lo:Int)(n:Nat):ir P w K tg (mO lo n) [it] it (λi h=>IsRangeIter h it (lo+(i:Nat)*1) ((n:Int) - (i:Nat)) 1) where
 mem:=∅
 obj:=λi h st b hb=>by
  grind
 keep:=λi h h' st k=>k it ∅ _ st
 item:=by
  ext X hP hw hK hc i a9 s Z H E I hf st hg;subst hP hw hK;let(f0,f1,f2,f3,f4,f5):=hf it ∅;let W:=Walks.range (prog:=X.prog) (w:=X.w) (I.ok.hd hc) it lo 1 n;show W.item i s _ _ hg st λv h' tk hv SG kk=>?_;let(t,rfl):=hv;let I1:Inv X a9 Z H {s with heap:=h',toks:=tk}:=I.turned (λb o hb e=>kk b o ⋯ e) f0 f1 f3 f4 f5;show(_,rfl,rB (s:={s with heap:=h',toks:=tk}) (n:="range_iterator") SG rfl rfl (by decide) ⟨.int (lo+i),H,I1,⟨t,?_⟩,⟨rfl,rfl⟩,SG,λb hb=>(hf b hb).1⟩)
  grind
 done:=by
  ext X hP hw hK hc i a9 s Z H E I hf st hg;subst hP hw hK;let(f0,f1,f2,f3,f4,f5):=hf it ∅
  show wpAny_pyNext_range_end (I.ok.hd hc) st (by have:n<=i:=hg;lia) λh' eb=>(rfl,I.turned (t':=s.toks) (λb o hb e=>eb b o hb e) f0 f1 f3 f4 f5)
 self:=λ_ _ _ _ _ st h=>wpAny_pyIter_rangeiter st h
section
variable{X:Cx}{tg:Expr}
def oP(K:W.Frag)(tl:TE):TI:=λZ H R=>tl Z H λx H1=>∃a,x=.ref a/\(∃xs,ah K H1 a xs)/\R (rC K a) H1
def mP(K:W.Frag)(tl:TE):TI:=λZ H R=>tl Z H λx H1=>∃a,x=.ref a/\(∃xs,az K H1 a xs)/\R (jM K a) H1
def Hh{l:Expr}{tl:TE}(hl:PE X l tl):PI X tg l (oP X.K tl):=by
 ext a9 s Z H R I h;show aI (hl a9 s Z H _ I h) λv s1 (x,H1,I1,r1,q1)=>?_;let(a,e,(xs,hq),q):=q1;subst e;cases r1;let(av,rv,p,hz):=I1.list hq;erw[uz p.isList];show(s1.heap.objs.size,[s1.heap.objs.size],_,_,H1,rfl,I1.kept (t':=s1.toks) λb o e=>aR _ e,Hd a _,(_,bR _ rfl,rfl,rfl),λb hb=>?_,q)
 let e:b=s1.heap.objs.size:=⋯
 subst e;show I1.fpOk (aD _) (I1.hok.fresh (aD _))
def Hi{l:Expr}{tl:TE}(hl:PE X l tl):PI X tg l (mP X.K tl):=by
 ext a9 s Z H R I h;show aI (hl a9 s Z H _ I h) λv s1 (x,H1,I1,r1,q1)=>?_;let(a,e,(xs,hq),q):=q1;subst e;cases r1;let(av,rv,p,hz):=I1.tuple hq;erw[uw (show s1.heap.IsTuple a av.toArray from p)];show(s1.heap.objs.size,[s1.heap.objs.size],_,_,H1,rfl,I1.kept (t':=s1.toks) λb o e=>aR _ e,He a _,(_,bR _ rfl,rfl,rfl),λb hb=>?_,q)
 let e:b=s1.heap.objs.size:=⋯
 subst e;show I1.fpOk (aD _) (I1.hok.fresh (aD _))
def Ca{a9:Tl}{Z:St}{H:Hp}{s:Shared}{R:It->Hp->Prop}{E:Value->Shared->Prop}{lo hi:Int}{t u v:Tok}{tk:Nat}(I:Inv X a9 Z H s)(h1: -(2 ^ 62)<=lo)(h2:lo<2 ^ 62)(h3: -(2 ^ 62)<=hi)(h4:hi<2 ^ 62)
  (q:R (mO lo (hi - lo).toNat) H):wpAny (model X.prog X.w) X.A (pyIter (.ref s.heap.objs.size)) (C9 X a9 Z tg R) E {s with heap:=s.heap.push {cls:=.type "range",data:=.fields #[.int lo t,.int hi u,.int 1 v]},toks:=tk}:=by
 erw[wpAny_pyIter_range (IsRange.new ..) (small_one h1 h2 h3 h4)];let I1:Inv X a9 Z H {s with heap:=s.heap.push {cls:=.type "range",data:=.fields #[.int lo t,.int hi u,.int 1 v]},toks:=tk}:=I.kept λb o e=>aR _ e
 show((s.heap.push {cls:=.type "range",data:=.fields #[.int lo t,.int hi u,.int 1 v]}).objs.size,[(s.heap.push {cls:=.type "range",data:=.fields #[.int lo t,.int hi u,.int 1 v]}).objs.size],_,_,H,rfl,
  I1.kept (t':=tk) λb o e=>aR _ e,Hg _ lo (hi - lo).toNat,?_,λb hb=>?_,q)
 .let e1:lo+((0:Nat):Int)*1=lo:=∅
  let e2:(((hi - lo).toNat:Nat):Int) - ((0:Nat):Int)=Builtin.Range.rangeSize lo hi 1:=by rw[rangeSize_one];split<;>lia
  change IsRangeIter _ _ (lo+((0:Nat):Int)*1) ((((hi - lo).toNat:Nat):Int) - ((0:Nat):Int)) 1
  rw[e1,e2];show bR _ rfl
 .let e:b=(s.heap.push {cls:=.type "range",data:=.fields #[.int lo t,.int hi u,.int 1 v]}).objs.size:=by simpa using hb
  subst e;show I1.fpOk (aD _) (I1.hok.fresh (aD _))
def Cb(ta:TA):TI:=λZ H R=>ta Z H λvs H1=>∃j:Int,vs=[.int j]/\ -(2 ^ 62)<=j/\j<2 ^ 62/\R (mO 0 j.toNat) H1
def Cc(ta:TA):TI:=λZ H R=>ta Z H λvs H1=>∃i j:Int,vs=[.int i,.int j]/\(-(2 ^ 62)<=i/\i<2 ^ 62/\ -(2 ^ 62)<=j/\j<2 ^ 62)/\R (mO i (j - i).toNat) H1
def oQ{a:Expr}{ta:TA}{p pos:Pos}(hg:Gl X "range")(hm:X.mg "range"=none)(ha:PA X [a] ta)(hs:↥(starEach [a] X.env=[(false,eval a X.env,)])):PI X tg (.Call (.Name "range" p) [a] [] pos) (Cb ta):=by
 ext a9 s Z H R I h;show Call_ (kK I hg hm boot_range (qB (aI (ha pos a9 s Z H _ I h) λus s1 (vs,H1,I1,r1,q1)=>?_) hs rfl));let(j,e,q1,q2,q):=q1;subst e
 cases r1 with
 |cons r rr=>
  cases rr;let(t,rfl):=r;show call_range_1 (Ca I1 () () q1 q2 ⋯)
def uQ{a b:Expr}{ta:TA}{p pos:Pos}(hg:Gl X "range")(hm:X.mg "range"=none)(ha:PA X [a,b] ta)(hs:↥(starEach [a,b] X.env=[(false,eval a X.env,),(false,eval b X.env,)]))(S0:↥(starEach [b] X.env=[(false,eval b X.env,)])):
  PI X tg (.Call (.Name "range" p) [a,b] [] pos) (Cc ta):=by
 ext a9 s Z H R I h;show Call_ (kK I hg hm boot_range (qB (aI (ha pos a9 s Z H _ I h) λus s1 (vs,H1,I1,r1,q1)=>?_) (by rw[hs,S0]) (by rw[S0];rfl)));let(i,j,e,(q1,q2,q3,q4),q):=q1;subst e
 cases r1 with
 |cons r rr=>
  cases rr with
  |cons r' rr=>
   cases rr;let(t,rfl):=r;let(t',rfl):=r';show call_range_2 (Ca I1 q1 q2 q3 q4 q)
def Cd(wi:TI)(g:TG)(tb:TS):TS:=λD Z H=>wi Z H λJ H1=>∃W:Nat->Nat->St->Hp->Prop,(∃m,W 0 m Z H1)/\∀i m Z H,W i m Z H->
 (J.stop i H/\D.nx Z H)\/(J.go i H/\∃N:St->Hp->Prop,(∀Z' H',N Z' H'->∃m',m'<m/\W (i+1) m' Z' H')/\∀x H',J.yld i H x H'->g x Z H' λZ2 H2=>tb {D with nx:=N,ct:=N,bk:=D.nx} Z2 H2)
noncomputable def lW(fp:Tk)(h:Heap):Tl:=fp.filterMap λb=>(h.get? b).map λo=>(b,o,)
def kP{fp:Tk}{h:Heap}{b:Addr}{o:Obj}(hb:b∈fp)(e:h.get? b=some o):(b,o,)∈lW fp h:=List.mem_filterMap.mpr (b,hb,by rw[e];rfl)
def Ce{fp:Tk}{h:Heap}{p:Addr×Obj}(hp:p∈lW fp h):p.1∈fp/\h.get? p.1=some p.2:=by
 let(b,hb,e):=List.mem_filterMap.mp hp
 cases q:h.get? b with
 |none=>rw[q]at e;cases e
 |some o=>
  grind
def Inv.pinned{a9:Tl}{Z:St}{H:Hp}{s:Shared}{fp:Tk}(I:Inv X a9 Z H s)(hf:∀b∈fp,cC X a9 H b)(ho:∀b∈fp,∃o,s.heap.get? b=some o/\∀v,o.data≠ .cell v):Inv X (a9++lW fp s.heap) Z H s:=
 I.pins_of λp hp=>(ui.mp hp).elim (λz=>I.pin p (cF _ z)) λz=>by
  let(hb,e):=Ce z;let(f0,f1,f2,_):=hf p.1 hb
  grind
def Inv.unpinned{a9 pl:Tl}{Z:St}{H:Hp}{s:Shared}(I:Inv X (a9++pl) Z H s):Inv X a9 Z H s:=I.pins_of λp hp=>I.pin p (cF _ (fX _ hp))
def dC{iter:Expr}{body:List Stmt}{wi:TI}{g:TG}{tb:TS}{pos:Pos}(hp:PassesOwn (model X.prog X.w) X.A X.env X.xe)(hc:X.calm=true)(hi:PI X tg iter wi)(hg:PG X tg g)(hb:gv X body tb)
  (hs:∀x,foldedSetIterable iter X.env x=pure x:=by intro _;rfl):PS X (.For tg iter body [] pos) (Cd wi g tb):=by
 ext a9 s Z H D I h;show wpAny_For (aI (hi a9 s Z H _ I h) λv s1 h1=>aI h1 λXN s2 h2=>?_) hs;let(it,fp,tn,J,H2,e,I2,T,SY,f2,W,(m0,w0),turn):=h2;subst e
 let Tr:∀{H':Hp},(∀b∈fp,H' b=none)->∀b∈fp,cC X a9 H' b:=λhn b hb=>(hn b hb,(f2 b hb).2)
 show codeAny_forLoop_any (λn s'=>∃i Z' H',Inv X a9 Z' H' s'/\tn i s'.heap/\(∀b∈fp,H' b=none)/\W i n Z' H') ?_ m0 (0,Z,H2,I2,SY,λb hb=>(f2 b hb).1,w0);ext n s3 ⟨i,Z3,H3,I3,Xp,fr3,w3⟩
 rcases turn i n Z3 H3 w3 with⟨stop,qn⟩|⟨go,N,hN,step⟩
 .show oo hp (aI (T.done X rfl rfl rfl hc i a9 s3 Z3 H3 X.xe I3 (Tr fr3) Xp stop) λr s4 (hr,I4)=>?_);subst hr;show Ay (Z3,H3,I4,qn)
 .show oo hp (aI (T.item X rfl rfl rfl hc i a9 s3 Z3 H3 X.xe I3 (Tr fr3) Xp go) λr s4 (u,hr,h4)=>?_);subst hr;show oo hp (aI h4 λ_ s5 (x,H5,I5,r5,y5,Xo,fr5)=>?_);let I5':=I5.pinned (Tr fr5) (T.obj _ _ Xo);show oo hp (aI (hg _ s5 Z3 H5 x u _ I5' r5 (step x H5 y5)) λ_ s6 (Z6,H6,I6,q6)=>?_);show oo hp (aI (hb _ s6 Z6 H6 _ I6 q6) λf s7 q7=>?_)
  let again:∀{Z7:St} {H7:Hp},Inv X (a9++lW fp s5.heap) Z7 H7 s7->N Z7 H7->∃m,m<n/\∃i Z' H',Inv X a9 Z' H' s7/\tn i s7.heap/\(∀b∈fp,H' b=none)/\W i m Z' H':=λ{Z7 H7} I7 n7=>by
   let(m',hm,w7):=hN Z7 H7 n7;show(m',hm,i+1,Z7,H7,I7.unpinned,T.keep _ _ _ Xo λb hb o e=>(I7.pin (b,o,) (cF _ (cF _ (kP hb e)))).1,λb hb=>?_,w7);let(o,e,d):=T.obj _ _ Xo b hb;show(I7.pin (b,o,) (cF _ (cF _ (kP hb e)))).2.1
  cases f with
  |next=>obtain⟨Z7,H7,I7,n7⟩:=q7;show again I7 n7
  |cont=>obtain⟨Z7,H7,I7,n7⟩:=q7;show again I7 n7
  |brk=>obtain⟨Z7,H7,I7,q7⟩:=q7;show(Z7,H7,I7.unpinned,q7)
  |ret v=>obtain⟨x7,Z7,H7,I7,r7,q7⟩:=q7;show(x7,Z7,H7,I7.unpinned,r7,q7)
end
def Hj{c:TT}{tb:TS}{D:gu}{Z:St}{H:Hp}(Pv:St->Hp->Prop)(μ:St->Hp->Nat)(h0:Pv Z H)
  (hs:∀Z H,Pv Z H->c Z H λb H1=>if b=true then tb {D with nx:=λZ' H'=>Pv Z' H'/\μ Z' H'<μ Z H,ct:=λZ' H'=>Pv Z' H'/\μ Z' H'<μ Z H,bk:=D.nx} Z H1 else D.nx Z H1)
  (mono:∀Z H Q Q',(∀b H1,Q b H1->Q' b H1)->c Z H Q->c Z H Q'):C8 c tb D Z H:=by
 show(λm Z H=>m=μ Z H/\Pv Z H,(_,rfl,h0),?_);ext m Z H ⟨rfl,p⟩;show mono Z H _ _ (λb H1 q=>?_) (hs Z H p)
 cases b with
 |true=>show(_,λZ' H' (p',l)=>(_,l,rfl,p'),q)
 |false=>show q
abbrev R2:=V->V->Hp->VK->Prop
def bT(X:Cx)(f:Value->Value->Sem Value)(r:R2):Prop:=
 ∀(a9:Tl) (s:Shared) (Z:St) (H:Hp) (x y:V) (v u:Value) (Q:VK),Inv X a9 Z H s->aV x v->aV y u->r x y H Q->
  wpAny (model X.prog X.w) X.A (f v u) (EP X a9 Z Q) X.xe s
def uR(X:Cx)(f:Value->Sem Value)(r:V->Hp->VK->Prop):Prop:=
 ∀(a9:Tl) (s:Shared) (Z:St) (H:Hp) (x:V) (v:Value) (Q:VK),Inv X a9 Z H s->aV x v->r x H Q->
  wpAny (model X.prog X.w) X.A (f v) (EP X a9 Z Q) X.xe s
def cJ(X:Cx)(f:Value)(r:LT->Hp->VK->Prop):Prop:=
 ∀(a9:Tl) (s:Shared) (Z:St) (H:Hp) (xs:LT) (us:T0) (Q:VK),Inv X a9 Z H s->a_ xs us->r xs H Q->
  wpAny (model X.prog X.w) X.A (call f us) (EP X a9 Z Q) X.xe s
def iu(r:R2)(ta tb:TE):TE:=λZ H Q=>ta Z H λx H1=>tb Z H1 λy H2=>r x y H2 Q
def Cf(r:V->Hp->VK->Prop)(ta:TE):TE:=λZ H Q=>ta Z H λx H1=>r x H1 Q
def rI(C:Int->Int->Prop)(g:Int->Int->V):R2:=λx y H Q=>∃i j,x=.int i/\y=.int j/\C i j/\Q (g i j) H
def iw(g:Int->Int->V):R2:=λx y H Q=>∃i j,x=.int i/\y=.int j/\Q (g i j) H
def rU(g:Int->V):V->Hp->VK->Prop:=λx H Q=>∃i,x=.int i/\Q (g i) H
section
variable{X:Cx}{a b c:Expr}{ta tb tc:TE}{pos:Pos}
def uS(ha:PE X a ta)(hb:PE X b tb){a9:Tl}{s:Shared}{Z:St}{H:Hp}{R:V->V->Hp->Prop}(I:Inv X a9 Z H s)
  (h:ta Z H λx H1=>tb Z H1 λy H2=>R x y H2) {Q:Value->Shared->Prop} {f:Value->Value->Sem Value}
  (hf:∀v u s2 x y H2,Inv X a9 Z H2 s2->aV x v->aV y u->R x y H2->wpAny (model X.prog X.w) X.A (f v u) Q X.xe s2):
  wpAny (model X.prog X.w) X.A (eval a X.env) (λv Rk=>wpAny (model X.prog X.w) X.A (eval b X.env) (λu Rn=>wpAny (model X.prog X.w) X.A (f v u) Q X.xe Rn) X.xe Rk) X.xe s:=by
 show aI (ha a9 s Z H _ I h) λv s1 (x,H1,I1,r1,q1)=>?_;show aI (hb a9 s1 Z H1 _ I1 q1) λu s2 (y,H2,I2,r2,q2)=>?_
 grind
def bg{op:Operator}{r:R2}(ho:bT X (binaryOp op) r)(ha:PE X a ta)(hb:PE X b tb):PE X (.BinOp a op b pos) (iu r ta tb):=by
 ext a9 s Z H Q I h;show wpAny_BinOp (uS ha hb I h λv u s2 x y H2 I2 rx ry q=>ho a9 s2 Z H2 x y v u Q I2 rx ry q)
def oR{op:UnaryOp}{r:V->Hp->VK->Prop}(ho:uR X (unaryOp op) r)(ha:PE X a ta):PE X (.UnaryOp op a pos) (Cf r ta):=by
 ext a9 s Z H Q I h;show UnaryOp_ (aI (ha a9 s Z H _ I h) λv s1 (x,H1,I1,r1,q1)=>ho a9 s1 Z H1 x v Q I1 r1 q1)
def oS{f:Value->Value->Sem Value}{C:Int->Int->Prop}{g:Int->Int->Int}
  (rule:∀(i j:Int) (t u:Tok) (s:Shared) (Q:Value->Shared->Prop) (E:Value->Shared->Prop),C i j->Q (.int (g i j) s.toks) {s with toks:=s.toks+1}->wpAny (model X.prog X.w) X.A (f (.int i t) (.int j u)) Q E s):
  bT X f (rI C λi j=>.int (g i j)):=by
 ext a9 s Z H x y v u Q I rx ry h;let(i,j,rfl,rfl,hc,q):=h;let(t,rfl):=rx;let(t',rfl):=ry;show rule i j t t' s _ _ hc (.int (g i j),H,I.tok _,(_,rfl),q)
def Cg{f:Value->Value->Sem Value}{g:Int->Int->Int}
  (rule:∀(i j:Int) (t u:Tok) (s:Shared) (Q:Value->Shared->Prop) (E:Value->Shared->Prop),Q (.int (g i j) s.toks) {s with toks:=s.toks+1}->wpAny (model X.prog X.w) X.A (f (.int i t) (.int j u)) Q E s):
  bT X f (iw λi j=>.int (g i j)):=by
 ext a9 s Z H x y v u Q I rx ry h;let(i,j,rfl,rfl,q):=h;let(t,rfl):=rx;let(t',rfl):=ry;show rule i j t t' s _ _ (.int (g i j),H,I.tok _,(_,rfl),q)
def rD{f:Value->Value->Sem Value}{g:Int->Int->Bool}
  (rule:∀(i j:Int) (t u:Tok) (s:Shared) (Q:Value->Shared->Prop) (E:Value->Shared->Prop),Q (.bool (g i j)) s->wpAny (model X.prog X.w) X.A (f (.int i t) (.int j u)) Q E s):
  bT X f (iw λi j=>.bl (g i j)):=by
 ext a9 s Z H x y v u Q I rx ry h;let(i,j,rfl,rfl,q):=h;let(t,rfl):=rx;let(t',rfl):=ry;show rule i j t t' s _ _ (.bl (g i j),H,I,rfl,q)
def rE(i j:Int):Prop:=0<j/\j<1073741824
def Ci(i j:Int):Prop:=0<=j/\j<=1000000/\i.natAbs<2 ^ 64
def jN(i j:Int):Prop:=(-(2 ^ 64)<i/\i<2 ^ 64)\/(-(2 ^ 64)<j/\j<2 ^ 64)
def jN.ok{i j:Int}(h:jN i j):IntMulOk i j:=by
 rcases h with⟨h1,h2⟩|⟨h1,h2⟩
 .show .of_left (intBits_le_64 h1 h2)
 .show .of_right (intBits_le_64 h1 h2)
def cT:bT X (binaryOp .Add) (iw λi j=>.int (i+j)):=Cg λ_ _ _ _ _ _ _ q=>add_int q
def mQ:bT X (binaryOp .Sub) (iw λi j=>.int (i - j)):=Cg λ_ _ _ _ _ _ _ q=>sub_int q
def fH:bT X (binaryOp .Mult) (rI jN λi j=>.int (i*j)):=oS λ_ _ _ _ _ _ _ hc q=>mul_int q hc.ok
def oT:bT X (binaryOp .FloorDiv) (rI rE λi j=>.int (i / j)):=oS λi j _ _ _ _ _ hc q=>by
 let h1:(0:Int)<j:=hc.1;let h2:j<1073741824:=hc.2;show floordiv_int () ⋯ (.inl (PyProof.noPylong_small ()))
def mR:bT X (binaryOp .Mod) (rI (λ_ j=>0<j) λi j=>.int (i % j)):=oS λi j _ _ _ _ _ hc q=>by
 let h1:(0:Int)<j:=hc;show mod_int' () (by rw[Int.fmod_eq_emod_of_nonneg i ()];show q)
def Hk:bT X (binaryOp .Pow) (rI Ci λi j=>.int (i ^ j.toNat)):=oS λ_ _ _ _ _ _ _ hc q=>pow_int_small hc.1 hc.2.1 hc.2.2 q
def Hl{f:Value->Sem Value}{g:Int->Int}
  (rule:∀(i:Int) (t:Tok) (s:Shared) (Q:Value->Shared->Prop) (E:Value->Shared->Prop),Q (.int (g i) s.toks) {s with toks:=s.toks+1}->wpAny (model X.prog X.w) X.A (f (.int i t)) Q E s):
  uR X f (rU λi=>.int (g i)):=by
 ext a9 s Z H x v Q I rx h;let(i,rfl,q):=h;let(t,rfl):=rx;show rule i t s _ _ (.int (g i),H,I.tok _,(_,rfl),q)
def oU:uR X (unaryOp .USub) (rU λi=>.int (-i)):=Hl λ_ _ _ _ _ q=>neg_int q
end
noncomputable def rF:V->V->Bool
 |.non,.non=>true|.non,.int _=>true|.int _,.non=>true|.non,.bl _=>true|.bl _,.non=>true|.non,.str _=>true|.str _,.non=>true
 |.int _,.int _=>true|.bl _,.bl _=>true|.str _,.str _=>true|.byt _,.byt _=>true
 |.int _,.str _=>true|.str _,.int _=>true|.bl _,.str _=>true|.str _,.bl _=>true
 |_,_=>false
def Cj:R2:=λx y H Q=>rF x y=true/\Q (.bl (decide (x=y))) H
def Ck:R2:=λx y H Q=>rF x y=true/\Q (.bl (!decide (x=y))) H
def Cm{i j:Int}:decide (V.int i=V.int j)=(i==j):=by
 grind
def Cn{i j:Bool}:decide (V.bl i=V.bl j)=(i==j):=by
 grind
def Co{i j:Str}:decide (V.str i=V.str j)=(i==j):=by
 grind
def Cp{i j:Array UInt8}:decide (V.byt i=V.byt j)=(i.toList==j.toList):=by
 rw[Bool.eq_iff_iff];cases i;cases j;simp
section
variable{X:Cx}{a b c:Expr}{ta tb tc:TE}{pos:Pos}
def cK{a9:Tl}{Z:St}{H:Hp}{s:Shared}{Q:VK}{k k':Bool}(I:Inv X a9 Z H s)(q:Q (.bl k) H)(e:k=k'):EP X a9 Z Q (.bool k') s:=by
 subst e;show(.bl k,H,I,rfl,q)
def eG:bT X (compareOp .Eq) Cj:=by
 ext a9 s Z H x y v u Q I rx ry h;let(hs,q):=h
 cases x with
 |non=>
  cases rx
  cases y with
  |non=>cases ry;show EqNone.eq_none_none (cK I q ∅)
  |bl j=>cases ry;show EqNone.eq_none_bool (cK I q ∅)
  |int j=>obtain⟨t',rfl⟩:=ry;show EqNone.eq_none_int (cK I q ∅)
  |str j=>obtain⟨t',rfl⟩:=ry;show EqNone.eq_none_str (cK I q ∅)
  |_=>show absurd (show false=true from hs) cN
 |bl i=>
  cases rx
  cases y with
  |non=>cases ry;show EqNone.eq_bool_none (cK I q ∅)
  |bl j=>cases ry;show eq_bool (cK I q Cn)
  |str j=>obtain⟨t',rfl⟩:=ry;show EqMixed.eq_bool_str (cK I q ∅)
  |_=>show absurd (show false=true from hs) cN
 |int i=>
  let(t,rfl):=rx
  cases y with
  |non=>cases ry;show EqNone.eq_int_none (cK I q ∅)
  |int j=>obtain⟨t',rfl⟩:=ry;show eq_int (cK I q Cm)
  |str j=>obtain⟨t',rfl⟩:=ry;show EqMixed.eq_int_str (cK I q ∅)
  |_=>show absurd (show false=true from hs) cN
 |str i=>
  let(t,rfl):=rx
  cases y with
  |non=>cases ry;show EqNone.eq_str_none (cK I q ∅)
  |bl j=>cases ry;show EqMixed.eq_str_bool (cK I q ∅)
  |int j=>obtain⟨t',rfl⟩:=ry;show EqMixed.eq_str_int (cK I q ∅)
  |str j=>obtain⟨t',rfl⟩:=ry;show eq_str (cK I q Co)
  |_=>show absurd (show false=true from hs) cN
 |byt i=>
  let(t,rfl):=rx
  cases y with
  |byt j=>obtain⟨t',rfl⟩:=ry;show W.eq_bytes (cK I q Cp)
  |_=>show absurd (show false=true from hs) cN
 |_=>cases y<;>exact absurd (show false=true from hs) cN
def jO:bT X (compareOp .NotEq) Ck:=by
 ext a9 s Z H x y v u Q I rx ry h;let(hs,q):=h
 cases x with
 |non=>
  cases rx
  cases y with
  |non=>cases ry;show EqNone.ne_none_none (cK I q ∅)
  |bl j=>cases ry;show EqNone.ne_none_bool (cK I q ∅)
  |int j=>obtain⟨t',rfl⟩:=ry;show EqNone.ne_none_int (cK I q ∅)
  |str j=>obtain⟨t',rfl⟩:=ry;show EqNone.ne_none_str (cK I q ∅)
  |_=>show absurd (show false=true from hs) cN
 |bl i=>
  cases rx
  cases y with
  |non=>cases ry;show EqNone.ne_bool_none (cK I q ∅)
  |bl j=>cases ry;show ne_bool (cK I q (congrArg not Cn))
  |str j=>obtain⟨t',rfl⟩:=ry;show EqMixed.ne_bool_str (cK I q ∅)
  |_=>show absurd (show false=true from hs) cN
 |int i=>
  let(t,rfl):=rx
  cases y with
  |non=>cases ry;show EqNone.ne_int_none (cK I q ∅)
  |int j=>obtain⟨t',rfl⟩:=ry;show ne_int (cK I q (congrArg not Cm))
  |str j=>obtain⟨t',rfl⟩:=ry;show EqMixed.ne_int_str (cK I q ∅)
  |_=>show absurd (show false=true from hs) cN
 |str i=>
  let(t,rfl):=rx
  cases y with
  |non=>cases ry;show EqNone.ne_str_none (cK I q ∅)
  |bl j=>cases ry;show EqMixed.ne_str_bool (cK I q ∅)
  |int j=>obtain⟨t',rfl⟩:=ry;show EqMixed.ne_str_int (cK I q ∅)
  |str j=>obtain⟨t',rfl⟩:=ry;show ne_str (cK I q (congrArg not Co))
  |_=>show absurd (show false=true from hs) cN
 |byt i=>
  let(t,rfl):=rx
  cases y with
  |byt j=>obtain⟨t',rfl⟩:=ry;show W.ne_bytes (cK I q (congrArg not Cp))
  |_=>show absurd (show false=true from hs) cN
 |_=>cases y<;>exact absurd (show false=true from hs) cN
def mS:bT X (compareOp .Lt) (iw λi j=>.bl (decide (i<j))):=rD λ_ _ _ _ _ _ _ q=>lt_int q
def gM:bT X (compareOp .LtE) (iw λi j=>.bl (decide (i<=j))):=rD λ_ _ _ _ _ _ _ q=>le_int q
def dI:bT X (compareOp .Gt) (iw λi j=>.bl (decide (j<i))):=rD λ_ _ _ _ _ _ _ q=>gt_int q
def uT:bT X (compareOp .GtE) (iw λi j=>.bl (decide (j<=i))):=rD λ_ _ _ _ _ _ _ q=>ge_int q
def Cq(b:Expr){op:CmpOp}(h:⇑(op≠ .In))(h2:⇑(op≠ .NotIn)):behindInMarks op b=false:=by
 let e1:(op==CmpOp.In)=false:=⋯
 let e2:(op==CmpOp.NotIn)=false:=⋯
 cases b<;>simp[behindInMarks,e1,e2]
def Hm{op:CmpOp}{r:R2}(ho:bT X (compareOp op) r)(ha:PE X a ta)(hb:PE X b tb)(hm:behindInMarks op b=false):PE X (.Compare a [op] [b] pos) (iu r ta tb):=by
 ext a9 s Z H Q I h;show wpAny_Compare1 (uS ha hb I h λv u s2 x y H2 I2 rx ry q=>ho a9 s2 Z H2 x y v u Q I2 rx ry q) hm
def uU(t:TE):TT:=λZ H Q=>t Z H λx H'=>∃k,x=.bl k/\Q k H'
def Hn{op:CmpOp}{r:R2}(ho:bT X (compareOp op) r)(ha:PE X a ta)(hb:PE X b tb)(hm:behindInMarks op b=false):PT X (.Compare a [op] [b] pos) (uU (iu r ta tb)):=by
 ext a9 s Z H Q I h
 show wpAny_isTrue_Compare1 (aI (ha a9 s Z H _ I h) λv s1 (x,H1,I1,r1,q1)=>aI (hb a9 s1 Z H1 _ I1 q1) λu s2 (y,H2,I2,r2,q2)=>
  aI (ho a9 s2 Z H2 x y v u _ I2 r1 r2 q2) λc s3 (z,H3,I3,r3,k,e,q3)=>?_) hm
 subst e;cases r3;show kA (H3,I3,q3)
def uV(r r':R2)(ta tb tc:TE):TE:=λZ H Q=>ta Z H λx H1=>tb Z H1 λy H2=>r x y H2 λz H3=>∃k,z=.bl k/\
 (if k=true then tc Z H3 λw' H4=>r' y w' H4 Q else Q (.bl false) H3)
def mT{op ZC:CmpOp}{r r':R2}(ho:bT X (compareOp op) r)(UN:bT X (compareOp ZC) r')(ha:PE X a ta)(hb:PE X b tb)(hc:PE X c tc)
  (hm:lastMarks [op,ZC] [b,c]=false:=by with_unfolding_all rfl):PE X (.Compare a [op,ZC] [b,c] pos) (uV r r' ta tb tc):=by
 ext a9 s Z H Q I h
 show Compare_chain (aI (ha a9 s Z H _ I h) λv s1 (x,H1,I1,r1,q1)=>chain_link (aI (hb a9 s1 Z H1 _ I1 q1) λu s2 (y,H2,I2,r2,q2)=>
  aI (ho a9 s2 Z H2 x y v u _ I2 r1 r2 q2) λd s3 (z,H3,I3,r3,k,e,q3)=>?_)) hm
 subst e;cases r3;erw[kA]
 cases k with
 |false=>show ite_ff (.bl false,H3,I3,rfl,q3)
 |true=>show ite_tt (chain_last (aI (hc a9 s3 Z H3 _ I3 q3) λw' s4 (z',H4,I4,r4,q4)=>UN a9 s4 Z H4 y z' u w' Q I4 r2 r4 q4))
def rG:(sizeLine:Nat)<2 ^ 63:=by rw[iQ];decide
def fZ{x:V}{us:T0}(r:a_ [x] us):∃u,us=[u]/\aV x u:=by
 cases r with
 |cons r1 r2=>cases r2;show(_,rfl,r1)
def mU{x y:V}{us:T0}(r:a_ [x,y] us):∃u w',us=[u,w']/\aV x u/\aV y w':=by
 cases r with
 |cons r1 r2=>
  cases r2 with
  |cons r3 r4=>cases r4;show(_,_,rfl,r1,r3)
def Ho:cJ X (.builtin "abs") (λxs H Q=>∃i,xs=[.int i]/\Q (.int (if i<0 then -i else i)) H):=by
 ext a9 s Z H xs us Q I r h;let(i,rfl,q):=h;let(u,rfl,t,rfl):=fZ r
 show call_abs_int λu tk=>(.int (if i<0 then -i else i),H,I.tok _,(_,rfl),q)
def Hq(hc:X.calm=true):cJ X (.builtin "min") (λxs H Q=>∃i j,xs=[.int i,.int j]/\Q (.int (if j<i then j else i)) H):=by
 ext a9 s Z H xs us Q I r h;let(i,j,rfl,q):=h;let(u,w',rfl,(t,rfl),(t',rfl)):=mU r
 show min_two_ints (I.ok.hd hc) λh' tk k=>(_,H,I.kept k,?_,q)
 by_cases hj:j<i
 .rw[bf hj,bf hj];show(_,rfl)
 .rw[aO hj,aO hj];show(_,rfl)
def Hr:cJ X (.type "int") (λxs H Q=>(∃i,xs=[.int i]/\Q (.int i) H)\/∃k,xs=[.bl k]/\Q (.int (if k then 1 else 0)) H):=by
 ext a9 s Z H xs us Q I r h
 rcases h with⟨i,rfl,q⟩|⟨k,rfl,q⟩
 .let(u,rfl,t,rfl):=fZ r;show call_int_int (.int i,H,I,(_,rfl),q)
 .let(u,rfl,r1):=fZ r;cases r1;show call_int_bool (.int (if k then 1 else 0),H,I.tok _,(_,rfl),q)
end
structure lX(h:Heap)(x dx C:Addr)(mA:Str->Option Value):Prop where
 obj:h.get? x=some (W.instObj C dx)
 ns:h.Ns1 dx mA
 ne:dx≠x
def Hs{h:Heap}{dx:Addr}{mA:Str->Option Value}(n:h.Ns1 dx mA):∃od,h.get? dx=some od/\∀name,W.lookIn name od=some (mA name):=by
 let(o,es,ep,ho,hd,hk,_,hm):=n;show(o,ho,λname=>?_);let e:=hm name;unfold nsFind findBy at e;rw[<-Array.find?_toList]at e;unfold W.lookIn;rw[hd];dsimp only;split
 .grind
 .rename_i q;rw[q]at e
  let a:es.toList.any (·.refKey)=false:=by
   rw[List.any_eq_false];ext y hy;let(z,t,UP):=hk y (Array.mem_toList_iff.mp hy);simp[DictEntry.refKey,UP]
  grind
def lX.look{h:Heap}{x dx C:Addr}{mA:Str->Option Value}(I:lX h x dx C mA):∃od,W.InstAt h x (W.instObj C dx) C (some od)/\∀name,W.lookIn name od=some (mA name):=
 let(od,ho,hl):=Hs I.ns
 (od,(I.obj,rfl,rfl,ho),hl)
section
variable{prog:Program}{w:World}{A:Around}{E:Value->Shared->Prop}{s:Shared}{K:W.Frag}{x dx C f:Addr}{mA:Str->Option Value}{name:Str}{v:Value}
def Ht{jd3:Bool}{Q:Value->Shared->Prop}(X:K.In s.heap)(I:lX s.heap x dx C mA)(hg:W.plainGet K C name=true)(hh:W.hasDictIn K C=true)
  (ha:W.findIn K (.ref C) name=some none) (hv:mA name=some v) (Vd:W.handedIn v=true) (h:Q v {s with toks:=s.toks+1}):
  wpAny (model prog w) A (getAttr (.ref x) name jd3) Q E s:=by
 let(od,J,hl):=I.look;show W.get_value X J (W.plainGet_of hg).1 (W.findObj_own hh ha rfl ⋯) Vd h
def Hu{pl:Sem Bool}{Q:Value×T0->Shared->Prop}(X:K.In s.heap)(I:lX s.heap x dx C mA)(hg:W.plainGet K C name=true)
  (hf:W.findIn K (.ref C) name=some (some (.ref f))) (ht:W.isFn K (.ref f)=true) (hv:mA name=none) (h:Q (.ref f,[.ref x],) s):
  wpAny (model prog w) A (getMethod (.ref x) name pl) Q E s:=by
 let(od,J,hl):=I.look;show W.method_fn X J (W.plainGet_of hg).1 (W.plainGet_of hg).2 hf (beq_iff_eq.mp ht) (by change(W.lookIn name od).map (·.isSome)=some false;rw[hl,hv];rfl) h
def Hv{ns:List Str}{Q:Unit->Shared->Prop}(X:K.In s.heap)(I:lX s.heap x dx C mA)
  (hs:W.findIn K (.ref C) "__setattr__"=some (some (.builtin "object.__setattr__"))) (hp:W.plainOver K C=true) (ht:W.takerIn K C name=some none) (hh:W.hasDictIn K C=true)
  (hw:PySem.Within mA ns) (hsz:ns.length<=sizeLine)
  (h:∀h',lX h' x dx C (λy=>if y=name then some v else mA y)->Heap.SameBut dx s.heap h'->Q ⟨⟩ {s with heap:=h',toks:=s.toks+2}):
  wpAny (model prog w) A (setAttr (.ref x) name v) Q E s:=by
 let(od,J,hl):=I.look;show W.set_plain X J hs (W.osa_open (s:={s with toks:=s.toks+1}) (r:=none) X J hp ht λb=>?_);let(cd,hc,VS):=W.any_some hh;let hx:s.heap.get? x=some (.ref C,some dx,.plain,#[]):=I.obj;show ae (aw (ae (ae (wpAny_loadPart hx (ae (W.Looks.here (s:={s with toks:=s.toks+1}) (W.looks_clsIn X hc) ?_))))));rw[VS];show aw (a:=some dx) (ae (aw (ae ?_)));show wpAny_nsSet1 (s:={s with toks:=s.toks+1}) I.ns λh' VN S0=>?_;let(oD,esD,epD,hoD,hdD,hcD):=VN.count (PySem.Within.cons name v hw);show ae (wpAny_lookBehind hoD (by rw[hdD];show pastItsLine_dict (cf hcD ⋯)) ?_);show aw (h _ ((S0.2 _ (Ne.symm I.ne)).trans I.obj,VN,I.ne) S0)
def Hw{R:Result->Shared->Prop}{vs:T0}{kw:List (Str×Value)}(X:K.In s.heap)(hm:W.makesIn K C=true)
  (hi:W.findIn K (.ref C) "__init__"=some (some (.ref f))) (hf:W.typeIn K (.ref f)=some (.type "function"))
  (h:codeAny (model prog w) (A.under (.builtin "type.__call__" (.ref C::vs,kw))) (.call (.ref f) (.ref (s.heap.objs.size+1)::vs,kw)) (W.InitBack (s.heap.objs.size+1) R)
   {s with heap:=(s.heap.push W.emptyDict).push (W.instObj C s.heap.objs.size)}):
  codeAny (model prog w) A (.call (.ref C) (vs,kw)) R s:=by
 let(hh,g,d,t,os):=s;show W.make_core (W.makes_of X hm) (W.looks_findIn X hi) (λself=>W.bind_fn X self hf) (.inl rfl) h
end
noncomputable def bG(f:Str)(v:V):List (Str×V)->List (Str×V)
 |[]=>[(f,v,)]
 |(g,x,)::r=>if g=f then(g,v,)::r else(g,x,)::bG f v r
theorem Cr(f g:Str)(v:V):∀fs:List (Str×V),(bG f v fs).lookup g=if g=f then some v else fs.lookup g
 |[]=>by
  change List.lookup g [(f,v,)]=_
  grind
 |(k,x,)::r=>by
  let ih:=Cr f g v r;rw[show bG f v ((k,x,)::r)=(if k=f then(k,v,)::r else(k,x,)::bG f v r)from rfl]
  grind
theorem uW(f:Str)(v:V):∀fs:List (Str×V),f∈(bG f v fs).map (·.1)/\∀g,g∈fs.map (·.1)->g∈(bG f v fs).map (·.1)
 |[]=>(by simp[bG],λg h=>by simp at h)
 |(k,x,)::r=>by
  let(i1,i2):=uW f v r;rw[show bG f v ((k,x,)::r)=(if k=f then(k,v,)::r else(k,x,)::bG f v r)from rfl]
  grind
theorem Cs(f:Str)(v:V):∀fs:List (Str×V),(bG f v fs).length<=fs.length+1
 |[]=>by simp[bG]
 |(k,x,)::r=>by
  let ih:=Cs f v r;rw[show bG f v ((k,x,)::r)=(if k=f then(k,v,)::r else(k,x,)::bG f v r)from rfl]
  grind
def eR.some_of{v:V}{o:Option Value}(r:eR (some v) o):∃u,o=some u/\aV v u:=by
 cases o with
 |none=>show(show False from r).elim
 |some u=>show(u,rfl,r)
def eR.none_of{o:Option Value}(r:eR none o):o=none:=by
 cases o with
 |none=>rfl
 |some u=>show(show False from r).elim
def Hx{v:V}{u:Value}(r:aV v u):W.handedIn u=true:=by
 cases v with
 |non=>cases(show u=Value.none from r);rfl
 |bl b=>cases(show u=Value.bool b from r);rfl
 |int i=>obtain⟨t,e⟩:=(show ∃t,u=Value.int i t from r);cases e;rfl
 |str x=>obtain⟨t,e⟩:=(show ∃t,u=Value.str x t from r);cases e;rfl
 |byt b=>obtain⟨t,e⟩:=(show ∃t,u=Value.bytes b t from r);cases e;rfl
 |flt b=>obtain⟨t,e⟩:=(show ∃t,u=Value.float b t from r);cases e;rfl
 |ref a=>cases(show u=Value.ref a from r);rfl
 |ty n=>cases(show u=Value.type n from r);rfl
section
variable{P:Program}{w:World}{H H':Hp}{h h':Heap}{a C dx:Addr}{fs fs':List (Str×V)}
def rH(hok:cz P w H h)(e:H a=some (.ins C dx fs)):∃mA,lX h a dx C mA/\(∀f,eR (fs.lookup f) (mA f))/\PySem.Within mA (fs.map (·.1))/\fs.length<=1000/\H dx=some (.own a):=by
 let(d,z,ne,ob,mA,n,r,q):=(show c8 P w H h a (.ins C dx fs)from hok a _ e)
 show(mA,(ob,n,ne),r,q,z,d)
end
structure dR(K:W.Frag)(C:Addr):Prop where
 pg:W.plainGet K C Str.empty=true
 hd:W.hasDictIn K C=true
 po:W.plainOver K C=true
 sa:W.findIn K (.ref C) "__setattr__"=some (some (.builtin "object.__setattr__"))
def dR.get{K:W.Frag}{C:Addr}(c:dR K C)(f:Str):W.plainGet K C f=true:=c.pg
def dD(K:W.Frag)(C:Addr)(f:Str):Prop:=W.findIn K (.ref C) f=some none
def dD.taker{K:W.Frag}{C:Addr}{f:Str}(n:dD K C f):W.takerIn K C f=some none:=by
 unfold W.takerIn;rw[show W.findIn K (.ref C) f=some none from n];rfl
structure rJ(K:W.Frag)(C:Addr)(m:Str)(f:Addr):Prop where
 at_:W.findIn K (.ref C) m=some (some (.ref f))
 fn:W.isFn K (.ref f)=true
 kp:W.keepIn K (.ref f)=true
section
variable{X:Cx}{a9:Tl}{Z:St}{H:Hp}{s:Shared}{a C dx:Addr}{fs:List (Str×V)}{f:Str}{v:V}{A:Around}{E:Value->Shared->Prop}
def Hy{b:Bool}{Q:Value->Shared->Prop}(I:Inv X a9 Z H s)(e:H a=some (.ins C dx fs))(c:dR X.K C)(n:dD X.K C f)(l:fs.lookup f=some v)
  (h:∀u s',Inv X a9 Z H s'->aV v u->Q u s'):wpAny (model X.prog X.w) A (getAttr (.ref a) f b) Q E s:=by
 let(mA,O,r,_,_,_):=rH I.hok e;let(u,hu,ru):=eR.some_of (v:=v) (o:=mA f) ⋯;show Ht I.kIn O (c.get f) c.hd n hu (Hx ru) (h u _ (I.tok _) ru)
def Cu{m:Str}{g:Addr}{pl:Sem Bool}{Q:Value×T0->Shared->Prop}(I:Inv X a9 Z H s)(e:H a=some (.ins C dx fs))(c:dR X.K C)(k:rJ X.K C m g)(l:fs.lookup m=none)
  (h:Q (.ref g,[.ref a],) s):wpAny (model X.prog X.w) A (getMethod (.ref a) m pl) Q E s:=by
 let(mA,O,r,_,_,_):=rH I.hok e;let hn:mA m=none:=eR.none_of ⋯;show Hu I.kIn O (c.get m) k.at_ k.fn hn h
def Hz{y:V}{u:Value}{Q:Unit->Shared->Prop}(I:Inv X a9 Z H s)(e:H a=some (.ins C dx fs))(c:dR X.K C)(n:dD X.K C f)(hl:fs.length<1000)(ry:aV y u)
  (h:∀s',Inv X a9 Z (aa H a (.ins C dx (bG f y fs))) s'->Q ⟨⟩ s'):wpAny (model X.prog X.w) A (setAttr (.ref a) f u) Q E s:=by
 let(mA,O,r,wi,_,ho):=rH I.hok e
 let hz:(fs.map (·.1)).length<=sizeLine:=by rw[au,iQ];lia
 show Hv I.kIn O c.sa c.po n.taker c.hd wi hz λh' O' sb=>h _ ?_;let hd:∃o,h'.get? dx=some o:=let(o,_,_,e',_):=O'.ns;(o,e');erw[I.write (x:=a) (e:=dx) (by rw[e];show True.intro) (.inr ho) (λb q hb z=>(sb.2 b hb).trans z) hd];show(by rw[aB O.ne];show ho,?_,O.ne,O'.obj,_,O'.ns,λg=>?_,λg hg=>?_)
 .have:=Cs f y fs;lia
 .change eR ((bG f y fs).lookup g) (if g=f then some u else mA g)
  rw[Cr];by_cases q:g=f
  .rw[bf q,bf q];show ry
  .grind
 .by_cases q:g=f
  .rw[q];show(uW f y fs).1
  .show(uW f y fs).2 g (wi g λz=>hg ?_)
   grind
def Inv.made(I:Inv X a9 Z H s):Inv X a9 Z (aa (aa H s.heap.objs.size (.own (s.heap.objs.size+1))) (s.heap.objs.size+1) (.ins C s.heap.objs.size []))
  {s with heap:=(s.heap.push W.emptyDict).push (W.instObj C s.heap.objs.size)}:=by
 let e1:(s.heap.push W.emptyDict).get? s.heap.objs.size=some W.emptyDict:=bR s.heap rfl
 let e2:((s.heap.push W.emptyDict).push (W.instObj C s.heap.objs.size)).get? (s.heap.objs.size+1)=some (W.instObj C s.heap.objs.size):=by
  have:=bR (s.heap.push W.emptyDict) (o:=W.instObj C s.heap.objs.size) rfl;rwa[eQ]at this
 let e3:(s.heap.push W.emptyDict).Ns s.heap.objs.size (λ_=>none):=(W.emptyDict,#[],_,e1,rfl,(λe he=>absurd he ∅),λ_=>rfl)
 let I1:=I.laid (a:=s.heap.objs.size) (o:=.own (s.heap.objs.size+1)) (h':=s.heap.push W.emptyDict) (t':=s.toks) (λb u q=>aR _ q) (aD _) (_,e1);erw[I1.laid (a:=s.heap.objs.size+1) (o:=.ins C s.heap.objs.size []) (t':=s.toks) (λb u q=>aR _ q) (Nat.le_of_eq (eQ _ _))];let ne:s.heap.objs.size≠s.heap.objs.size+1:=bW (Ax _);show(by rw[aB ne,ar],cm _,ne,e2,λ_=>none,(Heap.Ns1.of_empty e3).at λo q=>aR _ q,λ_=>True.intro,λy hy=>absurd rfl hy)
def HB{prog:Program}{w:World}{env:Env}{e:Expr}{f:Str}{pos:Pos}{s:Shared}{Q:Value->Shared->Prop}(hb:attributeBase e f env (eval e env)=eval e env)
  (h:wpAny (model prog w) A (eval e env) (λo Rk=>wpAny (model prog w) A (getAttr o f true) Q E Rk) E s):wpAny (model prog w) A (eval (.Attribute e f pos) env) Q E s:=
 Attribute_any_ h (by rw[arm_eval_Attribute,hb])
end
def rK(K:W.Frag)(ta:TE)(f:Str):TE:=λZ H Q=>ta Z H λx H1=>∃a C dx fs v,x=.ref a/\H1 a=some (.ins C dx fs)/\dR K C/\dD K C f/\fs.lookup f=some v/\Q v H1
def rL(K:W.Frag)(ta tv:TE)(f:Str):TS:=λD Z H=>tv Z H λy H1=>ta Z H1 λx H2=>∃a C dx fs,x=.ref a/\H2 a=some (.ins C dx fs)/\dR K C/\dD K C f/\fs.length<1000/\
 D.nx Z (aa H2 a (.ins C dx (bG f y fs)))
section
variable{X:Cx}{o e value:Expr}{f:Str}{pos Rv Sk:Pos}{ta tv:TE}
def HD(he:PE X e ta)(hb:attributeBase e f X.env (eval e X.env)=eval e X.env):PE X (.Attribute e f pos) (rK X.K ta f):=by
 ext a9 s Z H Q I h;show HB hb (aI (he a9 s Z H _ I h) λu s1 (x,H1,I1,rx,a,C,dx,fs,v,ex,ea,c,n,l,q)=>?_);subst ex;obtain rfl:u=Value.ref a:=rx
 show Hy I1 ea c n l λu' s2 I2 ru=>(v,H1,I2,ru,q)
def HF(ha:PE X o ta)(hv:PE X value tv)(hs:swapsWith value (some (.Attribute o f Rv)) pos.line X.env=pure false):PS X (.Assign [.Attribute o f Rv] value pos) (rL X.K ta tv f):=by
 ext a9 s Z H D I h;show plainObj_wpAny_Assign_Attribute (aI (hv a9 s Z H _ I h) λu s1 (y,H1,I1,ry,q)=>aI (ha a9 s1 Z H1 _ I1 q) λov s2 (x,H2,I2,rx,a,C,dx,fs,ex,ea,c,n,l,q2)=>?_) hs;subst ex;obtain rfl:ov=Value.ref a:=rx
 show Hz I2 ea c n l ry λs3 I3=>(Z,_,I3,q2)
end
section
variable{X:Cx}{a9:Tl}{Z:St}{H:Hp}{s:Shared}{A:Around}{E:Value->Shared->Prop}{Q:Value->Shared->Prop}{c:Value}{b:Bool}
inductive hV(K:W.Frag)(H:Hp):V->Value->Prop where
 |non:hV K H .non (.type "NoneType")
 |bl (x:Bool):hV K H (.bl x) (.type "bool")
 |int (i:Int):hV K H (.int i) (.type "int")
 |str (x:Str):hV K H (.str x) (.type "str")
 |flt (x:UInt64):hV K H (.flt x) (.type "float")
 |lst {a:Addr} {xs:LT} (e:H a=some (.lst xs)):hV K H (.ref a) (.type "list")
 |frz {a:Addr} {o:Obj} {xs:LT} (e:H a=some (.frz o (.lst xs))):hV K H (.ref a) (.type "list")
 |tup {a:Addr} {xs:LT} (e:H a=some (.tup xs)):hV K H (.ref a) (.type "tuple")
 |dK {a:Addr} {kvs:Tm} (e:H a=some (.dK kvs)):hV K H (.ref a) (.type "dict")
 |dT {a:Addr} {kvs:List (List aF×V)} (e:H a=some (.dT kvs)):hV K H (.ref a) (.type "dict")
 |ins {a C dx:Addr} {fs:List (Str×V)} (e:H a=some (.ins C dx fs)) (cl:dR K C) (ha:W.findIn K (.ref C) "__class__"=some (some (.builtin "object.__class__")))
   (hn:W.specialIn K (.builtin "object.__class__") "__get__"=some (some (.builtin "getset_descriptor.__get__"))) (htk:W.takesIn K (.builtin "object.__class__")=some true)
   (hm:W.mroIn K C (.type "object")=some true):hV K H (.ref a) (.ref C)
def HG{x:V}{u t:Value}(I:Inv X a9 Z H s)(rx:aV x u)(ty:hV X.K H x t)(e:W.kitOne X.K t c=some b)(h:∀tk,Q (.bool b) {s with toks:=tk}):
  wpAny (model X.prog X.w) A (call (.builtin "isinstance") [u,c]) Q E s:=by
 cases ty with
 |non=>cases(show u=Value.none from rx);show jF W.kitx_none I.kIn True.intro e (λz=>nomatch z) h
 |bl y=>cases(show u=Value.bool y from rx);show jF W.kitx_bool I.kIn True.intro e (λz=>nomatch z) h
 |int i=>obtain⟨t,q⟩:=(show ∃t,u=Value.int i t from rx);cases q;show jF W.kitx_int I.kIn True.intro e (λz=>nomatch z) h
 |str y=>obtain⟨t,q⟩:=(show ∃t,u=Value.str y t from rx);cases q;show jF W.kitx_str I.kIn True.intro e (λz=>nomatch z) h
 |flt y=>obtain⟨t,q⟩:=(show ∃t,u=Value.float y t from rx);cases q;show jF W.kitx_float I.kIn True.intro e (λz=>nomatch z) h
 |@lst a xs ea=>
  cases(show u=Value.ref a from rx)
  let(_,_,n,_,h1):=(show c8 X.prog X.w H s.heap a (.lst xs)from I.hok a _ ea)
  show jF W.kitx_list I.kIn (_,h1,rfl) e (λz=>nomatch z) h
 |@frz a ob xs ea=>
  cases(show u=Value.ref a from rx)
  let(_,_,_,n,_,h1):=(show c8 X.prog X.w H s.heap a (.frz ob (.lst xs))from I.hok a _ ea)
  show jF W.kitx_list I.kIn (_,h1,rfl) e (λz=>nomatch z) h
 |@tup a xs ea=>
  cases(show u=Value.ref a from rx)
  let(_,_,_,p):=(show c8 X.prog X.w H s.heap a (.tup xs)from I.hok a _ ea)
  let(o,h1,h2,_):=p;show jF W.kitx_tuple I.kIn (o,h1,h2) e (λz=>nomatch z) h
 |@dK a kvs ea=>
  cases(show u=Value.ref a from rx)
  let(_,_,vs,_,p):=(show c8 X.prog X.w H s.heap a (.dK kvs)from I.hok a _ ea)
  let(o,es,ep,h1,h2,_):=p;show jF W.kitx_dict I.kIn (o,h1,h2.1) e (λz=>nomatch z) h
 |@dT a kvs ea=>
  cases(show u=Value.ref a from rx)
  let(_,_,xs,_,o,es,ep,h1,h2,_):=(show c8 X.prog X.w H s.heap a (.dT kvs)from I.hok a _ ea)
  show jF W.kitx_dict I.kIn (o,h1,h2.1) e (λz=>nomatch z) h
 |@ins a C dx fs ea cl ha hn htk hm=>
  cases(show u=Value.ref a from rx);let(mA,O,_):=rH I.hok ea;let(od,J,_):=O.look;show jF (W.kitx_own (cl.get _) cl.hd ha hn htk hm) I.kIn J e (λz=>nomatch z) h
end
structure cn(k:Nat)(A:Around):Prop where
 hd:A.handled=none
 dp:A.depth+3*k+5<recursionLimit
 un:A.units+16*k+200<cLine
def cn.mono{j k:Nat}{A:Around}(r:cn k A)(h:j<=k):cn j A:=(r.hd,by have:=r.dp;lia,by have:=r.un;lia)
def cn.deeper{k:Nat}{A:Around}(r:cn (k+1) A)(env:Env):cn k (A.deeper env):=
 (r.hd,by have:=r.dp;change A.depth+1+3*k+5<_;lia,by have:=r.un;change A.units+3+16*k+200<_;lia)
def HI{A:Around}{C:Addr}{us:T0}{kw:List (Str×Value)}:(A.under (.builtin "type.__call__" (.ref C::us,kw))).depth=A.depth+1:=by
 first|rfl|simp[Around.under,Code.weight,Code.isCreation,Code.isGuard,Code.isCaller,Code.frames,Code.isFrame,guardIds]
def HJ{A:Around}{C:Addr}{us:T0}{kw:List (Str×Value)}:(A.under (.builtin "type.__call__" (.ref C::us,kw))).units=A.units+1:=by
 first|rfl|simp[Around.under,Code.cUnits,Code.frames,Code.isFrame]
def cn.make{k:Nat}{A:Around}(r:cn (k+1) A)(C:Addr)(us:T0)(kw:List (Str×Value)):cn k (A.under (.builtin "type.__call__" (.ref C::us,kw))):=
 (r.hd,by have:=r.dp;rw[HI];lia,by have:=r.un;rw[HJ];lia)
def cn.depth{k:Nat}{A:Around}(r:cn k A):A.depth<recursionLimit:=by have:=r.dp;lia
def cn.units{k:Nat}{A:Around}(r:cn k A):A.units+64<cLine:=by have:=r.un;lia
def jd:TA:=λ_ H Q=>Q [] H
def mV(ta:TE)(tr:TA):TA:=λZ H Q=>ta Z H λx H1=>tr Z H1 λxs H2=>Q (x::xs) H2
section
variable{X:Cx}{e:Expr}{es:List Expr}{te:TE}{t:TA}{pos:Pos}
def ak:PA X [] jd:=λ_ _ _ _ H Q I h=>uA ([],H,I,.nil,h)
def ab(ha:PE X e te)(hr:PA X es t)(hs:↥(starEach (e::es) X.env=(false,eval e X.env,)::starEach es X.env)):PA X (e::es) (mV te t):=by
 ext pos a9 s Z H Q I h;rw[hs]
 change wpAny _ _ (spliced ((false,eval e X.env,)::backTo pos (starEach es X.env))) _ _ s
 show mH (aI (ha a9 s Z H _ I h) λu s1 (x,H1,I1,r1,q1)=>?_)
 show aI (hr pos a9 s1 Z H1 _ I1 q1) λus s2 (xs,H2,I2,r2,q2)=>(x::xs,H2,I2,.cons r1 r2,q2)
def Cv(t:TA):TE:=λZ H Q=>t Z H λxs H1=>xs.length<=sizeLine/\∀p,H1 p=none->Q (.ref p) (aa H1 p (.tup xs))
def Cw(t:TA):TE:=λZ H Q=>t Z H λxs H1=>xs.length<=sizeLine/\∀p,H1 p=none->Q (.ref p) (aa H1 p (.lst xs))
def cp{x1}(h:PA X es t):PE X (.Tuple es x1 pos) (Cv t):=by
 ext a9 s Z H Q I hq;show wpAny_Tuple_spliced (aI (h pos a9 s Z H _ I hq) λus s1 (xs,H1,I1,r,z,q)=>(by rw[<-r.length];show z,?_));let hf:H1 s1.heap.objs.size=none:=I1.hok.fresh (aD _);show(.ref s1.heap.objs.size,aa H1 s1.heap.objs.size (.tup xs),I1.laid (t':=s1.toks) (λb u e=>aR _ e) (aD _) ?_,rfl,q _ hf);show(z,us,r,(_,bR _ rfl,rfl,_,rfl))
def dS(h:PA X es t):PE X (.List es pos) (Cw t):=by
 ext a9 s Z H Q I hq;show wpAny_List_spliced (aI (h pos a9 s Z H _ I hq) λus s1 (xs,H1,I1,r,z,q)=>(by rw[<-r.length];show z,?_));let hf:H1 s1.heap.objs.size=none:=I1.hok.fresh (aD _);show(.ref s1.heap.objs.size,aa H1 s1.heap.objs.size (.lst xs),I1.laid (t':=s1.toks) (λb u e=>aR _ e) (aD _) ?_,rfl,q _ hf);show(z,us,0,r,bR _ rfl)
end
abbrev Sp:=LT->Hp->VK->XK->Prop
abbrev ix:=List Env->Hp->Shared->XK->Value->Shared->Prop
structure lY(P:Program)(w:World)(K:W.Frag)(mg:Str->Option Value)(base:Heap)(A:Around)(outer:List Env)(s:Shared)(H:Hp):Prop where
 frames:A.frames=some outer
 mod:Mod K mg base
 bs:∀b o,base.get? b=some o->s.heap.get? b=some o/\H b=none
 bsz:base.objs.size<=s.heap.objs.size
 funs:s.heap.FunFrames base outer
 frf:∀b∈gs outer,H b=none
 hok:cz P w H s.heap
 bare:AllBare s.gens
def CE(outer:List Env)(P:Program)(w:World)(H:Hp)(s:Shared)(Q:VK)(u:Value)(s':Shared):Prop:=
 ∃v H',s'.os=s.os/\AllBare s'.gens/\Un (gs outer) [] H H' s.heap s'.heap/\cz P w H' s'.heap/\aV v u/\Q v H'
def CR(CX:ix)(outer:List Env)(P:Program)(w:World)(H:Hp)(s:Shared)(Q:VK)(E:XK)(r:Result)(s':Shared):Prop:=
 match r with
 |.ok (.ret u)=>CE outer P w H s Q u s'
 |.ok _=>False
 |.error e=>CX outer H s E e s'
structure aN(P:Program)(w:World)(K:W.Frag)(mg:Str->Option Value)(base:Heap)(CX:ix)(k:Nat)(f:Addr)(fd:FuncData)(ps:List Str)(sp:Sp):Prop where
 len:∀vs H Q E,sp vs H Q E->vs.length=ps.length
 run:∀(A:Around) (outer:List Env) (s:Shared) (H:Hp) (args:Args) (us:T0) (vs:LT) (Q:VK) (E:XK),cn k A->lY P w K mg base A outer s H->BindsTo s fd args (ps.zip us)->a_ vs us->sp vs H Q E->
  codeAny (model P w) A (.call (.ref f) args) (CR CX outer P w H s Q E) s
def aN.mono{P:Program}{w:World}{K:W.Frag}{mg:Str->Option Value}{base:Heap}{CX:ix}{j k:Nat}{f:Addr}{fd:FuncData}{ps:List Str}{sp:Sp}(F:aN P w K mg base CX j f fd ps sp)(h:j<=k):
  aN P w K mg base CX k f fd ps sp:=(F.len,λA outer s H args us vs Q E hr=>F.run A outer s H args us vs Q E (hr.mono h))
def lY.make{P:Program}{w:World}{K:W.Frag}{mg:Str->Option Value}{base:Heap}{A:Around}{outer:List Env}{s:Shared}{H:Hp}(e:lY P w K mg base A outer s H)(C:Addr)(us:T0)(kw:List (Str×Value)):
  lY P w K mg base (A.under (.builtin "type.__call__" (.ref C::us,kw))) outer s H:=(by first|show e.frames|(simpa[Around.under,Code.envs,Code.isFrame,pushEnvs]using e.frames),e.mod,e.bs,e.bsz,e.funs,e.frf,e.hok,e.bare)
section
variable{X:Cx}{a9:Tl}{Z:St}{H:Hp}{s s':Shared}
def Inv.env0(I:Inv X a9 Z H s):lY X.prog X.w X.K X.mg X.base X.A X.stack s H:=
 (I.ok.frames,I.ok.mod,I.bs,cf I.ok.bsz I.sz,I.stack,I.stkFree,I.hok,I.bare)
def Inv.after{Q:VK}{u:Value}(I:Inv X a9 Z H s)(h:CE X.stack X.prog X.w H s Q u s'):EP X a9 Z Q u s':=by
 let(v,H',os,bare,un,hok,r,q):=h;let(hh,g,d,t,os'):=s';obtain rfl:os'=s.os:=os;show(v,H',I.call (h':=hh) (g':=g) (d':=d) (t':=t) (ch:=[]) un hok bare (λb z=>absurd z ∅),r,q)
end
def rM(sp:Sp)(SA:LT)(E:XK)(t:TA):TE:=λZ H Q=>t Z H λvs H1=>sp (vs++SA) H1 Q E
def lZ(C:Addr)(m:Str)(sp:Sp)(SA:LT)(E:XK)(ta:TE)(t:TA):TE:=λZ H Q=>ta Z H λx H1=>∃a dx fs,x=.ref a/\H1 a=some (.ins C dx fs)/\fs.lookup m=none/\
 t Z H1 λvs H2=>sp (x::(vs++SA)) H2 Q E
def oV(C:Addr)(sp:Sp)(SA:LT)(E:XK)(t:TA):TE:=λZ H Q=>t Z H λvs H1=>∀x dx,H1 x=none->H1 dx=none->dx≠x->
 sp (.ref x::(vs++SA)) (aa (aa H1 dx (.own x)) x (.ins C dx [])) (λv H2=>v=.non/\Q (.ref x) H2) E
def f_(K:W.Frag)(fd:FuncData)(ps:List Str)(ds:T0):Prop:=
 ∀(s:Shared) (us:T0),K.In s.heap->(us++ds).length=ps.length->BindsTo s fd (us,[]) (ps.zip (us++ds))
def f_.all{K:W.Frag}{fd:FuncData}{ps:List Str}(h:∀us:T0,us.length=ps.length->bindArgs fd (us,[])=pure (ps.zip us)):f_ K fd ps []:=λs us _ hl=>by
 rw[jD]at hl⊢;show .of_eq (h us hl)
def kQ(CX:ix)(X:Cx)(E:XK):Prop:=∀(a9:Tl) (Z:St) (H:Hp) (s:Shared) (e:Value) (s':Shared),Inv X a9 Z H s->CX X.stack H s E e s'->X.xe e s'
section
variable{X:Cx}{CX:ix}{k:Nat}{f C:Addr}{fd:FuncData}{ps:List Str}{sp:Sp}{SA:LT}{ds:T0}{E:XK}{x m:Str}{p pos bM:Pos}{e o:Expr}{es:List Expr}{ta:TE}{t:TA}
def rN{a9:Tl}{Z:St}{H:Hp}{s:Shared}{Q:VK}{us:T0}{vs:LT}(F:aN X.prog X.w X.K X.mg X.base CX k f fd ps sp)(hr:cn k X.A)(hb:f_ X.K fd ps ds)(hd:a_ SA ds)(hx:kQ CX X E)
  (I:Inv X a9 Z H s) (r:a_ vs us) (h:sp (vs++SA) H Q E):wpAny (model X.prog X.w) X.A (call (.ref f) us) (EP X a9 Z Q) X.xe s:=by
 let r2:a_ (vs++SA) (us++ds):=r.append hd
 let hl:(us++ds).length=ps.length:=by rw[<-r2.length];show F.len _ _ _ _ h
 show wpAny_call (lS (F.run X.A X.stack s H (us,[]) (us++ds) (vs++SA) Q E hr I.env0 (hb s us I.kIn hl) r2 h) λr s' hq=>?_)
 cases r with
 |error e=>show hx a9 Z H s e s' I hq
 |ok fl=>
  cases fl with
  |ret u=>show I.after hq
  |next=>show False.elim hq
  |brk=>show False.elim hq
  |cont=>show False.elim hq
def HK(F:aN X.prog X.w X.K X.mg X.base CX k f fd ps sp)(hr:cn k X.A)(hg:Gl X x)(hm:X.mg x=some (.ref f))(hk:W.keepIn X.K (.ref f)=true)(hb:f_ X.K fd ps ds)(hd:a_ SA ds)(hx:kQ CX X E)
  (ha:PA X (e::es) t) (hdb:⇑((x==("__debug__":Str))=false)) (he:↥(starEach (e::es) X.env=(false,eval e X.env,)::starEach es X.env)) (hpl:↥((backTo pos (starEach es X.env)).any (·.1)=false)):
  PE X (.Call (.Name x p) (e::es) [] pos) (rM sp SA E t):=by
 ext a9 s Z H Q I h;show qM (rp I hg hm ?_ hdb);show W.callWith_K (h₀:=X.base) I.ok.mod.kin hk (aI (ha pos a9 s Z H _ I h) λus s1 (vs,H1,I1,r,q)=>(I1.kIn,?_)) he hpl;show rN F hr hb hd hx I1 r q
def HL{pl:Sem Bool}(he:PE X o ta)(c:dR X.K C)(hm:rJ X.K C m f)(F:aN X.prog X.w X.K X.mg X.base CX k f fd ps sp)(hr:cn k X.A)(hb:f_ X.K fd ps ds)(hd:a_ SA ds)(hx:kQ CX X E)(ha:PA X (e::es) t)
  (hst:↥(starEach (e::es) X.env=(false,eval e X.env,)::starEach es X.env)) (hpl:↥((backTo pos (starEach es X.env)).any (·.1)=false))
  (ht:↥(eval (.Call (.Attribute o m bM) (e::es) [] pos) X.env=(do
   let ov<-eval o X.env
   standAt bM.atName
   let(f,first,)<-holding [ov] (getMethod ov m pl)
   callWith pos f first (backTo pos (starEach (e::es) X.env)) (backToKw pos (keywordEach [] X.env))))):
  PE X (.Call (.Attribute o m bM) (e::es) [] pos) (lZ C m sp SA E ta t):=by
 ext a9 s Z H Q I h;show W.methodCall_KW (pl:=pl) (aI (he a9 s Z H _ I h) λu s1 (x,H1,I1,rx,a,dx,fs,ex,ea,l,q)=>?_) ht;subst ex;obtain rfl:u=Value.ref a:=rx;erw[Cu I1 ea c hm l];show W.callWith_K (first:=[.ref a]) (h₀:=X.base) I.ok.mod.kin hm.kp (aI (ha pos a9 s1 Z H1 _ I1 q) λus s2 (vs,H2,I2,r,q2)=>(I2.kIn,?_)) hst hpl;show rN (us:=.ref a::us) (vs:=.ref a::vs) F hr hb hd hx I2 (.cons rfl r) q2
def HM{pl:Sem Bool}(he:PE X o ta)(c:dR X.K C)(hm:rJ X.K C m f)(F:aN X.prog X.w X.K X.mg X.base CX k f fd ps sp)(hr:cn k X.A)(hb:f_ X.K fd ps ds)(hd:a_ SA ds)(hx:kQ CX X E)
  (ht:↥(eval (.Call (.Attribute o m bM) [] [] pos) X.env=(do
   let ov<-eval o X.env
   standAt bM.atName
   let(f,first,)<-holding [ov] (getMethod ov m pl)
   callWith pos f first (backTo pos (starEach [] X.env)) (backToKw pos (keywordEach [] X.env))))):
  PE X (.Call (.Attribute o m bM) [] [] pos) (lZ C m sp SA E ta jd):=by
 ext a9 s Z H Q I h;show W.methodCall_KW (pl:=pl) (aI (he a9 s Z H _ I h) λu s1 (x,H1,I1,rx,a,dx,fs,ex,ea,l,q)=>?_) ht;subst ex;obtain rfl:u=Value.ref a:=rx;erw[Cu I1 ea c hm l];show W.callWith_K0 (first:=[.ref a]) I1.kIn hm.kp (rN (us:=[.ref a]) (vs:=[.ref a]) F hr hb hd hx I1 (.cons rfl .nil) q)
structure Mk(K:W.Frag)(C f:Addr):Prop where
 makes:W.makesIn K C=true
 init:W.findIn K (.ref C) "__init__"=some (some (.ref f))
 fn:W.isFn K (.ref f)=true
 kp:W.keepIn K (.ref C)=true
def Cy{a9:Tl}{Z:St}{H:Hp}{s:Shared}{Q:VK}{us:T0}{vs:LT}(M:Mk X.K C f)(F:aN X.prog X.w X.K X.mg X.base CX k f fd ps sp)(hr:cn (k+1) X.A)(hb:f_ X.K fd ps ds)(hd:a_ SA ds)
  (hx:kQ CX X E) (I:Inv X a9 Z H s) (r:a_ vs us)
  (h:∀x dx,H x=none->H dx=none->dx≠x->sp (.ref x::(vs++SA)) (aa (aa H dx (.own x)) x (.ins C dx [])) (λv H2=>v=.non/\Q (.ref x) H2) E):
  wpAny (model X.prog X.w) X.A (call (.ref C) us) (EP X a9 Z Q) X.xe s:=by
 let hq:=h (s.heap.objs.size+1) s.heap.objs.size (I.hok.fresh (kE _)) (I.hok.fresh (aD _)) (bW (Ax _));let I2:=Inv.made (C:=C) I;let r2:a_ (V.ref (s.heap.objs.size+1)::(vs++SA)) (Value.ref (s.heap.objs.size+1)::(us++ds)):=.cons rfl (r.append hd)
 let hl:(Value.ref (s.heap.objs.size+1)::us++ds).length=ps.length:=by
  let e:=r2.length;rw[F.len _ _ _ _ hq]at e
  grind
 show wpAny_call (Hw (f:=f) I.kIn M.makes M.init (beq_iff_eq.mp M.fn) (lS (F.run _ X.stack _ _ (Value.ref (s.heap.objs.size+1)::us,[]) (Value.ref (s.heap.objs.size+1)::(us++ds)) _ _ E (hr.make C us [])
  (I2.env0.make C us []) (hb _ (Value.ref (s.heap.objs.size+1)::us) I2.kIn hl) r2 hq) λr s' TV=>?_))
 cases r with
 |error e=>show hx a9 Z _ _ e s' I2 TV
 |ok fl=>
  cases fl with
  |ret u=>
   let(v,H',I3,rv,ev,q3):=I2.after TV;subst ev;show(rv,(V.ref (s.heap.objs.size+1),H',I3,rfl,q3))
  |next=>show False.elim TV
  |brk=>show False.elim TV
  |cont=>show False.elim TV
def HN(M:Mk X.K C f)(F:aN X.prog X.w X.K X.mg X.base CX k f fd ps sp)(hr:cn (k+1) X.A)(hg:Gl X x)(hm:X.mg x=some (.ref C))(hb:f_ X.K fd ps ds)(hd:a_ SA ds)(hx:kQ CX X E)
  (ha:PA X (e::es) t) (hdb:⇑((x==("__debug__":Str))=false)) (he:↥(starEach (e::es) X.env=(false,eval e X.env,)::starEach es X.env)) (hpl:↥((backTo pos (starEach es X.env)).any (·.1)=false)):
  PE X (.Call (.Name x p) (e::es) [] pos) (oV C sp SA E t):=by
 ext a9 s Z H Q I h;show qM (rp I hg hm ?_ hdb);show W.callWith_K (h₀:=X.base) I.ok.mod.kin M.kp (aI (ha pos a9 s Z H _ I h) λus s1 (vs,H1,I1,r,q)=>(I1.kIn,?_)) he hpl;show Cy M F hr hb hd hx I1 r q
def HP(M:Mk X.K C f)(F:aN X.prog X.w X.K X.mg X.base CX k f fd ps sp)(hr:cn (k+1) X.A)(hg:Gl X x)(hm:X.mg x=some (.ref C))(hb:f_ X.K fd ps ds)(hd:a_ SA ds)(hx:kQ CX X E)
  (hdb:⇑((x==("__debug__":Str))=false)):PE X (.Call (.Name x p) [] [] pos) (oV C sp SA E jd):=by
 ext a9 s Z H Q I h;show qM (rp I hg hm ?_ hdb);show W.callWith_K0 I.kIn M.kp (Cy (us:=[]) M F hr hb hd hx I .nil h)
end
section
variable{X:Cx}{CX:ix}{k:Nat}{f C:Addr}{fd:FuncData}{ps ks:List Str}{sp:Sp}{E:XK}{x m:Str}{p pos bM jd8:Pos}{e o:Expr}{es:List Expr}{kws:List Keyword}{te ta:TE}{t tk:TA}{nm:Option Str}
variable{g:T0->T0->T0}{gV:LT->LT->LT}
end
structure bc(N P:List Str)(sc:Scope):Prop where
 kind:sc.kind=.function
 co:sc.isCoroutine=false
 gen:sc.isGenerator=false
 nd:N.Nodup
 pre:N.take P.length=P
 par:∀x∈P,sc.names.lookup x=some .local \/sc.names.lookup x=some .cell
 nofree:∀y∈sc.names,y.2≠ .free
theorem Cz{kindOf:Str->Option NameKind}{x:Str}:∀{binds:List (Str×Value)} {m:Str->Option Value},(∀v,(x,v,)∉binds)->bindL kindOf binds m x=m x
 |[],_,_=>rfl
 |(n,v,)::r,m,h=>by
  unfold bindL;rw[Cz λw hw=>h w (gW _ hw)];split
  .grind
  .rfl
theorem CA{kindOf:Str->Option NameKind}{x:Str}:∀{binds:List (Str×Value)} {m:Str->Option Value},(∀v,(x,v,)∉binds)->bindC kindOf binds m x=m x
 |[],_,_=>rfl
 |(n,v,)::r,m,h=>by
  unfold bindC;rw[CA λw hw=>h w (gW _ hw)];split
  .rfl
  .grind
theorem CB{kindOf:Str->Option NameKind}{x:Str}{v:Value}:∀{P:List Str} {vs:T0} {i:Nat} {m:Str->Option Value},P.Nodup->P[i]?=some x->vs[i]?=some v->kindOf x=some .local ->
  bindL kindOf (P.zip vs) m x=some v
 |[],_,_,_,_,h,_,_=>by simp at h
 |_::_,[],_,_,_,_,h,_=>by simp at h
 |p::P,w::vs,0,m,nd,h1,h2,hk=>by
  simp at h1 h2;subst h1;subst h2
  change bindL kindOf ((p,w,)::P.zip vs) m p=_
  unfold bindL;rw[Cz λv hv=>(fV.mp nd).1 (List.of_mem_zip hv).1,bf hk];simp
 |p::P,w::vs,i+1,m,nd,h1,h2,hk=>by
  change bindL kindOf ((p,w,)::P.zip vs) m x=_
  unfold bindL;show CB (i:=i) (fV.mp nd).2 ⋯ ⋯ hk
theorem CC{kindOf:Str->Option NameKind}{x:Str}{v:Value}:∀{P:List Str} {vs:T0} {i:Nat} {m:Str->Option Value},P.Nodup->P[i]?=some x->vs[i]?=some v->kindOf x≠some .local ->
  bindC kindOf (P.zip vs) m x=some v
 |[],_,_,_,_,h,_,_=>by simp at h
 |_::_,[],_,_,_,_,h,_=>by simp at h
 |p::P,w::vs,0,m,nd,h1,h2,hk=>by
  simp at h1 h2;subst h1;subst h2
  change bindC kindOf ((p,w,)::P.zip vs) m p=_
  unfold bindC;rw[CA λv hv=>(fV.mp nd).1 (List.of_mem_zip hv).1,aO hk];simp
 |p::P,w::vs,i+1,m,nd,h1,h2,hk=>by
  change bindC kindOf ((p,w,)::P.zip vs) m x=_
  unfold bindC;show CC (i:=i) (fV.mp nd).2 (by simpa using h1) (by simpa using h2) hk
noncomputable def kR(N:List Str)(vs:LT):St:=vs.map some++List.replicate (N.length - vs.length) none
noncomputable def mW(CX:ix)(P:Program)(w:World)(K:W.Frag)(mg:Str->Option Value)(base:Heap)(N:List Str)(qual:Str)(scope:Scope)(f:Addr)(cd:Value)(A:Around)(outer:List Env)(s:Shared)(H:Hp)(E:XK):Cx where
 prog:=P
 w:=w
 K:=K
 mg:=mg
 base:=base
 A:=A.deeper (envOfC qual scope s.heap.objs.size f cd)
 N:=N
 s₀:=s
 H₀:=H
 env:=envOfC qual scope s.heap.objs.size f cd
 outer:=outer
 stack:=envOfC qual scope s.heap.objs.size f cd::outer
 ex:=[]
 calm:=true
 fn:=λ_=>true
 pn:=[]
 xe:=λe s'=>wpAny (model P w) (A.deeper (envOfC qual scope s.heap.objs.size f cd)) (leaving (envOfC qual scope s.heap.objs.size f cd) e) (λ_ Zy=>CX outer H s E e Zy) (λe' Zy=>CX outer H s E e' Zy) s'
def CF{sc:Scope}{n:Nat}{x:Str}(h:sc.names.lookup x=some .cell):∃c,(cellsFrom n sc.names []).lookup x=some c:=by
 let q:=W.cellsFrom_some sc.names n [] (.inl h);show Option.isSome_iff_exists.mp q
def inv_start{CX:ix}{P:Program}{w:World}{K:W.Frag}{mg:Str->Option Value}{base:Heap}{N ps:List Str}{qual:Str}{scope:Scope}{f:Addr}{cd:Value}{A:Around}{outer:List Env}{s s1:Shared}{H:Hp}{E:XK}{us:T0}{vs:LT}
  (S:bc N ps scope) (hd:A.handled=none) (e0:lY P w K mg base A outer s H) (hl:vs.length=ps.length) (r:a_ vs us)
  (x:InCallC s s.heap.objs.size (bindL (envOfC qual scope s.heap.objs.size f cd).kindOf (ps.zip us) λ_=>none) (cellsFrom (s.heap.objs.size+1) scope.names []) (bindC (envOfC qual scope s.heap.objs.size f cd).kindOf (ps.zip us) λ_=>none) s1):
  Inv (mW CX P w K mg base N qual scope f cd A outer s H E) [] (kR N vs) H s1:=by
 let hpl:ps.length<=N.length:=by have:=congrArg List.length S.pre;rw[d_]at this;lia
 let(h1,tk,rfl,hk):=x.done;let XC:∀b:Addr,b∉ (mW CX P w K mg base N qual scope f cd A outer s H E).ex:=λb z=>absurd (show b∈([]:Tk)from z) ∅
 show((e0.mod,S.kind,rfl,rfl,aD _,λy z c h1 h2=>?_,λy hy=>?_,λy c _ h=>?_,λ_=>hd,Around.frames_deeper e0.frames,.inr (rfl,rfl),λb z=>absurd z (XC b),e0.bs,e0.bsz,λb _ _=>XC b,λb z=>absurd z (XC b),e0.funs,e0.frf),
  rfl,e0.bare,Un.kept hk,(_,x.toInCall.ns,λi y v h1 h2 h3=>?_),λy c h=>(_,x.cell y c h),e0.hok.fresh (aD _),λy c h=>?_,λp hp=>absurd (show p∈([]:Tl)from hp) ∅,e0.hok.kept hk,?_)
 .show name_of_addr x.apart (mem_of_lookup h1) (mem_of_lookup h2)
 .let hy:scope.names.lookup y=some .cell\/scope.names.lookup y=some .free:=hy
  rcases hy with hy|hy
  .show CF hy
  .show absurd rfl (S.nofree _ (mem_of_lookup hy))
 .show j9 (x.above y c (mem_of_lookup h))
 .let hi:i<vs.length:=by
   unfold kR at h2
   grind
  let ha:vs[i]?=some v:=by
   unfold kR at h2
   grind
  let(u,hu,rv):=r.get ha
  let hp:ps[i]?=some y:=by
   rw[<-S.pre,List.getElem?_take_of_lt ()];show h1
  let ndP:ps.Nodup:=by rw[<-S.pre];show S.nd.sublist (List.take_sublist _ _)
  show(u,rv,?_)
  rcases S.par y (dr hp)with k|k
  .show .inl (k,CB ndP hp hu k)
  .let(c,e):=CF (n:=s.heap.objs.size+1) k;show .inr (.inl k,c,e,?_);let q:=x.cell y c e;rw[CC ndP hp hu (by change scope.names.lookup y≠_;rw[k];decide)]at q;show q
 .show e0.hok.fresh (j9 (x.above y c (mem_of_lookup h)))
 .unfold kR
  change _=N.length
  grind
def HQ{CX:ix}{P:Program}{w:World}{K:W.Frag}{mg:Str->Option Value}{base:Heap}{k:Nat}{f:Addr}{name qual:Str}{params:Arguments}{body:List Stmt}{scope:Scope}{dV kV S6 pm aP ct oc:Value}{an od:Option Addr}
  {VD:Array (Option Value)} {N ps:List Str} {sp:Sp} (lk:K.lookup f=some (oc,od,.func (W.fnOf name qual params body scope dV kV S6 pm an aP ct),VD)) (hcd:W.codeIn K aP qual=true) (S:bc N ps scope)
  (len:∀vs H Q E,sp vs H Q E->vs.length=ps.length)
  (hbody:∀(A:Around) (outer:List Env) (s:Shared) (H:Hp) (vs:LT) (Q:VK) (E:XK),cn k (A.deeper (envOfC qual scope s.heap.objs.size f aP))->sp vs H Q E->
   ∃t,gv (mW CX P w K mg base N qual scope f aP A outer s H E) body t/\t {nx:=λ_ H'=>Q .non H',rt:=Q} (kR N vs) H):
  aN P w K mg base CX (k+1) f (W.fnOf name qual params body scope dV kV S6 pm an aP ct) ps sp:=by
 show(len,λA outer s H args us vs Q E hr e0 hb r hsp=>?_);let hl:=len _ _ _ _ hsp;let KX:K.In s.heap:=e0.mod.kin.keeps λb o e=>(e0.bs b o e).1;let lim:s.heap.NoLimit:=e0.mod.nolimit.keeps λb o e=>(e0.bs b o e).1
 let X_:∀y∈ps.zip us,scope.names.lookup y.1=some .local \/(scope.names.lookup y.1=some .cell/\((cellsFrom (s.heap.objs.size+1) scope.names []).lookup y.1).isSome=true):=λ(n,v) hy=>by
  rcases S.par n (List.of_mem_zip hy).1 with q|q
  .show .inl q
  .show .inr (q,W.cellsFrom_some _ _ _ (.inl q))
 show codeAny_call_function hr.depth (KX _ _ lk) rfl S.co S.gen rfl (W.codeRec_of KX hcd) (hb _ _ _ _ ?_);show wpAny_newFunctionEnv_cells S.kind X_ λenv he s1 x=>?_;subst he;show(lim.keeps x.toInCall.keep,codeAny_func ?_);let(t,ht,hq):=hbody A outer s H vs Q E (hr.deeper _) hsp;let I:Inv (mW CX P w K mg base N qual scope f aP A outer s H E) [] (kR N vs) H s1:=inv_start S hr.hd e0 hl r x;show cR (ht [] s1 (kR N vs) H _ I hq) (λfl s' hs=>?_) λe s' hs=>hs
 let fin:∀{Z':St} {H':Hp} {v:V} {u:Value},Inv (mW CX P w K mg base N qual scope f aP A outer s H E) [] Z' H' s'->aV v u->Q v H'->CE outer P w H s Q u s':=
  λ{Z' H' v u} J rv q=>(v,H',J.os,J.bare,J.base,J.hok,rv,q)
 cases fl with
 |ret u=>
  let(v,Z',H',J,rv,q):=hs;show fin J rv q
 |next=>
  let(Z',H',J,q):=hs;show fin (v:=V.non) (u:=Value.none) J rfl q
 |brk=>
  let(_,_,_,q):=hs;show False.elim q
 |cont=>
  let(_,_,_,q):=hs;show False.elim q
section
variable{X:Cx}{x:Str}{p pos:Pos}{e:Expr}{es:List Expr}{t:TA}{id T:String}{r:LT->Hp->VK->Prop}
def mX(r:LT->Hp->VK->Prop)(t:TA):TE:=λZ H Q=>t Z H λvs H1=>r vs H1 Q
omit cg eI builtin type id T PyProof.Rows.callWith_builtin1 qB in
def cg(hc:cJ X (.builtin id) r)(hg:Gl X x)(hm:X.mg x=none)(hv:bootBuiltins x=some (.builtin id))(ha:PA X (e::es) t)(hn:⇑(x≠"__name__"))(hdb:⇑((x==("__debug__":Str))=false))
  (he:↥(starEach (e::es) X.env=(false,eval e X.env,)::starEach es X.env)) (hpl:↥((backTo pos (starEach es X.env)).any (·.1)=false)):PE X (.Call (.Name x p) (e::es) [] pos) (mX r t):=by
 ext a9 s Z H Q I h;show qM (kK I hg hm hv ?_ hn hdb);show PyProof.Rows.callWith_builtin1 (aI (ha pos a9 s Z H _ I h) λus s1 (vs,H1,I1,r1,q1)=>hc a9 s1 Z H1 vs us Q I1 r1 q1) he hpl
end
end L2
namespace HT
open PySem PyProof.Rows
section
open PySem.SeqAt
open PySem.AutoSeq1 (wpAny_loadPart')
open PySem.MeetsSeq PySem.MeetsSeq2 PySem.MeetsSeq3
end
section
variable{prog:Program}{w:World}{A:Around}{E:Value->Shared->Prop}{s:Shared}
noncomputable def sIx(n d:Nat):Option Int->Nat
 |none=>d
 |some v=>if v<0 then(v+(n:Int)).toNat else min v.toNat n
def sIx_none(n d:Nat):sIx n d none=d:=rfl
def sIx_nat(n d k:Nat):sIx n d (some (k:Int))=min k n:=by
 change(if(k:Int)<0 then((k:Int)+(n:Int)).toNat else min (k:Int).toNat n)=min k n
 grind
def HR(n d:Nat)(hd:d<=n)(o:Option Int):sIx n d o<=n:=by
 cases o with
 |none=>show hd
 |some v=>
  change(if v<0 then(v+(n:Int)).toNat else min v.toNat n)<=n
  grind
def CG(v:Int)(n d:Nat):(if v<0 then max (v+(n:Int)) 0 else min v (n:Int))=((sIx n d (some v):Nat):Int):=by
 change(if v<0 then max (v+(n:Int)) 0 else min v (n:Int))=(((if v<0 then(v+(n:Int)).toNat else min v.toNat n):Nat):Int)
 grind
def HS(lo hi:Option Int)(n:Nat):Builtin.Slice.sliceAdjust lo hi 1 (n:Int)=(((sIx n 0 lo:Nat):Int),((sIx n n hi:Nat):Int),):=by
 let h1:¬((1:Int)<0):=()
 unfold Builtin.Slice.sliceAdjust;simp only[h1,if_false];erw[Prod.ext ?_]
 .cases lo with
  |none=>rfl
  |some v=>show CG v n 0
 .cases hi with
  |none=>rfl
  |some v=>show CG v n n
def HU(i j:Nat):Builtin.Slice.slicePlaces (i:Int) (j:Int) 1=j - i:=by
 unfold Builtin.Slice.slicePlaces;lia
def CH{v:Value}{o:Option Int}{Q:Option Int->Shared->Prop}(p:IsPart v o)(h:Q o s):wpAny (model prog w) A (Builtin.Slice.slicePartIndex v) Q E s:=by
 cases p with
 |none=>show slicePart_none h
 |int i t=>show slicePart_int h
def HV{sl:Addr}{vl vu:Value}{lo hi:Option Int}{n:Nat}{Q:Int×Int×Nat->Shared->Prop}(hs:s.heap.IsSliceOf sl vl vu .none)(pl:IsPart vl lo)(pu:IsPart vu hi)
  (h:Q (((sIx n 0 lo:Nat):Int),1,sIx n n hi - sIx n 0 lo,) s):wpAny (model prog w) A (Builtin.Slice.sliceApplied (.ref sl) (pure (n:Int))) Q E s:=by
 let(os,XZ,WA,Zb):=id hs;unfold Builtin.Slice.sliceApplied Builtin.Slice.sliceFields;show ae (ae (g_ XZ Zb (x:=vl) rfl (ae (g_ XZ Zb (x:=vu) rfl (ae (g_ XZ Zb (x:=.none) rfl (aw ?_)))))));show ae (slicePart_none ?_)
 change wpAny _ _ (if((1:Int)==0)=true then _ else _) _ _ s
 rw[aO (by decide)];show ae (CH pl (ae (CH pu (ae (aw ?_)))))
 change wpAny _ _ (match Builtin.Slice.sliceAdjust lo hi 1 (n:Int)with|(lo,hi,)=>pure (lo,(1:Int),Builtin.Slice.slicePlaces lo hi 1,)) _ _ s
 rw[HS lo hi n]
 change wpAny _ _ (pure (((sIx n 0 lo:Nat):Int),(1:Int),Builtin.Slice.slicePlaces ((sIx n 0 lo:Nat):Int) ((sIx n n hi:Nat):Int) 1,)) _ _ s
 rw[HU];show aw h
def HW(xs:Array Value)(i k:Nat):((List.range k).filterMap λ(m:Nat)=>xs[((i:Int)+(m:Int)*1).toNat]?).toArray=((xs.toList.drop i).take k).toArray:=by
 let e:(λ(m:Nat)=>xs[((i:Int)+(m:Int)*1).toNat]?)=λm=>xs[i+m]?:=by
  grind
 rw[e];have:=pick_run xs i k;rw[List.filterMap_map]at this;let e2:((λx=>xs[x]?)∘λx=>i+x)=λm=>xs[i+m]?:=rfl
 grind
def getItem_tuple_cut{t sl:Addr}{items:Array Value}{vl vu:Value}{lo hi:Option Int}{Q:Value->Shared->Prop}(ht:IsTup s.heap t items)(hs:s.heap.IsSliceOf sl vl vu .none)(pl:IsPart vl lo)(pu:IsPart vu hi)
  (hw:¬(sIx items.size 0 lo=0/\sIx items.size items.size hi=items.size))
  (h:Q (.ref s.heap.objs.size) {s with heap:=s.heap.push {cls:=.type "tuple",data:=.seq ((items.toList.drop (sIx items.size 0 lo)).take (sIx items.size items.size hi - sIx items.size 0 lo)).toArray}})
  (hsz:items.size<=sizeLine):wpAny (model prog w) A (getItem (.ref t) (.ref sl)) Q E s:=by
 let TR:sizeOk (.seq ((items.toList.drop (sIx items.size 0 lo)).take (sIx items.size items.size hi - sIx items.size 0 lo)).toArray):=by
  change((items.toList.drop (sIx items.size 0 lo)).take (sIx items.size items.size hi - sIx items.size 0 lo)).toArray.size<=sizeLine
  grind
 let hj:sIx items.size items.size hi<=items.size:=HR _ _ (aD _) hi;let(os,XZ,WA,Zb):=id hs
 let hTs:s.TypeIs (.ref sl) "slice":=(os,XZ,WA)
 unfold getItem
 try with_reducible refine dA ?_
 first|show ae (aw ?_)|skip
 show ae (wpAny_sequenceKey ht.typeIs (by decide) ?_)
 show ae (oa (name:=Str.ofString "__getitem__") ht.typeIs PyProof.Rows.slot_tuple_getitem
  (gZ PyProof.Rows.slot_tuple_getitem ht.typeIs entry_tuple_getitem ?_ (args_tuple_getitem _ _)))
 change wpAny _ _ (Builtin.Tuple.tupleItemsOf (.ref t) >>=_) _ _ s
 show ae (tupleItemsOf_ ht ?_);show ae (uG hTs ?_);rw[bf (by decide)];show ae (HV hs pl pu ?_)
 let X0:¬((((sIx items.size 0 lo:Nat):Int)==0 && (1:Int)==1 && (sIx items.size items.size hi - sIx items.size 0 lo)==items.size)=true):=by
  grind
 change wpAny _ _ (if(((sIx items.size 0 lo:Nat):Int)==0 && (1:Int)==1 && (sIx items.size items.size hi - sIx items.size 0 lo)==items.size)=true then _ else _) _ _ s
 rw[aO X0,HW]
 first
  |show ae (m:=Builtin.Tuple.tupleExact _) (ik (aw (_,rfl,aw h)) TR)
  |show ae (m:=Builtin.Tuple.tupleExact _) (ik (ae (aw (aw (_,rfl,aw h)))) TR)
  |show ae (ae (m:=Builtin.Tuple.tupleExact _) (ik (aw (aw (_,rfl,aw h))) TR))
  |show ae (ae (m:=Builtin.Tuple.tupleExact _) (ik (aw (_,rfl,aw h)) TR))
end
end HT
namespace L2
open PySem PySem.Spec PyProof.Rows
abbrev TO:=St->Hp->(Option Int->Hp->Prop)->Prop
def PO(X:Cx)(e:Option Expr)(t:TO):Prop:=
 ∀(a9:Tl) (s:Shared) (Z:St) (H:Hp) (Q:Option Int->Hp->Prop),Inv X a9 Z H s->t Z H Q->
  wpAny (model X.prog X.w) X.A (evalPart e X.env) (λu s'=>∃o H',Inv X a9 Z H' s'/\IsPart u o/\Q o H') X.xe s
def CI:TO:=λ_ H Q=>Q none H
def CJ(t:TE):TO:=λZ H Q=>t Z H λx H1=>∃i,x=.int i/\Q (some i) H1
section
variable{X:Cx}{e:Expr}{te:TE}{lo hi:Option Expr}{tl th:TO}{pos p2:Pos}
def rO:PO X none CI:=by
 ext a9 s Z H Q I h;rw[evalPart_none];show aw (none,H,I,.none,h)
def oW(h:PE X e te):PO X (some e) (CJ te):=by
 ext a9 s Z H Q I hw;rw[evalPart_some];show aI (h a9 s Z H _ I hw) λu s1 (x,H1,I1,r1,q1)=>?_;let(i,rfl,q):=q1;let(t,rfl):=r1;show(some i,H1,I1,.int i t,q)
def jP(X:Cx)(r:V->Option Int->Option Int->Hp->VK->Prop):Prop:=
 ∀(a9:Tl) (s:Shared) (Z:St) (H:Hp) (x:V) (v vl vu:Value) (lo hi:Option Int) (sl:Addr) (Q:VK),Inv X a9 Z H s->aV x v->s.heap.IsSliceOf sl vl vu .none->IsPart vl lo->IsPart vu hi->r x lo hi H Q->
  ∃T id,typeLookup (.type T) "__getitem__"=pure (some (.builtin id))/\s.TypeIs v T/\wpAny (model X.prog X.w) X.A (getItem v (.ref sl)) (EP X a9 Z Q) X.xe s
def jP.or{r r':V->Option Int->Option Int->Hp->VK->Prop}(h:jP X r)(h':jP X r'):jP X (λx lo hi H Q=>r x lo hi H Q\/r' x lo hi H Q):=by
 ext a9 s Z H x v vl vu lo hi sl Q I rx hs pl pu q
 rcases q with q|q
 .show h a9 s Z H x v vl vu lo hi sl Q I rx hs pl pu q
 .show h' a9 s Z H x v vl vu lo hi sl Q I rx hs pl pu q
def CK(r:V->Option Int->Option Int->Hp->VK->Prop)(te:TE)(tl th:TO):TE:=λZ H Q=>te Z H λx H1=>tl Z H1 λl H2=>th Z H2 λu H3=>r x l u H3 Q
def rP{r:V->Option Int->Option Int->Hp->VK->Prop}(hr:jP X r)(he:PE X e te)(hl:PO X lo tl)(hu:PO X hi th):PE X (.Subscript e (.Slice lo hi none p2) pos) (CK r te tl th):=by
 ext a9 s Z H Q I h;show Subscript_ (aI (he a9 s Z H _ I h) λv s1 (x,H1,I1,r1,q1)=>?_);show wpAny_Slice (aI (hl a9 s1 Z H1 _ I1 q1) λvl s2 (l,H2,I2,pl,q2)=>aI (hu a9 s2 Z H2 _ I2 q2) λvu s3 (u,H3,I3,pu,q3)=>?_);rw[evalPart_none];erw[aw];let I4:Inv X a9 Z H3 {s3 with heap:=s3.heap.push {cls:=.type "slice",data:=.fields #[vl,vu,.none]}}:=I3.kept (t':=s3.toks) λb ob q=>aR _ q;let(T,id,hT,ht,hg):=hr a9 {s3 with heap:=s3.heap.push {cls:=.type "slice",data:=.fields #[vl,vu,.none]}} Z H3 x v vl vu l u s3.heap.objs.size Q I4 r1 (Heap.IsSliceOf.new ..) pl pu q3
 change wpAny (model X.prog X.w) X.A (subscriptTail e (.Slice lo hi none p2) v (.ref s3.heap.objs.size)) (EP X a9 Z Q) X.xe {s3 with heap:=s3.heap.push {cls:=.type "slice",data:=.fields #[vl,vu,.none]}}
 show tail_any (ops:=[.ref s3.heap.objs.size,v]) ht hT hg (by with_unfolding_all rfl)
noncomputable def fR(xs:LT)(lo hi:Option Int):LT:=(xs.drop (HT.sIx xs.length 0 lo)).take (HT.sIx xs.length xs.length hi - HT.sIx xs.length 0 lo)
def CL(xs:LT)(lo hi:Option Int):(fR xs lo hi).length<=xs.length:=by
 unfold fR
 grind
def uX(K:W.Frag):V->Option Int->Option Int->Hp->VK->Prop:=λx lo hi H Q=>∃a xs,x=.ref a/\az K H a xs/\
 ¬(HT.sIx xs.length 0 lo=0/\HT.sIx xs.length xs.length hi=xs.length)/\∀p,H p=none->Q (.ref p) (aa H p (.tup (fR xs lo hi)))
def HY:jP X (uX X.K):=by
 ext a9 s Z H x v vl vu lo hi sl Q I rx hs pl pu h;let(a,xs,rfl,hx,hw,q):=h;cases rx;let(av,r,ht,hz):=I.tuple hx
 let bP:av.toArray.size=xs.length:=by rw[fM];show r.length.symm
 show("tuple",_,PyProof.Rows.slot_tuple_getitem.lookup,ht.typeIs,?_);show HT.getItem_tuple_cut ht hs pl pu ⋯ ?_ ();rw[bP];show(.ref s.heap.objs.size,_,I.laid (t':=s.toks) (o:=.tup (fR xs lo hi)) (λb ob q=>aR _ q) (aD _) ?_,rfl,q _ (I.hok.fresh (aD _)));show(cf (CL xs lo hi) hz,_,(r.drop (HT.sIx xs.length 0 lo)).take (HT.sIx xs.length xs.length hi - HT.sIx xs.length 0 lo),IsTup.new _ _)
end
noncomputable def iU(n:Nat)(i:Int):Option Nat:=if 0<=i then(if i<n then some i.toNat else none)else if -(n:Int)<=i then some (i+n).toNat else none
noncomputable def gN{α:Type}(xs:List α)(i:Int):Option α:=(iU xs.length i).bind λj=>xs[j]?
def CM{n:Nat}{i:Int}{j:Nat}(h:iU n i=some j):seqIndex? i n=some j/\j<n/\ -(n:Int)<=i/\i<n:=by
 unfold iU at h;by_cases h0:0<=i
 .rw[bf h0]at h;by_cases h1:i<n
  .rw[bf h1]at h;let e:i.toNat=j:=cH h;show(by rw[seqIndex_of h0 h1,e],(),(),h1)
  .grind
 .rw[aO h0]at h;by_cases h1: -(n:Int)<=i
  .rw[bf h1]at h;let e:(i+n).toNat=j:=cH h;show(by rw[seqIndex_neg () h1,e],(),h1,())
  .grind
def CN{α:Type}{xs:List α}{i:Int}{v:α}(h:gN xs i=some v):∃j,seqIndex? i xs.length=some j/\xs[j]?=some v/\j<xs.length/\ -(xs.length:Int)<=i/\i<xs.length:=by
 unfold gN at h
 cases e:iU xs.length i with
 |none=>rw[e]at h;cases h
 |some j=>
  rw[e]at h;let(h1,h2,h3,h4):=CM e;show(j,h1,h,h2,h3,h4)
def jQ{α:Type}{xs:List α}{j:Nat}{v:α}(h:xs[j]?=some v):gN xs (j:Int)=some v:=by
 let hj:j<xs.length:=(Rb.mp h).1
 let e:iU xs.length (j:Int)=some j:=by
  unfold iU;rw[bf (),bf ()];simp
 unfold gN;rw[e];show h
def atI_last{α:Type}(xs:List α)(v:α):gN (xs++[v]) (-1)=some v:=by
 let hl:(xs++[v]).length=xs.length+1:=∅
 let e:iU (xs++[v]).length (-1)=some xs.length:=by
  unfold iU
  grind
 unfold gN
 grind
def uY(b:Expr):Prop:=∀o i,subscripted b false o i=operate [o,i] (getItem o i)
def oX(X:Cx)(r:R2):Prop:=
 ∀(value RS:Expr) (a9:Tl) (s:Shared) (Z:St) (H:Hp) (x y:V) (v u:Value) (Q:VK),Inv X a9 Z H s->aV x v->aV y u->r x y H Q->
  subscripted RS false v u=operate [v,u] (getItem v u)->wpAny (model X.prog X.w) X.A (subscriptTail value RS v u) (EP X a9 Z Q) X.xe s
omit CO vf in
def CO(X:Cx)(id:String)(r:V->LT->Hp->VK->Prop):Prop:=
 ∀(a9:Tl) (s:Shared) (Z:St) (H:Hp) (x:V) (xs:LT) (v:Value) (us:T0) (Q:VK),Inv X a9 Z H s->aV x v->a_ xs us->r x xs H Q->
  wpAny (model X.prog X.w) X.A (call (.builtin id) (v::us)) (EP X a9 Z Q) X.xe s
section
variable{X:Cx}{a b:Expr}{ta tb:TE}{pos:Pos}
def CP{r:R2}(hr:oX X r)(ha:PE X a ta)(hb:PE X b tb)(hs:uY b):PE X (.Subscript a b pos) (iu r ta tb):=by
 ext a9 s Z H Q I h;show Subscript_ (uS ha hb I h λv u s2 x y H2 I2 rx ry q=>hr a b a9 s2 Z H2 x y v u Q I2 rx ry q (hs _ _))
def rQ(K:W.Frag):R2:=λx y H Q=>∃p xs i v,x=.ref p/\y=.int i/\ah K H p xs/\gN xs i=some v/\Q v H
def rR(K:W.Frag):R2:=λx y H Q=>∃p xs i v,x=.ref p/\y=.int i/\az K H p xs/\gN xs i=some v/\Q v H
def HZ:oX X (rQ X.K):=by
 ext value RS a9 s Z H x y v u Q I rx ry h hs;let(p,xs,i,z,rfl,rfl,hq,he,q):=h;cases rx;let(t,rfl):=ry;let(av,r,pl,hz):=I.list hq;let(j,h1,h2,h3,h4,h5):=CN he;let(w,ew,RM):=r.get h2;let hl:=r.length;let hn:=rG
 let fin:EP X a9 Z Q w s:=(z,H,I,RM,q)
 by_cases h0:0<=i
 .let hj:i.toNat=j:=by
   rw[seqIndex_of h0 h5]at h1
   grind
  show item_listR pl.isList h0 () ⋯ fin hs
 .let hj:(i+(av.toArray.size:Int)).toNat=j:=by
   rw[seqIndex_neg () h4]at h1
   grind
  show subscriptTail_builtinR (x:=w) pl.isList.typeIs slot_list_getitem.lookup
   (wpAny_getItem_list_neg (Q:=λr s'=>r=w/\EP X a9 Z Q r s') pl.isList () ⋯ () ⋯ (rfl,fin)) hs
def H_:oX X (rR X.K):=by
 ext value RS a9 s Z H x y v u Q I rx ry h hs;let(p,xs,i,z,rfl,rfl,hq,he,q):=h;cases rx;let(t,rfl):=ry;let(av,r,pl,hz):=I.tuple hq;let(j,h1,h2,h3,h4,h5):=CN he;let(w,ew,RM):=r.get h2;let hl:=r.length;let hn:=rG
 let fin:EP X a9 Z Q w s:=(z,H,I,RM,q)
 show subscriptTail_builtinR (x:=w) pl.typeIs slot_tuple_getitem.lookup
  (getItem_tuple (j:=j) (Q:=λr s'=>r=w/\EP X a9 Z Q r s') pl () () (by rw[fM,<-hl];show h1) (by simpa using ew) (rfl,fin)) hs
def I0(av:T0)(n j:Nat)(u:Value):Obj.mapSeq (·.setIfInBounds j u) {cls:=.type "list",data:=.seq av.toArray n}={cls:=.type "list",data:=.seq (av.set j u).toArray n}:=by
 simp[Obj.mapSeq]
def Inv.lst{a9:Tl}{Z:St}{H:Hp}{s:Shared}{p:Addr}{xs:LT}(I:Inv X a9 Z H s)(h:H p=some (.lst xs)):
  ∃(av:T0) (n:Nat),a_ xs av/\s.heap.get? p=some {cls:=.type "list",data:=.seq av.toArray n}/\xs.length<=sizeLine:=by
 let(z,av,n,r,e):=I.hok p _ h
 grind
def Inv.lstUpd{a9:Tl}{Z:St}{H:Hp}{s:Shared}{p:Addr}{xs ys:LT}{av its':T0}{n n':Nat}{f:Obj->Obj}(I:Inv X a9 Z H s)(h:H p=some (.lst xs))
  (ho:s.heap.get? p=some {cls:=.type "list",data:=.seq av.toArray n}) (hf:f {cls:=.type "list",data:=.seq av.toArray n}={cls:=.type "list",data:=.seq its'.toArray n'}) (r:a_ ys its') (hz:ys.length<=sizeLine) (t:Nat):
  Inv X a9 Z (aa H p (.lst ys)) {s with heap:=s.heap.update p f,toks:=t}:=by
 let e:(s.heap.update p f).get? p=some {cls:=.type "list",data:=.seq its'.toArray n'}:=by
  rw[An f ho (by rw[hf]<;>rfl),hf]
 erw[I.write (x:=p) (e:=p) (by rw[h];trivial) (.inl rfl) (λb u hb q=>(ky _ _ (Ne.symm hb)).trans q) (_,e)];show(hz,its',n',r,e)
def CQ:V->V->V->Hp->(Hp->Prop)->Prop:=λo i v H Q=>∃p xs k j,o=.ref p/\i=.int k/\H p=some (.lst xs)/\iU xs.length k=some j/\Q (aa H p (.lst (xs.set j v)))
def mY:C1 X CQ:=by
 ext a9 s Z H o i v ov iv u Q I ro ri rv h;let(p,xs,k,j,rfl,rfl,hp,hj,q):=h;cases ro;let(t,rfl):=ri;let(av,n,r,ho,hz):=I.lst hp;let(h1,h2,h3,h4):=CM hj;let hl:=r.length;let hn:=rG
 let I':Inv X a9 Z (aa H p (.lst (xs.set j v))) {s with heap:=s.heap.update p (Obj.mapSeq (·.setIfInBounds j u))}:=
  I.lstUpd hp ho (I0 av n j u) (r.set rv j) ⋯ s.toks
 by_cases h0:0<=k
 .let hk:k.toNat=j:=by
   rw[seqIndex_of h0 h4]at h1
   grind
  show W.ki_setAt ho h0 () ⋯ ⋯
 .let hk:(k+(av.toArray.size:Int)).toNat=j:=by
   rw[seqIndex_neg () h3]at h1
   grind
  show W.ki_setBack ho () ⋯ () ⋯
def Ia(lo hi:Option Int)(n:Nat):(sliceBounds lo hi none n).1=((HT.sIx n 0 lo:Nat):Int)/\(sliceBounds lo hi none n).2.1=((HT.sIx n n hi:Nat):Int)/\(sliceBounds lo hi none n).2.2=1:=by
 show(?_,?_,rfl)
 .cases lo with
  |none=>simp[sliceBounds,HT.sIx]
  |some i=>
   simp only[sliceBounds,HT.sIx,Option.getD_none,show(1:Int) >0 by decide,kF]
   grind
 .cases hi with
  |none=>simp[sliceBounds,HT.sIx]
  |some i=>
   simp only[sliceBounds,HT.sIx,Option.getD_none,show(1:Int) >0 by decide,kF]
   grind
def Ib(av:T0)(lo hi:Option Int):slicePick av.toArray lo hi none=((av.drop (HT.sIx av.length 0 lo)).take (HT.sIx av.length av.length hi - HT.sIx av.length 0 lo)).toArray:=by
 let(h1,h2,h3):=Ia lo hi av.toArray.size;unfold slicePick;rw[h1,h2,h3];simp only[sliceRange_one,pick_run,fM]<;>rfl
def uZ(K:W.Frag):V->Option Int->Option Int->Hp->VK->Prop:=λx lo hi H Q=>∃a xs,x=.ref a/\ah K H a xs/\∀p,H p=none->Q (.ref p) (aa H p (.lst (fR xs lo hi)))
def Ic:jP X (uZ X.K):=by
 ext a9 s Z H x v vl vu lo hi sl Q I rx hs pl pu h;let(a,xs,rfl,hx,q):=h;cases rx;let(av,r,ht,hz):=I.list hx;let bP:=r.length;show("list",_,slot_list_getitem.lookup,ht.isList.typeIs,?_);show wpAny_getItem_list_slice ht.isList hs pl pu .none ∅ ?_ ⋯;rw[Ib,<-bP];show(.ref s.heap.objs.size,_,I.laid (t':=s.toks) (o:=.lst (fR xs lo hi)) (λb ob q=>aR _ q) (aD _) ?_,rfl,q _ (I.hok.fresh (aD _)));show(cf (CL xs lo hi) hz,_,0,(r.drop (HT.sIx xs.length 0 lo)).take (HT.sIx xs.length xs.length hi - HT.sIx xs.length 0 lo),bR _ rfl)
noncomputable def je:V->Bool
 |.non=>true
 |.bl _=>true
 |.int _=>true
 |.str _=>true
 |_=>false
noncomputable def jR:V->V->Bool
 |.non,.non=>true
 |.bl a,.bl b=>a==b
 |.bl a,.int b=>(if a then 1 else 0)==b
 |.int a,.bl b=>a==(if b then 1 else 0)
 |.int a,.int b=>a==b
 |.str a,.str b=>a==b
 |_,_=>false
def CS{A:Around}{s:Shared}{y x:V}{u v:Value}(ry:aV y u)(rx:aV x v)(fy:je y=true)(fx:je x=true):SeqAt.EqAt A s u v (jR y x):=by
 cases y with
 |non=>
  cases ry
  cases x with
  |non=>cases rx;show SeqAt.EqAt.same _
  |bl b=>cases rx;show SeqAt.EqAt.none_bool b
  |int b=>obtain⟨t,rfl⟩:=rx;show SeqAt.EqAt.none_int b t
  |str b=>obtain⟨t,rfl⟩:=rx;show SeqAt.EqAt.none_str b t
  |_=>show absurd (show false=true from fx) cN
 |bl a=>
  cases ry
  cases x with
  |non=>cases rx;show SeqAt.EqAt.bool_none a
  |bl b=>cases rx;show SeqAt.EqAt.bool_bool a b
  |int b=>obtain⟨t,rfl⟩:=rx;show SeqAt.EqAt.bool_int a b t
  |str b=>obtain⟨t,rfl⟩:=rx;show SeqAt.EqAt.bool_str a b t
  |_=>show absurd (show false=true from fx) cN
 |int a=>
  let(t',rfl):=ry
  cases x with
  |non=>cases rx;show SeqAt.EqAt.int_none a t'
  |bl b=>cases rx;show SeqAt.EqAt.int_bool a t' b
  |int b=>obtain⟨t,rfl⟩:=rx;show SeqAt.EqAt.int_int a t' b t
  |str b=>obtain⟨t,rfl⟩:=rx;show SeqAt.EqAt.int_str a t' b t
  |_=>show absurd (show false=true from fx) cN
 |str a=>
  let(t',rfl):=ry
  cases x with
  |non=>cases rx;show SeqAt.EqAt.str_none a t'
  |bl b=>cases rx;show SeqAt.EqAt.str_bool a t' b
  |int b=>obtain⟨t,rfl⟩:=rx;show SeqAt.EqAt.str_int a t' b t
  |str b=>obtain⟨t,rfl⟩:=rx;show SeqAt.EqAt.str_str a t' b t
  |_=>show absurd (show false=true from fx) cN
 |_=>show absurd (show false=true from fy) cN
noncomputable def gx(x:V)(u:Value):Bool:=match u with
 |.none=>jR .non x
 |.bool b=>jR (.bl b) x
 |.int i _=>jR (.int i) x
 |.str z _=>jR (.str z) x
 |_=>false
def CT{x y:V}{u:Value}(r:aV y u)(f:je y=true):gx x u=jR y x:=by
 cases y with
 |non=>cases r;rfl
 |bl b=>cases r;rfl
 |int i=>obtain⟨t,rfl⟩:=r;rfl
 |str z=>obtain⟨t,rfl⟩:=r;rfl
 |_=>show absurd (show false=true from f) cN
theorem oY{x:V}:∀{xs:LT} {us:T0},a_ xs us->xs.all je=true->us.any (gx x)=xs.any λy=>jR y x
 |_,_,.nil,_=>rfl
 |y::xs,u::us,.cons r t,f=>by
  rw[qW,gq]at f;rw[ox,ox,CT r f.1,oY t f.2]
theorem oZ{A:Around}{s:Shared}{x:V}{v:Value}(rx:aV x v)(fx:je x=true):∀{xs:LT} {us:T0},a_ xs us->xs.all je=true->∀u∈us,SeqAt.EqAt A s u v (gx x u)
 |_,_,.nil,_=>λu hu=>by cases hu
 |y::xs,u::us,.cons r t,f=>λu' hu=>by
  rw[qW,gq]at f
  rcases cb.mp hu with rfl|hu
  .rw[CT r f.1];show CS r rx f.1 fx
  .show oZ rx fx t f.2 u' hu
noncomputable def o_(x:V)(xs:LT):Bool:=xs.any λy=>jR y x
def kS(K:W.Frag)(Uz:Bool):R2:=λx y H Q=>∃p xs,y=.ref p/\(ah K H p xs\/az K H p xs)/\je x=true/\xs.all je=true/\Q (.bl (if Uz then !o_ x xs else o_ x xs)) H
omit Ie Ig In NotIn false true in_listAt notIn_listAt in_tupleAt notIn_tupleAt in
def Ie:bT X (compareOp .In) (kS X.K false):=by
 ext a9 s Z H x y v u Q I rx ry h;let(p,xs,rfl,hq,fx,fs,q):=h;cases ry
 rcases hq with hq|hq
 .let(av,r,pl,hz):=I.list hq;show SeqAt.in_listAt (gx x) pl.isList (λw hw=>oZ rx fx r fs w ⋯) (.bl _,H,I,rfl,?_);rw[show av.toArray.any (gx x)=av.any (gx x) by simp,oY r fs];show q
 .let(av,r,pl,hz):=I.tuple hq;show SeqAt.in_tupleAt (gx x) pl (λw hw=>oZ rx fx r fs w ⋯) (.bl _,H,I,rfl,?_);rw[show av.toArray.any (gx x)=av.any (gx x) by simp,oY r fs];show q
def Ih:cJ X (.builtin "len") (λxs H Q=>∃p ys,xs=[.ref p]/\(ah X.K H p ys\/az X.K H p ys)/\Q (.int ys.length) H):=by
 ext a9 s Z H xs us Q I r h;let(p,ys,rfl,hq,q):=h;let(u,rfl,rx):=fZ r;cases rx;let hn:=rG
 rcases hq with hq|hq
 .let(av,r',pl,hz):=I.list hq;let bP:=r'.length;show Calls.call_len_list pl.isList ⋯ (.int ys.length,H,I.tok _,(s.toks+1,by rw[fM,bP]),q)
 .let(av,r',pl,hz):=I.tuple hq;let bP:=r'.length;show len_tuple pl ⋯ (.int ys.length,H,I.tok _,(s.toks+1,by rw[fM,bP]),q)
def Ii:cJ X (.type "list") (λxs H Q=>∃p ys,xs=[.ref p]/\(ah X.K H p ys\/az X.K H p ys)/\∀l,H l=none->Q (.ref l) (aa H l (.lst ys))):=by
 ext a9 s Z H xs us Q I r h;let(p,ys,rfl,hq,q):=h;let(u,rfl,rx):=fZ r;cases rx
 let fin:∀(av:T0),a_ ys av->ys.length<=sizeLine->∀(h':Heap) (c':Nat),(∀b o',s.heap.get? b=some o'->h'.get? b=some o')->
   h'.get? s.heap.objs.size=some {cls:=.type "list",dict:=none,data:=.seq av.toArray c',slots:= #[]}->EP X a9 Z Q (.ref s.heap.objs.size) {s with heap:=h'}:=λav r' hz h' c' kp e=>
  (.ref s.heap.objs.size,_,I.laid (t':=s.toks) kp (aD _) (show c8 X.prog X.w _ h' _ (.lst ys)from(hz,av,c',r',e)),rfl,q _ (I.hok.fresh (aD _)))
 rcases hq with hq|hq
 .let(av,r',pl,hz):=I.list hq;let bP:=r'.length;let(o,ho,hc,n,hd):=pl.isList;show call_list_seq p (.inl rfl) ho hc hd (λh' c' kp e=>fin av r' hz h' c' kp e) ⋯
 .let(av,r',pl,hz):=I.tuple hq;let bP:=r'.length;let(o,ho,hc,n,hd):=pl;show call_list_seq p (.inr rfl) ho hc hd (λh' c' kp e=>fin av r' hz h' c' kp e) ⋯
def Ij:cJ X (.type "tuple") (λxs H Q=>∃p ys,xs=[.ref p]/\((ah X.K H p ys/\∀l,H l=none->Q (.ref l) (aa H l (.tup ys)))\/(az X.K H p ys/\Q (.ref p) H))):=by
 ext a9 s Z H xs us Q I r h;let(p,ys,rfl,h):=h;let(u,rfl,rx):=fZ r;cases rx
 rcases h with⟨hq,q⟩|⟨hq,q⟩
 .let(av,r',pl,hz):=I.list hq;let bP:=r'.length;show call_tuple_list pl.isList (λh' kp=>?_) ⋯;let I1:Inv X a9 Z H {s with heap:=h'}:=I.kept (t':=s.toks) kp
  let I2:Inv X a9 Z (aa H h'.objs.size (.tup ys)) {s with heap:=h'.push {cls:=.type "tuple",data:=.seq av.toArray}}:=
   I1.laid (t':=s.toks) (λb o e=>aR _ e) (aD _) (show c8 X.prog X.w _ _ _ (.tup ys)from(hz,av,r',IsTup.new _ _))
  show(.ref h'.objs.size,_,I2,rfl,q _ (I1.hok.fresh (aD _)))
 .let(av,r',pl,hz):=I.tuple hq;show call_tuple_same pl (.ref p,H,I,rfl,q)
def u_(K:W.Frag)(T:String)(x:V)(H:Hp):Prop:=match x with
 |.str _=>T="str"
 |.int _=>T="int"
 |.ref p=>(T="list"/\∃xs,ah K H p xs)\/(T="tuple"/\∃o,K.lookup p=some o/\o.cls=.type "tuple"/\o.dict=none)\/
   (T="dict"/\((∃kvs,H p=some (.dK kvs))\/∃kvs,H p=some (.dT kvs)))\/(T="set"/\∃S n,H p=some (.set S n))
 |_=>False
def Ik{a9:Tl}{Z:St}{H:Hp}{s:Shared}{T:String}{x:V}{v:Value}(I:Inv X a9 Z H s)(r:aV x v)(ty:u_ X.K T x H):
  s.TypeIs v T/\∀a,v=.ref a->∃ob,s.heap.get? a=some ob/\ob.dict=none:=by
 cases x with
 |str z=>
  let(t,rfl):=r;cases(show T="str" from ty);show(typeIs_str s z t,λ_ e=>nomatch e)
 |int i=>
  let(t,rfl):=r;cases(show T="int" from ty);show(typeIs_int s i t,λ_ e=>nomatch e)
 |ref p=>
  cases r
  rcases ty with⟨rfl,xs,hq⟩|⟨rfl,o,hk,hc,hd⟩|⟨rfl,hk⟩|⟨rfl,S,n,hk⟩
  .let(av,_,pl,_):=I.list hq;show(pl.isList.typeIs,λa e=>?_);cases e;let(o,n,e,c,hd,_):=pl
   grind
  .show((o,I.kIn p o hk,hc),λa e=>?_);cases e;show(o,I.kIn _ o hk,hd)
  .let z:∃o,s.heap.get? p=some o/\o.ExactDict:=by
    rcases hk with⟨kvs,hk⟩|⟨kvs,hk⟩
    .let(_,_,_,_,o,_,_,e,ex,_):=I.hok p _ hk
     grind
    .let(_,_,_,_,o,_,_,e,ex,_):=I.hok p _ hk
     grind
   let(o,e,ex):=z;show((o,e,ex.1),λa e2=>?_);cases e2;show(o,e,ex.2.1)
  .let(o,_,_,_,e,ex,_):=I.hok p _ hk;show((o,e,ex.1),λa e2=>?_);cases e2;show(o,e,ex.2.1)
 |_=>show False.elim ty
def p6(K:W.Frag)(T:String)(r:V->LT->Hp->VK->Prop)(to:TE)(t:TA):TE:=λZ H Q=>to Z H λx H1=>u_ K T x H1/\t Z H1 λxs H2=>r x xs H2 Q
variable{o e:Expr}{es:List Expr}{to:TE}{t:TA}{name:Str}{bM bL:Pos}{T id:String}{r:V->LT->Hp->VK->Prop}
def vd(pa:PlainAttrs T)(slot:Slot T name id)(hty:typeOf (.builtin id)=pure (.type "method_descriptor"))(hm:CO X id r)(ho:PE X o to)(ha:PA X (e::es) t)
  (hbase:↥(attributeBase o name X.env (eval o X.env)=eval o X.env))
  (hfew:↥(((backTo bL (starEach (e::es) X.env)).all (λx=>!x.1) && (backToKw bL (keywordEach [] X.env)).all (λx=>x.1.isSome)
   && decide ((e::es).length+([]:List Keyword).length+(if([]:List Keyword).isEmpty then 0 else 1)<30))=true))
  (hline:↥((bM.endLine==bL.line)=true)) (hs:↥(starEach (e::es) X.env=(false,eval e X.env,)::starEach es X.env)) (Sb:↥((backTo bL (starEach es X.env)).any (·.1)=false)):
  PE X (.Call (.Attribute o name bM) (e::es) [] bL) (p6 X.K T r to t):=by
 ext a9 s Z H Q I h;show wpAny_Call_method_late hbase hfew hline rfl (aI (ho a9 s Z H _ I h) λv s1 (x,H1,I1,r1,ty,q1)=>?_);let(h1,h2):=Ik I1 r1 ty;show(T,id,pa,slot,hty,h1,h2,?_);let hA:=ha bL a9 s1 Z H1 _ I1 q1;rw[hs]at hA⊢;show qH ⋯ (ur ?_);show aI hA λus s2 (vs,H2,I2,r2,q2)=>hm a9 s2 Z H2 x vs v us Q I2 r1 r2 q2
end
theorem a_.one:∀{x:V} {us:T0},a_ [x] us->∃u,us=[u]/\aV x u
 |_,_,.cons r .nil=>(_,rfl,r)
theorem a_.eraseIdx:∀{xs:LT} {us:T0} (i:Nat),a_ xs us->a_ (xs.eraseIdx i) (us.eraseIdx i)
 |_,_,_,.nil=>.nil
 |_,_,0,.cons _ t=>t
 |_,_,i+1,.cons r t=>.cons r (a_.eraseIdx i t)
section
variable{X:Cx}{a9:Tl}{Z:St}{H:Hp}{s:Shared}{l b:Addr}{xs ys zs:LT}
def Inv.lset{av its':T0}{n:Nat}{f:Array Value->Array Value}{t':Nat}(I:Inv X a9 Z H s)(hH:H l=some (.lst xs))
  (e:s.heap.get? l=some {cls:=.type "list",data:=.seq av.toArray n}) (hf:f av.toArray=its'.toArray) (hv:a_ ys its') (hz:ys.length<=sizeLine):
  Inv X a9 Z (aa H l (.lst ys)) {s with heap:=s.heap.update l (Obj.mapSeq f),toks:=t'}:=by
 let q:=PySem.IsL.update e f;rw[hf]at q;erw[I.write (x:=l) (e:=l) (by rw[hH];show trivial) (.inl rfl) (λb' u hb hu=>(ky s.heap (Obj.mapSeq f) (Ne.symm hb)).trans hu) (_,q)];show(hz,its',_,hv,q)
def Inv.lnew{av:T0}{t':Nat}(I:Inv X a9 Z H s)(hv:a_ ys av)(hz:ys.length<=sizeLine):
  Inv X a9 Z (aa H s.heap.objs.size (.lst ys)) {s with heap:=s.heap.push {cls:=.type "list",data:=.seq av.toArray},toks:=t'}:=
 I.laid (λ_ _ q=>aR _ q) (aD _) (hz,av,0,hv,bR _ rfl)
def Inv.fresh(I:Inv X a9 Z H s):H s.heap.objs.size=none:=I.hok.fresh (aD _)
def Inv.lstM(I:Inv X a9 Z H s)(hH:H l=some (.lst xs)):xs.length<=sizeLine/\∃(av:T0) (n:Nat),a_ xs av/\xs.length=av.length/\s.heap.get? l=some {cls:=.type "list",data:=.seq av.toArray n}:=by
 let(z,av,n,r,e):=I.hok l _ hH;show(z,av,n,r,r.length,e)
def Il{n:Nat}(h:n<=sizeLine):Builtin.List.listTooLong n=false:=by
 unfold Builtin.List.listTooLong
 grind
end
section
variable{X:Cx}
def vg:V->LT->Hp->VK->Prop:=λx vs H Q=>∃l xs y,x=.ref l/\vs=[y]/\H l=some (.lst xs)/\xs.length<sizeLine/\Q .non (aa H l (.lst (xs++[y])))
def Im:vf X "list.append" vg:=by
 ext a9 s Z H x vs v us Q I rx rv h;let(l,xs,y,rfl,rfl,hH,hz,q):=h;cases rx;let(u,rfl,ru):=rv.one;let(z,av,n,r,hl,e):=I.lstM hH;show call_meets F.slot_list_append (_,e,rfl) F.entry_list_append (F.args_list_append_2 _ _) (PySem.list_append l av.toArray n u ⋯) (e,?_);show(.non,_,I.lset (its':=av++[u]) hH e ∅ (r.append (.cons ru .nil)) ?_,rfl,q)
 grind
def vh:V->LT->Hp->VK->Prop:=λx vs H Q=>∃l b xs zs,x=.ref l/\vs=[.ref b]/\H l=some (.lst xs)/\H b=some (.lst zs)/\xs.length+zs.length<=sizeLine/\Q .non (aa H l (.lst (xs++zs)))
def Ip:vf X "list.extend" vh:=by
 ext a9 s Z H x vs v us Q I rx rv h;let(l,b,xs,zs,rfl,rfl,hH,hB,hz,q):=h;cases rx;let(u,rfl,ru):=rv.one;cases ru;let(z,av,n,r,hl,e):=I.lstM hH;let(z2,Tu,n2,r2,Ro,e2):=I.lstM hB
 let hsz:av.toArray.size+Tu.toArray.size<=sizeLine:=⋯
 let X6:¬(!av.toArray.isEmpty && Builtin.List.listTooLong (av.toArray.size+Tu.toArray.size))=true:=by
  rw[Il hsz,Bool.and_false]
  grind
 show call_meets F.slot_list_extend (_,e,rfl) F.entry_list_extend (F.args_list_extend_2 _ _)
  (AutoSeq1.list_extend_list_list_0 l av.toArray n b Tu.toArray n2 X6 () ()) (e,e2,?_)
 show(.non,_,I.lset (its':=av++Tu) hH e ∅ (r.append r2) ?_,rfl,q)
 grind
def vi:V->LT->Hp->VK->Prop:=λx vs H Q=>∃l xs i k y,x=.ref l/\vs=[.int i]/\H l=some (.lst xs)/\ -(2 ^ 63)<=i/\i<2 ^ 63/\seqIndex? i xs.length=some k/\xs[k]?=some y/\Q y (aa H l (.lst (xs.eraseIdx k)))
def Iq:vf X "list.pop" vi:=by
 ext a9 s Z H x vs v us Q I rx rv h;let(l,xs,i,k,y,rfl,rfl,hH,h1,h2,hk,hy,q):=h;cases rx;let(u,rfl,ru):=rv.one;let(t,rfl):=ru;let(z,av,n,r,hl,e):=I.lstM hH;let(w,hw,RM):=r.get hy
 show call_meets F.slot_list_pop (_,e,rfl) F.entry_list_pop (F.args_list_pop_2 _ _)
  (MeetsSeq.list_pop_at l av.toArray n i t k w (fitsIndex_both h1 h2) ⋯ ⋯ ⋯) (e,?_)
 show(y,_,I.lset (its':=av.eraseIdx k) hH e ?_ (r.eraseIdx k) ?_,RM,q)
 .grind
 .grind
def CU:R2:=λx y H Q=>∃l b xs zs,x=.ref l/\y=.ref b/\H l=some (.lst xs)/\H b=some (.lst zs)/\xs.length+zs.length<=sizeLine/\∀p,H p=none->Q (.ref p) (aa H p (.lst (xs++zs)))
def kT:bT X (binaryOp .Add) CU:=by
 ext a9 s Z H x y v u Q I rx ry h;let(l,b,xs,zs,rfl,rfl,hH,hB,hz,q):=h;cases rx;cases ry;let(z,av,n,r,hl,e):=I.lstM hH;let(z2,Tu,n2,r2,Ro,e2):=I.lstM hB;show PySem.P.add_list e e2 ?_ ⋯
 let ea:av.toArray++Tu.toArray=(av++Tu).toArray:=∅
 rw[ea];show(.ref _,_,I.lnew (t':=s.toks) (r.append r2) ⋯,rfl,q _ I.fresh)
end
section
variable{prog:Program}{w:World}{A:Around}{E:Value->Shared->Prop}{s:Shared}
end
section
variable{X:Cx}
end
end L2
namespace Att
open PySem PySem.W PySem.Calls PyProof.Rows
def Ir{P:Params}{h:Heap}:∀(ns:List Int) (vs:List Value),WellAll P h vs (ns.map WData.int)->IntsAre vs ns:=by
 ext ns
 induction ns with
 |nil=>
  ext vs w;rw[qY]at w;cases w;show .nil
 |cons n ns ih=>
  ext vs w;rw[cQ]at w
  cases w with
  |cons a b=>
   cases a;show .cons _ _ (ih _ b)
def Iu{l:OpenLaw}{n:Nat}(hn:l.most=some n){P:Params}{h:Heap}{args:List WData}{V9:List Value}
  (hpre:l.row.toRowW.claim.pre args=true) (XS:WellAll P h V9 args):
  ∃a vs ns,V9=[Value.ref a]/\args=[WData.list (ns.map WData.int)]/\h.get? a=some {cls:=.type "list",data:=.seq vs.toArray}/\IntsAre vs ns/\ns.length<=n:=by
 let hsh:WShape.hasAll [] args [.list .int]=true:=(pre_splitW hpre).1;let hc:l.pre.holds [] {args:=args}=true:=(pre_splitW hpre).2;let(d,r,rfl,h1,h2):=hasAllW_cons hsh;obtain rfl:=hasAllW_nil h2;let(xs,rfl,h3):=hasW_list h1;let(ns,rfl):=items_int h3
 let bP:ns.length<=n:=by
  unfold OpenLaw.pre at hc
  let h4:(WTm.not (.lt (.lit (.int (n:Int))) (.len (.arg 0)))).holds [] {args:=[.list (ns.map .int)]}=true:=by
   let h4:=(holds_andW hc).1
   grind
  let h5:=condW_of h4 (w_not (w_lt w_lit (w_len_list (w_arg rfl))))
  grind
 cases XS with
 |cons w1 w2=>
  cases w2
  cases w1 with
  |list ho Sw=>show(_,_,ns,rfl,rfl,ho,Ir ns _ Sw,bP)
def Iw(l:OpenLaw)(args:List WData):l.row.toRowW.claim.post args (.bool true) args=true:=
 postW_of (r:=l.row.toRowW) (X:=(true==true))
  (show WShape.has [] (.bool true) .bool=true by first|rfl|decide|simp[WShape.has,WShape.arms,WShape.armsAll])
  (show(WTm.eq .res (.lit (.bool true))).value [] {args:=args,res:=some (.bool true),after:=args}=some (.bool (true==true))from w_eq_bool (w_res rfl) w_lit) rfl
def attach_call{l:OpenLaw}{n:Nat}{q:Program}{loose:List Str}{XP:(Str->Option Value)->Heap->Prop}{YP:World->Heap->Prop}{d:DefRec}
  (hn:l.most=some n) (Vy:d.params.defaults=[])
  (call:∀(w:World) (s₀ Rk:Shared) (mg mb:Str->Option Value) (fa:Addr) (o:Obj) (pm cd S6:Value) (a:Addr) (vs:List Value) (ns:List Int),
   Ground q loose [] XP w s₀ mg mb Rk.heap->YP w Rk.heap->
   Rk.heap.get? fa=some o->o.data=.func (docDef d.name d.params d.body d.scope pm cd S6)->Rk.heap.CodeRec cd d.name->mg d.name=some (.ref fa)->
   Rk.heap.get? a=some {cls:=.type "list",data:=.seq vs.toArray}->IntsAre vs ns->ns.length<=n->Rk.gens= #[]->
   codeAny (model l.prog w) callerA (.call (.ref fa) ([.ref a],[])) (λr s'=>r=.ok (.ret (.bool true))/\OldK Rk.heap s'.heap/\s'.os=Rk.os/\AllBare s'.gens) Rk):
  WalkO q loose XP YP l.row.toRowW d [] (λf vs=>PySem.call f vs):=by
 ext w s₀ Rk mg mb G Y fa o pm cd S6 dV kV ho hd hcd hD hmg hg args V9 as hpre je5 hrd XS hlo;obtain rfl:dV=.none:=Dflts.none hD Vy;obtain rfl:kV=.none:=Dflts.noKw hD;let(a,vs,ns,rfl,rfl,Ws,UR,bP):=Iu hn hpre XS;show enter_call (lS (call w s₀ Rk mg mb fa o pm cd S6 a vs ns G Y ho (fd_plain hd) hcd hmg Ws UR bP hg) λr s' hq=>?_);let(rfl,h2,h3,h4):=hq;show(.inl (.bool true,.bool true,[],rfl,λ_=>rfl,.bool true,Iw l _,λ_=>(List.Pairwise.nil,λ_ hm=>(nomatch hm))),h2,h3,h4)
section
variable{prog:Program}{w:World}{A:Around}{E:Value->Shared->Prop}{s:Shared}{K:Frag}
end
end Att
namespace L2
open PySem PySem.Spec PyProof.Rows
theorem CV:∀{vs:T0} {ns:LE},IntsAre vs ns->a_ (ns.map V.int) vs
 |_,_,.nil=>.nil
 |_,_,.cons n t h=>.cons (t,rfl) (CV h)
def vj(H:Hp):Prop:=∀b,H b=none\/∃o xs,H b=some (.frz o (.lst xs))
def Iy{P:Program}{w:World}{K:W.Frag}{mg mb:Str->Option Value}{CX:ix}{k:Nat}{fa a:Addr}{fd:FuncData}{x:Str}{sp:Sp}{Rk:Shared}{vs:T0}{ns:LE}
  (KX:K.In Rk.heap) (Tw:Rk.heap.Ns mainGlobals mg) (hb:Rk.heap.Ns builtinsNs mb) (Ug:∀x:Str,x≠"__name__"->mb x=bootBuiltins x) (jb3:Rk.heap.NoLimit) (hg:Rk.gens= #[])
  (ha:Rk.heap.get? a=some {cls:=.type "list",data:=.seq vs.toArray}) (hi:IntsAre vs ns) (hl:ns.length<=sizeLine) (hr:cn k callerA)
  (F:∀base:Heap,K.In base->base.Ns mainGlobals mg->aN P w K mg base CX k fa fd [x] sp) (Yi:∀(s:Shared) (u:Value),BindsTo s fd ([u],[]) [(x,u,)])
  (hsp:∀H:Hp,vj H->ah K H a (ns.map V.int)->sp [.ref a] H (λv _=>v=.bl true) λ_ _ _=>False)
  (hCX:∀H e s',CX [] H Rk (λ_ _ _=>False) e s'->False):
  codeAny (model P w) callerA (.call (.ref fa) ([.ref a],[])) (λr s'=>r=.ok (.ret (.bool true))/\OldK Rk.heap s'.heap/\s'.os=Rk.os/\AllBare s'.gens) Rk:=by
 let rv:=CV hi;let ZU:=hi.length
 let YC:∀H:Hp,vj H->ah K H a (ns.map V.int)->cz P w H Rk.heap->(∀b,H b≠none->b=a)->(H a≠none->K.lookup a=none)->
   codeAny (model P w) callerA (.call (.ref fa) ([.ref a],[])) (λr s'=>r=.ok (.ret (.bool true))/\OldK Rk.heap s'.heap/\s'.os=Rk.os/\AllBare s'.gens) Rk:=by
  ext H hO hS hok hA hK;let T7:∀{b:Addr} {o:Obj},Rk.heap.get? b=some o->H b=none->(jL Rk.heap H).get? b=some o:=λe n=>GR e n
  let XC:∀{b:Addr} {o:Obj} {es:Array DictEntry} {ep:Nat},Rk.heap.get? b=some o->o.data=.dict es ep->H b=none:=λ{b o es ep} e d=>by
   grind
  let YQ:∀{b:Addr} {m:Str->Option Value},Rk.heap.Ns b m->(jL Rk.heap H).Ns b m:=λ{b m} (o,es,ep,e,d,r)=>(o,es,ep,T7 e (XC e d),d,r)
  let hKb:K.In (jL Rk.heap H):=λb o e=>T7 (KX b o e) (by
   cases q:H b with
   |none=>rfl
   |some u=>
    let e':b=a:=hA b ⋯;subst e'
    rw[hK ⋯]at e;cases e)
  let hM:Mod K mg (jL Rk.heap H):=(hKb,YQ Tw,(mb,YQ hb,Ug),let(mc,h1,h2):=jb3;(mc,YQ h1,h2))
  let e0:lY P w K mg (jL Rk.heap H) callerA [] Rk H:=(rfl,hM,λb o e=>GS e,Nat.le_of_eq (GQ _ _),trivial,λb hb=>absurd (show b∈([]:Tk)from hb) ∅,hok,.of_eq hg)
  show lS ((F _ hKb (YQ Tw)).run callerA [] Rk H ([.ref a],[]) [.ref a] [.ref a] _ _ hr e0 (Yi Rk (.ref a)) (.cons rfl .nil) (hsp H hO hS)) λr s' h=>?_
  cases r with
  |error e=>show(hCX H e s' h).elim
  |ok fl=>
   cases fl with
   |next=>show False.elim h
   |brk=>show False.elim h
   |cont=>show False.elim h
   |ret u=>
    let(v,H',os,bare,un,ja6,r',q):=h;let q':v=.bl true:=q;subst q';obtain rfl:u=Value.bool true:=r';show(rfl,OldK.of_keep λb o e=>?_,os,bare)
    cases q:H b with
    |none=>show un.keep b o e q (by ext z;show absurd (show b∈([]:Tk)from z) ∅) ∅
    |some u=>
     rcases hO b with z|⟨ob,xs,z⟩
     .rw[q]at z;cases z
     .let z2:=un.frzs b ob _ z;let(e1,_):=hok b _ z;let(e2,_):=ja6 b _ z2;rw[e]at e1;cases e1;show e2
 cases hk:K.lookup a with
 |some o=>
  let e:=KX a o hk;rw[ha]at e;cases e;show YC (λ_=>none) (λ_=>.inl rfl) (.inr (_,vs.toArray,_,hk,rfl,rfl,rfl,by rw[fM,ZU];show hl,by simpa using rv)) (λb u z=>by have z':(none:Option HO)=some u:=z;cases z') (λb z=>absurd rfl z) λz=>absurd rfl z
 |none=>
  show YC (λb=>if b=a then some (.frz {cls:=.type "list",data:=.seq vs.toArray} (.lst (ns.map V.int)))else none) (λb=>?_) (.inl (.inr ({cls:=.type "list",data:=.seq vs.toArray},bf rfl))) (λb u z=>?_) (λb z=>?_) λ_=>hk
  .grind
  .by_cases hb:b=a
   .let z':=(bf hb).symm.trans z;cases z';subst hb;show(ha,by rw[au];show hl,vs,_,rv,ha)
   .grind
  .grind
def walk_of{l:W.OpenLaw}{n k:Nat}{q:Program}{loose:List Str}{XP:(Str->Option Value)->Heap->Prop}{YP:World->Heap->Prop}{d:DefRec}{K:Params->W.Frag}{CX:World->ix}{sp:World->Sp}{x:Str}
  (hn:l.most=some n) (VN:n<=sizeLine) (Vy:d.params.defaults=[]) (hr:cn k callerA)
  (hY:∀(w:World) (h:Heap),YP w h->(K w.params).In h)
  (F:∀(w:World) (mg:Str->Option Value) (fa:Addr) (h:Heap),(K w.params).In h->h.Ns mainGlobals mg->mg d.name=some (.ref fa)->
   ∃fd:FuncData,(∀(s:Shared) (u:Value),BindsTo s fd ([u],[]) [(x,u,)])/\
    ∀base:Heap,(K w.params).In base->base.Ns mainGlobals mg->aN l.prog w (K w.params) mg base (CX w) k fa fd [x] (sp w))
  (hsp:∀(w:World) (H:Hp) (a:Addr) (ns:LE),ns.length<=n->vj H->ah (K w.params) H a (ns.map V.int)->sp w [.ref a] H (λv _=>v=.bl true) λ_ _ _=>False)
  (hCX:∀(w:World) (H:Hp) (s:Shared) (e:Value) (s':Shared),CX w [] H s (λ_ _ _=>False) e s'->False):
  W.WalkO q loose XP YP l.row.toRowW d [] (λf vs=>PySem.call f vs):=by
 show Att.attach_call hn Vy λw s₀ Rk mg mb fa o pm cd S6 a vs ns G Y ho hd hcd hmg Ws UR bP hg=>?_;let KX:=hY w _ Y;let(fd,hb,hF):=F w mg fa _ KX G.T.g hmg;show Iy KX G.T.g G.T.b G.T.builtins G.T.nolimit hg Ws UR (cf bP VN) hr hF hb (λH hO hS=>hsp w H a ns bP hO hS) λH e s'=>hCX w H Rk e s'
noncomputable def eU(s:Stmt)(j:Nat):Stmt:=match s with
 |.ClassDef _ _ _ body _ _ _ _ _ _ _=>body.getD j (.Pass (0,0,0,0))
 |_=>.Pass (0,0,0,0)
noncomputable def kU(s:Stmt):Arguments:=match s with
 |.FunctionDef _ a _ _ _ _ _ _ _ _=>a
 |_=>{posonlyargs:=[],args:=[],vararg:=none,kwonlyargs:=[],kw_defaults:=[],kwarg:=none,defaults:=[]}
noncomputable def jS(s:Stmt):List Stmt:=match s with
 |.FunctionDef _ _ b _ _ _ _ _ _ _=>b
 |_=>[]
noncomputable def aW(s:Stmt):Scope:=match s with
 |.FunctionDef _ _ _ _ _ _ sc _ _ _=>sc
 |_=>{kind:=.function,names:=[],isGenerator:=false,isCoroutine:=false}
abbrev aU:ix:=λ_ _ _ _ _ _=>False
abbrev E0:XK:=λ_ _ _=>False
def mZ{X:Cx}:kQ aU X E0:=λ_ _ _ _ _ _ _ h=>h.elim
structure aY(K:W.Frag)(x qual:Str)(st:Stmt)(f:Addr)(fd:FuncData):Prop where
 ex:∃(oc:Value) (od:Option Addr) (kV S6 pm:Value) (an:Option Addr) (aP ct:Value) (VD:Array (Option Value)),
  fd=W.fnOf x qual (kU st) (jS st) (aW st) .none kV S6 pm an aP ct/\K.lookup f=some (oc,od,.func fd,VD)/\W.codeIn K aP qual=true
 kp:W.keepIn K (.ref f)=true
section
variable{P:Program}{w:World}{K:W.Frag}{mg:Str->Option Value}{base:Heap}
def aY.ok{x qual:Str}{st:Stmt}{f:Addr}{fd:FuncData}{N ps:List Str}{k:Nat}{sp:Sp}(F:aY K x qual st f fd)(S:bc N ps (aW st))(len:∀vs H Q E,sp vs H Q E->vs.length=ps.length)
  (hbody:∀(aP:Value) (A:Around) (outer:List Env) (s:Shared) (H:Hp) (vs:LT) (Q:VK) (E:XK),cn k (A.deeper (envOfC qual (aW st) s.heap.objs.size f aP))->sp vs H Q E->
   ∃t,gv (mW aU P w K mg base N qual (aW st) f aP A outer s H E).nox (jS st) t/\t {nx:=λ_ H'=>Q .non H',rt:=Q} (kR N vs) H):aN P w K mg base aU (k+1) f fd ps sp:=by
 let(oc,od,kV,S6,pm,an,aP,ct,VD,rfl,lk,hcd):=F.ex;show HQ lk hcd S len λA outer s H vs Q E hr hsp=>?_;let(t,h,q):=hbody aP A outer s H vs Q E hr hsp;show(t,h.nox,q)
def aY.binds{x qual:Str}{st:Stmt}{f:Addr}{fd:FuncData}{ps:List Str}(F:aY K x qual st f fd)
  (h:∀(kV S6 pm:Value) (an:Option Addr) (aP ct:Value) (us:T0),us.length=ps.length->bindArgs (W.fnOf x qual (kU st) (jS st) (aW st) .none kV S6 pm an aP ct) (us,[])=pure (ps.zip us)):f_ K fd ps []:=by
 let(oc,od,kV,S6,pm,an,aP,ct,VD,rfl,lk,hcd):=F.ex;show .all (h kV S6 pm an aP ct)
def rS{x qual:Str}{st:Stmt}{f:Addr}{oc:Value}{od an:Option Addr}{VD:Array (Option Value)}{kV S6 pm aP ct:Value}(l:K.lookup f=some (oc,od,.func (W.fnOf x qual (kU st) (jS st) (aW st) .none kV S6 pm an aP ct),VD))
  (c:W.codeIn K aP qual=true) (k:W.keepIn K (.ref f)=true):aY K x qual st f (W.fnOf x qual (kU st) (jS st) (aW st) .none kV S6 pm an aP ct):=((oc,od,kV,S6,pm,an,aP,ct,VD,rfl,l,c),k)
end
def vk{n:Nat}(h:n<=1000):n<sizeLine:=iM h (by decide)
section
variable{X:Cx}
def pv(i:Nat){x:Str}{pos:Pos}(hN:↥(X.N[i]?=some x))(hv:rm X.env.scope x:=by first|exact Or.inl rfl|exact Or.inr (Or.inl rfl)|exact Or.inr (Or.inr rfl))(hd:⇑((x==("__debug__":Str))=false))
  (hcd:⇑((x==("__classdict__":Str))=false)):PE X (.Name x pos) (eT i):=GU hN hv hd hcd
end
def bB{A B:Prop}(h:B):if false=true then A else B:=by
 grind
def br{A B:Prop}(h:A):if true=true then A else B:=by
 grind
def kW{c A B:Prop}[Decidable c](h1:c->A)(h2:¬c->B):if c then A else B:=by
 grind
def aC(H H':Hp):Prop:=∀b o,H b=some o->H' b=some o
def aC.refl(H:Hp):aC H H:=λ_ _ h=>h
def aC.trans{H H1 H2:Hp}(a:aC H H1)(b:aC H1 H2):aC H H2:=λc o h=>b c o (a c o h)
def aC.free{H H':Hp}(e:aC H H'){l:Addr}(h:H' l=Option.none):H l=Option.none:=by
 cases q:H l with
 |none=>rfl
 |some o=>
  rw[e l o q]at h;cases h
def aC.seq{K:W.Frag}{H H':Hp}{a:Addr}{xs:LT}(e:aC H H')(h:ah K H a xs):ah K H' a xs:=by
 rcases h with(h|⟨o,h⟩)|h
 .show .inl (.inl (e _ _ h))
 .show .inl (.inr (o,e _ _ h))
 .show .inr h
end L2
set_option maxHeartbeats 4000000
namespace L2
open PySem PySem.Spec PyProof.Rows
def vm(_ j:Int):Prop:=0<j/\j.natAbs.log2<9000
section
variable{X:Cx}
def vo:bT X (binaryOp .FloorDiv) (rI vm λi j=>.int (i / j)):=oS λi j _ _ _ _ _ hc q=>by
 let h1:(0:Int)<j:=hc.1;show floordiv_int () ⋯ (.inl (PyProof.noPylong_of_log2 hc.2))
end
def CW{n k:Nat}(h:n<2 ^ k)(hk:0<k):n.log2<k:=by
 rcases GB n with h0|hp
 .rw[h0];show hk
 .show(Nat.log2_lt (fY hp)).mpr h
section
variable{X:Cx}{a9:Tl}{Z:St}{H:Hp}{s:Shared}{h':Heap}{ch:Tk}{a:Addr}{o:HO}
def Inv.chg{t':Nat}(I:Inv X a9 Z H s)(hch:∀b∈ch,cC X a9 H b)(k:∀b u,b∉ch->s.heap.get? b=some u->h'.get? b=some u):Inv X a9 Z H {s with heap:=h',toks:=t'}:=by
 let YV:∀b u,H b=some u->b∉ch:=λb u e z=>by rw[(hch b z).1]at e;cases e
 show I.step (g':=s.gens) (d':=s.drawn) (ch:=ch) (λb hb=>?_) (λb u _ _ hc e _=>k b u hc e) (λb u _ _ hc e _=>(u.slots,k b u hc e)) (λ_ _ _ _ n=>n)
  (λb u hc e=>(u,k b u hc e)) (λ_ _ e=>e) (λ_ _ _ e=>e) (λb ps e=>(#[],by rw[e];simp)) (λm hm=>?_) (λb u e=>?_) I.bare
 .let(_,f1,_,f3,f4,f5):=hch b hb
  grind
 .let(u,es,ep,ho,r):=hm;show(u,es,ep,k _ u (λz=>(hch _ z).2.1 rfl) ho,r)
 .show(I.hok b u e).stay (λc v hc q=>k c v ?_ q) (λ_ q=>q) λ_ _ q=>q
  grind
def Inv.chgLaid{t':Nat}(I:Inv X a9 Z H s)(hch:∀b∈ch,cC X a9 H b)(k:∀b u,b∉ch->s.heap.get? b=some u->h'.get? b=some u)(hp:s.heap.objs.size<=a)
  (new:c8 X.prog X.w (aa H a o) h' a o):Inv X a9 Z (aa H a o) {s with heap:=h',toks:=t'}:=by
 let YV:∀b u,H b=some u->b∉ch:=λb u e z=>by rw[(hch b z).1]at e;cases e
 let hn:H a=none:=I.hok.fresh hp
 show I.step (g':=s.gens) (d':=s.drawn) (ch:=ch) (λb hb=>?_) (λb u _ _ hc e _=>k b u hc e) (λb u _ _ hc e _=>(u.slots,k b u hc e))
  (λb u _ e n=>by rw[aB (bW (cM (bw e) hp))];show n)
  (λb u hc e=>(u,k b u hc e)) (λb xs e=>by rw[aB (bq e hn)];show e) (λb u v e=>by rw[aB (bq e hn)];show e) (λb ps e=>(#[],by rw[aB (bq e hn),e];simp)) (λm hm=>?_) (λb u e=>?_) I.bare
 .let(_,f1,_,f3,f4,f5):=hch b hb
  grind
 .let(u,es,ep,ho,r):=hm;show(u,es,ep,k _ u (λz=>(hch _ z).2.1 rfl) ho,r)
 .by_cases hb:b=a
  .subst hb;rw[ar]at e;cases e;show new
  .rw[aB hb]at e
   show(I.hok b u e).stay (λc v hc q=>k c v ?_ q) (λc q=>by rw[aB (bq q hn)];show q) λc xs q=>by rw[aB (bq q hn)];show q
   grind
def Inv.track(I:Inv X a9 Z H s)(f:cC X a9 H a)(new:c8 X.prog X.w (aa H a o) s.heap a o):Inv X a9 Z (aa H a o) s:=by
 let(hn,f1,_,f3,f4,f5):=f
 let z:Inv X a9 Z (aa H a o) {s with heap:=s.heap,gens:=s.gens,drawn:=s.drawn,toks:=s.toks}:=by
  show I.step (g':=s.gens) (d':=s.drawn) (ch:=[a]) (λb hb=>?_) (λb u _ _ _ e _=>e) (λb u _ _ _ e _=>(u.slots,e))
   (λb u hc e n=>by rw[aB (λz=>hc (by simp[z]))];show n)
   (λb u _ e=>(u,e)) (λb xs e=>by rw[aB (bq e hn)];show e) (λb u v e=>by rw[aB (bq e hn)];show e) (λb ps e=>(#[],by rw[aB (bq e hn),e];simp)) (λm hm=>hm) (λb u e=>?_) I.bare
  .grind
  .by_cases hb:b=a
   .subst hb;rw[ar]at e;cases e;show new
   .rw[aB hb]at e
    show(I.hok b u e).stay (λc v hc q=>q) (λc q=>by rw[aB (bq q hn)];show q) λc xs q=>by rw[aB (bq q hn)];show q
 show z
end
section
variable{prog:Program}{w:World}{A:Around}{E:Value->Shared->Prop}{s:Shared}
def Iz{it l:Addr}{i:Nat}{items}{x:Value}{Q:Value->Shared->Prop}(hit:s.heap.IsTupleIter it l i)
  (hl:s.heap.IsTuple l items) (hx:items[i]?=some x)
  (hQ:∀h',h'.IsTupleIter it l (i+1)->Heap.SameBut it s.heap h'->Q x {s with heap:=h'}):
  wpAny (model prog w) A (Builtin.SmallTypes.nextOf (.ref it)) Q E s:=by
 let(o,ho,hc,hd):=id hit;let(ol,Vp,_,nl,TX):=hl;unfold Builtin.SmallTypes.nextOf
 show ae (oa (name:=Str.ofString "__next__") hit.typeIs Ak
  (gZ Ak hit.typeIs F.entry_tuple_iterator_next ?_ (F.args_tuple_iterator_next_1 _)))
 change wpAny _ _ (field (.ref it) 0 >>=_) _ _ s
 show ae (g_ ho hd (x:=.ref l) rfl ?_)
 change wpAny _ _ (if(Value.ref l==Value.none)=true then _ else _) _ _ s
 rw[aO (show ¬((Value.ref l==Value.none)=true)from cN)]
 change wpAny _ _ (field (.ref it) 1 >>=_) _ _ s
 show ae (g_ ho hd (x:=.int i 0) rfl ?_)
 change wpAny _ _ (seqItems? (.ref l) >>=_) _ _ s
 show ae (jE Vp TX ?_);simp only[Int.toNat_natCast,hx];show ae (wpAny_setField ho hd ∅ (aw (x,rfl,aw (hQ _ ?_ (lO ..)))))
 show(_,An _ ho (Obj.isFreed_of_fields (Obj.data_mapFields hd _)),(Obj.cls_mapFields ..).trans hc,by
  rw[Obj.data_mapFields hd];simp[rawInt])
def IA{it l:Addr}{i:Nat}{items}{Q:Value->Shared->Prop}(hh:A.handled=none)
  (hit:s.heap.IsTupleIter it l i) (hl:s.heap.IsTuple l items) (hx:items[i]?=none)
  (hE:∀h' e,Heap.ExtBut it s.heap h'->(∃o,h'.get? e=some o/\o.cls=.type "StopIteration")->E (.ref e) {s with heap:=h'}):
  wpAny (model prog w) A (Builtin.SmallTypes.nextOf (.ref it)) Q E s:=by
 let(o,ho,hc,hd):=id hit;let(ol,Vp,_,nl,TX):=hl;unfold Builtin.SmallTypes.nextOf
 show ae (oa (name:=Str.ofString "__next__") hit.typeIs Ak
  (gZ Ak hit.typeIs F.entry_tuple_iterator_next ?_ (F.args_tuple_iterator_next_1 _)))
 change wpAny _ _ (field (.ref it) 0 >>=_) _ _ s
 show ae (g_ ho hd (x:=.ref l) rfl ?_)
 change wpAny _ _ (if(Value.ref l==Value.none)=true then _ else _) _ _ s
 rw[aO (show ¬((Value.ref l==Value.none)=true)from cN)]
 change wpAny _ _ (field (.ref it) 1 >>=_) _ _ s
 show ae (g_ ho hd (x:=.int i 0) rfl ?_)
 change wpAny _ _ (seqItems? (.ref l) >>=_) _ _ s
 show ae (jE Vp TX ?_);simp only[Int.toNat_natCast,hx];show ae (ip (ae (wpAny_setField ho hd ∅ ?_)))
 change wpAny _ _ (newExc (.type "StopIteration") [] >>=_) _ _ _
 erw[ae];simp only[newExc,newTuple];show ae (ik ?_ (by size_fits));show ae (m:=firstArgMember _ _) (wpAny_of_eq (a:=Value.none) (by first|rfl|(simp only[firstArgMember];rfl)) ?_);show ik ?_ (by size_fits);simp only[raiseNew];show ae (wpAny_handled ?_)
 first|rw[show A.in1.handled=none from hh]|rw[hh]
 show ae (aw (wpAny_throw ?_));show hE _ _ (((lO ..).extBut.push _).push _) (_,bR _ rfl,rfl)
end
structure dJ(it l:Addr)(IT:Nat->Heap->Prop)(SL:Array Value->Heap->Prop):Prop where
 obj:∀i h,IT i h->∃o,h.get? it=some o/\∀v,o.data≠ .cell v
 fr:∀i (h h':Heap),IT i h->(∀o,h.get? it=some o->h'.get? it=some o)->IT i h'
 frS:∀xs (h h':Heap),SL xs h->(∀o,h.get? l=some o->h'.get? l=some o)->SL xs h'
 item:∀(prog:Program) (w:World) (A:Around) (i:Nat) (s:Shared) (xs:Array Value) (x:Value) (Q:Value->Shared->Prop) (E:Value->Shared->Prop),IT i s.heap->SL xs s.heap->xs[i]?=some x->
  (∀h',IT (i+1) h'->Heap.SameBut it s.heap h'->Q x {s with heap:=h'})->wpAny (model prog w) A (Builtin.SmallTypes.nextOf (.ref it)) Q E s
 done:∀(prog:Program) (w:World) (A:Around) (i:Nat) (s:Shared) (xs:Array Value) (Q:Value->Shared->Prop) (E:Value->Shared->Prop),A.handled=none->IT i s.heap->SL xs s.heap->xs[i]?=none->
  (∀h' e,Heap.ExtBut it s.heap h'->(∃o,h'.get? e=some o/\o.cls=.type "StopIteration")->E (.ref e) {s with heap:=h'})->wpAny (model prog w) A (Builtin.SmallTypes.nextOf (.ref it)) Q E s
def dJ.list(it l:Addr):dJ it l (λi h=>h.IsListIter it l i) (λxs h=>h.IsList l xs) where
 obj:=λi h st=>by
  let(o,e,c,d):=st
  grind
 fr:=λi h h' st k=>st.at λo e=>k o e
 frS:=λxs h h' st k=>st.at λo e=>k o e
 item:=λprog w A i s xs x Q E st hl hx hQ=>wpAny_nextOf_list_item st hl hx hQ
 done:=λprog w A i s xs Q E hh st hl hx hE=>wpAny_nextOf_list_end hh st hl hx hE
def dJ.tuple(it l:Addr):dJ it l (λi h=>h.IsTupleIter it l i) (λxs h=>h.IsTuple l xs) where
 obj:=λi h st=>by
  let(o,e,c,d):=st
  grind
 fr:=λi h h' (o,e,r) k=>(o,k o e,r)
 frS:=λxs h h' (o,e,r) k=>(o,k o e,r)
 item:=λprog w A i s xs x Q E st hl hx hQ=>Iz st hl hx hQ
 done:=λprog w A i s xs Q E hh st hl hx hE=>IA hh st hl hx hE
section
variable{prog:Program}{w:World}{A:Around}{E:Value->Shared->Prop}{s:Shared}{z TI TO i1 i2 l1 l2:Addr}{T9 T8:Nat->Heap->Prop}{U8 U7:Array Value->Heap->Prop}{k:Nat}{xs ys:Array Value}{x y a b:Value}
def dJ.bt{it l c:Addr}{IT:Nat->Heap->Prop}{SL:Array Value->Heap->Prop}(S:dJ it l IT SL){i:Nat}{h h':Heap}(st:IT i h)(hs:Heap.SameBut c h h')(n:it≠c):IT i h':=S.fr i h h' st λo e=>hs.extBut _ _ n e
def dJ.bs{it l c:Addr}{IT:Nat->Heap->Prop}{SL:Array Value->Heap->Prop}(S:dJ it l IT SL){xs:Array Value}{h h':Heap}(st:SL xs h)(hs:Heap.SameBut c h h')(n:l≠c):SL xs h':=S.frS xs h h' st λo e=>hs.extBut _ _ n e
def IB{Q:Value->Shared->Prop}(D:ZipApart z TI TO i1 i2 l1 l2)(S1:dJ i1 l1 T9 U8)(S2:dJ i2 l2 T8 U7)
  (hz:IsZip s.heap z TI TO .none) (TB:IsPair s.heap TI (.ref i1) (.ref i2)) (T4:IsPair s.heap TO a b)
  (h1:T9 k s.heap) (h2:T8 k s.heap) (RB:U8 xs s.heap) (Ro:U7 ys s.heap) (hx:xs[k]?=some x) (hy:ys[k]?=some y)
  (hQ:∀h',IsZip h' z TI TO (rawInt s.heap.objs.size)->IsPair h' TO x y->T9 (k+1) h'->T8 (k+1) h'->IsPair h' s.heap.objs.size x y->h'.objs.size=s.heap.objs.size+1->
   (∀c o,c≠z->c≠TO->c≠i1->c≠i2->s.heap.get? c=some o->h'.get? c=some o)->Q (.ref s.heap.objs.size) {s with heap:=h'}):
  wpAny (model prog w) A (Builtin.«zip.__next__» ([.ref z],[])) (λfin s'=>∃v,fin=.done (.ret v)/\Q v s') E s:=by
 change wpAny _ _ (field (.ref z) 2 >>=_) _ _ _
 show ae (g_ hz rfl (x:=.bool false) rfl ?_)
 change wpAny _ _ (field (.ref z) 3 >>=_) _ _ _
 show ae (g_ hz rfl (x:=.ref TI) rfl ?_);show ae (jE TB rfl ?_)
 change wpAny _ _ (Builtin.SmallTypes.ownedTupleIsFree (.ref z) >>=_) _ _ _
 erw[ae];unfold Builtin.SmallTypes.ownedTupleIsFree;show ae (g_ hz rfl (x:=.none) rfl (aw ?_));simp only[kF];show ae (ip ?_);show ae (g_ hz rfl (x:=.ref TO) rfl ?_);show ae (j6 hz ∅ λSl Se Rq=>?_)
 replace Se:IsZip Sl z TI TO .ellipsis:=Se
 erw[ae];simp only[List.zipIdx_cons,List.zipIdx_nil,uD,AF];show ae (ae (AG ?_))
 change wpAny _ _ (Builtin.SmallTypes.nextOf (.ref i1) >>=_) _ _ _
 show ae (S1.item _ _ _ k _ xs x _ _ (S1.bt h1 Rq D.i1z) (S1.bs RB Rq D.l1z) hx λSN V0 Ru=>aw ?_);let Sy:IsPair SN TO a b:=Ru.extBut _ _ D.TOi1 (Rq.extBut _ _ D.TOz T4);show ae (jE Sy rfl ?_);show ae (Gx Sy λUb SW Rw=>?_)
 replace SW:IsPair Ub TO x b:=SW
 show ae (wpAny_letGo (aw ?_));show ae (ae (AG ?_))
 change wpAny _ _ (Builtin.SmallTypes.nextOf (.ref i2) >>=_) _ _ _
 show ae (S2.item _ _ _ k _ ys y _ _ (S2.bt (S2.bt (S2.bt h2 Rq D.i2z) Ru D.i12.symm) Rw D.TOi2.symm)
  (S2.bs (S2.bs (S2.bs Ro Rq D.l2z) Ru D.l2i1) Rw D.l2TO) hy λWk Ys Sh=>aw ?_)
 let UX:IsPair Wk TO x b:=Sh.extBut _ _ D.TOi2 SW;show ae (jE UX rfl ?_);show ae (Gx UX λRE Sx Sg=>?_)
 replace Sx:IsPair RE TO x y:=Sx
 show ae (wpAny_letGo (aw (aw ?_)));show ae (jE Sx rfl ?_);show ae (wpAny_newTuple ?_)
 let hsz:RE.objs.size=s.heap.objs.size:=by rw[Sg.1,Sh.1,Rw.1,Ru.1,Rq.1]
 let VF:IsZip RE z TI TO .ellipsis:=Sg.extBut _ _ D.TOz.symm (Sh.extBut _ _ D.i2z.symm (Rw.extBut _ _ D.TOz.symm (Ru.extBut _ _ D.i1z.symm Se)))
 let X9:∀c o,c≠z->c≠TO->c≠i1->c≠i2->s.heap.get? c=some o->RE.get? c=some o:=λc o c1 c2 c3 c4 e=>
  Sg.extBut _ _ c2 (Sh.extBut _ _ c4 (Rw.extBut _ _ c2 (Ru.extBut _ _ c3 (Rq.extBut _ _ c1 e))))
 let Yt:T9 (k+1) RE:=S1.bt (S1.bt (S1.bt V0 Rw D.TOi1.symm) Sh D.i12) Sg D.TOi1.symm;let Yr:T8 (k+1) RE:=S2.bt Ys Sg D.TOi2.symm;let XQ:z<RE.objs.size:=bw VF;let jc8:TO<RE.objs.size:=bw Sx
 change wpAny _ _ (Builtin.SmallTypes.ownedTupleHandOut (.ref z) (.ref RE.objs.size) >>=_) _ _ _
 erw[ae];unfold Builtin.SmallTypes.ownedTupleHandOut;let XO:IsZip (RE.push {cls:=.type "tuple",data:=.seq #[x,y]}) z TI TO .ellipsis:=aR _ VF;show ae (j6 XO ∅ λZY UF UJ=>?_)
 replace UF:IsZip ZY z TI TO (rawInt RE.objs.size):=UF
 show j6 UF ∅ λUE TQ UI=>?_
 replace TQ:IsZip UE z TI TO (rawInt RE.objs.size):=TQ
 let up:∀c o,c≠z->RE.get? c=some o->UE.get? c=some o:=λc o c1 e=>UI.extBut _ _ c1 (UJ.extBut _ _ c1 (aR _ e));let VU:IsPair UE RE.objs.size x y:=UI.extBut _ _ (fY XQ) (UJ.extBut _ _ (fY XQ) (bR _ rfl))
 let hz8:UE.objs.size=RE.objs.size+1:=by rw[UI.1,UJ.1,eQ]
 rw[hsz]at TQ VU hz8;show aw (_,rfl,?_)
 change Q (.ref RE.objs.size) _
 rw[hsz];show hQ UE TQ (up _ _ D.TOz Sx) (S1.fr _ _ _ Yt λo e=>up _ o D.i1z e) (S2.fr _ _ _ Yr λo e=>up _ o D.i2z e) VU hz8 λc o c1 c2 c3 c4 e=>up c o c1 (X9 c o c1 c2 c3 c4 e)
def IC{Q:Fin->Shared->Prop}(hh:A.handled=none)(D:ZipApart z TI TO i1 i2 l1 l2)(S1:dJ i1 l1 T9 U8)(S2:dJ i2 l2 T8 U7)
  (hz:IsZip s.heap z TI TO .none) (TB:IsPair s.heap TI (.ref i1) (.ref i2)) (T4:IsPair s.heap TO a b)
  (h1:T9 k s.heap) (h2:T8 k s.heap) (RB:U8 xs s.heap) (Ro:U7 ys s.heap) (hend:xs[k]?=none\/ys[k]?=none)
  (hE:∀h' e,(∀c o,c≠z->c≠TO->c≠i1->c≠i2->s.heap.get? c=some o->h'.get? c=some o)->(∃o,h'.get? e=some o/\o.cls=.type "StopIteration")->E (.ref e) {s with heap:=h'}):
  wpAny (model prog w) A (Builtin.«zip.__next__» ([.ref z],[])) Q E s:=by
 change wpAny _ _ (field (.ref z) 2 >>=_) _ _ _
 show ae (g_ hz rfl (x:=.bool false) rfl ?_)
 change wpAny _ _ (field (.ref z) 3 >>=_) _ _ _
 show ae (g_ hz rfl (x:=.ref TI) rfl ?_);show ae (jE TB rfl ?_)
 change wpAny _ _ (Builtin.SmallTypes.ownedTupleIsFree (.ref z) >>=_) _ _ _
 erw[ae];unfold Builtin.SmallTypes.ownedTupleIsFree;show ae (g_ hz rfl (x:=.none) rfl (aw ?_));simp only[kF];show ae (ip ?_);show ae (g_ hz rfl (x:=.ref TO) rfl ?_);show ae (j6 hz ∅ λSl Se Rq=>?_)
 replace Se:IsZip Sl z TI TO .ellipsis:=Se
 erw[ae];simp only[List.zipIdx_cons,List.zipIdx_nil,uD,AF];show ae (ae (AG ?_))
 change wpAny _ _ (Builtin.SmallTypes.nextOf (.ref i1) >>=_) _ _ _
 cases hx:xs[k]? with
 |none=>
  show ae (S1.done _ _ _ k _ xs _ _ hh (S1.bt h1 Rq D.i1z) (S1.bs RB Rq D.l1z) hx λSN e Ru he=>?_);let(oe,Wq,Yg):=he;let VH:IsZip SN z TI TO .ellipsis:=Ru _ _ D.i1z.symm Se
  let hez:e≠z:=λx=>by subst x;rw[VH]at Wq;cases Wq;simp at Yg
  show j6 VH ∅ λUb _ Rw=>hE Ub e (λc o c1 _ c3 _ x=>Rw.extBut _ _ c1 (Ru _ _ c3 (Rq.extBut _ _ c1 x))) (oe,Rw.extBut _ _ hez Wq,Yg)
 |some x=>
  let hy:ys[k]?=none:=⋯
  show ae (S1.item _ _ _ k _ xs x _ _ (S1.bt h1 Rq D.i1z) (S1.bs RB Rq D.l1z) hx λSN V0 Ru=>aw ?_);let Sy:IsPair SN TO a b:=Ru.extBut _ _ D.TOi1 (Rq.extBut _ _ D.TOz T4);show ae (jE Sy rfl ?_);show ae (Gx Sy λUb SW Rw=>?_);show ae (wpAny_letGo (aw ?_));show ae (ae (AG ?_))
  change wpAny _ _ (Builtin.SmallTypes.nextOf (.ref i2) >>=_) _ _ _
  show ae (S2.done _ _ _ k _ ys _ _ hh (S2.bt (S2.bt (S2.bt h2 Rq D.i2z) Ru D.i12.symm) Rw D.TOi2.symm)
   (S2.bs (S2.bs (S2.bs Ro Rq D.l2z) Ru D.l2i1) Rw D.l2TO) hy λWk e Sh he=>?_)
  let(oe,Wq,Yg):=he;let VG:IsZip Wk z TI TO .ellipsis:=Sh _ _ D.i2z.symm (Rw.extBut _ _ D.TOz.symm (Ru.extBut _ _ D.i1z.symm Se))
  let hez:e≠z:=λx=>by subst x;rw[VG]at Wq;cases Wq;simp at Yg
  show j6 VG ∅ λRE _ Sg=>hE RE e (λc o c1 c2 c3 c4 x=>Sg.extBut _ _ c1 (Sh _ _ c4 (Rw.extBut _ _ c2 (Ru.extBut _ _ c3 (Rq.extBut _ _ c1 x))))) (oe,Sg.extBut _ _ hez Wq,Yg)
def ID{Q:Option Value->Shared->Prop}(D:ZipApart z TI TO i1 i2 l1 l2)(S1:dJ i1 l1 T9 U8)(S2:dJ i2 l2 T8 U7)
  (hz:IsZip s.heap z TI TO .none) (TB:IsPair s.heap TI (.ref i1) (.ref i2)) (T4:IsPair s.heap TO a b)
  (h1:T9 k s.heap) (h2:T8 k s.heap) (RB:U8 xs s.heap) (Ro:U7 ys s.heap) (hx:xs[k]?=some x) (hy:ys[k]?=some y)
  (hQ:∀h',IsZip h' z TI TO (rawInt s.heap.objs.size)->IsPair h' TO x y->T9 (k+1) h'->T8 (k+1) h'->IsPair h' s.heap.objs.size x y->h'.objs.size=s.heap.objs.size+1->
   (∀c o,c≠z->c≠TO->c≠i1->c≠i2->s.heap.get? c=some o->h'.get? c=some o)->Q (some (.ref s.heap.objs.size)) {s with heap:=h'}):
  wpAny (model prog w) A (pyNext (.ref z)) Q E s:=by
 let hT:s.TypeIs (.ref z) "zip":=(_,hz,rfl)
 unfold pyNext
 show ae (wpAny_attempt (oa (name:=Str.ofString "__next__") hT AB
  (gZ AB hT F.entry_zip_next
   (IB D S1 S2 hz TB T4 h1 h2 RB Ro hx hy λh' a1 a2 a3 a4 a5 a6 a7=>aw (hQ h' a1 a2 a3 a4 a5 a6 a7)) (F.args_zip_next_1 _))))
def IE{Q:Option Value->Shared->Prop}(hh:A.handled=none)(D:ZipApart z TI TO i1 i2 l1 l2)(S1:dJ i1 l1 T9 U8)(S2:dJ i2 l2 T8 U7)
  (hz:IsZip s.heap z TI TO .none) (TB:IsPair s.heap TI (.ref i1) (.ref i2)) (T4:IsPair s.heap TO a b)
  (h1:T9 k s.heap) (h2:T8 k s.heap) (RB:U8 xs s.heap) (Ro:U7 ys s.heap) (hend:xs[k]?=none\/ys[k]?=none)
  (hQ:∀h',(∀c o,c≠z->c≠TO->c≠i1->c≠i2->s.heap.get? c=some o->h'.get? c=some o)->Q none {s with heap:=h'}):wpAny (model prog w) A (pyNext (.ref z)) Q E s:=by
 let hT:s.TypeIs (.ref z) "zip":=(_,hz,rfl)
 unfold pyNext
 show ae (wpAny_attempt (oa (name:=Str.ofString "__next__") hT AB
  (gZ AB hT F.entry_zip_next (IC hh D S1 S2 hz TB T4 h1 h2 RB Ro hend λh' e hk he=>?_) (F.args_zip_next_1 _))))
 let(o,ho,hc):=he;show ae (uB (T:="StopIteration") (b:=true) (o,ho,hc) isSubtype_stop ?_);show aw (hQ _ hk)
end
noncomputable def kX(S1 S2:Hp->LT->Prop):It:=
 (λi H=>∃xs ys u v,S1 H xs/\S2 H ys/\xs[i]?=some u/\ys[i]?=some v,
  λi H x H'=>∃T u v,x=.ref T/\H T=none/\H'=aa H T (.tup [u,v])/\∀xs ys,S1 H xs->S2 H ys->xs[i]?=some u/\ys[i]?=some v,
  λi H=>∃xs ys,S1 H xs/\S2 H ys/\(xs.length<=i\/ys.length<=i))
structure iz(K:W.Frag)(SL:Array Value->Heap->Prop)(SV:Hp->LT->Prop):Prop where
 val:∀(X:Cx),X.K=K->∀(a9:Tl) (Z:St) (H:Hp) (s:Shared) (xs:LT),Inv X a9 Z H s->SV H xs->∃av:T0,a_ xs av/\SL av.toArray s.heap
 inj:∀(X:Cx),X.K=K->∀(a9:Tl) (Z:St) (H:Hp) (s:Shared) (xs ys:LT),Inv X a9 Z H s->SV H xs->SV H ys->xs=ys
def iz.list(K:W.Frag)(l:Addr):iz K (λxs h=>h.IsList l xs) (λH xs=>ah K H l xs) where
 val:=λX hK a9 Z H s xs I h=>by
  subst hK;let(av,rv,p,_):=I.list h;show(av,rv,p.isList)
 inj:=λX hK a9 Z H s xs ys I h h'=>by
  subst hK;show I.list_inj h h'
def iz.tuple(K:W.Frag)(l:Addr):iz K (λxs h=>h.IsTuple l xs) (λH xs=>az K H l xs) where
 val:=λX hK a9 Z H s xs I h=>by
  subst hK;let(av,rv,p,_):=I.tuple h;show(av,rv,p)
 inj:=λX hK a9 Z H s xs ys I h h'=>by
  subst hK;show I.tuple_inj h h'
def vp{P:Program}{w:World}{K:W.Frag}{es:List Expr}{kk:Nat}{pos:Pos}{z TI TO i1 i2 l1 l2:Addr}{T9 T8:Nat->Heap->Prop}{U8 U7:Array Value->Heap->Prop}{SV1 SV2:Hp->LT->Prop}
  (D:ZipApart z TI TO i1 i2 l1 l2) (S1:dJ i1 l1 T9 U8) (S2:dJ i2 l2 T8 U7) (V1:iz K U8 SV1) (V2:iz K U7 SV2):
  ir P w K (.Tuple es kk pos) (kX SV1 SV2) [z,TI,TO,i1,i2] z (λi h=>IsZip h z TI TO .none/\IsPair h TI (.ref i1) (.ref i2)/\(∃a b,IsPair h TO a b)/\T9 i h/\T8 i h) where
 mem:=∅
 obj:=λi h st b hb=>by
  let(hz,TB,(a,c,T4),h1,h2):=st;simp only[cb,bF,cS]at hb
  rcases hb with rfl|rfl|rfl|rfl|rfl
  .grind
  .grind
  .grind
  .show S1.obj _ _ h1
  .show S2.obj _ _ h2
 keep:=λi h h' st k=>by
  let(hz,TB,(a,c,T4),h1,h2):=st;show(k z ∅ _ hz,k TI ∅ _ TB,(a,c,k TO ∅ _ T4),S1.fr _ _ _ h1 λo e=>k i1 ∅ o e,S2.fr _ _ _ h2 λo e=>k i2 ∅ o e)
 item:=by
  ext X hP hw hK hc i a9 s Z H E I hf st hg;let(xs,ys,u,v,q1,q2,e1,e2):=hg;let(av,rv,p1):=V1.val X hK a9 Z H s xs I q1;let(W0,RM,p2):=V2.val X hK a9 Z H s ys I q2;let(a1,b1,r1):=rv.get e1;let(a2,b2,r2):=RM.get e2;let(hz,TB,(a,c,T4),h1,h2):=id st;subst hP hw;show ID D S1 S2 hz TB T4 h1 h2 p1 p2 (x:=a1) (y:=a2) ⋯ ⋯ λh' g1 g2 g3 g4 g5 g6 g7=>?_;show(_,rfl,wpAny_letOwnedTupleGo_zip g1 λT5 g1' Tn=>?_);let ne:∀{b:Addr} {o:Obj},s.heap.get? b=some o->s.heap.objs.size≠b:=λe=>fY (bw e)
  let kk:∀b o,b∉ [z,TO,i1,i2]->s.heap.get? b=some o->T5.get? b=some o:=λb o hb e=>by
   simp only[cb,bF,cS,fO]at hb;show Tn.extBut _ _ hb.1 (g7 b o hb.1 hb.2.1 hb.2.2.1 hb.2.2.2 e)
  let hT:T5.get? s.heap.objs.size=some {cls:=.type "tuple",data:=.seq #[a1,a2]}:=Tn.extBut _ _ (ne hz) g5
  let hch:∀b∈[z,TO,i1,i2],cC X a9 H b:=λb hb=>hf b (by
   simp only[cb,bF,cS]at hb⊢
   rcases hb with rfl|rfl|rfl|rfl<;>simp)
  let new:c8 X.prog X.w (aa H s.heap.objs.size (.tup [u,v])) T5 s.heap.objs.size (.tup [u,v]):=
   (by change 2<=sizeLine;decide,[a1,a2],.cons r1 (.cons r2 .nil),_,hT,rfl,_,rfl)
  let I1:Inv X a9 Z (aa H s.heap.objs.size (.tup [u,v])) {s with heap:=T5,toks:=s.toks}:=I.chgLaid hch kk (aD _) new;let hn:H s.heap.objs.size=none:=I.hok.fresh (aD _);show(.ref s.heap.objs.size,_,I1,rfl,(_,u,v,rfl,hn,rfl,λxs' ys' w1 w2=>?_),(g1',?_,(a1,a2,Tn.extBut _ _ D.TOz g2),S1.bt g3 Tn D.i1z,S2.bt g4 Tn D.i2z),λb hb=>?_)
  .rw[V1.inj X hK a9 Z H s xs' xs I w1 q1,V2.inj X hK a9 Z H s ys' ys I w2 q2]
   grind
  .show kk TI _ (by simp only[cb,bF,cS,fO];show(D.TIz,D.TITO,D.TIi1,D.TIi2)) TB
  .let(o,ho,_):=(show ∃o,s.heap.get? b=some o/\∀v,o.data≠ .cell v from by
    simp only[cb,bF,cS]at hb
    rcases hb with rfl|rfl|rfl|rfl|rfl
    .grind
    .grind
    .grind
    .show S1.obj _ _ h1
    .show S2.obj _ _ h2)
   rw[aB (Ne.symm (ne ho))];show(hf b hb).1
 done:=by
  ext X hP hw hK hc i a9 s Z H E I hf st hg;let(xs,ys,q1,q2,e):=hg;let(av,rv,p1):=V1.val X hK a9 Z H s xs I q1;let(W0,RM,p2):=V2.val X hK a9 Z H s ys I q2;let l1:=rv.length;let l2:=RM.length;let(hz,TB,(a,c,T4),h1,h2):=id st;subst hP hw
  show IE (I.ok.hd hc) D S1 S2 hz TB T4 h1 h2 p1 p2 ⋯ λh' g7=>(rfl,?_)
  let hch:∀b∈[z,TO,i1,i2],cC X a9 H b:=λb hb=>hf b (by
   simp only[cb,bF,cS]at hb⊢
   rcases hb with rfl|rfl|rfl|rfl<;>simp)
  show I.chg (t':=s.toks) hch λb o hb e=>by
   grind
 self:=λ_ _ _ _ _ st h=>Aw st.1 h
abbrev rT(h:Heap)(l1:Addr):Heap:=h.push {cls:=.type "tuple_iterator",data:=.fields #[.ref l1,.int 0 0]}
abbrev rV(h:Heap)(l1 l2:Addr):Heap:=(rT h l1).push {cls:=.type "tuple_iterator",data:=.fields #[.ref l2,.int 0 0]}
abbrev rW(h:Heap)(l1 l2:Addr):Heap:=(rV h l1 l2).push {cls:=.type "tuple",data:=.seq #[.ref h.objs.size,.ref (rT h l1).objs.size]}
abbrev rX(h:Heap)(l1 l2:Addr):Heap:=(rW h l1 l2).push {cls:=.type "tuple",data:=.seq #[.none,.none]}
abbrev l_(h:Heap)(l1 l2:Addr):Heap:=(rX h l1 l2).push {cls:=.type "zip",data:=.fields #[.none,.bool false,.bool false,.ref (rV h l1 l2).objs.size,.ref (rW h l1 l2).objs.size]}
def IF(l1 l2:Addr)(xs ys:Array Value):
  Meets (Builtin.«zip.__new__» ([.type "zip",.ref l1,.ref l2],[])) (λ_ R s=>s.heap.IsTuple l1 xs/\s.heap.IsTuple l2 ys/\
   R (.ok (.ret (.ref (rX s.heap l1 l2).objs.size))) {s with heap:=l_ s.heap l1 l2}):=
 .of_wp λprog w A R s h=>by
  let(hp,g,d,tk,os):=s;let(RB,Ro,h):=h;let uH:=sub_zip;let Yo:Heap.IsTuple (Shared.heap (hp,g,d,tk,os)) l1 xs:=RB;let VW:Heap.IsTuple (Shared.heap (hp.push {cls:=.type "tuple_iterator",data:=.fields #[.ref l1,.int 0 0]},g,d,tk,os)) l2 ys:=Heap.IsTuple.push Ro _
  wp_walk using uw Yo,uw VW
  show(_,rfl,h)
def IG{prog:Program}{w:World}{A:Around}{E:Value->Shared->Prop}{s:Shared}{l1 l2:Addr}{xs ys:Array Value}{Q:Value->Shared->Prop}(RB:s.heap.IsTuple l1 xs)(Ro:s.heap.IsTuple l2 ys)
  (h:∀h',IsZip h' (s.heap.objs.size+4) (s.heap.objs.size+2) (s.heap.objs.size+3) .none->IsPair h' (s.heap.objs.size+2) (.ref s.heap.objs.size) (.ref (s.heap.objs.size+1))->
   IsPair h' (s.heap.objs.size+3) .none .none->h'.IsTupleIter s.heap.objs.size l1 0->h'.IsTupleIter (s.heap.objs.size+1) l2 0->h'.objs.size=s.heap.objs.size+5->
   (∀c o,s.heap.get? c=some o->h'.get? c=some o)->Q (.ref (s.heap.objs.size+4)) {s with heap:=h'}):
  wpAny (model prog w) A (call (.type "zip") [.ref l1,.ref l2]) Q E s:=by
 show callType_new F.called_zip (by decide) (F.typeCall_zip_2 _ _) (F.newCall_zip_2 _ _) (λobj=>F.args_object_init_3 obj _ _) F.entry_zip_new
  (IF l1 l2 xs ys) (RB,Ro,?_)
 let z1:(rT s.heap l1).objs.size=s.heap.objs.size+1:=eQ ..
 let z2:(rV s.heap l1 l2).objs.size=s.heap.objs.size+2:=by rw[eQ,z1]
 let z3:(rW s.heap l1 l2).objs.size=s.heap.objs.size+3:=by rw[eQ,z2]
 let z4:(rX s.heap l1 l2).objs.size=s.heap.objs.size+4:=by rw[eQ,z3]
 let z5:(l_ s.heap l1 l2).objs.size=s.heap.objs.size+5:=by rw[eQ,z4]
 let g5:(l_ s.heap l1 l2).get? (rX s.heap l1 l2).objs.size=some _:=bR _ rfl;let g4:(l_ s.heap l1 l2).get? (rW s.heap l1 l2).objs.size=some _:=aR _ (bR _ rfl);let g3:(l_ s.heap l1 l2).get? (rV s.heap l1 l2).objs.size=some _:=aR _ (aR _ (bR _ rfl));let g2:(l_ s.heap l1 l2).get? (rT s.heap l1).objs.size=some _:=aR _ (aR _ (aR _ (bR _ rfl)));let g1:(l_ s.heap l1 l2).get? s.heap.objs.size=some _:=aR _ (aR _ (aR _ (aR _ (bR _ rfl))))
 change _/\_
 rw[z2,z3,z4]at g5;rw[z1,z2]at g3;rw[z3]at g4;rw[z1]at g2;rw[z4]
 show((_,g5,rfl),h _ g5 g3 g4 (_,g1,rfl,rfl) (_,g2,rfl,rfl) z5 λc o x=>
  aR _ (aR _ (aR _ (aR _ (aR _ x)))))
section
variable{X:Cx}{es:List Expr}{kk:Nat}{Sk:Pos}
def vq{n l1 l2:Nat}(h1:l1<n)(h2:l2<n):ZipApart (n+4) (n+2) (n+3) n (n+1) l1 l2:=by
 show(?_,?_,?_,?_,?_,?_,?_,?_,?_,?_,?_,?_,?_,?_,?_,?_,?_,?_)
 all_goals ext e
 .grind
 .grind
 .grind
 .grind
 .grind
 .grind
 .grind
 .grind
 .grind
 .grind
 .grind
 .grind
 .grind
 .grind
 .grind
 .grind
 .grind
 .grind
def vt(K:W.Frag)(ta:TA):TI:=λZ H R=>ta Z H λvs H1=>∃a b,vs=[.ref a,.ref b]/\
 ((∃xs ys,ah K H1 a xs/\ah K H1 b ys/\R (kX (λH xs=>ah K H a xs) (λH ys=>ah K H b ys)) H1)\/
  (∃xs ys,az K H1 a xs/\az K H1 b ys/\R (kX (λH xs=>az K H a xs) (λH ys=>az K H b ys)) H1))
def IH{a b:Expr}{ta:TA}{p pos:Pos}(hg:Gl X "zip")(hm:X.mg "zip"=none)(ha:PA X [a,b] ta)(hs:↥(starEach [a,b] X.env=[(false,eval a X.env,),(false,eval b X.env,)]))(S0:↥(starEach [b] X.env=[(false,eval b X.env,)]))
  (hv:bootBuiltins "zip"=some (.type "zip"):=by first|rfl|decide+kernel):
  PI X (.Tuple es kk Sk) (.Call (.Name "zip" p) [a,b] [] pos) (vt X.K ta):=by
 ext a9 s Z H R I h;show Call_ (kK I hg hm hv (qB (aI (ha pos a9 s Z H _ I h) λus s1 (vs,H1,I1,r1,q1)=>?_) (by rw[hs,S0]) (by rw[S0];rfl)));let(l1,l2,e,q):=q1;subst e;let(u1,u2,rfl,e1,e2):=mU r1;cases e1;cases e2
 let fp:∀(h':Heap) (H':Hp),(∀b,s1.heap.objs.size<=b->H' b=none)->∀b∈[s1.heap.objs.size+4,s1.heap.objs.size+2,s1.heap.objs.size+3,s1.heap.objs.size,s1.heap.objs.size+1],cC X a9 H' b:=λh' H' hn b hb=>by
  simp only[cb,bF,cS]at hb
  let SR:s1.heap.objs.size<=b:=()
  show I1.fpOk SR (hn b SR)
 rcases q with⟨xs,ys,q1,q2,q⟩|⟨xs,ys,q1,q2,q⟩
 .let(av,rv,p1,_):=I1.list q1;let(W0,RM,p2,_):=I1.list q2
  let VE:l1<s1.heap.objs.size:=by obtain⟨_,e,_⟩:=p1.isList;show bw e
  let XI:l2<s1.heap.objs.size:=by obtain⟨_,e,_⟩:=p2.isList;show bw e
  show call_zip_2 p1.isList p2.isList λh' g1 g2 g3 g4 g5 g6 g7=>?_;erw[Aw g1];show(_,_,_,_,H1,rfl,I1.kept (t':=s1.toks) g7,vp (vq VE XI) (dJ.list _ l1) (dJ.list _ l2) (iz.list X.K l1) (iz.list X.K l2),(g1,g2,(_,_,g3),g4,g5),fp h' H1 λb hb=>I1.hok.fresh hb,q)
 .let(av,rv,p1,_):=I1.tuple q1;let(W0,RM,p2,_):=I1.tuple q2
  let VE:l1<s1.heap.objs.size:=by obtain⟨_,e,_⟩:=p1;show bw e
  let XI:l2<s1.heap.objs.size:=by obtain⟨_,e,_⟩:=p2;show bw e
  show IG (show s1.heap.IsTuple l1 av.toArray from p1) (show s1.heap.IsTuple l2 W0.toArray from p2) λh' g1 g2 g3 g4 g5 g6 g7=>?_;erw[Aw g1];show(_,_,_,_,H1,rfl,I1.kept (t':=s1.toks) g7,vp (vq VE XI) (dJ.tuple _ l1) (dJ.tuple _ l2) (iz.tuple X.K l1) (iz.tuple X.K l2),(g1,g2,(_,_,g3),g4,g5),fp h' H1 λb hb=>I1.hok.fresh hb,q)
end
theorem vw{env:Env}:∀{names:List (Str×NameKind)} {x:Str},names.lookup x=some .free->
  (names.map λ(n,k,)=>if(k==NameKind.free && env.scope.kind==.function && env.kindOf n==some .cell)then(n,NameKind.cell,)else(n,k,)).lookup x=some .cell\/
  (names.map λ(n,k,)=>if(k==NameKind.free && env.scope.kind==.function && env.kindOf n==some .cell)then(n,NameKind.cell,)else(n,k,)).lookup x=some .free
 |[],_,h=>by simp at h
 |(n,k,)::r,x,h=>by
  let ih:=@vw env r x
  grind
theorem p7{env:Env}:∀{names:List (Str×NameKind)} {x:Str} {j:NameKind},(j=.cell\/j=.free)->
  (names.map λ(n,k,)=>if(k==NameKind.free && env.scope.kind==.function && env.kindOf n==some .cell)then(n,NameKind.cell,)else(n,k,)).lookup x=some j->names.lookup x=some .cell\/names.lookup x=some .free
 |[],_,_,_,h=>by simp at h
 |(n,k,)::r,x,j,hj,h=>by
  let ih:=@p7 env r x j hj
  replace h:List.lookup x ((if(k==NameKind.free && env.scope.kind==.function && env.kindOf n==some .cell)=true then(n,NameKind.cell,)else(n,k,))::(r.map λ(n,k,)=>if(k==NameKind.free && env.scope.kind==.function && env.kindOf n==some .cell)then(n,NameKind.cell,)else(n,k,)))=some j:=h
  grind
noncomputable def dM(cells:List (Str×Addr)):List (Str×NameKind)->List (Str×Addr)->List (Str×Addr)
 |[],Rm=>Rm
 |(n,k,)::r,Rm=>dM cells r (if(k==NameKind.free)=true then(n,(cells.lookup n).getD 0,)::Rm else Rm)
theorem CZ{env:Env}:∀(names:List (Str×NameKind)) (Rm:List (Str×Addr)),(∀y∈names,y.2=.free->∃c,env.cells.lookup y.1=some c)->
  (forIn names Rm (λ(x:Str×NameKind) (cs:List (Str×Addr))=>match x with|(name,kind,)=>if(kind==NameKind.free)=true then(do let a<-cellOf env name;pure (ForInStep.yield ((name,a,)::cs)))else pure (ForInStep.yield cs)):Sem (List (Str×Addr)))=pure (dM env.cells names Rm)
 |[],Rm,_=>rfl
 |(n,k,)::r,Rm,h=>by
  rw[uD];let hr:=λRm=>CZ r Rm λy hy=>h y (gW _ hy);by_cases hk:(k==NameKind.free)=true
  .let(c,hc):=h (n,k,) gK (beq_iff_eq.mp hk)
   let e:cellOf env n=pure c:=by unfold cellOf;rw[hc]
   simp only[hk,kF,e,pure_bind,dM,hc,Option.getD_some];show hr _
  .simp only[hk,if_false,pure_bind,dM];show hr _
def vy{scope:Scope}{env:Env}(h:∀y∈scope.names,y.2=.free->∃c,env.cells.lookup y.1=some c):closureFor scope env=pure (dM env.cells scope.names []):=by
 let e:=CZ scope.names [] h;unfold closureFor;simp only[e]
 first|rfl|simp
theorem p8{cells:List (Str×Addr)}{x:Str}:∀(names:List (Str×NameKind)) (Rm:List (Str×Addr)),((x,NameKind.free,)∈names\/Rm.lookup x=some ((cells.lookup x).getD 0))->
  (dM cells names Rm).lookup x=some ((cells.lookup x).getD 0)
 |[],Rm,h=>by
  rcases h with h|h
  .cases h
  .show h
 |(n,k,)::r,Rm,h=>by
  unfold dM;erw[p8 r _]
  grind
theorem C_{cells:List (Str×Addr)}{x:Str}{c:Addr}:∀(names:List (Str×NameKind)) (Rm:List (Str×Addr)),(dM cells names Rm).lookup x=some c->
  Rm.lookup x=some c\/((x,NameKind.free,)∈names/\c=(cells.lookup x).getD 0)
 |[],Rm,h=>.inl h
 |(n,k,)::r,Rm,h=>by
  unfold dM at h
  rcases C_ r _ h with q|⟨q,e⟩
  .grind
  .grind
structure g0(N:List Str)(U' scope:Scope)(own:List Str)(aJ:List (Nat×Str)):Prop where
 kind:scope.kind=.function
 ocell:∀y∈scope.names,y.2≠ .cell
 locs:∀y∈scope.names,y.2=.local ->scope.names.lookup y.1=some .local
 frees:∀y∈scope.names,y.2=.free->U'.names.lookup y.1=some .cell\/U'.names.lookup y.1=some .free
 fres:∀p∈aJ,N[p.1]?=some p.2/\scope.names.lookup p.2=some .free
noncomputable def eZ(n:Nat)(aJ:List (Nat×Str))(Z:St):St:=List.replicate n none++aJ.map λp=>(Z[p.1]?).join
noncomputable def gy(X:Cx)(N':List Str)(scope:Scope)(cl:List (Str×Addr))(C:Addr)(Rn:Shared)(RC:Hp)(fp:Tk):Cx where
 prog:=X.prog
 w:=X.w
 K:=X.K
 mg:=X.mg
 base:=X.base
 A:=X.A
 N:=N'
 s₀:=Rn
 H₀:=RC
 env:=compEnvC scope cl C X.env
 outer:=X.stack
 stack:=X.stack
 ex:=fp
 fn:=λ_=>false
 calm:=X.calm
 pn:=[]
 xe:=λ_ _=>False
section
variable{X:Cx}{a9:Tl}{Z:St}{H:Hp}{s:Shared}{scope:Scope}{own:List Str}{aJ:List (Nat×Str)}{fp:Tk}{C D:Addr}{h1:Heap}{m:Str->Option Value}
def Inv.clos_cells(I:Inv X a9 Z H s)(S:g0 X.N X.env.scope scope own aJ):∀y∈scope.names,y.2=.free->∃c,X.env.cells.lookup y.1=some c:=λy hy e=>I.ok.has y.1 (S.frees y hy e)
def Inv.clos_sub(I:Inv X a9 Z H s)(S:g0 X.N X.env.scope scope own aJ){x:Str}{c:Addr}(h:(dM X.env.cells scope.names []).lookup x=some c):X.env.cells.lookup x=some c:=by
 rcases C_ _ _ h with q|⟨q,e⟩
 .cases q
 .let(c',hc):=I.clos_cells S _ q rfl
  grind
def II{tk:Nat}(I:Inv X a9 Z H s)(S:g0 X.N X.env.scope scope own aJ)(Ue:∀b∈fp,cC X a9 H b)(Vw:∀b∈fp,∃o,s.heap.get? b=some o)
  (old:∀b o,s.heap.get? b=some o->h1.get? b=some o) (hC:s.heap.objs.size<=C) (Tw:h1.Ns C m) (hD:s.heap.objs.size<=D) (Vg:D≠C) (hDo:h1.get? D=some (LCg.lst [])):
  Inv (gy X (own++aJ.map (·.2)) scope (dM X.env.cells scope.names []) C s H fp) [(D,LCg.lst [],)] (eZ own.length aJ Z) H {s with heap:=h1,toks:=tk}:=by
 let sub:=λ{x:Str} {c:Addr}=>I.clos_sub (x:=x) (c:=c) S
 let lt:∀b∈fp,b<s.heap.objs.size:=λb hb=>by obtain⟨o,e⟩:=Vw b hb;show bw e
 let clt:∀x c,X.env.cells.lookup x=some c->c<s.heap.objs.size:=λx c e=>by obtain⟨v,q⟩:=I.cell x c e;show q.lt
 show((I.ok.mod,S.kind,I.ok.glob,I.ok.blt,hC,λx y c e1 e2=>I.ok.inj x y c (sub e1) (sub e2),λx hx=>?_,λx c z=>absurd z (by change ¬(false=true);decide),I.ok.hd,I.ok.frames,.inl rfl,λb hb=>?_,I.bs,cf I.ok.bsz I.sz,λb o e hb=>?_,λb hb=>?_,I.stack,I.stkFree),
  rfl,I.bare,Un.kept old,(m,Tw,λi x v e1 e2 e3=>?_),λx c e=>?_,I.hok.fresh hC,λx c e=>I.freeC x c (sub e),λp hp=>?_,I.hok.kept old,?_)
 .let VI:scope.names.lookup x=some .cell\/scope.names.lookup x=some .free:=by
   rcases hx with z|z
   .show p7 (.inl rfl) z
   .show p7 (.inr rfl) z
  rcases VI with z|z
  .show absurd rfl (S.ocell _ (mem_of_lookup z))
  .show(_,p8 _ _ (.inl (mem_of_lookup z)))
 .show(bW (cM (lt b hb) hC),λx c e=>(Ue b hb).2.2.2.2.1 x c (sub e))
 .let(_,_,_,f3,_):=Ue b hb
  rcases f3 with z|z
  .show I.ok.noex b o e z
  .show absurd (cM (bw e) (cf I.ok.bsz z)) (mK _)
 .ext z
  rcases cb.mp (I.stkSub b z)with q|q
  .show(Ue b hb).2.1 q
  .show(Ue b hb).2.2.1 q
 .let hi:own.length<=i:=by
   rcases fq i own.length with z|z
   .unfold eZ at e2
    grind
   .show z
  unfold eZ at e2;rw[fj ⋯,aH,Gv]at e2
  replace e1:(own++aJ.map (·.2))[i]?=some x:=e1
  rw[fj hi,aH]at e1
  cases q:aJ[i - own.length]? with
  |none=>rw[q]at e1;cases e1
  |some p=>
   rw[q]at e1 e2;let U4:p.2=x:=cH e1;let Yy:(Z[p.1]?).join=some v:=cH e2;subst U4
   let e4:Z[p.1]?=some (some v):=by
    grind
   let(n1,n2):=S.fres p (dr q);let hm:=mem_of_lookup n2;let kd:=S.frees _ hm rfl;let(m2,VN,Ro):=I.loc;let(u,ru,lk):=Ro p.1 p.2 v n1 e4 (.inr kd);show(u,ru,?_)
   rcases lk with⟨z,_⟩|⟨_,c,hc,hcell⟩
   .let z':X.env.scope.names.lookup p.2=some .local :=z
    grind
   .show .inr (vw n2,c,?_,?_)
    .have:=p8 (cells:=X.env.cells) (x:=p.2) scope.names [] (.inl hm);rw[hc]at this;show this
    .let(o,ho,hd):=hcell;show(o,old _ _ ho,hd)
 .let(v,o,ho,hd):=I.cell x c (sub e);show(v,o,old _ _ ho,hd)
 .let e:p=(D,LCg.lst [],):=by
   let Uc:p∈[(D,LCg.lst [],)]:=hp
   grind
  subst e;show(hDo,I.hok.fresh hD,Vg,λz=>?_,λv z=>by cases z)
  rcases cb.mp (I.stkSub D z)with q|q
  .show absurd I.lt (Nat.not_lt.mpr ⋯)
  .show I.nofs hD q
 .unfold eZ
  change _=(own++aJ.map (·.2)).length
  simp
end
def gO(X:Cx)(R_:List Expr)(t:TT):Prop:=
 ∀(a9:Tl) (s:Shared) (Z:St) (H:Hp) (Q:Bool->Hp->Prop),Inv X a9 Z H s->t Z H Q->
  wpAny (model X.prog X.w) X.A (forIn R_ true λc r=>if r=true then do let ok<-isTrue c X.env (eval c X.env);pure (ForInStep.yield ok)else pure (ForInStep.yield r)) (TP X a9 Z Q) X.xe s
def gP:TT:=λ_ H Q=>Q true H
def cD{X:Cx}:gO X [] gP:=λ_ _ _ H _ I h=>wpAny_tests_nil (H,I,h)
def gQ{X:Cx}{c:Expr}{t:TT}(h:PT X c t):gO X [c] t:=λa9 s Z H Q I hw=>wpAny_tests_one (h a9 s Z H Q I hw)
abbrev C'(fs:List Expr)(env:Env):Sem Bool:=forIn fs true λc r=>if r=true then do let ok<-isTrue c env (eval c env);pure (ForInStep.yield ok)else pure (ForInStep.yield r)
def m_(g:TG)(tt:TT)(te:TE)(J:It)(Fin:LT->St->Hp->Prop)(ys0:LT)(Z0:St)(H0:Hp):Prop:=
 ∃W:Nat->Nat->LT->St->Hp->Prop,(∃m,W 0 m ys0 Z0 H0)/\∀i m ys Z' H',W i m ys Z' H'->(J.stop i H'/\Fin ys Z' H')\/
  (J.go i H'/\ys.length<sizeLine/\∀x H2,J.yld i H' x H2->g x Z' H2 λZ3 H3=>tt Z3 H3 λb H4=>if b=true then te Z3 H4 λy H5=>∃m',m'<m/\W (i+1) m' (ys++[y]) Z3 H5 else ∃m',m'<m/\W (i+1) m' ys Z3 H4)
def vz(g:TG)(tt:TT)(wi:TI)(Tb:It->(LT->St->Hp->Prop)->LT->St->Hp->Prop)(J:It)(Fin:LT->St->Hp->Prop)(ys0:LT)(Z0:St)(H0:Hp):Prop:=
 ∃W:Nat->Nat->LT->St->Hp->Prop,(∃m,W 0 m ys0 Z0 H0)/\∀i m ys Z' H',W i m ys Z' H'->(J.stop i H'/\Fin ys Z' H')\/
  (J.go i H'/\∀x H2,J.yld i H' x H2->g x Z' H2 λZ3 H3=>tt Z3 H3 λb H4=>if b=true then wi Z3 H4 λJ1 H5=>Tb J1 (λys' Z5 H6=>∃m',m'<m/\W (i+1) m' ys' Z5 H6) ys Z3 H5 else ∃m',m'<m/\W (i+1) m' ys Z3 H4)
structure p9(X:Cx):Prop where
 xe:X.xe=λ_ _=>False
 pn:X.pn=[]
 calm:X.calm=true
def pd(X:Cx)(D:Addr)(e:Expr)(k:Nat)(tg:Expr)(body:It->(LT->St->Hp->Prop)->LT->St->Hp->Prop):Prop:=
 ∀(P:Tl) (s:Shared) (H:Hp) (Z:St) (ys:LT) (av:T0) (it:Addr) (fp:Tk) (tn:Nat->Heap->Prop) (J:It) (Fin:LT->St->Hp->Prop) (R:Result->Shared->Prop),
  (∀p∈P,p.1≠D)->Inv X ([(D,LCg.lst av,)]++P) Z H s->a_ ys av->ys.length<=sizeLine->ir X.prog X.w X.K tg J fp it tn->tn 0 s.heap->(∀b∈fp,cC X ([(D,LCg.lst av,)]++P) H b)->body J Fin ys Z H->
  (∀s' ys' its' Z' H',Inv X ([(D,LCg.lst its',)]++P) Z' H' s'->a_ ys' its'->ys'.length<=sizeLine->Fin ys' Z' H'->R (.ok .next) s')->
  codeAny (model X.prog X.w) X.A (.compLoop e k (.ref it) (.ref D) X.env) R s
def n0{X:Cx}{D:Addr}{P:Tl}{av its':T0}{H H':Hp}{b:Addr}(pn:X.pn=[])(h:cC X ([(D,LCg.lst av,)]++P) H b)(hn:H' b=none):cC X ([(D,LCg.lst its',)]++P) H' b:=by
 let(_,k1,k2,k3,k4,k5):=h;show(hn,k1,k2,k3,k4,λp hp=>?_);rw[pn]at hp
 rcases ui.mp hp with z|z
 .cases z
 .rcases ui.mp z with y|y
  .let e:p=(D,LCg.lst its',):=by simpa using y
   rw[e];show k5 (D,LCg.lst av,) ⋯
  .grind
section
variable{X:Cx}{D:Addr}{bI tg i0 t1 i1:Expr}{gens:List Comprehension}{scope:Scope}{pos:Pos}{fs:List Expr}{k:Nat}{g:TG}{tt:TT}{te:TE}{wi:TI}{Tb:It->(LT->St->Hp->Prop)->LT->St->Hp->Prop}
def D0(hX:p9 X)(TL:∀{H':Hp},H' D=none->cC X [] H' D)
  (hturn:∀it Rm env,compTurn (.ListComp bI gens scope pos) k it Rm env=(standAt i0.pos >>=λ_=>pyNext it >>=λr=>match r with
   |none=>pure (.done .next)
   |some v=>letOwnedTupleGo tg it v >>=λ_=>assign tg env v >>=λ_=>C' fs env >>=λok=>
    if ok=true then((eval bI env >>=λx=>call (.builtin "list.append") [Rm,x] >>=λ_=>pure PUnit.unit) >>=λ_=>again (.compLoop (.ListComp bI gens scope pos) k it Rm env))
    else again (.compLoop (.ListComp bI gens scope pos) k it Rm env)))
  (hg:PG X tg g) (ht:gO X fs tt) (he:PE X bI te):pd X D (.ListComp bI gens scope pos) k tg (m_ g tt te):=by
 ext P s H Z ys av it fp tn J Fin R hPD I rv bP T st f9 turns hR;let(W,(m0,w0),turn):=turns
 let hb:∀{A:Prop} {x:Value} {s':Shared},X.xe x s'->A:=λ{A x s'} z=>by rw[hX.xe]at z;show z.elim
 show codeAny_loop rfl (λn s'=>∃i' ys' its' Z' H',Inv X ([(D,LCg.lst its',)]++P) Z' H' s'/\a_ ys' its'/\ys'.length<=sizeLine/\tn i' s'.heap/\(∀b∈fp,H' b=none)/\W i' n ys' Z' H') (λn s3 hI=>?_) m0
  (0,ys,av,Z,H,I,rv,bP,st,λb hb=>(f9 b hb).1,w0)
 change wpAny _ X.A ((compTurn (.ListComp bI gens scope pos) k (.ref it) (.ref D) X.env).onRaise (λx=>do noteFrame x X.env;theTreesLotGoes x)) _ _ s3
 erw[wpAny_noted];rw[hturn];let(i',ys',its',S7,RL,V8,Ta,RP,S_,Tg,Xk):=hI;show ae (lR (ae ?_))
 rcases turn i' n ys' S7 RL Xk with⟨S9,U1⟩|⟨go1,Vo,step1⟩
 .let dn:=T.done X rfl rfl rfl hX.calm i' _ s3 S7 RL (λ_ _=>False) V8 (λb hb=>n0 hX.pn (f9 b hb) (Tg b hb)) S_ S9;show cR dn (λr s11 (hr,I11)=>?_) λ_ _ z=>z.elim;subst hr;show aw (hR _ ys' its' S7 RL I11 Ta RP U1)
 .let UD:=T.item X rfl rfl rfl hX.calm i' _ s3 S7 RL (λ_ _=>False) V8 (λb hb=>n0 hX.pn (f9 b hb) (Tg b hb)) S_ go1;show cR UD (λr s11 (u1,hr,h11)=>?_) λ_ _ z=>z.elim;subst hr;show ae (cR h11 (λ_ s12 (x1,T_,I12,r12,y12,st12,fr12)=>?_) λ_ _ z=>z.elim);let U9:=I12.pinned (λb hb=>n0 hX.pn (f9 b hb) (fr12 b hb)) (T.obj _ _ st12);show ae (cR (hg _ s12 S7 T_ x1 u1 _ U9 r12 (step1 x1 T_ y12)) (λ_ s13 (Tq,WR,I13,q13)=>?_) (λ_ _ z=>hb z));show ae (cR (ht _ s13 Tq WR _ I13 q13) (λb1 s14 (WQ,I14,q14)=>?_) (λ_ _ z=>hb z))
  let Ti:∀{Z8:St} {H8:Hp} {s8:Shared},Inv X (([(D,LCg.lst its',)]++P)++lW fp s12.heap) Z8 H8 s8->tn (i'+1) s8.heap/\∀b∈fp,H8 b=none:=λ{Z8 H8 s8} I8=>by
   show(T.keep _ _ _ st12 λb hb o e=>(I8.pin (b,o,) (cF _ (cF _ (kP hb e)))).1,λb hb=>?_);let(o,e,_):=T.obj _ _ st12 b hb;show(I8.pin (b,o,) (cF _ (cF _ (kP hb e)))).2.1
  cases b1 with
  |false=>
   rw[aO cN]at q14;let(m',Sn,w'):=q14;let(c1,c2):=Ti I14;show aw (rfl,m',Sn,i'+1,ys',its',Tq,WQ,I14.unpinned,Ta,RP,c1,c2,w')
  |true=>
   rw[bf rfl]at q14;show ae (ae (cR (he _ s14 Tq WQ _ I14 q14) (λyv SI (y,H15,I15,r15,q15)=>?_) (λ_ _ z=>hb z)));let(m',Sn,w'):=q15;let(c1,c2):=Ti I15;let Vk:=I15.pin (D,LCg.lst its',) (cF _ (fX _ (fX _ ∅)));let jb6:=Ta.length;show ae (append_at (hsz:=by change its'.toArray.size<=sizeLine;rw[fM,<-jb6];show RP) Vk.1 λh9 hs9 Yp=>?_);let J0:Inv X [] Tq H15 SI:=I15.pins_of λp hp=>absurd hp ∅
   let J1:Inv X [] Tq H15 {SI with heap:=h9,toks:=SI.toks}:=J0.chg (ch:=[D]) (λb hb=>by
    let e:b=D:=by simpa using hb
    rw[e];show TL Vk.2.1) λb o hb e=>hs9.extBut _ _ (by simpa using hb) e
   let jc9:h9.get? D=some (LCg.lst (its'++[yv])):=Yp.trans (congrArg some (LCg.lst_snoc its' yv))
   let J2:Inv X ([(D,LCg.lst (its'++[yv]),)]++P) Tq H15 {SI with heap:=h9,toks:=SI.toks}:=J1.pins_of λp hp=>by
    rcases ui.mp hp with hp|hp
    .let e:p=(D,LCg.lst (its'++[yv]),):=by simpa using hp
     rw[e];let z:=TL Vk.2.1;show(jc9,Vk.2.1,z.2.1,z.2.2.1,λv q=>by cases q)
    .let z:=I15.pin p (cF _ (fX _ (cF _ hp)));show(hs9.extBut _ _ (hPD p hp) z.1,z.2)
   show aw (aw (rfl,m',Sn,i'+1,ys'++[y],its'++[yv],Tq,H15,J2,Ta.append (.cons r15 .nil),by rw[c6,Am];show Vo,T.keep _ _ _ c1 λb hb o e=>hs9.extBut _ _ ?_ e,c2,w'));let(_,_,_,_,_,k5):=f9 b hb;show Ne.symm (k5 (D,LCg.lst av,) (by rw[hX.pn];simp))
def IJ(hX:p9 X)
  (hturn:∀it Rm env,compTurn (.ListComp bI gens scope pos) k it Rm env=(standAt i0.pos >>=λ_=>pyNext it >>=λr=>match r with
   |none=>pure (.done .next)
   |some v=>letOwnedTupleGo tg it v >>=λ_=>assign tg env v >>=λ_=>C' fs env >>=λok=>
    if ok=true then(eval i1 env >>=λx=>standAt i1.pos >>=λ_=>foldedSetIterable i1 env x >>=λx=>holding [x] (pyIter x) >>=λj=>runOwn (.compStart (.ListComp bI gens scope pos) (k+1) j Rm env) env >>=λ_=>again (.compLoop (.ListComp bI gens scope pos) k it Rm env))
    else again (.compLoop (.ListComp bI gens scope pos) k it Rm env)))
  (hstart:∀{A:Around} {R:Result->Shared->Prop} {s:Shared} {it Rm:Value} {env:Env},codeAny (model X.prog X.w) A (.compLoop (.ListComp bI gens scope pos) (k+1) it Rm env) R s->
   wpAny (model X.prog X.w) A (pyIter it) (λW1 s'=>codeAny (model X.prog X.w) A (.compLoop (.ListComp bI gens scope pos) (k+1) W1 Rm env) R s') (notedBy (model X.prog X.w) A env λx s'=>R (.error x) s') s->codeAny (model X.prog X.w) A (.compStart (.ListComp bI gens scope pos) (k+1) it Rm env) R s)
  (hg:PG X tg g) (ht:gO X fs tt) (Wu:PI X t1 i1 wi) (hs1:∀x,foldedSetIterable i1 X.env x=pure x) (Sv:pd X D (.ListComp bI gens scope pos) (k+1) t1 Tb):pd X D (.ListComp bI gens scope pos) k tg (vz g tt wi Tb):=by
 ext P s H Z ys av it fp tn J Fin R hPD I rv bP T st f9 turns hR;let(W,(m0,w0),turn):=turns
 let hb:∀{A:Prop} {x:Value} {s':Shared},X.xe x s'->A:=λ{A x s'} z=>by rw[hX.xe]at z;show z.elim
 show codeAny_loop rfl (λn s'=>∃i' ys' its' Z' H',Inv X ([(D,LCg.lst its',)]++P) Z' H' s'/\a_ ys' its'/\ys'.length<=sizeLine/\tn i' s'.heap/\(∀b∈fp,H' b=none)/\W i' n ys' Z' H') (λn s3 hI=>?_) m0
  (0,ys,av,Z,H,I,rv,bP,st,λb hb=>(f9 b hb).1,w0)
 change wpAny _ X.A ((compTurn (.ListComp bI gens scope pos) k (.ref it) (.ref D) X.env).onRaise (λx=>do noteFrame x X.env;theTreesLotGoes x)) _ _ s3
 erw[wpAny_noted];rw[hturn];let(i',ys',its',S7,RL,V8,Ta,RP,S_,Tg,Xk):=hI;show ae (lR (ae ?_))
 rcases turn i' n ys' S7 RL Xk with⟨S9,U1⟩|⟨go1,step1⟩
 .let dn:=T.done X rfl rfl rfl hX.calm i' _ s3 S7 RL (λ_ _=>False) V8 (λb hb=>n0 hX.pn (f9 b hb) (Tg b hb)) S_ S9;show cR dn (λr s11 (hr,I11)=>?_) λ_ _ z=>z.elim;subst hr;show aw (hR _ ys' its' S7 RL I11 Ta RP U1)
 .let UD:=T.item X rfl rfl rfl hX.calm i' _ s3 S7 RL (λ_ _=>False) V8 (λb hb=>n0 hX.pn (f9 b hb) (Tg b hb)) S_ go1;show cR UD (λr s11 (u1,hr,h11)=>?_) λ_ _ z=>z.elim;subst hr;show ae (cR h11 (λ_ s12 (x1,T_,I12,r12,y12,st12,fr12)=>?_) λ_ _ z=>z.elim);let U9:=I12.pinned (λb hb=>n0 hX.pn (f9 b hb) (fr12 b hb)) (T.obj _ _ st12);show ae (cR (hg _ s12 S7 T_ x1 u1 _ U9 r12 (step1 x1 T_ y12)) (λ_ s13 (Tq,WR,I13,q13)=>?_) (λ_ _ z=>hb z));show ae (cR (ht _ s13 Tq WR _ I13 q13) (λb1 s14 (WQ,I14,q14)=>?_) (λ_ _ z=>hb z))
  let Ti:∀{Vn:T0} {Z8:St} {H8:Hp} {s8:Shared},Inv X (([(D,LCg.lst Vn,)]++P)++lW fp s12.heap) Z8 H8 s8->tn (i'+1) s8.heap/\∀b∈fp,H8 b=none:=λ{Vn Z8 H8 s8} I8=>by
   show(T.keep _ _ _ st12 λb hb o e=>(I8.pin (b,o,) (cF _ (cF _ (kP hb e)))).1,λb hb=>?_);let(o,e,_):=T.obj _ _ st12 b hb;show(I8.pin (b,o,) (cF _ (cF _ (kP hb e)))).2.1
  cases b1 with
  |false=>
   rw[aO cN]at q14;let(m',Sn,w'):=q14;let(c1,c2):=Ti I14;show aw (rfl,m',Sn,i'+1,ys',its',Tq,WQ,I14.unpinned,Ta,RP,c1,c2,w')
  |true=>
   rw[bf rfl]at q14;show ae (cR (Wu _ s14 Tq WQ _ I14 q14) (λv s8 h8=>?_) (λ_ _ z=>hb z));show ae (lR ?_);rw[hs1];show ae (aw (ae (dA (cR h8 (λjv s9 h9=>?_) (λ_ _ z=>hb z)))));let(it1,fp1,tn1,J1,H9,rfl,I9,T1,st9,f1,q1):=h9
   let run:=Sv (P++lW fp s12.heap) s9 H9 Tq ys' its' it1 fp1 tn1 J1 _ (λr s'=>match r with
     |.ok _=>∃m,m<n/\∃i' ys' its' Z' H',Inv X ([(D,LCg.lst its',)]++P) Z' H' s'/\a_ ys' its'/\ys'.length<=sizeLine/\tn i' s'.heap/\(∀b∈fp,H' b=none)/\W i' m ys' Z' H'
     |.error _=>False) (λp hp=>by
      rcases ui.mp hp with z|z
      .show hPD p z
      .let(RW,_):=Ce z;let(_,_,_,_,_,k5):=f9 p.1 RW
       show Ne.symm (k5 (D,LCg.lst av,) (by rw[hX.pn];simp))) (by rw[<-oj];show I9) Ta RP T1 st9 (by rw[<-oj];show f1) q1
    (λs' ys8 Vn Z8 H8 I8 rv8 Y8 jd1=>by
     let(m',Sn,w'):=jd1;rw[<-oj]at I8;let(c1,c2):=Ti I8
     show(m',Sn,i'+1,ys8,Vn,Z8,H8,I8.unpinned,rv8,Y8,c1,c2,w'))
   show ae (wpAny_runOwn (h:=none) ?_);rw[Around.mark_none];show lS (hstart run (T1.self X.A 0 _ _ _ st9 run)) λr s' hr=>?_
   cases r with
   |ok f=>show aw (rfl,hr)
   |error e=>show hr.elim
end
section
variable{X:Cx}{a9:Tl}{Z:St}{scope:Scope}{own:List Str}{aJ:List (Nat×Str)}{bI tg:Expr}{gens:List Comprehension}{pos:Pos}{body:It->(LT->St->Hp->Prop)->LT->St->Hp->Prop}
def D1{s2:Shared}{H2:Hp}{it:Addr}{fp:Tk}{tn:Nat->Heap->Prop}{J:It}{Fin:LT->Hp->Prop}{RR:Value->Addr->Result->Shared->Prop}{E:Value->Shared->Prop}
  (hc:X.calm=true) (S:g0 X.N X.env.scope scope own aJ) (I2:Inv X a9 Z H2 s2) (T:ir X.prog X.w X.K tg J fp it tn) (SY:tn 0 s2.heap) (f2:∀b∈fp,cC X a9 H2 b)
  (hrun:∀cl C Rn RC fp D,p9 (gy X (own++aJ.map (·.2)) scope cl C Rn RC fp)->(∀{H':Hp},H' D=none->cC (gy X (own++aJ.map (·.2)) scope cl C Rn RC fp) [] H' D)->pd (gy X (own++aJ.map (·.2)) scope cl C Rn RC fp) D (.ListComp bI gens scope pos) 0 tg body)
  (turns:body J (λys _ H'=>Fin ys H') [] (eZ own.length aJ Z) H2)
  (hend:∀(D C:Addr) (s':Shared) (H':Hp) (ys:LT) (av:T0) (m:Str->Option Value),s2.heap.objs.size<=D->s2.heap.objs.size<=C->D≠C->Inv X a9 Z H' s'->H' D=none->H' C=none->s'.heap.get? D=some (LCg.lst av)->s'.heap.Ns C m->a_ ys av->ys.length<=sizeLine->Fin ys H'->RR (.ref D) C (.ok .next) s')
  (hst:∀{A:Around} {R:Result->Shared->Prop} {s:Shared} {it Rm:Value} {env:Env},codeAny (model X.prog X.w) A (.compLoop (.ListComp bI gens scope pos) 0 it Rm env) R s->
   wpAny (model X.prog X.w) A (pyIter it) (λW1 s'=>codeAny (model X.prog X.w) A (.compLoop (.ListComp bI gens scope pos) 0 W1 Rm env) R s') (notedBy (model X.prog X.w) A env λx s'=>R (.error x) s') s->codeAny (model X.prog X.w) A (.compStart (.ListComp bI gens scope pos) 0 it Rm env) R s):
  wpAny (model X.prog X.w) X.A (newList []) (λRm RJ=>wpAny (model X.prog X.w) X.A (newFunctionEnv scope X.env.globals (dM X.env.cells scope.names []) [] X.env.qual none .none (some X.env)) (λU6 Wa=>
   codeAny (model X.prog X.w) X.A (.compStart (.ListComp bI gens scope pos) 0 (.ref it) Rm {U6 with scope:=relabel scope X.env}) (RR Rm U6.locals) Wa) E RJ) E s2:=by
 show ik (wpAny_newFunctionEnv S.ocell ⋯ (λSl RO RI=>?_) S.kind);dsimp only at RO RI⊢;generalize hH2:s2.heap.push {cls:=.type "list",dict:=none,data:=.seq ([]:T0).toArray}=HH at RO RI⊢
 let hC:HH.objs.size=s2.heap.objs.size+1:=by rw[<-hH2,eQ]
 let Vg:s2.heap.objs.size≠HH.objs.size:=()
 let WK:s2.heap.objs.size<=HH.objs.size:=()
 let old:∀b o,s2.heap.get? b=some o->Sl.get? b=some o:=λb o e=>
  RI.extBut b o (by rw[hC];show bW (Nat.lt_succ_of_lt (bw e))) (aR _ (hH2▸aR _ e))
 let SU:Sl.get? s2.heap.objs.size=some (LCg.lst []):=RI.extBut _ _ Vg (aR _ (hH2▸bR _ rfl))
 let Vw:∀b∈fp,∃o,s2.heap.get? b=some o:=λb hb=>by obtain⟨o,e,_⟩:=T.obj _ _ SY b hb;show(o,e)
 let flt:∀b∈fp,b<s2.heap.objs.size:=λb hb=>by obtain⟨o,e⟩:=Vw b hb;show bw e
 let I1:=II (tk:=s2.toks+([]:List (Str×Value)).length) I2 S f2 Vw old WK RO (aD _) Vg SU;let VJ:=hrun (dM X.env.cells scope.names []) HH.objs.size s2 H2 fp s2.heap.objs.size;generalize hX':gy X (own++aJ.map (·.2)) scope (dM X.env.cells scope.names []) HH.objs.size s2 H2 fp=X' at I1 VJ
 let eP:X'.prog=X.prog:=by rw[<-hX'];rfl
 let eW:X'.w=X.w:=by rw[<-hX'];rfl
 let eK:X'.K=X.K:=by rw[<-hX'];rfl
 let eA:X'.A=X.A:=by rw[<-hX'];rfl
 let eE:X'.env=compEnvC scope (dM X.env.cells scope.names []) HH.objs.size X.env:=by rw[<-hX'];rfl
 let eX:X'.xe=λ_ _=>False:=by rw[<-hX'];rfl
 let ePn:X'.pn=[]:=by rw[<-hX'];rfl
 let eC:X'.calm=true:=by rw[<-hX'];show hc
 let eS:X'.s₀=s2:=by rw[<-hX'];rfl
 let eH:X'.H₀=H2:=by rw[<-hX'];rfl
 let eF:X'.fs=gs X.stack:=by rw[<-hX'];rfl
 let eEx:X'.ex=fp:=by rw[<-hX'];rfl
 let YE:∀x c,X'.env.cells.lookup x=some c->c<s2.heap.objs.size:=λx c e=>by
  rw[eE]at e;let(v,q):=I2.cell x c (I2.clos_sub S e);show q.lt
 let Tr:∀{H':Hp} {o:Obj},(∀b∈fp,H' b=none)->∀b∈fp,cC X' [(s2.heap.objs.size,o,)] H' b:=λ{H' o} hn b hb=>by
  show(hn b hb,?_,?_,.inl ⋯,λx c e=>?_,λp hp=>?_)
  .rw[eE];show bW (cM (flt b hb) WK)
  .rw[eF];ext z
   rcases cb.mp (I2.stkSub b z)with q|q
   .show(f2 b hb).2.1 q
   .show(f2 b hb).2.2.1 q
  .rw[eE]at e;show(f2 b hb).2.2.2.2.1 x c (I2.clos_sub S e)
  .grind
 let TL:∀{H':Hp},H' s2.heap.objs.size=none->cC X' [] H' s2.heap.objs.size:=λ{H'} hn=>by
  show(hn,?_,?_,.inr ⋯,λx c e=>bW (YE x c e),λp hp=>?_)
  .rw[eE];show Vg
  .rw[eF];ext z
   rcases cb.mp (I2.stkSub _ z)with q|q
   .show absurd I2.lt ⋯
   .show I2.nofs (aD _) q
  .grind
 let UC:∀RJ:Shared,RJ={s2 with heap:=Sl,toks:=s2.toks+([]:List (Str×Value)).length}->
   codeAny (model X.prog X.w) X.A (.compLoop (.ListComp bI gens scope pos) 0 (.ref it) (.ref s2.heap.objs.size) (compEnvC scope (dM X.env.cells scope.names []) HH.objs.size X.env))
    (RR (.ref s2.heap.objs.size) HH.objs.size) RJ:=by
  ext RJ rfl
  let run:=VJ (eX,ePn,eC) TL [] _ H2 _ [] [] it fp tn J _ (RR (.ref s2.heap.objs.size) HH.objs.size) (λp hp=>absurd hp ∅) (by done) .nil (cm _) ⋯
   (T.keep _ _ _ SY λb _ o e=>old b o e) (by rw[jD];show Tr λb hb=>(f2 b hb).1) turns (λs4 ys av Z3 H3 I4 rv bP fin=>by
    rw[jD]at I4;let pD4:=I4.pin (s2.heap.objs.size,LCg.lst av,) ⋯;let(m4,X2,_):=I4.loc
    let b4:Un (gs X.stack) fp H2 H3 s2.heap s4.heap:=by
     let z:=I4.base
     grind
    let o4:s4.os=s2.os:=by have z:=I4.os;rw[eS]at z;show z
    let k4:cz X.prog X.w H3 s4.heap:=by have z:=I4.hok;rw[eP,eW]at z;show z
    let Io:Inv X a9 Z H3 s4:=I2.call' o4 b4 k4 I4.bare λb hb=>by
     let(_,f1,_,f3,f4,f5):=f2 b hb
     grind
    show hend _ _ s4 H3 ys av m4 (aD _) WK Vg Io pD4.2.1 ?_ pD4.1 ?_ rv bP fin
    .let z:=I4.free;rw[eE]at z;show z
    .rw[eE]at X2;show X2)
  grind
 show hst (UC _ rfl) (T.self X.A 0 _ _ _ (T.keep _ _ _ SY λb _ o e=>old b o e) (UC _ rfl))
end
abbrev cE(X:Cx)(own:List Str)(aJ:List (Nat×Str))(scope:Scope)(p:Cx->Prop):Prop:=∀cl C Rn RC fp,p (gy X (own++aJ.map (·.2)) scope cl C Rn RC fp)
def jf(J:It)(g:TG)(tt:TT)(te:TE)(Fin:LT->Hp->Prop)(Uu:St)(H1:Hp):Prop:=m_ g tt te J (λys _ H'=>Fin ys H') [] Uu H1
def D4(J1:It)(g1:TG)(SF:TT)(te:TE)(Fin:LT->St->Hp->Prop)(ys0:LT)(Z0:St)(H0:Hp):Prop:=m_ g1 SF te J1 Fin ys0 Z0 H0
def n8(J:It)(g:TG)(tt:TT)(wi1:TI)(g1:TG)(SF:TT)(te:TE)(Fin:LT->Hp->Prop)(Uu:St)(H1:Hp):Prop:=vz g tt wi1 (m_ g1 SF te) J (λys _ H'=>Fin ys H') [] Uu H1
def D9(n:Nat)(aJ:List (Nat×Str))(wi:TI)(body:It->(LT->St->Hp->Prop)->LT->St->Hp->Prop):TE:=λZ H Q=>wi Z H λJ H1=>body J (λys _ H'=>∀D,H' D=none->Q (.ref D) (aa H' D (.lst ys))) [] (eZ n aJ Z) H1
def rY(n:Nat)(aJ:List (Nat×Str))(wi:TI)(g:TG)(tt:TT)(te:TE):TE:=λZ H Q=>wi Z H λJ H1=>jf J g tt te (λys H'=>∀D,H' D=none->Q (.ref D) (aa H' D (.lst ys))) (eZ n aJ Z) H1
def vA(n:Nat)(aJ:List (Nat×Str))(wi:TI)(g:TG)(tt:TT)(wi1:TI)(g1:TG)(SF:TT)(te:TE):TE:=λZ H Q=>wi Z H λJ H1=>n8 J g tt wi1 g1 SF te (λys H'=>∀D,H' D=none->Q (.ref D) (aa H' D (.lst ys))) (eZ n aJ Z) H1
def vB{prog:Program}{w:World}{A:Around}{R:Result->Shared->Prop}{s:Shared}{bI t i:Expr}{f:List Expr}{gens:List Comprehension}{k:Nat}{scope:Scope}{pos:Pos}{it Rm:Value}{env:Env}(hk:gens[k]?=some (t,i,f,0))
  (h0:codeAny (model prog w) A (.compLoop (.ListComp bI gens scope pos) k it Rm env) R s)
  (h:wpAny (model prog w) A (pyIter it) (λW1 s'=>codeAny (model prog w) A (.compLoop (.ListComp bI gens scope pos) k W1 Rm env) R s') (notedBy (model prog w) A env λx s'=>R (.error x) s') s):
  codeAny (model prog w) A (.compStart (.ListComp bI gens scope pos) k it Rm env) R s:=by
 erw[Az]
 change wpAny _ _ ((compStart (.ListComp bI gens scope pos) k it Rm env).onRaise _) _ _ s
 erw[wpAny_notedAt];unfold compStart;let e:(clausesOf (.ListComp bI gens scope pos))[k]?=some (t,i,f,0):=hk;rw[e]
 change wpAny _ _ (ask >>=_) _ _ s
 show ae (om (gr ?_));split
 .first|show ae (aw (aw (rfl,h0)))|show aw (rfl,h0)
 .show ae (ip ?_)
  change wpAny _ _ (standAt i.pos >>=_) _ _ s
  show ae (lR (ae (cR h (λW1 s' h'=>aw (rfl,h')) λ_ _ z=>z)))
section
variable{X:Cx}{a9:Tl}{Z:St}{scope:Scope}{own:List Str}{aJ:List (Nat×Str)}{bI tg iter t1 i1 t2 i2:Expr}{R_ f1 f2:List Expr}{pos:Pos}{wi wi1 wi2:TI}{g g1 g2:TG}{tt SF tt2:TT}{te:TE}{more:List Comprehension}{body:It->(LT->St->Hp->Prop)->LT->St->Hp->Prop}
abbrev rZ(X:Cx)(own:List Str)(aJ:List (Nat×Str))(scope:Scope)(tg e:Expr)(body:It->(LT->St->Hp->Prop)->LT->St->Hp->Prop):Prop:=cE X own aJ scope λY=>∀D,p9 Y->(∀{H':Hp},H' D=none->cC Y [] H' D)->pd Y D e 0 tg body
def Da(hc:X.calm=true)(S:g0 X.N X.env.scope scope own aJ)(hi:PI X tg iter wi)(hrun:rZ X own aJ scope tg (.ListComp bI ((tg,iter,R_,0)::more) scope pos) body)
  (hs:∀x,foldedSetIterable iter X.env x=pure x):PE X (.ListComp bI ((tg,iter,R_,0)::more) scope pos) (D9 own.length aJ wi body):=by
 ext a9 s Z H Q I h;rw[eval_ListComp];show Gm (use:=none) rfl hs (vy (I.clos_cells S)) S.kind S.locs (aI (hi a9 s Z H _ I h) λv s1 h1=>aI h1 λXN s2 h2=>?_);let(it,fp,tn,J,H2,e,I2,T,SY,f2,turns):=h2;subst e;show D1 (RR:=λRm C=>compPost (model X.prog X.w) X.A X.xe none (EP X a9 Z Q) Rm C) hc S I2 T SY f2 hrun turns ?_ (vB rfl);ext D C s' H' ys av m hD hC Vg Io nD nC oD XA rv bP fin;show(m,XA,λh' Tn=>?_)
 let J1:Inv X a9 Z H' {s' with heap:=h',toks:=s'.toks}:=Io.chg (ch:=[C]) (λb hb=>by
  let e:b=C:=⋯
  rw[e];show I2.fpOk hC nC) λb o hb e=>Tn.extBut _ _ ⋯ e
 let J2:=J1.track (o:=.lst ys) (I2.fpOk hD nD) (bP,av,_,rv,Tn.extBut _ _ Vg oD);show(.ref D,_,J2,rfl,fin D nD)
def Dc{iy:Nat}{y:Str}{py Sq:Pos}(hc:X.calm=true)(hN:X.N.Nodup)(Rt:X.N[iy]?=some y)(hy:X.env.scope.names.lookup y=some .local)(S:g0 X.N X.env.scope scope own aJ)(hi:PI X tg iter wi)(hrun:rZ X own aJ scope tg (.ListComp bI ((tg,iter,R_,0)::more) scope pos) body)
  (hsw:swapsWith (.ListComp bI ((tg,iter,R_,0)::more) scope pos) (some (.Name y py)) Sq.line X.env=pure true)
  (hs:∀x,foldedSetIterable iter X.env x=pure x):PS X (.Assign [.Name y py] (.ListComp bI ((tg,iter,R_,0)::more) scope pos) Sq) (kN (D9 own.length aJ wi body) (dB iy)):=by
 ext a9 s Z H D I h;rw[exec_Assign_Name_used _ _ _ _ hsw];show ae (lR (ae ?_))
 change wpAny _ _ (do let _<-comprehension (.ListComp bI ((tg,iter,R_,0)::more) scope pos) scope X.env _ (newList []) false (eval iter X.env) (some (assign (.Name y py) X.env))) _ _ s
 show ae (cR (Gm (use:=some (assign (.Name y py) X.env)) (Q:=λ_ s'=>SP X a9 D .next s') rfl hs (vy (I.clos_cells S)) S.kind S.locs
  (aI (hi a9 s Z H _ I h) λv s1 h1=>aI h1 λXN s2 h2=>?_)) (λ_ s' hq=>aw (aw hq)) λ_ _ e=>e)
 let(it,fp,tn,J,H2,e,I2,T,SY,f2,turns):=h2;subst e;show D1 (RR:=λRm C=>compPost (model X.prog X.w) X.A X.xe (some (assign (.Name y py) X.env)) (λ_ s'=>SP X a9 D .next s') Rm C) hc S I2 T SY f2 hrun turns ?_ (vB rfl);ext D' C s' H' ys av m hD hC Vg Io nD nC oD XA rv bP fin;let J2:=Io.track (o:=.lst ys) (I2.fpOk hD nD) (bP,av,_,rv,oD);let fC:cC X a9 (aa H' D' (.lst ys)) C:=I2.fpOk hC (by rw[aB (Ne.symm Vg)];show nC)
 change wpAny _ _ (assign (.Name y py) X.env (.ref D')) _ _ _
 show wpAny_assign_Name (BH (v:=.ref D') J2 hN Rt (.inl hy) rfl (λs5 I5 (a,sb,ha)=>?_) (.inr hy))
 let hCa:C≠a:=by
  rcases ha with z|z
  .rw[z];show fC.2.1
  .show Ne.symm (fC.2.2.2.2.1 _ _ z)
 show(m,XA.sameBut sb hCa,λh' Tn=>?_)
 let J3:Inv X a9 (Z.set iy (some (.ref D'))) (aa H' D' (.lst ys)) {s5 with heap:=h',toks:=s5.toks}:=I5.chg (ch:=[C]) (λb hb=>by
  let e:b=C:=by simpa using hb
  rw[e];show fC) λb o hb e=>Tn.extBut _ _ (by simpa using hb) e
 show(_,_,J3,fin D' nD)
def Dd(hg:cE X own aJ scope λY=>PG Y tg g)(ht:cE X own aJ scope λY=>gO Y R_ tt)(he:cE X own aJ scope λY=>PE Y bI te):rZ X own aJ scope tg (.ListComp bI [(tg,iter,R_,0)] scope pos) (m_ g tt te):=λ_ _ _ _ _ _ cx sd=>D0 (i0:=iter) cx sd (λ_ _ _=>rfl) (hg _ _ _ _ _) (ht _ _ _ _ _) (he _ _ _ _ _)
def De(hg:cE X own aJ scope λY=>PG Y tg g)(ht:cE X own aJ scope λY=>gO Y R_ tt)(he:cE X own aJ scope λY=>PE Y bI te)(Wu:cE X own aJ scope λY=>PI Y t1 i1 wi1)(W_:cE X own aJ scope λY=>PG Y t1 g1)(TU:cE X own aJ scope λY=>gO Y f1 SF)
  (hs1:∀cl C x,foldedSetIterable i1 (compEnvC scope cl C X.env) x=pure x):rZ X own aJ scope tg (.ListComp bI [(tg,iter,R_,0),(t1,i1,f1,0)] scope pos) (vz g tt wi1 (m_ g1 SF te)):=λ_ _ _ _ _ _ cx sd=>
 IJ (i0:=iter) (i1:=i1) (fs:=R_) cx (λ_ _ _=>rfl) (vB rfl) (hg _ _ _ _ _) (ht _ _ _ _ _) (Wu _ _ _ _ _) (hs1 _ _) (D0 (i0:=i1) cx sd (λ_ _ _=>rfl) (W_ _ _ _ _ _) (TU _ _ _ _ _) (he _ _ _ _ _))
def dU(hc:X.calm=true)(S:g0 X.N X.env.scope scope own aJ)(hi:PI X tg iter wi)(hg:cE X own aJ scope λY=>PG Y tg g)(ht:cE X own aJ scope λY=>gO Y R_ tt)(he:cE X own aJ scope λY=>PE Y bI te)
  (hs:∀x,foldedSetIterable iter X.env x=pure x:=by intro _;rfl):PE X (.ListComp bI [(tg,iter,R_,0)] scope pos) (rY own.length aJ wi g tt te):=Da hc S hi (Dd hg ht he) hs
def IK{iy:Nat}{y:Str}{py Sq:Pos}(hc:X.calm=true)(hN:X.N.Nodup)(Rt:X.N[iy]?=some y)(hy:X.env.scope.names.lookup y=some .local)(S:g0 X.N X.env.scope scope own aJ)(hi:PI X tg iter wi)(hg:cE X own aJ scope λY=>PG Y tg g)(ht:cE X own aJ scope λY=>gO Y R_ tt)(he:cE X own aJ scope λY=>PE Y bI te)
  (hsw:swapsWith (.ListComp bI [(tg,iter,R_,0)] scope pos) (some (.Name y py)) Sq.line X.env=pure true)
  (hs:∀x,foldedSetIterable iter X.env x=pure x:=by intro _;rfl):PS X (.Assign [.Name y py] (.ListComp bI [(tg,iter,R_,0)] scope pos) Sq) (kN (rY own.length aJ wi g tt te) (dB iy)):=Dc hc hN Rt hy S hi (Dd hg ht he) hsw hs
def pj(hc:X.calm=true)(S:g0 X.N X.env.scope scope own aJ)(hi:PI X tg iter wi)(hg:cE X own aJ scope λY=>PG Y tg g)(ht:cE X own aJ scope λY=>gO Y R_ tt)(he:cE X own aJ scope λY=>PE Y bI te)(Wu:cE X own aJ scope λY=>PI Y t1 i1 wi1)(W_:cE X own aJ scope λY=>PG Y t1 g1)(TU:cE X own aJ scope λY=>gO Y f1 SF)
  (hs:∀x,foldedSetIterable iter X.env x=pure x:=by intro _;rfl) (hs1:∀cl C x,foldedSetIterable i1 (compEnvC scope cl C X.env) x=pure x:=by intro _ _ _;rfl):PE X (.ListComp bI [(tg,iter,R_,0),(t1,i1,f1,0)] scope pos) (vA own.length aJ wi g tt wi1 g1 SF te):=Da hc S hi (De hg ht he Wu W_ TU hs1) hs
def IL{iy:Nat}{y:Str}{py Sq:Pos}(hc:X.calm=true)(hN:X.N.Nodup)(Rt:X.N[iy]?=some y)(hy:X.env.scope.names.lookup y=some .local)(S:g0 X.N X.env.scope scope own aJ)(hi:PI X tg iter wi)(hg:cE X own aJ scope λY=>PG Y tg g)(ht:cE X own aJ scope λY=>gO Y R_ tt)(he:cE X own aJ scope λY=>PE Y bI te)(Wu:cE X own aJ scope λY=>PI Y t1 i1 wi1)(W_:cE X own aJ scope λY=>PG Y t1 g1)(TU:cE X own aJ scope λY=>gO Y f1 SF)
  (hsw:swapsWith (.ListComp bI [(tg,iter,R_,0),(t1,i1,f1,0)] scope pos) (some (.Name y py)) Sq.line X.env=pure true)
  (hs:∀x,foldedSetIterable iter X.env x=pure x:=by intro _;rfl) (hs1:∀cl C x,foldedSetIterable i1 (compEnvC scope cl C X.env) x=pure x:=by intro _ _ _;rfl):PS X (.Assign [.Name y py] (.ListComp bI [(tg,iter,R_,0),(t1,i1,f1,0)] scope pos) Sq) (kN (vA own.length aJ wi g tt wi1 g1 SF te) (dB iy)):=Dc hc hN Rt hy S hi (De hg ht he Wu W_ TU hs1) hsw hs
end
def IM{Z:St}{H:Hp}{Q:VK}{n:Nat}{aJ:List (Nat×Str)}{wi:TI}{g:TG}{tt:TT}{wi1:TI}{g1:TG}{SF:TT}{te:TE}(q:wi Z H λJ H1=>n8 J g tt wi1 g1 SF te (λys H'=>∀D,H' D=none->Q (.ref D) (aa H' D (.lst ys))) (eZ n aJ Z) H1):vA n aJ wi g tt wi1 g1 SF te Z H Q:=q
section
variable{Z:St}{H:Hp}{J:It}{g:TG}{tt:TT}{te:TE}{wi:TI}{Tb:It->(LT->St->Hp->Prop)->LT->St->Hp->Prop}{Fin:LT->St->Hp->Prop}{ys0:LT}
end
section
variable{Z:St}{H:Hp}
def vC{J1:It}{g1:TG}{SF:TT}{te:TE}{Fin:LT->St->Hp->Prop}{ys0:LT}(W:Nat->LT->St->Hp->Prop)(n:Nat)(w0:W 0 ys0 Z H)(fin:∀ys Z' H',W n ys Z' H'->J1.stop n H'/\Fin ys Z' H')
  (step:∀i ys Z' H',i<n->W i ys Z' H'->J1.go i H'/\ys.length<sizeLine/\∀x H2,J1.yld i H' x H2->g1 x Z' H2 λZ3 H3=>SF Z3 H3 λb H4=>if b=true then te Z3 H4 λy H5=>∃m',m'<n - i/\(i+1<=n/\m'=n - (i+1)/\W (i+1) (ys++[y]) Z3 H5)else ∃m',m'<n - i/\(i+1<=n/\m'=n - (i+1)/\W (i+1) ys Z3 H4)):D4 J1 g1 SF te Fin ys0 Z H:=by
 show(λi m ys Z' H'=>i<=n/\m=n - i/\W i ys Z' H',(n,cm _,rfl,w0),?_);ext i m ys Z' H' ⟨hi,rfl,hw⟩
 rcases fq i n with RA|hge
 .right;show step i ys Z' H' RA hw
 .left
  obtain rfl:i=n:=()
  show fin _ _ _ hw
def vD{J:It}{g:TG}{tt:TT}{wi1:TI}{g1:TG}{SF:TT}{te:TE}{Fin:LT->Hp->Prop}(W:Nat->LT->St->Hp->Prop)(n:Nat)(w0:W 0 [] Z H)(fin:∀ys Z' H',W n ys Z' H'->J.stop n H'/\Fin ys H')
  (step:∀i ys Z' H',i<n->W i ys Z' H'->J.go i H'/\∀x H2,J.yld i H' x H2->g x Z' H2 λZ3 H3=>tt Z3 H3 λb H4=>if b=true then wi1 Z3 H4 λJ1 H5=>D4 J1 g1 SF te (λys' Z5 H6=>∃m',m'<n - i/\(i+1<=n/\m'=n - (i+1)/\W (i+1) ys' Z5 H6)) ys Z3 H5 else ∃m',m'<n - i/\(i+1<=n/\m'=n - (i+1)/\W (i+1) ys Z3 H4)):n8 J g tt wi1 g1 SF te Fin Z H:=by
 show(λi m ys Z' H'=>i<=n/\m=n - i/\W i ys Z' H',(n,cm _,rfl,w0),?_);ext i m ys Z' H' ⟨hi,rfl,hw⟩
 rcases fq i n with RA|hge
 .right;show step i ys Z' H' RA hw
 .left
  obtain rfl:i=n:=()
  show fin _ _ _ hw
end
def IP:TS:=λ_ _ _=>False
def fI{X:Cx}{st:Stmt}:PS X st IP:=λ_ _ _ _ _ _ h=>h.elim
noncomputable def vE(t T:String):Bool:=t==T||(t=="bool" && T=="int")
noncomputable def vF:List String:=["NoneType","bool","int","str","list","tuple","dict"]
def IQ(K:W.Frag):∀t∈vF,∀T∈["bool","int","str","list","tuple","dict"],W.kitOne K (.type t) (.type T)=some (vE t T):=by
 ext t ht T hT;simp only[vF,cb,bF,cS]at ht hT
 rcases ht with rfl|rfl|rfl|rfl|rfl|rfl|rfl<;>rcases hT with rfl|rfl|rfl|rfl|rfl|rfl<;>first|rfl|kernel_rfl
def pq(K:W.Frag)(H:Hp)(x:V)(t:String):Prop:=hV K H x (.type t)/\t∈vF
section
variable{X:Cx}{a9:Tl}{Z:St}{H:Hp}{s:Shared}{A:Around}{E:Value->Shared->Prop}{Q:Value->Shared->Prop}
end
section
variable{X:Cx}
def vG(K:W.Frag):LT->Hp->VK->Prop:=λxs H Q=>∃x T t,xs=[x,.ty T]/\pq K H x t/\T∈["bool","int","str","list","tuple","dict"]/\Q (.bl (vE t T)) H
def IR:cJ X (.builtin "isinstance") (vG X.K):=by
 ext a9 s Z H xs us Q I r h;let(x,T,t,rfl,k,hT,q):=h;let(u1,u2,rfl,r1,r2):=mU r;cases(show u2=Value.type T from r2)
 show HG I r1 k.1 (IQ X.K t k.2 T hT) λtk=>(.bl _,H,I.tok _,rfl,q)
def vH(K:W.Frag):LT->Hp->VK->Prop:=λxs H Q=>∃(p:Addr) (bs:List Bool),xs=[.ref p]/\ah K H p (bs.map V.bl)/\Q (.bl (bs.all id)) H
theorem Df:∀{bs:List Bool} {us:T0},a_ (bs.map V.bl) us->us=bs.map Value.bool
 |[],_,.nil=>rfl
 |T::r,_,.cons h t=>by
  let e:=Df (bs:=r) t;cases(show _=Value.bool T from h)
  grind
def IS(bs:List Bool):(List.range bs.length).all (λi=>bs.getD i true)=bs.all id:=by
 induction bs with
 |nil=>rfl
 |cons b r ih=>
  rw[kC,List.range_succ_eq_map,qW,q_,qW]
  change(b && (List.range r.length).all _)=_
  rw[<-ih];rfl
def IU(hc:X.calm=true):cJ X (.builtin "all") (vH X.K):=by
 ext a9 s Z H xs us Q I r h;let(p,bs,rfl,hp,q):=h;let(u1,rfl,r1):=fZ r;cases(show u1=Value.ref p from r1);let(av,rv,pl,hz):=I.list hp;let e:=Df rv;subst e
 let RA:p<s.heap.objs.size:=by obtain⟨_,e,_⟩:=pl.isList;show bw e
 show call_all_walk (uz pl.isList ?_);show(s.heap.objs.size,_,_,_,_,_,λi=>bs.getD i true,rfl,Walks.list (A:=X.A.in1) (show X.A.in1.handled=none from I.ok.hd hc) _ p (bW RA) (bs.map Value.bool).toArray,((_,bR _ rfl,rfl,rfl),pl.isList.push _),?_,λh' tk hk=>?_)
 .ext i v A' Q' E' hv hq
  let Vd:(bs.map Value.bool)[i]?=some v:=⋯
  rw[aH]at Vd
  cases e:bs[i]? with
  |none=>rw[e]at Vd;cases Vd
  |some b=>
   rw[e]at Vd;cases Vd;erw[kA]
   grind
 .let e:(List.range (bs.map Value.bool).toArray.size).all (λi=>bs.getD i true)=bs.all id:=by
   rw[fM,au];show IS bs
  rw[e];show(.bl _,H,I.kept (t':=tk) λb o e=>hk b o (λz=>?_) (aR _ e),rfl,q)
  let z':b=s.heap.objs.size:=⋯
  show absurd (bw e) ⋯
end
def ba(P:Program)(w:World)(K:W.Frag)(mg:Str->Option Value)(base:Heap)(x:Str)(k:Nat)(ps:List Str)(sp:Sp):Prop:=
 ∃(f:Addr) (fd:FuncData),aN P w K mg base aU k f fd ps sp/\mg x=some (.ref f)/\W.keepIn K (.ref f)=true/\f_ K fd ps []
section
variable{X:Cx}{k:Nat}{ps:List Str}{sp:Sp}{x:Str}{p pos:Pos}{e:Expr}{es:List Expr}{t:TA}{st:Stmt}{rest:List Stmt}{t1 u1:TS}
def IV(c:ba X.prog X.w X.K X.mg X.base x k ps sp)(hr:cn k X.A)(hg:Gl X x)(ha:PA X (e::es) t)(hdb:⇑((x==("__debug__":Str))=false))(he:↥(starEach (e::es) X.env=(false,eval e X.env,)::starEach es X.env))(hpl:↥((backTo pos (starEach es X.env)).any (·.1)=false)):
  PE X (.Call (.Name x p) (e::es) [] pos) (rM sp [] E0 t):=by
 let(f,fd,F,hm,hk,hb):=c;show HK F hr hg hm hk hb .nil mZ ha hdb he hpl
def Dg(t u:TS):TS:=λD Z H=>∃Y0:St->Hp->Prop,t {D with nx:=Y0} Z H/\∀Z' H',Y0 Z' H'->u D Z' H'
def dN(h1:PS X st t1)(h2:gv X rest u1):gv X (st::rest) (Dg t1 u1):=by
 ext a9 s Z H D I h;let(Y0,h,hm):=h;show wpAny_execs_cons (aI (h1 a9 s Z H {D with nx:=Y0} I h) λf s1 q=>?_)
 cases f with
 |next=>
  let(Z',H',I',q):=q;show h2 a9 s1 Z' H' D I' (hm _ _ q)
 |ret v=>show q
 |brk=>show q
 |cont=>show q
end
def kY:bootBuiltins "len"=some (.builtin "len"):=by decide+kernel
def vI:bootBuiltins "abs"=some (.builtin "abs"):=by decide+kernel
def iA:bootBuiltins "all"=some (.builtin "all"):=by decide+kernel
def r_:bootBuiltins "isinstance"=some (.builtin "isinstance"):=by decide+kernel
def m7:bootBuiltins "sorted"=some (.builtin "sorted"):=by decide+kernel
def Dh:bootBuiltins "list"=some (.type "list"):=by decide+kernel
def vJ:bootBuiltins "tuple"=some (.type "tuple"):=by decide+kernel
def IW:bootBuiltins "bool"=some (.type "bool"):=by decide+kernel
def n9:bootBuiltins "int"=some (.type "int"):=by decide+kernel
def jg:bootBuiltins "set"=some (.type "set"):=by decide+kernel
structure Blt(mg:Str->Option Value):Prop where
 z_len:mg "len"=none
 z_abs:mg "abs"=none
 z_all:mg "all"=none
 z_isinstance:mg "isinstance"=none
 z_zip:mg "zip"=none
 z_list:mg "list"=none
 z_tuple:mg "tuple"=none
 z_bool:mg "bool"=none
 z_int:mg "int"=none
 z_str:mg "str"=none
 z_range:mg "range"=none
 z_sorted:mg "sorted"=none
 z_set:mg "set"=none
def ax{H:Hp}{p:Addr}{o:HO}(h:H p=none):aC H (aa H p o):=λb u e=>by rw[aB (bq e h)];show e
def bS(d:Addr)(H H':Hp):Prop:=∀b o,b≠d->H b=some o->H' b=some o
def bS.refl{d:Addr}{H:Hp}:bS d H H:=λ_ _ _ e=>e
def bS.trans{d:Addr}{H H1 H2:Hp}(a:bS d H H1)(b:bS d H1 H2):bS d H H2:=λc o n e=>b c o n (a c o n e)
def aC.but{d:Addr}{H H':Hp}(a:aC H H'):bS d H H':=λc o _ e=>a c o e
def fS{d:Addr}{H:Hp}{o:HO}:bS d H (aa H d o):=λb u n e=>by rw[aB n];show e
def Di{H:Hp}{c d:Addr}{ns:LE}{a:Nat}{r e:Int}(h1:H d=some (.lst [.ref c,.int a,.int r,.int e]))(h2:H c=some (.lst (ns.map V.int))):c≠d:=by
 ext z;subst z;rw[h1]at h2;let q:=cH h2;injection q with q
 cases ns with
 |nil=>cases q
 |cons n r=>injection q with q _;cases q
section
variable{Z:St}{H:Hp}{Q:VK}{R:Bool->Hp->Prop}{D:gu}{K:W.Frag}
def dW{i:Nat}{v:V}(h:Z[i]?=some (some v))(q:Q v H):eT i Z H Q:=(v,h,q)
def di{v:V}(q:Q v H):tC v Z H Q:=q
def IX{r:R2}{ta tb:TE}(q:ta Z H λx H1=>tb Z H1 λy H2=>r x y H2 Q):iu r ta tb Z H Q:=q
def IY{r:V->Hp->VK->Prop}{ta:TE}(q:ta Z H λx H1=>r x H1 Q):Cf r ta Z H Q:=q
def vK{g:Int->Int->V}{i j:Int}(q:Q (g i j) H):iw g (.int i) (.int j) H Q:=(i,j,rfl,rfl,q)
def pz{C:Int->Int->Prop}{g:Int->Int->V}{i j:Int}(c:C i j)(q:Q (g i j) H):rI C g (.int i) (.int j) H Q:=(i,j,rfl,rfl,c,q)
def IZ{g:Int->V}{i:Int}(q:Q (g i) H):rU g (.int i) H Q:=(i,rfl,q)
def I_{x y:V}(s:rF x y=true)(q:Q (.bl (decide (x=y))) H):Cj x y H Q:=(s,q)
def J4{x y:V}(s:rF x y=true)(q:Q (.bl (!decide (x=y))) H):Ck x y H Q:=(s,q)
def J5{t:TE}(q:t Z H λx H'=>∃k,x=.bl k/\R k H'):uU t Z H R:=q
def J6{t:TE}(q:t Z H λx H'=>∃k,x=.bl k/\R k H'):tB t Z H R:=q
def sf{k:Bool}{P:Bool->Prop}(q:P k):∃k',V.bl k=.bl k'/\P k':=(k,rfl,q)
def J7{t u:TT}(q:t Z H λc H1=>if c=true then u Z H1 R else R false H1):BN t u Z H R:=q
def J8{t u:TT}(q:t Z H λc H1=>if c=true then R true H1 else u Z H1 R):BO t u Z H R:=q
def J9{t:TT}(q:t Z H λc H1=>R (!c) H1):BP t Z H R:=q
def Dj{ta tb:TE}(q:ta Z H λx H1=>∃c,x=.bl c/\if c=true then tb Z H1 Q else Q (.bl false) H1):BQ ta tb Z H Q:=q
def Ja{ta tb:TE}(q:ta Z H λx H1=>∃c,x=.bl c/\if c=true then Q (.bl true) H1 else tb Z H1 Q):BR ta tb Z H Q:=q
def Jb{ta:TE}(q:ta Z H λx H1=>∃c,x=.bl c/\Q (.bl (!c)) H1):BS ta Z H Q:=q
def Jc{ta:TE}(q:ta Z H λx H1=>Q (.bl (decide (x=.non))) H1):BJ ta Z H Q:=q
def Jd{ta:TE}(q:ta Z H λx H1=>Q (.bl (!decide (x=.non))) H1):BK ta Z H Q:=q
def Je{t:TT}{ta tb:TE}(q:t Z H λc H1=>if c=true then ta Z H1 Q else tb Z H1 Q):BV t ta tb Z H Q:=q
def kZ{t u:TS}(q:t {D with nx:=u D} Z H):BY t u D Z H:=q
def Dk{te:TE}{g:TG}(q:te Z H λx H1=>g x Z H1 D.nx):kN te g D Z H:=q
def gz{i:Nat}{v:V}{N:St->Hp->Prop}(q:N (Z.set i (some v)) H):dB i v Z H N:=q
def jh{te:TE}(q:te Z H D.rt):B_ te D Z H:=q
def Jf{c:TT}{t u:TS}(q:c Z H λb H1=>if b=true then t D Z H1 else u D Z H1):C0 c t u D Z H:=q
def vL(q:D.nx Z H):BX D Z H:=q
def Jg{te:TE}(q:te Z H λ_ H1=>D.nx Z H1):BZ te D Z H:=q
def vM{ta:TE}{tr:TA}{N:LT->Hp->Prop}(q:ta Z H λx H1=>tr Z H1 λxs H2=>N (x::xs) H2):mV ta tr Z H N:=q
def vN{N:LT->Hp->Prop}(q:N [] H):jd Z H N:=q
def Jh{r:LT->Hp->VK->Prop}{t:TA}(q:t Z H λvs H1=>r vs H1 Q):mX r t Z H Q:=q
def Ji{sp:Sp}{E:XK}{t:TA}(q:t Z H λvs H1=>sp (vs++[]) H1 Q E):rM sp [] E t Z H Q:=q
def Dl{t:TA}(q:t Z H λxs H1=>xs.length<=sizeLine/\∀p,H1 p=none->Q (.ref p) (aa H1 p (.tup xs))):Cv t Z H Q:=q
def Dm{t:TA}(q:t Z H λxs H1=>xs.length<=sizeLine/\∀p,H1 p=none->Q (.ref p) (aa H1 p (.lst xs))):Cw t Z H Q:=q
def iB{p:Addr}{xs:LT}{i:Int}{v:V}(h:ah K H p xs)(e:gN xs i=some v)(q:Q v H):rQ K (.ref p) (.int i) H Q:=(p,xs,i,v,rfl,rfl,h,e,q)
def sg{p:Addr}{xs:LT}{i:Int}{v:V}(h:az K H p xs)(e:gN xs i=some v)(q:Q v H):rR K (.ref p) (.int i) H Q:=(p,xs,i,v,rfl,rfl,h,e,q)
def Jj{to ti:TE}{t:rA}{v:V}{N:St->Hp->Prop}(q:to Z H λo H1=>ti Z H1 λi H2=>t o i v H2 λH3=>N Z H3):C3 to ti t v Z H N:=q
def Jk{p:Addr}{xs:LT}{k:Int}{j:Nat}{v:V}{N:Hp->Prop}(h:H p=some (.lst xs))(e:iU xs.length k=some j)(q:N (aa H p (.lst (xs.set j v)))):CQ (.ref p) (.int k) v H N:=(p,xs,k,j,rfl,rfl,h,e,q)
def iV{n:Nat}{t:jc}{a:Addr}{xs:LT}{N:St->Hp->Prop}(h:az K H a xs)(l:xs.length=n)(q:t xs Z H N):mM K n t (.ref a) Z H N:=(a,xs,rfl,h,l,q)
def Jl{t:TG}{u:jc}{v:V}{r:LT}{N:St->Hp->Prop}(q:t v Z H λZ' H'=>u r Z' H' N):kM t u (v::r) Z H N:=(v,r,rfl,q)
def Jm{N:St->Hp->Prop}(q:N Z H):oO [] Z H N:=(rfl,q)
def k_(q:R true H):gP Z H R:=q
def Jn{r:V->Option Int->Option Int->Hp->VK->Prop}{te:TE}{tl th:TO}(q:te Z H λx H1=>tl Z H1 λl H2=>th Z H2 λu H3=>r x l u H3 Q):CK r te tl th Z H Q:=q
def Jo{N:Option Int->Hp->Prop}(q:N none H):CI Z H N:=q
def Jp{t:TE}{N:Option Int->Hp->Prop}(q:t Z H λx H1=>∃i,x=.int i/\N (some i) H1):CJ t Z H N:=q
def Jq{i:Int}{P:Int->Prop}(q:P i):∃j,V.int i=.int j/\P j:=(i,rfl,q)
def Jr{a:Addr}{xs:LT}{lo hi:Option Int}(h:ah K H a xs)(q:∀p,H p=none->Q (.ref p) (aa H p (.lst (fR xs lo hi)))):uZ K (.ref a) lo hi H Q:=(a,xs,rfl,h,q)
def Js{n:Nat}{aJ:List (Nat×Str)}{wi:TI}{g:TG}{tt:TT}{te:TE}(q:wi Z H λJ H1=>jf J g tt te (λys H'=>∀D,H' D=none->Q (.ref D) (aa H' D (.lst ys))) (eZ n aJ Z) H1):rY n aJ wi g tt te Z H Q:=q
def Jt{ta:TA}{N:It->Hp->Prop}(q:ta Z H λvs H1=>∃a b,vs=[.ref a,.ref b]/\
 ((∃xs ys,ah K H1 a xs/\ah K H1 b ys/\N (kX (λH xs=>ah K H a xs) (λH ys=>ah K H b ys)) H1)\/
  (∃xs ys,az K H1 a xs/\az K H1 b ys/\N (kX (λH xs=>az K H a xs) (λH ys=>az K H b ys)) H1))):vt K ta Z H N:=q
def Dn{tl:TE}{N:It->Hp->Prop}(q:tl Z H λx H1=>∃a,x=.ref a/\(∃xs,ah K H1 a xs)/\N (rC K a) H1):oP K tl Z H N:=q
def Do{tl:TE}{N:It->Hp->Prop}(q:tl Z H λx H1=>∃a,x=.ref a/\(∃xs,az K H1 a xs)/\N (jM K a) H1):mP K tl Z H N:=q
def Ju{ta:TA}{N:It->Hp->Prop}(q:ta Z H λvs H1=>∃j:Int,vs=[.int j]/\ -(2 ^ 62)<=j/\j<2 ^ 62/\N (mO 0 j.toNat) H1):Cb ta Z H N:=q
def pA(K:W.Frag):LT->Hp->VK->Prop:=λxs H Q=>∃p ys,xs=[.ref p]/\(ah K H p ys\/az K H p ys)/\Q (.int ys.length) H
def Dp:LT->Hp->VK->Prop:=λxs H Q=>∃i,xs=[.int i]/\Q (.int (if i<0 then -i else i)) H
def sh(K:W.Frag):LT->Hp->VK->Prop:=λxs H Q=>∃p ys,xs=[.ref p]/\(ah K H p ys\/az K H p ys)/\∀l,H l=none->Q (.ref l) (aa H l (.lst ys))
def Jv{p:Addr}{ys:LT}(h:ah K H p ys)(q:Q (.int ys.length) H):pA K [.ref p] H Q:=(p,ys,rfl,.inl h,q)
def Jw{p:Addr}{ys:LT}(h:az K H p ys)(q:Q (.int ys.length) H):pA K [.ref p] H Q:=(p,ys,rfl,.inr h,q)
def Jx{i:Int}(q:Q (.int (if i<0 then -i else i)) H):Dp [.int i] H Q:=(i,rfl,q)
def Jy{p:Addr}{ys:LT}(h:ah K H p ys)(q:∀l,H l=none->Q (.ref l) (aa H l (.lst ys))):sh K [.ref p] H Q:=(p,ys,rfl,.inl h,q)
def Jz{x:V}{T t:String}(k:pq K H x t)(hT:T∈["bool","int","str","list","tuple","dict"])(q:Q (.bl (vE t T)) H):vG K [x,.ty T] H Q:=(x,T,t,rfl,k,hT,q)
end
section
variable{X:Cx}
def vO:cJ X (.builtin "abs") Dp:=Ho
end
section
variable{X:Cx}{K:W.Frag}
def JA(h:X.K=K):oX X (rQ K):=by subst h;show HZ
def JB(h:X.K=K):oX X (rR K):=by subst h;show H_
def vP(h:X.K=K):jP X (uZ K):=by subst h;show Ic
def JC(h:X.K=K):cJ X (.builtin "len") (pA K):=by subst h;show Ih
def JD(h:X.K=K):cJ X (.type "list") (sh K):=by subst h;show Ii
def sj(h:X.K=K):cJ X (.builtin "isinstance") (vG K):=by subst h;show IR
def iC(h:X.K=K)(hc:X.calm=true):cJ X (.builtin "all") (vH K):=by subst h;show IU hc
def jT(h:X.K=K):bT X (compareOp .In) (kS K false):=by subst h;show Ie
def sk(h:X.K=K):bT X (compareOp .NotIn) (kS K true):=by subst h;show Ig
def cU{tg l:Expr}{tl:TE}(h:X.K=K)(hl:PE X l tl):PI X tg l (oP K tl):=by subst h;show Hh hl
def dO{tg l:Expr}{tl:TE}(h:X.K=K)(hl:PE X l tl):PI X tg l (mP K tl):=by subst h;show Hi hl
def Dq{es:List Expr}{kk:Nat}{Sk:Pos}{a b:Expr}{ta:TA}{p pos:Pos}(h:X.K=K)(hg:Gl X "zip")(hm:X.mg "zip"=none)(ha:PA X [a,b] ta)(hs:↥(starEach [a,b] X.env=[(false,eval a X.env,),(false,eval b X.env,)]))(S0:↥(starEach [b] X.env=[(false,eval b X.env,)])):
  PI X (.Tuple es kk Sk) (.Call (.Name "zip" p) [a,b] [] pos) (vt K ta):=by subst h;show IH hg hm ha hs S0
def fJ{es:List Expr}{k:Nat}{t:jc}{n:Nat}{pos:Pos}(h:X.K=K)(hc:X.calm=true)(hh:oM X es t)
  (hn:↥((assignEach es X.env).length=n)) (hst:↥((assignEach es X.env).findIdx? (·.1)=none)):PG X (.Tuple es k pos) (mM K n t):=by subst h;show GY hc hh hn hst
end
def JE{i j:Int}(h:0<j)(h2:j.natAbs<2 ^ 500):vm i j:=(h,kD (CW h2 (by decide)) (by decide))
def bh{N P:List Str}{sc:Scope}(h:decide (sc.kind=.function/\sc.isCoroutine=false/\sc.isGenerator=false/\N.Nodup/\N.take P.length=P/\(∀x∈P,sc.names.lookup x=some .local \/sc.names.lookup x=some .cell)/\∀y∈sc.names,y.2≠ .free)=true:=by kernel_rfl):bc N P sc:=by
 let(a,b,c,d,e,f,g):=cP h;show(a,b,c,d,e,f,g)
def JF{N:List Str}{U' sc:Scope}{own:List Str}{aJ:List (Nat×Str)}(h:decide (sc.kind=.function/\(∀y∈sc.names,y.2≠ .cell)/\(∀y∈sc.names,y.2=.local ->sc.names.lookup y.1=some .local)/\(∀y∈sc.names,y.2=.free->U'.names.lookup y.1=some .cell\/U'.names.lookup y.1=some .free)/\∀p∈aJ,N[p.1]?=some p.2/\sc.names.lookup p.2=some .free)=true:=by kernel_rfl):g0 N U' sc own aJ:=by
 let(a,b,c,d,e):=cP h;show(a,b,c,d,e)
def pC{X:Cx}{k:Nat}{ps:List Str}{sp:Sp}{x:Str}{p pos:Pos}{e:Expr}{es:List Expr}{t:TA}(c:ba X.prog X.w X.K X.mg X.base x k ps sp)(ha:PA X (e::es) t)(hr:cn k X.A:=by exact cn.mono (by assumption) (by omega))(hg:↥(Gl X x))(hdb:⇑((x==("__debug__":Str))=false))(he:↥(starEach (e::es) X.env=(false,eval e X.env,)::starEach es X.env))(hpl:↥((backTo pos (starEach es X.env)).any (·.1)=false)):
  PE X (.Call (.Name x p) (e::es) [] pos) (rM sp [] E0 t):=IV c hr hg ha hdb he hpl
end L2
namespace L2
open PySem
def dX(xs:Array Nat):Prop:=xs.toList.Pairwise (· < ·)
def dX.lt{xs:Array Nat}(h:dX xs)(d:Nat):∀a b,a<b->b<xs.size->xs.getD a d<xs.getD b d:=λa b SM hb=>by
 have:=(Rc.mp h) a b (by simpa using kD SM hb) (by simpa using hb) SM;simpa[Array.getD,hb,kD SM hb]using this
theorem vQ{xs:Array Nat}{j:Nat}(hs:∀a b,a<b->b<xs.size->xs.getD a j<xs.getD b j):∀(Rr lo hi:Nat),hi - lo<=Rr->lo<=hi->hi<=xs.size->(∀i,i<lo->xs.getD i j<j)->(∀i,hi<=i->i<xs.size->j<=xs.getD i j)->
  SetTable.below.go xs j Rr lo hi<=xs.size/\(∀i,i<SetTable.below.go xs j Rr lo hi->xs.getD i j<j)/\(∀i,SetTable.below.go xs j Rr lo hi<=i->i<xs.size->j<=xs.getD i j)
 |0,lo,hi,hf,hl,hh,h1,h2=>by
  unfold SetTable.below.go;show((),h1,λi a b=>h2 i () b)
 |Rr+1,lo,hi,hf,hl,hh,h1,h2=>by
  unfold SetTable.below.go;by_cases RA:lo<hi
  .rw[bf RA];dsimp only;by_cases hm:xs.getD ((lo+hi) / 2) j<j
   .rw[bf hm];show vQ hs Rr _ _ () () hh (λi Rt=>?_) h2;by_cases e:i=(lo+hi) / 2
    .rw[e];show hm
    .show kD (hs i ((lo+hi) / 2) () ()) hm
   .rw[aO hm];show vQ hs Rr _ _ () () () h1 (λi Rt hsz=>?_);by_cases e:i=(lo+hi) / 2
    .rw[e];lia
    .have:=hs ((lo+hi) / 2) i () hsz;lia
  .rw[aO RA];show((),h1,λi a b=>h2 i () b)
def Dr{xs:Array Nat}(h:dX xs)(j:Nat):SetTable.below xs j<=xs.size/\(∀i,i<SetTable.below xs j->xs.getD i j<j)/\(∀i,SetTable.below xs j<=i->i<xs.size->j<=xs.getD i j):=by
 unfold SetTable.below;show vQ (h.lt j) xs.size 0 xs.size () (cm _) (aD _) (λi hi=>absurd hi (iO _)) (λi a b=>absurd b ())
def Ds{xs:Array Nat}(h:dX xs){j k:Nat}(hk:k<=xs.size)(h1:∀i,i<k->xs.getD i j<j)(h2:∀i,k<=i->i<xs.size->j<=xs.getD i j):SetTable.below xs j=k:=by
 let(b0,b1,b2):=Dr h j
 rcases oh (SetTable.below xs j) k with z|z|z
 .have:=b2 _ (aD _) ();have:=h1 _ z;lia
 .show z
 .have:=h2 k (aD _) ();have:=b1 _ z;lia
def JG{xs:Array Nat}(h:dX xs):SetTable.below xs 0=0:=Ds h (cm _) (λi hi=>absurd hi (iO _)) λ_ _ _=>cm _
def JH{xs:Array Nat}(h:dX xs){i j:Nat}(e:xs[i]?=some j):SetTable.below xs (j+1)=i+1:=by
 let(hi,ej):=Array.getElem?_eq_some_iff.mp e
 let g:∀d,xs.getD i d=j:=λd=>by simp[Array.getD,hi,ej]
 show Ds h () (λk hk=>?_) λk hk hs=>?_
 .rcases fq k i with z|z
  .have:=h.lt (j+1) k i z hi;rw[g]at this;lia
  .let z':k=i:=()
   rw[z',g];lia
 .have:=h.lt (j+1) i k () hs;rw[g]at this;lia
def JI{t:SetTable}{j:Nat}(h:dX t.place)(hn:t.place[SetTable.below t.place j]?≠some j):dX (t.put j).1.place:=by
 let(b0,b1,b2):=Dr h j
 change dX (SetTable.insertAt t.place (SetTable.below t.place j) j)
 generalize SetTable.below t.place j=p at*;unfold dX;rw[SetTable.toList_insertAt];let hp:t.place.toList.Pairwise (· < ·):=h;let Uc:=hp;rw[<-qK p t.place.toList,List.pairwise_append]at Uc;let(q1,q2,q3):=Uc
 let lo:∀a∈t.place.toList.take p,a<j:=λa ha=>by
  let(i,hi,e):=Gz ha;rw[d_]at hi;rw[oi]at e;have:=b1 i ()
  let hs:i<t.place.size:=by simp at hi;lia
  simp[Array.getD,hs]at this;rw[<-e];simpa using this
 let Rt:∀a∈t.place.toList.drop p,j<a:=λa ha=>by
  let(i,hi,e):=Gz ha;rw[qQ]at hi;rw[List.getElem_drop]at e
  let hs:p+i<t.place.size:=by simp at hi;lia
  let c:=b2 (p+i) () hs;simp[Array.getD,hs]at c
  let e':t.place[p+i]=a:=by simpa using e
  rw[e']at c
  rcases fq j a with z|z
  .show z
  .let z':a=j:=()
   subst z';exfalso
   let W5:p<t.place.size:=()
   let c0:=b2 p (aD _) W5;simp[Array.getD,W5]at c0
   rcases GB i with i0|i0
   .subst i0;show hn (by rw[o9 W5];show congrArg some (by simpa using e'))
   .have:=h.lt 0 p (p+i) () hs;simp[Array.getD,hs,W5]at this;rw[e']at this;lia
 rw[List.pairwise_append];show(q1,QV.mpr (Rt,q2),λa ha b hb=>?_)
 rcases cb.mp hb with rfl|hb
 .show lo a ha
 .show q3 a ha b hb
theorem vR{t:SetTable}{h:Int}{j:Nat}{dm:Option Nat}:∀(Rr:Nat) (p:SetTable.Probe),(∀d,p.dummy=some d->t.slot d=.dummy)->SetTable.probe.go t (λ_=>h+1) h Rr p=some (.empty j dm)->
  t.slot j=.empty/\∀d,dm=some d->t.slot d=.dummy
 |0,p,_,e=>by unfold SetTable.probe.go at e;cases e
 |Rr+1,p,hp,e=>by
  unfold SetTable.probe.go at e
  let adv:∀q:SetTable.Probe,(t.advance q).dummy=q.dummy:=λq=>by unfold SetTable.advance;split<;>rfl
  split at e
  .rename_i hs;let e':=cH e;injection e' with e1 e2;subst e1;subst e2;show(hs,hp)
  .rename_i hs;show vR Rr _ (λd hd=>?_) e;rw[adv]at hd;let VS:some p.j=some d:=hd;cases VS;show hs
  .rename_i i hs;split at e
   .cases e
   .show vR Rr _ (λd hd=>?_) e;rw[adv]at hd;show hp d hd
def Dt{t:SetTable}{j:Nat}(h:t.slot j=.empty\/t.slot j=.dummy):t.place[SetTable.below t.place j]?≠some j:=λe=>by
 unfold SetTable.slot at h;dsimp only at h;rw[e]at h;simp at h
def JJ{t:SetTable}{h:Int}{j:Nat}{d:Bool}(e:t.freeSlot h=some (j,d,)):t.place[SetTable.below t.place j]?≠some j:=by
 unfold SetTable.freeSlot at e;split at e
 .rename_i j' dm hp;let q:=vR (10*SetTable.turns t.mask) _ (λd hd=>by cases hd) hp;let e':=cH e;injection e' with e1 _;subst e1
  cases dm with
  |none=>show Dt (.inl q.1)
  |some d=>show Dt (.inr (q.2 d rfl))
 .cases e
def JK(n:Nat):dX (Array.range n):=by
 unfold dX;rw[Array.toList_range];show List.pairwise_lt_range
def sm(t:SetTable)(n:Nat):dX (t.standIn n).place:=JK n
def JL{t:SetTable}{es:Array (Int×Value)}{h:Int}{x:Value}(r:dX t.place):dX (layNew t es h x).2.1.place/\(layNew t es h x).2.1.led=t.led:=by
 unfold layNew;split
 .rename_i slot wd e;dsimp only;unfold SetTable.orStandIn;split
  .show(JI r (JJ e),rfl)
  .show(sm _ _,rfl)
 .show(sm _ _,rfl)
def vS{mask finger moves:Nat}{led plain:Bool}{hs:Array Int}{t:SetTable}{o:Array Nat}(e:SetTable.laid mask finger moves led plain hs=some (t,o,)):dX t.place/\t.led=led:=by
 unfold SetTable.laid at e
 cases q:SetTable.layClean mask hs with
 |none=>rw[q]at e;cases e
 |some owner=>
  rw[q]at e;let e':=cH e;injection e' with e1 _;subst e1;show(?_,rfl);unfold dX;dsimp only;rw[Gh];show List.Pairwise.filterMap _ (λa a' RA b hb b' RW=>?_) (List.pairwise_lt_range (n:=mask+1))
  cases q1:owner.getD a none with
  |none=>rw[q1]at hb;cases hb
  |some v=>
   rw[q1]at hb
   cases q2:owner.getD a' none with
   |none=>rw[q2]at RW;cases RW
   |some v'=>
    rw[q2]at RW;cases hb;cases RW;show RA
def JM{t:SetTable}{es:Array (Int×Value)}{n:Nat}:dX (relayAll t es n).2.1.place/\(relayAll t es n).2.1.led=t.led:=by
 unfold relayAll;split
 .rename_i t' order e;dsimp only;split
  .show vS e
  .show(sm _ _,rfl)
 .show(sm _ _,rfl)
end L2
namespace L2
open PySem PySem.Spec PyProof.Rows
noncomputable def bt(w:World):Bool:=w.params.followText "set-order"
noncomputable def bX(e:Int×Value):Int:=match e.2 with
 |.int k _=>k
 |_=>0
def gA(e:Int×Value):Prop:=∃k tok,e=(hashInt k,Value.int k tok,)
def aZ(w:World)(h:Heap)(a:Addr)(ks:LE):Prop:=∃(o:Obj) (es:Array (Int×Value)) (ep:Nat) (t:SetTable),h.get? a=some o/\o.ExactSet/\o.data=.set es ep t/\
 es.toList.map bX=ks/\(∀e∈es.toList,gA e)/\ks.Nodup/\ks.length<scanBound/\t.fits es.size=true/\dX t.place/\(t.led=true\/bt w=true)
def aZ.at{w:World}{h h':Heap}{a:Addr}{ks:LE}(g:aZ w h a ks)(k:∀o,h.get? a=some o->h'.get? a=some o):aZ w h' a ks:=by
 let(o,es,ep,t,e,r):=g;show(o,es,ep,t,k o e,r)
def aZ.lt{w:World}{h:Heap}{a:Addr}{ks:LE}(g:aZ w h a ks):a<h.objs.size:=by
 let(o,es,ep,t,e,r):=g;show bw e
section
variable{prog:Program}{w:World}{A:Around}{E:Value->Shared->Prop}{s:Shared}
def vT{l:List (Int×Value)}(h:∀e∈l,gA e):ElemsOf (intKind prog w) l:=λe he=>by
 let(k,tok,rfl):=h e he;show((k,r8 _ _ _ _,rfl),rfl)
def vU{e:Int×Value}(h:gA e)(k:Int):(intKind prog w).is k e.2=decide (bX e=k):=by
 let(k',tok,rfl):=h
 change Value.isInt k (.int k' tok)=_
 by_cases z:k'=k
 .subst z;simp[Value.isInt,bX]
 .rw[cW (by show z)];simp[Value.isInt,z]
def find_none{l:List (Int×Value)}(h:∀e∈l,gA e){k:Int}:l.findIdx? (λe=>(intKind prog w).is k e.2)=none↔k∉l.map bX:=by
 rw[List.findIdx?_eq_none_iff];constructor
 .ext q hm;let(e,he,ek):=Ag.mp hm;have:=q e he;rw[vU (h e he),cY ek]at this
  grind
 .ext q e he;rw[vU (h e he)]
  grind
def vV{h:Heap}{a:Addr}{o:Obj}{es:Array (Int×Value)}{ep:Nat}{t:SetTable}(ho:h.get? a=some o)(cZ:o.ExactSet)(hd:o.data=.set es ep t)
  {es':Array (Int×Value)} {t':SetTable} (bH:∀e∈es'.toList,gA e) (c_:(es'.toList.map bX).Nodup) (hb:es'.size<scanBound) (hf:t'.fits es'.size=true) (hr:dX t'.place) (hl:t'.led=true\/bt w=true):
  (h.update a (Obj.putSet es' t')).get? a=some {o with data:=.set es' (ep+1) t'}/\aZ w (h.update a (Obj.putSet es' t')) a (es'.toList.map bX):=by
 let hg:(h.update a (Obj.putSet es' t')).get? a=some {o with data:=.set es' (ep+1) t'}:=by
  have:=An (Obj.putSet es' t') ho (by rw[putSet_of es' t' hd];rfl);rw[putSet_of es' t' hd]at this;show this
 show(hg,_,es',ep+1,t',hg,cZ,rfl,rfl,bH,c_,by simpa using hb,hf,hr,hl)
def Du{g:Bool->Sem Unit}(hg:∀(b:Bool) (Rk:Shared) (Q':Unit->Shared->Prop),Q' ⟨⟩ Rk->wpAny (model prog w) A (g b) Q' E Rk)
  {a:Addr} {o:Obj} {es:Array (Int×Value)} {ep:Nat} {t:SetTable} (ho:s.heap.get? a=some o) (cZ:o.ExactSet) (hd:o.data=.set es ep t)
  {RQ:Array (Int×Value)} {t2:SetTable} (UT:∀e∈RQ.toList,gA e) (c_:(RQ.toList.map bX).Nodup) (TZ:RQ.size<scanBound) (hf2:t2.fits RQ.size=true) (hr:dX t2.place) (hl:t2.led=true\/bt w=true)
  {wasDummy:Bool} {R:Option Bool->Shared->Prop}
  (h:∀h' ks,Heap.SameBut a s.heap h'->aZ w h' a ks->ks.Perm (RQ.toList.map bX)->R (some true) {s with heap:=h'}):
  wpAny (model prog w) A (do
    storeSet a RQ t2
    if(!wasDummy && t2.tooFull)=true then do
      g (relayAll t2 RQ (SetTable.grown RQ.size)).2.2
      storeSet a (relayAll t2 RQ (SetTable.grown RQ.size)).1 (relayAll t2 RQ (SetTable.grown RQ.size)).2.1
      pure (some true)
     else pure (some true)) R E s:=by
 show ae (og ho hd ?_ (lP TZ));let(Vf,Sz):=vV (w:=w) ho cZ hd UT c_ TZ hf2 hr hl;let XW:=lO s.heap a (Obj.putSet RQ t2);split
 .let hp:=relayAll_perm t2 RQ (SetTable.grown RQ.size);let VR:=relayAll_fits t2 RQ (SetTable.grown RQ.size);let(rr,rl):=JM (t:=t2) (es:=RQ) (n:=SetTable.grown RQ.size);generalize relayAll t2 RQ (SetTable.grown RQ.size)=Rl at hp VR rr rl⊢;let(Yw,t3,jc'):=Rl;dsimp only at hp VR rr rl⊢;let pm:(Yw.toList.map bX).Perm (RQ.toList.map bX):=hp.map _
  let hsz:Yw.size=RQ.size:=by rw[<-gX,hp.length_eq,gX]
  let Tx:Yw.size<scanBound:=by rw[hsz];show TZ
  show ae (hg _ _ _ ?_);show ae (og Vf rfl ?_ (lP Tx));let(_,Uh):=vV (w:=w) Vf cZ rfl (λe he=>UT e (hp.mem_iff.mp he)) (pm.nodup_iff.mpr c_) Tx VR rr (by rw[rl];show hl);show aw (h _ _ (XW.trans (lO _ a _)) Uh pm)
 .show aw (h _ _ XW Sz (iP _))
def sr{a:Addr}{ks:LE}{k:Int}{tok:Tok}{Q:Bool->Shared->Prop}(hS:aZ w s.heap a ks)(UK:ks.length+1<scanBound)
  (h:∀h' RF,Heap.SameBut a s.heap h'->aZ w h' a RF->RF.Perm (if k∈ks then ks else k::ks)->Q (decide (k∉ks)) {s with heap:=h'}):
  wpAny (model prog w) A (setAddHashed a (.int k tok) (hashInt k)) Q E s:=by
 let(o,es,ep,t,ho,cZ,hd,rfl,bH,c_,hb,hf,hr,hl):=hS
 let TY:es.size<scanBound:=⋯
 let Te:ElemsOf (intKind prog w) es.toList:=vT bH;unfold setAddHashed setAddHashedIn;show dA (ae (cO ho hd hf ?_));dsimp only;rw[byScan_of (knd:=intKind prog w) rfl TY Te];simp only[↓reduceIte];unfold setAddByScan;show ae (ae (ip (ae (wpAny_setScan_of (knd:=intKind prog w) (k:=k) (r8 _ _ _ _) ho hd hf Te ?_))))
 cases hq:List.findIdx? (λe=>(intKind prog w).is k e.2) es.toList with
 |some j=>
  let Sv:k∈es.toList.map bX:=by
   rcases Classical.em (k∈es.toList.map bX)with z|z
   .show z
   .rw[(find_none (prog:=prog) (w:=w) bH).mpr z]at hq;cases hq
  show aw (aw ?_)
  let e:s={s with heap:=s.heap}:=⋯
  let q:=h s.heap _ (jB a s.heap) (o,es,ep,t,ho,cZ,hd,rfl,bH,c_,hb,hf,hr,hl) ⋯;rw[cW (λz=>z Sv)]at q;lia
 |none=>
  let Sv:k∉es.toList.map bX:=(find_none (prog:=prog) (w:=w) bH).mp hq;let SK:=layNew_perm t es (hashInt k) (.int k tok);let US:=layNew_fits t es (hashInt k) (.int k tok);let(rr,rl):=JL (es:=es) (h:=hashInt k) (x:=.int k tok) hr
  let hgw:∀(b:Bool) {Rk:Shared} {Q':Unit->Shared->Prop},Q' ⟨⟩ Rk->wpAny (model prog w) A (match b with|true=>rule "set.scan.the-table-gave-way"|false=>pure ⟨⟩) Q' E Rk:=
   λb Rk Q' hq=>by cases b<;>first|show aw hq|show ip hq
  dsimp only;generalize hL:layNew t es (hashInt k) (.int k tok)=L at SK US rr rl;let(RQ,t1,wasDummy,je_):=L;dsimp only at SK US rr rl⊢;rw[Array.toList_push]at SK
  let UT:∀e∈RQ.toList,gA e:=λe he=>by
   rcases ui.mp (SK.mem_iff.mp he)with z|z
   .grind
   .rw[Ra]at z;show(k,tok,z)
  let pm:(RQ.toList.map bX).Perm (k::es.toList.map bX):=by
   erw[(SK.map _).trans];rw[bO];show List.perm_append_comm
  let X1:(RQ.toList.map bX).Nodup:=pm.nodup_iff.mpr (fV.mpr (Sv,c_))
  let jd_:RQ.size=es.size+1:=by rw[<-gX,SK.length_eq,c6,gX];rfl
  let TZ:RQ.size<scanBound:=⋯
  let hend:∀h' RF,Heap.SameBut a s.heap h'->aZ w h' a RF->RF.Perm (RQ.toList.map bX)->Q true {s with heap:=h'}:=λh' RF sb g p=>by
   grind
  show ae (hgw _ ?_)
  let RB:t1.led=true\/bt w=true:=⋯
  split
  .erw[ae];rw[hashByValue_scannable 8 (show Value.scannable (.int k tok)=true from rfl)];erw[aw,Du ?_ ho cZ hd UT X1 TZ ?_ ?_ ?_]
   .done
   .done
   .grind
   .grind
   .ext h' RF hsb g p;show aw (hend h' RF hsb g p)
  .show ae (aw ?_);simp only[↓reduceIte];erw[Du ?_ ho cZ hd UT X1 TZ US rr RB]
   .done
   .ext h' RF hsb g p;show aw (hend h' RF hsb g p)
def Dv{Q:Value->Shared->Prop}(h:∀h',aZ w h' s.heap.objs.size []->h'.objs.size=s.heap.objs.size+1->(∀b o,s.heap.get? b=some o->h'.get? b=some o)->Q (.ref s.heap.objs.size) {s with heap:=h'}):
  wpAny (model prog w) A (newSet (.type "set")) Q E s:=by
 unfold newSet setsByText;show ae (ae (om (aw ?_)));dsimp only;simp only[newObj];show ae (wpAny_alloc (aw (h _ (_,#[],0,_,bR _ rfl,(rfl,rfl,rfl),rfl,rfl,λe he=>by simp at he,qS,by decide,by rfl,List.Pairwise.nil,?_) (eQ ..) λb o e=>aR _ e)))
 change(!w.params.followText "set-order")=true\/bt w=true
 unfold bt
 grind
end
section
variable{prog:Program}{w:World}{A:Around}{E:Value->Shared->Prop}{s:Shared}
omit JN KY IsListIter IsTupleIter IsList IsTuple Gr wpAny_pyNext_tuple_end Gp wpAny_pyNext_tuple_item in
def JN{R:Result->Shared->Prop}{I S l:Addr}{items:Array Value}{ns:LE}(hh:A.in1.handled=none)(hi:IntsAre items.toList ns)(hb:items.size+1<scanBound)(n1:S≠I)(n2:S≠l)(n3:l≠I):
  ∀(k i:Nat) (s:Shared) (ks:LE),items.size - i=k->i<=items.size->s.heap.IsListIter I l i->s.heap.IsList l items->aZ w s.heap S ks->ks.length<=i->(∀x,x∈ks↔x∈ns.take i)->
   (∀h' tk RF,(∀b o,b≠S->b≠I->s.heap.get? b=some o->h'.get? b=some o)->aZ w h' S RF->(∀x,x∈RF↔x∈ns)->R (.ok (.ret .none)) {s with heap:=h',toks:=tk})->
   codeAny (model prog w) A (.builtin "set.update.loop" ([.ref S,.ref I],[])) R s:=by
 let bP:items.size=ns.length:=by have:=lQ hi;simpa using this
 ext k
 induction k with
 |zero=>
  ext i s ks hk SR hit hl hS VO hm hR
  let Sv:i=items.size:=()
  subst Sv;erw[jC Ai];rw[lN qA _]
  change wpAny _ A.in1 (pyNext (.ref I) >>=_) _ _ s
  show ae (Gr hh hit hl ∅ λh' eb=>?_)
  change wpAny _ A.in1 (ret Value.none) _ _ _
  show aw (hR h' s.toks ks (λb o _ b2 e=>eb b o b2 e) (hS.at λo e=>eb _ _ n1 e) λx=>?_)
  grind
 |succ k ih=>
  ext i s ks hk SR hit hl hS VO hm hR
  let RA:i<items.size:=()
  let(t,hv):=IntsAre.int_at hi i items[i] ⋯
  let hgd:ns.getD i 0=ns[i]'():=⋯
  erw[jC Ai];rw[lN qA _]
  change wpAny _ A.in1 (pyNext (.ref I) >>=_) _ _ s
  show ae (Gp hit hl (x:=items[i]) ⋯ λh1 UQ Up=>?_);let Sz:aZ w h1 S ks:=hS.at λo e=>Up.extBut _ _ n1 e
  change wpAny _ A.in1 (holding [items[i]] (setAdd S items[i]) >>=_) _ _ _
  rw[hv];show ae (dA ?_);unfold setAdd;erw[dA];show ae ((intKind prog w).pyHash (k:=ns.getD i 0) (r8 _ _ _ _) ?_);show sr (s:={s with heap:=h1,toks:=s.toks+1}) Sz () λh2 Wj RK Uh p2=>?_
  let UO:∀x,x∈Wj↔x∈ns.take (i+1):=λx=>by
   rw[p2.mem_iff,List.take_add_one,ui,<-hm x,show ns[i]?=some (ns.getD i 0) by rw[hgd];show aK _]
   grind
  let Ro:Wj.length<=i+1:=by
   rw[p2.length_eq]
   grind
  show aw (ou qA _,ih (i+1) _ Wj () RA ?_ ?_ Uh Ro UO λh' tk RF kp RY Sn=>?_)
  ·(let(o,ho,r):=UQ;show(o,RK.extBut _ _ (Ne.symm n1) ho,r))
  ·(let(o,ho,r):=hl;show(o,RK.extBut _ _ (Ne.symm n2) (Up.extBut _ _ n3 ho),r))
  .show hR h' tk RF (λb o b1 b2 e=>kp b o b1 b2 (RK.extBut _ _ b1 (Up.extBut _ _ b2 e))) RY Sn
def Dw(a:Value){Q₁:Value->Shared->Prop}
  (h:Q₁ (.ref s.heap.objs.size) {s with heap:=s.heap.push {cls:=.type "set",dict:=none,data:=.set #[] 0 (.fresh 0 0 (!bt w))}}):
  codeAny (model prog w) A (.call (.builtin "set.__new__") ([.type "set",a],[])) (wants Q₁ E) s:=by
 erw[Az]
 change wpAny _ A.in1 (do checkBuiltinCall "set.__new__" ([.type "set",a],[]);again (.builtin "set.__new__" ([.type "set",a],[]))) _ _ s
 show ae (wpAny_of_eq (PySem.F.newCall_set_1 a) (aw (ou PySem.F.plain_set_new _,jC PySem.F.entry_set_new ?_)));rw[lN PySem.F.plain_set_new _];unfold Builtin.«set.__new__» Builtin.Frozenset.newClass;let uH:=sub_set_self;let(hp,g,d,tk,os):=s;dsimp only
 wp_walk
 show om (aw ?_);dsimp only;simp only[newObj];show ae (wpAny_alloc (aw ?_));show aw h
def KU:isSubtype (.type "tuple") (.type "set")=pure false:=by rw[AC];kernel_rfl
def KW:isSubtype (.type "tuple") (.type "frozenset")=pure false:=by rw[AC];kernel_rfl
omit JO KZ IsList IsTuple list tuple uz uw JN KY PySem.F.sub_list_set KU PySem.F.sub_list_frozenset KW in
set_option maxHeartbeats 8000000 in
def JO{l:Addr}{items:Array Value}{ns:LE}{Q:Value->Shared->Prop}(hh:A.handled=none)(hl:s.heap.IsList l items)(hi:IntsAre items.toList ns)(hb:items.size+1<scanBound)
  (h:∀(h':Heap) (tk:Nat) (ks:LE),aZ w h' s.heap.objs.size ks->(∀x,x∈ks↔x∈ns)->(∀b o,b<s.heap.objs.size->s.heap.get? b=some o->h'.get? b=some o)->Q (.ref s.heap.objs.size) {s with heap:=h',toks:=tk}):
  wpAny (model prog w) A (call (.type "set") [.ref l]) Q E s:=by
 let(c,tl,jb2):=PySem.F.called_set.mro;let X3:=PySem.F.called_set.made;let uH:=PySem.F.called_set.sub;show wpAny_call (Az ?_)
 change wpAny _ _ (callAny (.type "set") _) _ _ _
 show aw (Code.quiet_builtin _ (by decide+kernel),jC PySem.F.entry_type_call ?_);rw[Around.under_plain (weight_type_call_type "set" [.ref l] []) rfl];let h1:=PySem.F.called_set.notType;let h2:=PySem.F.called_set.canCreate;let hct:=PySem.F.typeCall_set_1 (.ref l)
 repeat (any_goals (first|done|wp_step))
 show lS (Dw (w:=w) (.ref l) (E:=E) (Q₁:=λobj Rk=>obj=.ref s.heap.objs.size/\Rk={s with heap:=s.heap.push {cls:=.type "set",dict:=none,data:=.set #[] 0 (.fresh 0 0 (!bt w))}}) ⟨rfl,rfl⟩) λr Rk hr=>?_
 cases r with
 |error e=>show hr
 |ok fl=>
  cases fl with
  |ret obj=>
   let(rfl,rfl):=hr;generalize Td:(!bt w)=led;let hS:(s.heap.push {cls:=.type "set",dict:=none,data:=.set #[] 0 (.fresh 0 0 led)}).get? s.heap.objs.size=some {cls:=.type "set",dict:=none,data:=.set #[] 0 (.fresh 0 0 led)}:=bR _ rfl
   let hT:Shared.TypeIs {s with heap:=s.heap.push {cls:=.type "set",dict:=none,data:=.set #[] 0 (.fresh 0 0 led)}} (.ref s.heap.objs.size) "set":=⟨_,hS,rfl⟩
   let hli:=PySem.F.called_set.init.lookup;let hbi:=PySem.F.called_set.init.bind (.ref s.heap.objs.size)
   repeat (any_goals (first|done|wp_step))
   show lS (codeAny_call_builtin (R:=wants (λr Rn=>r=.none/\∃h' tk ks,Rn={s with heap:=h',toks:=tk}/\aZ w h' s.heap.objs.size ks/\(∀x,x∈ks↔x∈ns)/\
     (∀b o,b<s.heap.objs.size->s.heap.get? b=some o->h'.get? b=some o)) E) PySem.F.called_set.init.plain PySem.F.entry_set_init (check_set_init_1 hT ?_)) λWd Rn Su=>?_
   .let(ol,Vp,Yf,nl,TX):=hl;let(ZE,Ux,Xy,Tt):=ol;simp only at Yf TX;subst Yf;subst TX;let Wp:(s.heap.push {cls:=.type "set",dict:=none,data:=.set #[] 0 (.fresh 0 0 led)}).get? l=some {cls:=.type "list",dict:=Ux,data:=.seq items nl,slots:=Tt}:=aR _ Vp;let ja2:=PySem.F.sub_list_set;let ja3:=PySem.F.sub_list_frozenset
    let SQ:(Value.type "list"==Value.type "dict")=false:=by decide
    let RB:(s.heap.push {cls:=.type "set",dict:=none,data:=.set #[] 0 (.fresh 0 0 led)}).IsList l items:=(_,Wp,rfl,nl,rfl)
    unfold Builtin.«set.__init__» noKeywords Builtin.Frozenset.updateFrom;generalize hPI:pyIter=PI
    wp_walk
    subst hPI;erw[uz RB];show ae (wpAny_runValue ?_);let W7:l<s.heap.objs.size:=bw Vp
    let hh3:A.in1.in1.in1.handled=none:=()
    let hSz:(s.heap.push {cls:=.type "set",dict:=none,data:=.set #[] 0 (.fresh 0 0 led)}).objs.size=s.heap.objs.size+1:=eQ ..
    let e1:s.heap.objs.size≠(s.heap.push {cls:=.type "set",dict:=none,data:=.set #[] 0 (.fresh 0 0 led)}).objs.size:=()
    let e2:l≠(s.heap.push {cls:=.type "set",dict:=none,data:=.set #[] 0 (.fresh 0 0 led)}).objs.size:=⋯
    show JN (w:=w) hh3 hi hb e1 (fY W7) e2 (items.size - 0) 0 _ [] () (cm _)
     (_,bR _ rfl,rfl,rfl) (RB.push _) (_,#[],0,_,aR _ hS,(rfl,rfl,rfl),rfl,rfl,λe he=>by simp at he,qS,by decide,by rfl,List.Pairwise.nil,?_) (aD _) (λx=>∅) ?_
    .change led=true\/bt w=true
     grind
    .ext h' tk RF kp RY Sn
     change wpAny _ _ _ _ _ _
     erw[aw]
     change wpAny _ _ (ret Value.none) _ _ _
     show aw (rfl,h',tk,RF,rfl,RY,Sn,λb o hb e=>?_);show kp b o (bW hb) ⋯ (aR _ (aR _ e))
   .cases Wd with
    |error e=>show Su
    |ok fl₂=>
     cases fl₂ with
     |ret r=>
      let(rfl,h',tk,ks,rfl,RY,Sn,Y_):=Su
      repeat (any_goals (first|done|wp_step))
      grind
     |_=>show Su.elim
  |_=>show hr.elim
end
namespace FF
def slot_si_next:Slot "set_iterator" "__next__" "set_iterator.__next__":=
 .of (owner:="set_iterator") (n:="__next__") (by rw[typeLookup_type,Gs];kernel_rfl) (by decide+kernel) (by decide+kernel) (by decide+kernel)
  (by first|show .inl (by decide+kernel)|show .inr (by decide+kernel)) (by rw[AC];kernel_rfl)
def slot_si_iter:Slot "set_iterator" "__iter__" "set_iterator.__iter__":=
 .of (owner:="set_iterator") (n:="__iter__") (by rw[typeLookup_type,Gs];kernel_rfl) (by decide+kernel) (by decide+kernel) (by decide+kernel)
  (by first|show .inl (by decide+kernel)|show .inr (by decide+kernel)) (by rw[AC];kernel_rfl)
def entry_si_next:entryFor table "set_iterator.__next__"=some Builtin.«set_iterator.__next__»:=entryFor_of_tree (by kernel_rfl)
def Dx:Manifest.owners.lookup (String.ofList ['r','o','t','a','r','e','t','i','_','t','e','s'].reverse)=some Manifest.sig_set_iterator:=by kernel_rfl
def args_si_next(a:Value):argsOk "set_iterator.__next__" ([a],[]):=by
 unfold argsOk;rw[signature?_of (id:="set_iterator.__next__") (n:=['_','_','t','x','e','n','_','_']) (o:=['r','o','t','a','r','e','t','i','_','t','e','s']) (by kernel_rfl) Dx];kernel_rfl
def entry_si_iter:entryFor table "set_iterator.__iter__"=some Builtin.«dict_keyiterator.__iter__»:=
 AD (id':="dict_keyiterator.__iter__") (by kernel_rfl) (by first|rfl|decide+kernel) (by decide+kernel) (by kernel_rfl)
def args_si_iter(a:Value):argsOk "set_iterator.__iter__" ([a],[]):=by
 unfold argsOk;rw[signature?_of (id:="set_iterator.__iter__") (n:=['_','_','r','e','t','i','_','_']) (o:=['r','o','t','a','r','e','t','i','_','t','e','s']) (by kernel_rfl) Dx];kernel_rfl
def entry_set_iter:entryFor table "set.__iter__"=some Builtin.«frozenset.__iter__»:=
 AD (id':="frozenset.__iter__") (by kernel_rfl) rfl (by decide+kernel) (by kernel_rfl)
end FF
abbrev su(first:Value)(i:Nat)(S:Addr)(n ep:Nat):Obj:={cls:=.type "set_iterator",dict:=none,data:=.fields #[first,rawInt i,.ref S,rawInt n,rawInt ep],slots:= #[]}
section
variable{prog:Program}{w:World}{A:Around}{E:Value->Shared->Prop}{s:Shared}
def JP{n:Nat}{Q:Nat->Shared->Prop}(hn:n≠0)(h:∀i d,i<n->Q i {s with drawn:=d}):wpAny (model prog w) A (choose .order n) Q E s:=λΓ p hΓ=>by
 unfold choose;rw[Sem.wp_choose];show(hn,?_);rw[Sem.wp_pure];show h _ _ (Nat.mod_lt _ (Nat.pos_of_ne_zero hn))
theorem sv{α:Type}:∀(l:List α) (i:Nat) (h:i<l.length),(l[i]::l.eraseIdx i).Perm l
 |x::r,0,_=>iP _
 |x::r,i+1,h=>(List.Perm.swap _ _ _).trans (List.Perm.cons _ (sv r i (by simpa using h)))
theorem Dy{α:Type}:∀(n:Nat) (xs:List α) (s:Shared) (Q:List α->Shared->Prop),xs.length=n->(∀ys d,ys.Perm xs->Q ys {s with drawn:=d})->wpAny (model prog w) A (drawOrder n xs) Q E s
 |0,xs,s,Q,hl,h=>by
  let e:xs=[]:=Rg.mp hl;subst e;unfold drawOrder;show aw (h [] s.drawn (iP _))
 |n+1,[],s,Q,hl,h=>by simp at hl
 |n+1,x::r,s,Q,hl,h=>by
  unfold drawOrder;show ae (JP ∅ λi d hi=>?_);rw[aK hi];dsimp only;show ae (Dy n _ _ _ (by rw[uj hi,hl];rfl) λys d' p=>aw ?_);have:=h ((x::r)[i]::ys) d' ((List.Perm.cons _ p).trans (sv _ i hi));show this
end
theorem Dz{α:Type}(next:Nat->Nat):∀(Rr k:Nat) (left:List α) (SD:Array α),left.length=Rr->(pickOrder.go next Rr k left SD).toList.Perm (SD.toList++left)
 |0,k,left,SD,h=>by
  let e:left=[]:=Rg.mp h;subst e;unfold pickOrder.go;rw[jD]
 |Rr+1,k,left,SD,h=>by
  unfold pickOrder.go
  let hi:next k % left.length<left.length:=Nat.mod_lt _ ()
  rw[aK hi];dsimp only;erw[(Dz next Rr (k+1) _ _ (by rw[uj hi,h];rfl)).trans];rw[Array.toList_push,oj];show List.Perm.append_left _ (sv _ _ hi)
def DA{α:Type}(next:Nat->Nat)(xs:Array α):(pickOrder next xs).toList.Perm xs.toList:=by
 have:=Dz next xs.size 0 xs.toList #[] ∅
 done
section
variable{prog:Program}{w:World}{A:Around}{E:Value->Shared->Prop}{s:Shared}{I S:Addr}{first:Value}{i n ep:Nat}{o:Obj}{es:Array (Int×Value)}{t:SetTable}
def DB{Q:Fin->Shared->Prop}{slot:Nat}(hI:s.heap.get? I=some (su (rawInt slot) i S n ep))(hS:s.heap.get? S=some o)(hd:o.data=.set es ep t)(hf:t.fits es.size=true)(hn:es.size=n)
  (h:wpAny (model prog w) A (setNext S slot i ep) (λr s'=>wpAny (model prog w) A (match r with
   |some (x,next,)=>do
    setField (.ref I) 0 (rawInt next)
    setField (.ref I) 1 (rawInt ((i:Int)+1))
    ret x
   |none=>do
    setField (.ref I) 2 .none
    raiseNew (<-newExc (.type "StopIteration") [])) Q E s') E s):
  wpAny (model prog w) A (Builtin.«set_iterator.__next__» ([.ref I],[])) Q E s:=by
 change wpAny _ _ (fieldsOf (.ref I) >>=_) _ _ _
 show ae (wpAny_fieldsOf hI rfl ?_)
 change wpAny _ _ (setEntries S >>=_) _ _ _
 unfold setEntries;show ae (ae (cO hS hd hf (aw ?_)))
 let e:((es.size:Int) !=(n:Int))=false:=⋯
 change wpAny _ _ (if((es.size:Int) !=(n:Int))=true then _ else _) _ _ _
 rw[e,aO cN];show ae (cR h (λr s' hr=>?_) λ_ _ z=>z);lia
end
section
variable{prog:Program}{w:World}{A:Around}{E:Value->Shared->Prop}{s:Shared}{I S:Addr}{first:Value}{i n ep:Nat}{o:Obj}{es:Array (Int×Value)}{t:SetTable}
def m9{Q:Bool->Shared->Prop}(h:Q (bt w) s):wpAny (model prog w) A setsByText Q E s:=by
 unfold setsByText;show ae (om (aw h))
def DC{slot:Nat}{Q:Option (Value×Nat)->Shared->Prop}(hS:s.heap.get? S=some o)(hd:o.data=.set es ep t)(hf:t.fits es.size=true)(hb:bt w=false)(Uq:(!t.plain && decide (es.size >1))=false)(hl:t.led=true)
  (h:Q (match es[SetTable.below t.place slot]?,t.place[SetTable.below t.place slot]? with
   |some (_,x,),some j=>some (x,j+1,)
   |_,_=>none) s):wpAny (model prog w) A (setNext S slot i ep) Q E s:=by
 unfold setNext;show ae (cO hS hd hf ?_);dsimp only;show ae (m9 ?_);rw[hb,aO cN]
 change wpAny _ _ (if(!t.plain && decide (es.size >1))=true then _ else _) _ _ _
 rw[Uq,aO cN];erw[ae]
 change wpAny _ _ (if(!t.led && !es.isEmpty)=true then _ else _) _ _ _
 rw[hl];show aw (aw h)
def DD{slot:Nat}{Q:Option (Value×Nat)->Shared->Prop}(hS:s.heap.get? S=some o)(hd:o.data=.set es ep t)(hf:t.fits es.size=true)(hb:bt w=true)
  (h:Q (((pickOrder (w.params.setOrder S ep) es)[i]?).map λe=>(e.2,slot,)) s):wpAny (model prog w) A (setNext S slot i ep) Q E s:=by
 unfold setNext;show ae (cO hS hd hf ?_);dsimp only;show ae (m9 ?_);rw[hb,bf rfl]
 let e:(ep !=ep)=false:=∅
 rw[e,aO cN];unfold setWalk;show ae (ae (cO hS hd hf ?_));dsimp only;show ae (m9 ?_);rw[hb,bf rfl];show ae (om (aw (aw h)))
def DE{Q:Fin->Shared->Prop}(hh:A.handled=none)(hE:∀h' e,(∀b o,s.heap.get? b=some o->h'.get? b=some o)->(∃o,h'.get? e=some o/\o.cls=.type "StopIteration")->E (.ref e) {s with heap:=h'}):
  wpAny (model prog w) A (do raiseNew (<-newExc (.type "StopIteration") [])) Q E s:=by
 erw[ae];simp only[newExc,newTuple];show ae (ik ?_ (by size_fits));show ae (m:=firstArgMember _ _) (wpAny_of_eq (a:=Value.none) (by first|rfl|(simp only[firstArgMember];rfl)) ?_);show ik ?_ (by size_fits);simp only[raiseNew];show ae (wpAny_handled ?_);rw[hh];show ae (aw (wpAny_throw ?_));show hE _ _ (λb o e=>aR _ (aR _ e)) (_,bR _ rfl,rfl)
def sx{Q:Option Value->Shared->Prop}(hI:s.heap.get? I=some (su first i S n ep))
  (h:wpAny (model prog w) A.in1 (Builtin.«set_iterator.__next__» ([.ref I],[])) (λfin s'=>∃v,fin=.done (.ret v)/\Q (some v) s') (λe s'=>(∃a o,e=.ref a/\s'.heap.get? a=some o/\o.cls=.type "StopIteration")/\Q none s') s):
  wpAny (model prog w) A (pyNext (.ref I)) Q E s:=by
 let hT:s.TypeIs (.ref I) "set_iterator":=(_,hI,rfl)
 unfold pyNext
 show ae (wpAny_attempt (oa (name:=Str.ofString "__next__") hT FF.slot_si_next
  (gZ FF.slot_si_next hT FF.entry_si_next (cR h (λfin s' (v,e,q)=>(v,e,aw q)) λe s' ((a,o,e1,ho,hc),q)=>?_) (FF.args_si_next _))))
 subst e1;show ae (uB (T:="StopIteration") (b:=true) (o,ho,hc) isSubtype_stop ?_);show aw q
end
section
variable{prog:Program}{w:World}{A:Around}{I S:Addr}{ep:Nat}{o:Obj}{es:Array (Int×Value)}{t:SetTable}
def DF(hh:A.handled=none)(hIS:S≠I)(hd:o.data=.set es ep t)(hf:t.fits es.size=true)(vs:T0)(hv:vs.length=es.size)(G:Nat->Nat->Prop)
  (hgo:∀(A':Around) (i slot:Nat) (s:Shared) (Q:Option (Value×Nat)->Shared->Prop) (E:Value->Shared->Prop) (v:Value),G i slot->s.heap.get? S=some o->vs[i]?=some v->(∀TM,G (i+1) TM->Q (some (v,TM,)) s)->wpAny (model prog w) A' (setNext S slot i ep) Q E s)
  (hend:∀(A':Around) (slot:Nat) (s:Shared) (Q:Option (Value×Nat)->Shared->Prop) (E:Value->Shared->Prop),G es.size slot->s.heap.get? S=some o->Q none s->wpAny (model prog w) A' (setNext S slot es.size ep) Q E s):
  Walks prog w A I [I,S] [I] es.size (λi v=>vs[i]?=some v) (λi h=>h.get? S=some o/\∃slot:Nat,G i slot/\h.get? I=some (su (rawInt slot) i S es.size ep)) where
 sub:=λb hb=>by simp at hb;simp[hb]
 frame:=λi h h' st k=>by
  let(h1,slot,g,h2):=st;show(k S ∅ o h1,slot,g,k I ∅ _ h2)
 item:=λi s Q E hi st hQ=>by
  let(h1,slot,g,h2):=st
  let hiv:i<vs.length:=()
  show sx h2 (DB h2 h1 hd hf rfl (hgo _ i slot s _ _ vs[i] g h1 (aK hiv) λTM g'=>?_));show ae (j6 h2 ∅ λh3 Xi Sr=>?_);show ae (j6 Xi ∅ λh4 h4I Uv=>?_);show aw (_,rfl,?_);show hQ _ h4 s.toks (aK hiv) (Uv.extBut _ _ hIS (Sr.extBut _ _ hIS h1),TM,g',?_) λb o' hb e=>?_
  .rw[h4I];rfl
  .let RW:b≠I:=by simpa using hb
   show Uv.extBut _ _ RW (Sr.extBut _ _ RW e)
 done:=λs Q E st hQ=>by
  let(h1,slot,g,h2):=st;show sx h2 (DB h2 h1 hd hf rfl (hend _ slot s _ _ g h1 ?_));show ae (j6 h2 ∅ λh3 Xi Sr=>?_)
  show DE (show A.in1.handled=none from hh) λh4 e k4 he=>(?_,hQ h4 s.toks λb o' hb q=>k4 _ _ (Sr.extBut _ _ (by simpa using hb) q))
  let(oe,q1,q2):=he;show(e,oe,rfl,q1,q2)
 self:=λi s Q E st hQ=>by
  let(h1,slot,g,h2):=st
  let hT:s.TypeIs (.ref I) "set_iterator":=(_,h2,rfl)
  show wpAny_pyIter_slot hT FF.slot_si_iter (gZ FF.slot_si_iter hT FF.entry_si_iter ?_ (FF.args_si_iter _))
  change wpAny _ _ (ret (.ref I)) _ _ s
  show aw (_,rfl,"set_iterator",_,hT,FF.slot_si_next.lookup,hQ)
end
abbrev jU(ps:List Nat):Obj:={cls:=.type "tuple",data:=.seq (ps.map λ(p:Nat)=>rawInt p).toArray}
section
variable{prog:Program}{w:World}{A:Around}{I S TT:Addr}{ep:Nat}{o:Obj}{es:Array (Int×Value)}{t:SetTable}
def JQ(hh:A.handled=none)(n1:S≠I)(n2:TT≠I)(hd:o.data=.set es ep t)(hf:t.fits es.size=true)(ps:List Nat)(VL:ps.Perm (List.range es.size))(vs:T0)
  (hvi:∀(i p:Nat),ps[i]?=some p->∃e,es[p]?=some e/\vs[i]?=some e.2):
  Walks prog w A I [I,S,TT] [I] es.size (λi v=>vs[i]?=some v) (λi h=>h.get? S=some o/\h.get? TT=some (jU ps)/\h.get? I=some (su (.ref TT) i S es.size ep)) where
 sub:=λb hb=>by simp at hb;simp[hb]
 frame:=λi h h' st k=>by
  let(h1,h0,h2):=st;show(k S ∅ o h1,k TT ∅ _ h0,k I ∅ _ h2)
 item:=λi s Q E hi st hQ=>by
  let(h1,h0,h2):=st
  let hpl:ps.length=es.size:=by rw[VL.length_eq,gL]
  let hip:i<ps.length:=()
  let(e,he,hve):=hvi i ps[i] (aK hip);erw[sx h2]
  change wpAny _ _ (fieldsOf (.ref I) >>=_) _ _ _
  show ae (wpAny_fieldsOf h2 rfl ?_)
  change wpAny _ _ (setEntries S >>=_) _ _ _
  unfold setEntries;show ae (ae (cO h1 hd hf (aw ?_)))
  let e0:((es.size:Int) !=(es.size:Int))=false:=∅
  change wpAny _ _ (if((es.size:Int) !=(es.size:Int))=true then _ else _) _ _ _
  rw[e0,aO cN]
  change wpAny _ _ (seqItems? (.ref TT) >>=_) _ _ _
  show ae (jE h0 rfl ?_)
  let e1:(ps.map λ(p:Nat)=>rawInt p).toArray[((i:Int)).toNat]?=some (rawInt ps[i]):=by simp[hip]
  dsimp only;rw[e1]
  change wpAny _ _ (setNextDrawn S ps[i] ep >>=_) _ _ _
  unfold setNextDrawn;show ae (ae (cO h1 hd hf ?_));dsimp only
  let e2:(ep !=ep)=false:=∅
  rw[e2,aO cN,he];erw[aw];show ae (j6 h2 ∅ λh3 Xi Sr=>?_);show aw (_,rfl,?_);show hQ _ h3 s.toks hve (Sr.extBut _ _ n1 h1,Sr.extBut _ _ n2 h0,?_) λb o' hb q=>Sr.extBut _ _ (by simpa using hb) q;rw[Xi];rfl
 done:=λs Q E st hQ=>by
  let(h1,h0,h2):=st
  let hpl:ps.length=es.size:=by rw[VL.length_eq,gL]
  erw[sx h2]
  change wpAny _ _ (fieldsOf (.ref I) >>=_) _ _ _
  show ae (wpAny_fieldsOf h2 rfl ?_)
  change wpAny _ _ (setEntries S >>=_) _ _ _
  unfold setEntries;show ae (ae (cO h1 hd hf (aw ?_)))
  let e0:((es.size:Int) !=(es.size:Int))=false:=∅
  change wpAny _ _ (if((es.size:Int) !=(es.size:Int))=true then _ else _) _ _ _
  rw[e0,aO cN]
  change wpAny _ _ (seqItems? (.ref TT) >>=_) _ _ _
  show ae (jE h0 rfl ?_)
  let e1:(ps.map λ(p:Nat)=>rawInt p).toArray[((es.size:Int)).toNat]?=none:=by simp[hpl]
  dsimp only;rw[e1];show ae (j6 h2 ∅ λh3 Xi Sr=>?_);show ae (j6 Xi ∅ λh4 h4I Uv=>?_)
  show DE (show A.in1.handled=none from hh) λh5 e k5 he=>(?_,hQ h5 s.toks λb o' hb q=>k5 _ _ (Uv.extBut _ _ (by simpa using hb) (Sr.extBut _ _ (by simpa using hb) q)))
  let(oe,q1,q2):=he;show(e,oe,rfl,q1,q2)
 self:=λi s Q E st hQ=>by
  let(h1,h0,h2):=st
  let hT:s.TypeIs (.ref I) "set_iterator":=(_,h2,rfl)
  show wpAny_pyIter_slot hT FF.slot_si_iter (gZ FF.slot_si_iter hT FF.entry_si_iter ?_ (FF.args_si_iter _))
  change wpAny _ _ (ret (.ref I)) _ _ s
  show aw (_,rfl,"set_iterator",_,hT,FF.slot_si_next.lookup,hQ)
end
theorem sy:∀{l:List (Int×Value)},(∀e∈l,gA e)->IntsAre (l.map (·.2)) (l.map bX)
 |[],_=>.nil
 |e::r,h=>by
  let(k,tok,rfl):=h e gK;show .cons k tok (sy λx hx=>h x (gW _ hx))
def JR(es:Array (Int×Value))(d:Int×Value):(List.range es.size).map (λp=>es.getD p d)=es.toList:=by
 apply List.ext_getElem
 .simp
 .ext i h1 h2
  let hi:i<es.size:=()
  simp[Array.getD,hi]
def JS{t:SetTable}{n:Nat}(h:t.fits n=true):t.place.size=n:=by
 simp only[SetTable.fits,gq,beq_iff_eq]at h;lia
section
variable{prog:Program}{w:World}{A:Around}{E:Value->Shared->Prop}{s:Shared}{S:Addr}{ks:LE}
def JT{Q:Value->Shared->Prop}(hS:aZ w s.heap S ks)
  (h:∀(I:Addr) (fp wr:Tk) (St:Nat->Heap->Prop) (vs:T0) (ns:LE) (h':Heap) (d':Drawn),(∀A':Around,A'.handled=none->Walks prog w A' I fp wr ks.length (λi v=>vs[i]?=some v) St)->St 0 h'->
   (∀b∈fp,b<h'.objs.size)->I∈fp->(∀b∈wr,s.heap.objs.size<=b)->(∀b∈fp,b=S\/s.heap.objs.size<=b)->IntsAre vs ns->ns.Perm ks->(∀b o,s.heap.get? b=some o->h'.get? b=some o)->Q (.ref I) {s with heap:=h',drawn:=d'}):
  wpAny (model prog w) A (pyIter (.ref S)) Q E s:=by
 let(o,es,ep,t,ho,cZ,hd,rfl,bH,c_,hb,hf,hr,hl):=hS
 let hT:s.TypeIs (.ref S) "set":=(o,ho,cZ.1)
 let Yk:S<s.heap.objs.size:=bw ho
 let hkl:(es.toList.map bX).length=es.size:=∅
 show wpAny_pyIter_slot hT PySem.F.slot_set_iter (gZ PySem.F.slot_set_iter hT FF.entry_set_iter ?_ (PySem.F.args_set_iter_1 _))
 change wpAny _ _ (Builtin.Frozenset.sizeOf S >>=_) _ _ _
 unfold Builtin.Frozenset.sizeOf setEntries;show ae (ae (ae (cO ho hd hf (aw (aw ?_)))));unfold setDrawn;show ae (ae (cO ho hd hf ?_));dsimp only;show ae (m9 (aw ?_))
 change wpAny _ _ (if(!bt w && (!t.plain && decide (es.size >1)))=true then _ else _) _ _ _
 let old:∀(x:Obj) b u,s.heap.get? b=some u->(s.heap.push x).get? b=some u:=λx b u e=>aR _ e;by_cases Uq:(!bt w && (!t.plain && decide (es.size >1)))=true
 .rw[bf Uq];show ae (Dy es.size (List.range es.size) _ _ ∅ λps d YM=>?_);show ae (wpAny_newTuple ?_ (by rw[au,YM.length_eq,gL];show lP ()));unfold setEpoch;show ae (ae (cO (s:={s with heap:=s.heap.push (jU ps),drawn:=d}) (old _ _ _ ho) hd hf (aw ?_)))
  change wpAny _ _ (do ret (<-newFields "set_iterator" [.ref s.heap.objs.size,rawInt 0,.ref S,rawInt es.size,rawInt ep])) _ _ {s with heap:=s.heap.push (jU ps),drawn:=d}
  show ae (ik (aw (_,rfl,"set_iterator",_,(_,bR _ rfl,rfl),FF.slot_si_next.lookup,?_)));let hz:(s.heap.push (jU ps)).objs.size=s.heap.objs.size+1:=eQ ..
  let n1:S≠(s.heap.push (jU ps)).objs.size:=⋯
  let n2:s.heap.objs.size≠(s.heap.push (jU ps)).objs.size:=()
  let pe:(ps.map λp=>es.getD p (0,.none,)).Perm es.toList:=by
   have:=YM.map λp=>es.getD p (0,Value.none,);rw[JR]at this;lia
  let plt:∀p∈ps,p<es.size:=λp hp=>by simpa using YM.mem_iff.mp hp
  let ke:(es.toList.map bX).length=es.size:=hkl;rw[ke]at h
  show h (s.heap.push (jU ps)).objs.size [(s.heap.push (jU ps)).objs.size,S,s.heap.objs.size] [(s.heap.push (jU ps)).objs.size] _ ((ps.map λp=>es.getD p (0,.none,)).map (·.2)) ((ps.map λp=>es.getD p (0,.none,)).map bX) _ d
   (λA' Yb=>JQ Yb n1 n2 hd hf ps YM _ λi p hp=>?_) (aR _ (old _ _ _ ho),aR _ (bR _ rfl),bR _ rfl) (λb hb=>?_) ∅ (λb hb=>?_) ⋯
   (sy λe he=>bH e (pe.mem_iff.mp he)) (pe.map _) (λb u e=>aR _ (aR _ e))
  .let RA:=plt p (dr hp);show(es[p],o9 RA,?_);rw[du,aH,hp];simp[Array.getD,RA]
  .rw[eQ,hz]
   grind
  .grind
 .rw[aO Uq];show ae (aw ?_);unfold setEpoch;show ae (ae (cO ho hd hf (aw ?_)))
  change wpAny _ _ (do ret (<-newFields "set_iterator" [rawInt 0,rawInt 0,.ref S,rawInt es.size,rawInt ep])) _ _ s
  show ae (ik (aw (_,rfl,"set_iterator",_,(_,bR _ rfl,rfl),FF.slot_si_next.lookup,?_)));let SQ:S≠s.heap.objs.size:=bW Yk
  let flt:∀(x:Obj),∀b∈[s.heap.objs.size,S],b<(s.heap.push x).objs.size:=λx b hb=>by
   rw[eQ]
   grind
  by_cases hbt:bt w=true
  .let pp:=DA (w.params.setOrder S ep) es
   let VL:(pickOrder (w.params.setOrder S ep) es).size=es.size:=by rw[<-gX,pp.length_eq,gX]
   let ke:(es.toList.map bX).length=es.size:=hkl;rw[ke]at h
   show h s.heap.objs.size [s.heap.objs.size,S] [s.heap.objs.size] _ ((pickOrder (w.params.setOrder S ep) es).toList.map (·.2)) ((pickOrder (w.params.setOrder S ep) es).toList.map bX) _ s.drawn
    (λA' Yb=>DF Yb SQ hd hf ((pickOrder (w.params.setOrder S ep) es).toList.map (·.2)) ⋯ (λ_ _=>True) (λA'' i slot s' Q' E' v _ RY hv hq=>DD RY hd hf hbt ?_) λA'' slot s' Q' E' _ RY hq=>DD RY hd hf hbt ?_)
    (old _ _ _ ho,0,trivial,bR _ rfl) (flt _) ∅ ∅ ∅ (sy λe he=>bH e (pp.mem_iff.mp he)) (pp.map _) (old _)
   .grind
   .grind
  .let Yj:bt w=false:=by cases q:bt w<;>simp_all
   let Td:t.led=true:=hl.resolve_right hbt
   let Yd:(!t.plain && decide (es.size >1))=false:=by
    grind
   let hpl:=JS hf;let ke:(es.toList.map bX).length=es.size:=hkl;rw[ke]at h
   show h s.heap.objs.size [s.heap.objs.size,S] [s.heap.objs.size] _ (es.toList.map (·.2)) (es.toList.map bX) _ s.drawn
    (λA' Yb=>DF Yb SQ hd hf (es.toList.map (·.2)) ∅ (λi slot=>SetTable.below t.place slot=i) (λA'' i slot s' Q' E' v hg RY hv hq=>DC RY hd hf Yj Yd Td ?_) λA'' slot s' Q' E' hg RY hq=>DC RY hd hf Yj Yd Td ?_)
    (old _ _ _ ho,0,JG hr,bR _ rfl) (flt _) ∅ ∅ ∅ (sy bH) (iP _) (old _)
   .rw[hg];rw[aH,Gw]at hv
    cases q:es[i]? with
    |none=>rw[q]at hv;cases hv
    |some e=>
     rw[q]at hv;cases hv
     let hi:i<t.place.size:=⋯
     rw[o9 hi];show hq _ (JH hr (o9 hi))
   .grind
end
namespace FF
def look_set_len:typeLookup (.type "set") "__len__"=pure (some (.builtin "set.__len__")):=by rw[typeLookup_type,Gs];kernel_rfl
end FF
section
variable{prog:Program}{w:World}{A:Around}{E:Value->Shared->Prop}{s:Shared}{S:Addr}{ks:LE}
def JU{Q:Bool->Shared->Prop}(hT:s.TypeIs (.ref S) "set")(h:Q false s):wpAny (model prog w) A (Builtin.List.listLengthHint (.ref S)) Q E s:=by
 unfold Builtin.List.listLengthHint;show ae (wpAny_specialOf hT FF.look_set_len ?_)
 (generalize hid:("set.__len__":String)=id0;(fail_if_success (clear hid id0));wp_delta;rw[show splitId id0=some ("set","__len__",)from by subst hid;decide+kernel];subst hid)
 show ae (uB (b:=true) hT sub_set_self ?_);simp only[Bool.not_true,Bool.false_eq_true,if_false];show ae (uG hT ?_);show aw h
def JV{Q:T0->Shared->Prop}(hh:A.handled=none)(hS:aZ w s.heap S ks)
  (h:∀(vs:T0) (ns:LE) (h':Heap) (d':Drawn) (tk:Nat),IntsAre vs ns->ns.Perm ks->(∀b o,s.heap.get? b=some o->h'.get? b=some o)->s.heap.objs.size<h'.objs.size->Q vs {s with heap:=h',drawn:=d',toks:=tk}):
  wpAny (model prog w) A (collect (.ref S)) Q E s:=by
 let Yk:=hS.lt
 let hkb:ks.length<=sizeLine:=by obtain⟨_,_,_,_,_,_,_,_,_,_,hb,_⟩:=hS;show lP hb
 unfold collect;show ae (wpAny_runValue (jC PySem.F.entry_proto_collect ?_));rw[lN PySem.F.plain_proto_collect _]
 change wpAny _ A.in1 (newList [] >>=λl=>again (.builtin "list.__iadd__" ([l,.ref S],[]))) _ _ s
 show ae (ik ?_);show aw (ou PySem.F.plain_list_iadd _,jC PySem.F.entry_list_iadd ?_);rw[lN PySem.F.plain_list_iadd _];generalize hh1:s.heap.push {cls:=.type "list",data:=.seq ([]:T0).toArray}=h1
 let z1:h1.objs.size=s.heap.objs.size+1:=by rw[<-hh1];show eQ ..
 let RN:∀b o,s.heap.get? b=some o->h1.get? b=some o:=λb o e=>by rw[<-hh1];show aR _ e
 let Yo:h1.get? s.heap.objs.size=some {cls:=.type "list",data:=.seq #[]}:=by rw[<-hh1];show bR _ rfl
 let Sz:aZ w h1 S ks:=hS.at λo e=>RN _ _ e
 let hT1:Shared.TypeIs {s with heap:=h1} (.ref S) "set":=by obtain⟨o,_,_,_,e,x,_⟩:=Sz;show(o,e,x.1)
 let SQ:(s.heap.objs.size==S)=false:=⋯
 let h0:Builtin.List.listSameRef (.ref s.heap.objs.size) (.ref S)=false:=SQ
 change wpAny _ A.in1 (Builtin.List.listExtendWith (.ref s.heap.objs.size) (.ref S) (.ref s.heap.objs.size)) _ _ _
 unfold Builtin.List.listExtendWith;show ae (uG hT1 ?_);rw[aO ⋯];show ae (JT Sz λI fp wr St vs ns h2 d2 W SY ft2 hI hw2 hf2 Vv Tc Xw=>?_);let Uh:aZ w h2 S ks:=Sz.at λo e=>Xw _ _ e
 let Ze:Shared.TypeIs {s with heap:=h2,drawn:=d2} (.ref S) "set":=by obtain⟨o,_,_,_,e,x,_⟩:=Uh;show(o,e,x.1)
 let VW:=Xw _ _ Yo;show ae (dA (JU Ze ?_));rw[bf (by rfl)];show ae (ip ?_);unfold Builtin.List.listTouch;show ae (ae (listUpdate_at VW rfl ?_));let Zf:=qR VW (λxs:Array Value=>xs.push .none);erw[listUpdate_at Zf rfl];let hL4:=qR Zf (λxs:Array Value=>xs.pop)
 let hLf:s.heap.objs.size∉fp:=λhm=>by
  grind
 let W':=(W A.in1 (show A.in1.handled=none from hh)).toS
 let up:∀b∈fp,∀o,h2.get? b=some o->((h2.update s.heap.objs.size (Obj.mapSeq λxs:Array Value=>xs.push .none)).update s.heap.objs.size (Obj.mapSeq λxs:Array Value=>xs.pop)).get? b=some o:=λb hb o e=>by
  let RW:s.heap.objs.size≠b:=λz=>hLf ⋯;rw[ky _ _ RW,ky _ _ RW];show e
 let st4:=(W A.in1 (show A.in1.handled=none from hh)).frame 0 _ _ SY up;show aw (ou PySem.F.plain_extend_loop _,codeAny_extend_loopS W' hkb s.heap.objs.size hLf _ ks.length 0 _ _ _ rfl (cm _) st4 hL4 (ItemsOf.nil _) λs' VB c' hm RY SU=>?_)
 change wpAny _ A (load s.heap.objs.size >>=_) _ _ s'
 show ae (wpAny_load RY (aw ?_));let(h5,g5,d5,t5,o5):=s';obtain rfl:g5=s.gens:=hm.gens;obtain rfl:d5=d2:=hm.drawn;obtain rfl:o5=s.os:=hm.os
 let ev:VB.toList=vs:=by
  let Y4:vs.length=ks.length:=by rw[lQ Vv,Tc.length_eq]
  apply List.ext_getElem?;ext i;rw[Gw]
  cases q:VB[i]? with
  |some v=>show(SU.2 i v q).symm
  |none=>
   have:VB.size<=i:=⋯
   rw[gp (by have:=SU.1;lia)]
 change Q VB.toList _
 rw[ev];show h vs ns h5 d5 t5 Vv Tc (λb o e=>?_) (bw RY);let hbL:b≠s.heap.objs.size:=bW (bw e);erw[hm.heap b o (λz=>?_)]
 .rcases cb.mp z with z|z
  .grind
  .have:=hw2 b z;rw[show Shared.heap {s with heap:=h1}=h1 from rfl,z1]at this;show absurd (bw e) (Nat.not_lt.mpr (Nat.le_of_succ_le this))
 .change((h2.update _ _).update _ _).get? b=some o
  rw[ky _ _ (Ne.symm hbL),ky _ _ (Ne.symm hbL)]
  grind
end
section
variable{prog:Program}{w:World}{A:Around}{E:Value->Shared->Prop}{s:Shared}{S:Addr}{ks:LE}
def JW{Q:Value->Shared->Prop}(hh:A.handled=none)(hS:aZ w s.heap S ks)(Xh:ks.length<64)
  (h:∀(L:Addr) (n:Nat) (SD:Array Value) (ns:LE) (h':Heap) (d':Drawn) (tk:Nat),IntsAre SD.toList ns->ns.Perm ks->ns.Pairwise (· <= ·)->h'.get? L=some (seqObj "list" SD n)->s.heap.objs.size<=L->
   (∀b o,s.heap.get? b=some o->h'.get? b=some o)->Q (.ref L) {s with heap:=h',drawn:=d',toks:=tk}):
  wpAny (model prog w) A (call (.builtin "sorted") [.ref S]) Q E s:=by
 erw[Calls.call_function_entry kind_sorted plain_sorted entry_sorted (args_sorted1 _)];unfold Builtin.«sorted»;show ae (m:=checkCount "sorted" 1 1 _) (aw ?_);show ae (JV hh hS λvs ns h2 d2 t2 hi hp old RA=>?_)
 let Y4:vs.length<64:=by rw[lQ hi,hp.length_eq];show Xh
 show ae (wpAny_newList ?_ (by rw[iQ];lia));let Vq:(h2.push (seqObj "list" vs.toArray 0)).get? h2.objs.size=some (seqObj "list" vs.toArray 0):=bR _ rfl
 change wpAny _ _ _ _ _ {s with heap:=h2.push (seqObj "list" vs.toArray 0),drawn:=d2,toks:=t2}
 show ae (dA (gZ slot_list_sort (_,Vq,rfl) entry_list_sort (list_sort_tree Vq hi Y4 λSD Tj a1 a2 a3=>(_,rfl,?_)) (args_list_sort _)));let hz:s.heap.objs.size<=h2.objs.size:=j9 RA
 let keep:∀b o,s.heap.get? b=some o->(sortedHeap (h2.push (seqObj "list" vs.toArray 0)) h2.objs.size vs SD).get? b=some o:=λb o e=>by
  let e2:=old b o e;let hb:b<h2.objs.size:=bw e2;unfold sortedHeap;rw[ky _ _ (fY hb)];show aR _ (aR _ ?_);rw[ky _ _ (fY hb)];show aR _ e2
 let Vf:=qR Vq (λ_=>(#[]:Array Value));let ho3:=qR (aR (seqObj "list" #[] 0) (aR (seqObj "tuple" vs.toArray 0) Vf)) (λ_=>SD);show aw (_,rfl,h h2.objs.size _ SD Tj _ d2 t2 a1 (a2.trans hp) a3 ho3 hz keep)
def JX{Q:Value->Shared->Prop}(hS:aZ w s.heap S ks)(h:∀tk Xm,Q (.int ks.length tk) {s with toks:=Xm}):
  wpAny (model prog w) A (call (.builtin "len") [.ref S]) Q E s:=by
 let(o,es,ep,t,ho,cZ,hd,rfl,bH,c_,hb,hf,hr,hl):=hS
 let RW:es.size<4096:=by simpa[scanBound]using hb
 erw[call_len_set ho cZ hd hf ()]
 grind
end
section
variable{prog:Program}{w:World}{A:Around}{E:Value->Shared->Prop}{s:Shared}
def DG{a:Addr}{ks:LE}{k:Int}{tok:Tok}{Q:Option Nat->Shared->Prop}(hS:aZ w s.heap a ks)(h:∀r:Option Nat,r.isSome=decide (k∈ks)->Q r s):
  wpAny (model prog w) A (setFind a (.int k tok) (hashInt k)) Q E s:=by
 let(o,es,ep,t,ho,cZ,hd,rfl,bH,c_,hb,hf,hr,hl):=hS
 let TY:es.size<scanBound:=by simpa using hb
 let Te:ElemsOf (intKind prog w) es.toList:=vT bH;unfold setFind setFindIn;show ae (cO ho hd hf ?_);dsimp only;rw[byScan_of (knd:=intKind prog w) rfl TY Te];simp only[↓reduceIte];show ae (ip ?_);show ae (wpAny_setScan_of (knd:=intKind prog w) (k:=k) (r8 _ _ _ _) ho hd hf Te ?_)
 cases hq:List.findIdx? (λe=>(intKind prog w).is k e.2) es.toList with
 |none=>
  let Sv:k∉es.toList.map bX:=(find_none (prog:=prog) (w:=w) bH).mp hq;show aw (h none (by rw[cW Sv];rfl))
 |some j=>
  let Sv:k∈es.toList.map bX:=by
   rcases Classical.em (k∈es.toList.map bX)with z|z
   .show z
   .rw[(find_none (prog:=prog) (w:=w) bH).mpr z]at hq;cases hq
  show aw (h (some (0+j)) (by rw[cY Sv];rfl))
def DH{Q:Bool->Shared->Prop}{l:Tk}(hl:∀a∈l,∃ks,aZ w s.heap a ks)(h:Q true s):wpAny (model prog w) A (setsQuiet l) Q E s:=by
 unfold setsQuiet;show ae (cR (wpAny_forIn_list _ (λrest b s'=>s'=s/\b=(none,⟨⟩,)/\∀a∈rest,∃ks,aZ w s.heap a ks) (λb s'=>s'=s/\b=(none,⟨⟩,)) ?_ ?_ _ _ (rfl,rfl,hl)) ?_ λ_ _ z=>z)
 .ext a rest b s' ⟨rfl,rfl,hm⟩;let(ks,o,es,ep,t,ho,cZ,hd,rfl,bH,c_,hb,hf,hr,hl):=hm a (gK ..);unfold setEntries;show ae (ae (cO ho hd hf (aw ?_)));show ae (cR (wpAny_forIn_array' _ (λrest b Rk=>Rk=s'/\b=(none,⟨⟩,)/\∀e∈rest,gA e) (λb Rk=>Rk=s'/\b=(none,⟨⟩,)) ?_ ?_ _ _ (rfl,rfl,bH)) ?_ λ_ _ z=>z)
  .ext e ja0 b Rk ⟨rfl,rfl,UO⟩;let(k,tok,rfl):=UO e (gK ..);show aw (rfl,rfl,λx hx=>UO x (gW _ hx))
  .grind
  .ext b Rk ⟨rfl,rfl⟩;show aw (rfl,rfl,λx hx=>hm x (gW _ hx))
 .grind
 .ext b s' ⟨rfl,rfl⟩;show aw h
end
section
variable{prog:Program}{w:World}{A:Around}{E:Value->Shared->Prop}{s:Shared}
def DI{a:Addr}{ks:LE}{Q:Array (Int×Value)->Shared->Prop}{o:Obj}{es:Array (Int×Value)}{ep:Nat}{t:SetTable}(ho:s.heap.get? a=some o)(hd:o.data=.set es ep t)(hf:t.fits es.size=true)
  (hl:t.led=true\/bt w=true) (hp:(bt w||(t.led && t.plain)||decide (es.size<=1))=true) (h:∀es':Array (Int×Value),es'.toList.Perm es.toList->Q es' s):
  wpAny (model prog w) A (setWalk a) Q E s:=by
 unfold setWalk;show ae (cO ho hd hf ?_);dsimp only;show ae (m9 ?_);by_cases hb:bt w=true
 .rw[hb,bf rfl];show ae (om ?_);show aw (h _ (DA _ _))
 .rw[aO hb];let Td:t.led=true:=hl.resolve_right hb
  let Yj:bt w=false:=⋯
  let e:(!t.plain && decide (es.size >1))=false:=by
   grind
  erw[gr];rw[aO (by change ¬((!t.plain && decide (es.size >1))=true);rw[e];decide)]
  change wpAny _ _ (do(if(!t.led && decide (es.size >1))=true then unsupported "set:maker-not-led" else pure PUnit.unit);pure es) _ _ _
  rw[Td];erw[ae];rw[aO ∅];show aw (aw (h es (iP _)))
def DJ{a f:Addr}{ks kf:LE}{Ss:Tk}{Q:Array (Int×Value)->Shared->Prop}(hS:aZ w s.heap a ks)(hF:aZ w s.heap f kf)(hq:∀b∈Ss,∃k,aZ w s.heap b k)
  (h:∀(es:Array (Int×Value)) (h':Heap),(∀e∈es.toList,gA e)->(es.toList.map bX).Perm ks->Heap.SameBut f s.heap h'->aZ w h' f kf->Q es {s with heap:=h'}):
  wpAny (model prog w) A (setWalkUnseen a Ss (some f)) Q E s:=by
 let hSq:∃k,aZ w s.heap a k:=(_,hS)
 let(o,es,ep,t,ho,cZ,hd,rfl,bH,c_,hb,hf,hr,hl):=hS
 let e0:s={s with heap:=s.heap}:=by cases s;rfl
 unfold setWalkUnseen;show ae (cO ho hd hf ?_);dsimp only;show ae (m9 ?_);by_cases hp:(bt w||(t.led && t.plain)||decide (es.size<=1))=true
 .rw[bf hp];show(DI (ks:=[]) ho hd hf hl hp λes' pe=>?_);rw[e0];show h es' s.heap (λe he=>bH e (pe.mem_iff.mp he)) (pe.map _) (jB _ _) hF
 .rw[aO hp];show ae (DH (λb hb=>?_) ?_)
  .rcases cb.mp hb with z|z
   .rw[z];show hSq
   .show hq b z
  erw[gr];rw[aO (by decide)];show ae (ip ?_)
  let Yj:bt w=false:=by simp at hp;show hp.1.1
  let Td:t.led=true:=hl.resolve_right (by rw[Yj];decide);let hF':=hF;let(of,ef,epf,tf,hof,jb_,Vy,Y9,jc2,jb0,Vz,hff,hrf,hlf):=hF;show ae (cO hof Vy hff ?_);dsimp only;erw[gr];split
  .show ae (og hof Vy ?_ (lP (by rw[<-Y9]at Vz;simpa using Vz)))
   let(_,Sz):=vV (w:=w) hof jb_ Vy (es':=ef) (t':={tf with led:=tf.led && t.led,plain:=tf.plain && t.plain}) jc2 (by rw[Y9];show jb0) (by rw[<-Y9]at Vz;simpa using Vz) hff hrf (by
    change(tf.led && t.led)=true\/_
    rw[Td];rcases hlf with z|z
    .left;rw[z];rfl
    .right;show z)
   rw[Y9]at Sz;show aw (h es _ bH (iP _) (lO _ _ _) Sz)
  .show ae (aw ?_);erw[aw];rw[e0];show h es s.heap bH (iP _) (jB _ _) hF'
def JY{a:Addr}{ks:LE}{Ss:Tk}{Q:Array (Int×Value)->Shared->Prop}(hS:aZ w s.heap a ks)(hq:∀b∈Ss,∃k,aZ w s.heap b k)
  (h:∀(es:Array (Int×Value)),(∀e∈es.toList,gA e)->(es.toList.map bX).Perm ks->Q es s):
  wpAny (model prog w) A (setWalkUnseen a Ss none) Q E s:=by
 let hSq:∃k,aZ w s.heap a k:=(_,hS)
 let(o,es,ep,t,ho,cZ,hd,rfl,bH,c_,hb,hf,hr,hl):=hS;unfold setWalkUnseen;show ae (cO ho hd hf ?_);dsimp only;show ae (m9 ?_);by_cases hp:(bt w||(t.led && t.plain)||decide (es.size<=1))=true
 .rw[bf hp];show(DI (ks:=[]) ho hd hf hl hp λes' pe=>(h es' (λe he=>bH e (pe.mem_iff.mp he)) (pe.map _)))
 .rw[aO hp];show ae (DH (λb hb=>?_) ?_)
  .grind
  erw[gr];rw[aO (by decide)];show ae (ip ?_);show aw (h es bH (iP _))
end
namespace FF
def entry_set_and:entryFor table "set.__and__"=some Builtin.«frozenset.__and__»:=
 AD (id':="frozenset.__and__") (by kernel_rfl) rfl (by decide+kernel) (by kernel_rfl)
def entry_set_sub:entryFor table "set.__sub__"=some Builtin.«frozenset.__sub__»:=
 AD (id':="frozenset.__sub__") (by kernel_rfl) rfl (by decide+kernel) (by kernel_rfl)
end FF
section
variable{prog:Program}{w:World}{A:Around}{E:Value->Shared->Prop}{s:Shared}
def ma{a:Addr}{Q:Bool->Shared->Prop}(hT:s.TypeIs (.ref a) "set")(h:Q true s):wpAny (model prog w) A (Builtin.Frozenset.isAnySet (.ref a)) Q E s:=by
 unfold Builtin.Frozenset.isAnySet
 change wpAny _ _ (isInstance (.ref a) (.type "set") >>=_) _ _ _
 show ae (uB (b:=true) hT sub_set_self ?_);show aw h
def ng{a:Addr}{ks:LE}{Q:Nat->Shared->Prop}(hS:aZ w s.heap a ks)(h:Q ks.length s):wpAny (model prog w) A (Builtin.Frozenset.sizeOf a) Q E s:=by
 let(o,es,ep,t,ho,cZ,hd,rfl,bH,c_,hb,hf,hr,hl):=hS;unfold Builtin.Frozenset.sizeOf setEntries;show ae (ae (cO ho hd hf (aw (aw ?_))))
 grind
def vW{a:Addr}{Q:Value->Shared->Prop}(hT:s.TypeIs (.ref a) "set")(h:Q (.type "set") s):wpAny (model prog w) A (Builtin.Frozenset.baseOf a) Q E s:=by
 unfold Builtin.Frozenset.baseOf;show ae (uB (b:=true) hT sub_set_self ?_);show aw h
def aZ.type{h:Heap}{a:Addr}{ks:LE}(g:aZ w h a ks){s':Shared}(e:s'.heap=h):s'.TypeIs (.ref a) "set":=by
 let(o,_,_,_,ho,x,_):=g;show(o,by rw[e];show ho,x.1)
theorem vX{r:Addr}{p:Int->Bool}{f:Int×Value->PUnit->Sem (ForInStep PUnit)}{h0:Heap}{n:Nat}(hn:n<scanBound)
  (turn:∀(k:Int) (tok:Tok) (kr:LE) (s':Shared) (R:ForInStep PUnit->Shared->Prop),Heap.SameBut r h0 s'.heap->aZ w s'.heap r kr->kr.length+1<scanBound->
   (∀h' SZ,Heap.SameBut r s'.heap h'->aZ w h' r SZ->SZ.Perm (if p k then(if k∈kr then kr else k::kr)else kr)->R (.yield ⟨⟩) {s' with heap:=h'})->wpAny (model prog w) A (f (hashInt k,.int k tok,) ⟨⟩) R E s'):
  ∀(es:List (Int×Value)) (kr:LE) (s':Shared) (Q:PUnit->Shared->Prop),(∀e∈es,gA e)->Heap.SameBut r h0 s'.heap->aZ w s'.heap r kr->kr.length+es.length<=n->
   (∀h' SZ,Heap.SameBut r h0 h'->aZ w h' r SZ->(∀x,x∈SZ↔x∈kr\/(x∈es.map bX/\p x=true))->Q ⟨⟩ {s' with heap:=h'})->wpAny (model prog w) A (forIn es ⟨⟩ f) Q E s'
 |[],kr,s',Q,bH,hb,hS,bP,h=>by
  let e0:s'={s' with heap:=s'.heap}:=⋯
  rw[AF];erw[aw];rw[e0]
  show h _ kr hb hS λx=>∅
 |e::rest,kr,s',Q,bH,hb,hS,bP,h=>by
  let(k,tok,rfl):=bH e (gK ..);rw[uD];simp only[kC]at bP;show ae (turn k tok kr s' _ hb hS () λh' SZ sb g pm=>?_)
  let hl:SZ.length<=kr.length+1:=by
   rw[pm.length_eq];split
   .grind
   .lia
  show vX hn turn rest SZ {s' with heap:=h'} Q (λe he=>bH e (gW _ he)) (hb.trans sb) g () λh2 ZW RK g2 m2=>?_;show h h2 ZW RK g2 λx=>?_;rw[m2,pm.mem_iff,cQ,cb];let ek:bX (hashInt k,Value.int k tok,)=k:=rfl
  grind
def pB{a:Addr}{o:Obj}{es:Array (Int×Value)}{ep:Nat}{t:SetTable}{id:String}{Q:Unit->Shared->Prop}(ho:s.heap.get? a=some o)(hd:o.data=.set es ep t)(hf:t.fits es.size=true)(h:Q ⟨⟩ s):
  wpAny (model prog w) A (Builtin.Frozenset.unchanged id a ep) Q E s:=by
 unfold Builtin.Frozenset.unchanged setEpoch;show ae (ae (cO ho hd hf (aw ?_)));erw[gr];rw[aO ∅];show aw h
end
section
variable{prog:Program}{w:World}{A:Around}{E:Value->Shared->Prop}{s:Shared}
def DK{a b:Addr}(h:a≠b):(Value.ref b==Value.ref a)=false:=by
 grind
def JZ{a b:Addr}{ka kb:LE}{id:String}{Q:Value->Shared->Prop}(hA:aZ w s.heap a ka)(hB:aZ w s.heap b kb)(SM:a≠b)
  (h:∀h' kr,aZ w h' s.heap.objs.size kr->(∀x,x∈kr↔x∈ka/\x∈kb)->h'.objs.size=s.heap.objs.size+1->(∀c o,s.heap.get? c=some o->h'.get? c=some o)->Q (.ref s.heap.objs.size) {s with heap:=h'}):
  wpAny (model prog w) A (Builtin.Frozenset.intersection id a (.ref b)) Q E s:=by
 unfold Builtin.Frozenset.intersection;erw[gr];rw[aO (by rw[DK SM];decide)];show ae (vW (hA.type rfl) ?_);show ae (Dv λh1 hR Vo RN=>?_);show ae (aw ?_);let Vh:aZ w h1 a ka:=hA.at λo e=>RN _ _ e;let Xg:aZ w h1 b kb:=hB.at λo e=>RN _ _ e;show ae (dA ?_);show ae (ma (Xg.type rfl) ?_);rw[bf rfl];show ae (aw ?_);show ae (ng Xg ?_);show ae (ng Vh ?_);let W3:s.heap.objs.size≠a:=fY hA.lt;let Ve:s.heap.objs.size≠b:=fY hB.lt
 let main:∀(SC Rz:Addr) (kq kw:LE),aZ w h1 SC kq->aZ w h1 Rz kw->s.heap.objs.size≠SC->s.heap.objs.size≠Rz->(∀x,x∈kw/\x∈kq↔x∈ka/\x∈kb)->
   wpAny (model prog w) A (do
    let was<-setEpoch Rz
    for (h,x,)in<-setWalkUnseen Rz [SC,s.heap.objs.size] (some s.heap.objs.size) do
     holding [x] do
      if(<-setFind SC x h).isSome then
       let _<-setAddHashed s.heap.objs.size x h
     Builtin.Frozenset.unchanged id Rz was) (λ_ s'=>wpAny (model prog w) A (pure (Value.ref s.heap.objs.size)) Q E s') E {s with heap:=h1}:=λSC Rz kq kw hq hw nq nw hm=>by
  let hw':=hw;let(ow,WN,epw,tw,XY,jb8,Wz,rfl,jb',ja9,hbw,Ww,hrw,hlw):=hw;unfold setEpoch;show ae (ae (cO XY Wz Ww (aw ?_)));show ae (DJ hw' hR (λc hc=>?_) λes h2 bH pm RK Xd=>?_)
  .simp only[cb,bF,cS]at hc
   rcases hc with rfl|rfl
   .show(_,hq)
   .show(_,hR)
  let UL:aZ w h2 SC kq:=hq.at λo e=>by rw[RK.2 _ (Ne.symm nq)];show e
  let Wn:h2.get? Rz=some ow:=by rw[RK.2 _ (Ne.symm nw)];show XY
  let bP:es.toList.length=WN.size:=by
   have:=pm.length_eq;simpa using this
  let WC:WN.size<scanBound:=by simpa using hbw
  rw[<-GC];show ae (vX (p:=λx=>decide (x∈kq)) (h0:=h2) (n:=WN.size) WC (λk tok kr s' R sb hS hb Xe=>?_) es.toList [] {s with heap:=h2} _ bH (jB _ _) Xd (by simp[<-bP]) λh3 kr Sr g3 m3=>?_)
  .let hqs:aZ w s'.heap SC kq:=UL.at λo e=>by rw[sb.2 _ (Ne.symm nq)];show e
   let UM:s'.heap.get? Rz=some ow:=by rw[sb.2 _ (Ne.symm nw)];show Wn
   let e0:s'={s' with heap:=s'.heap}:=by cases s';rfl
   show ae (dA (ae (DG hqs λr hr=>?_)));erw[gr];rw[hr];by_cases Sv:k∈kq
   .rw[bf (cY Sv)];show ae (sr hS hb λh4 kr4 Uv g4 p4=>aw ?_);show ae (pB (s:={s' with heap:=h4}) (by change h4.get? Rz=_;rw[Uv.2 _ (Ne.symm nw)];show UM) Wz Ww (aw ?_));erw[Xe h4 kr4 Uv g4];rw[bf (cY Sv)];show p4
   .rw[aO (by rw[cW Sv];decide)];erw[aw];show ae (pB UM Wz Ww (aw ?_));rw[e0];erw[Xe s'.heap kr (jB _ _) hS];rw[aO (by rw[cW Sv];decide)]
  .show aw (aw (h h3 kr g3 (λx=>?_) ?_ λc o e=>?_))
   .rw[m3,pm.mem_iff,<-hm x];simp
   .rw[Sr.1,RK.1,Vo]
   .let hc:c≠s.heap.objs.size:=bW (bw e);rw[Sr.2 _ hc,RK.2 _ hc];show RN _ _ e
 by_cases Wv:kb.length >ka.length
 .rw[bf Wv];show main b a kb ka Xg Vh Ve W3 λx=>Iff.rfl
 .rw[aO Wv]
  show main a b ka kb Vh Xg W3 Ve λx=>(λz=>(z.2,z.1),λz=>(z.2,z.1))
def J_{a b:Addr}{ka kb:LE}{Q:Value->Shared->Prop}(hA:aZ w s.heap a ka)(hB:aZ w s.heap b kb)(SM:a≠b)
  (h:∀h' kr,aZ w h' s.heap.objs.size kr->(∀x,x∈kr↔x∈ka/\x∈kb)->h'.objs.size=s.heap.objs.size+1->(∀c o,s.heap.get? c=some o->h'.get? c=some o)->Q (.ref s.heap.objs.size) {s with heap:=h'}):
  wpAny (model prog w) A (binaryOp .BitAnd (.ref a) (.ref b)) Q E s:=by
 show wpAny_binaryOp_same (T:="set") (hA.type rfl) (hB.type rfl) PySem.F.fills_set_and PySem.F.slot_set_and (gZ PySem.F.slot_set_and (hA.type rfl) FF.entry_set_and ?_ (PySem.F.args_set_and_2 _ _))
 change wpAny _ _ (do
  if !(<-(Builtin.Frozenset.isAnySet (.ref a)<&&>Builtin.Frozenset.isAnySet (.ref b)))then rule "frozenset.__and__.declined";return<-ret .notImplemented
  ret (<-Builtin.Frozenset.intersection "frozenset.__and__" (<-Builtin.Frozenset.addrOf (.ref a)) (.ref b))) _ _ _
 show ae (ae (ma (hA.type rfl) (ma (hB.type rfl) ?_)));erw[gr];rw[aO (by decide)];show ae (aw ?_);show ae (JZ hA hB SM λh' kr g m z old=>?_);show aw (_,rfl,(∅,h h' kr g m z old))
end
noncomputable def lg(mask i:Nat):Nat:=(i*5+1) % (mask+1)
noncomputable def lit(mask:Nat):Nat->Nat->Nat
 |0,i=>i
 |t+1,i=>lit mask t (lg mask i)
noncomputable def pD(mask:Nat):Nat->Nat->Nat->Nat
 |0,_,Rm=>Rm
 |n+1,i,Rm=>pD mask n (lg mask i) (Rm|||(1<<<i))
theorem DL(mask j:Nat):∀(n i Rm:Nat),(pD mask n i Rm).testBit j=true->Rm.testBit j=true\/∃t,t<n/\lit mask t i=j
 |0,i,Rm,h=>.inl h
 |n+1,i,Rm,h=>by
  rcases DL mask j n (lg mask i) _ h with z|⟨t,ht,e⟩
  .rw[Nat.testBit_or,Bool.or_eq_true]at z
   rcases z with z|z
   .show .inl z
   .right;show(0,Nat.succ_pos _,?_);rw[Nat.testBit_shiftLeft,gq,kB]at z;let(z1,z2):=z
    have:j - i=0:=by
     rcases GB (j - i)with q|q
     .show q
     .exfalso;let z3:=Nat.ge_two_pow_of_testBit z2;have:2 ^ 1<=2 ^ (j - i):=Nat.pow_le_pow_right (by decide) q;lia
    change i=j
    lia
  .show .inr (t+1,Nat.succ_lt_succ ht,e)
def iD(mask:Nat):Prop:=∀i j,i<=mask->j<=mask->∃t,t<=mask/\lit mask t i=j
def nh{mask:Nat}(h:((List.range (mask+1)).all λi=>pD mask (mask+1) i 0==2 ^ (mask+1) - 1)=true):iD mask:=λi j hi hj=>by
 let e:=Aj.mp h i (QU.mpr (Nat.lt_succ_of_le hi))
 let e':pD mask (mask+1) i 0=2 ^ (mask+1) - 1:=by simpa using e
 let hb:(pD mask (mask+1) i 0).testBit j=true:=by
  rw[e',Nat.testBit_two_pow_sub_one];show cY (Nat.lt_succ_of_le hj)
 rcases DL mask j _ _ _ hb with z|⟨t,ht,e⟩
 .simp at z
 .show(t,Nat.le_of_lt_succ ht,e)
def DM:iD 7:=nh (by decide+kernel)
def J':iD 15:=nh (by decide+kernel)
def K0:iD 31:=nh (by decide+kernel)
def K1:iD 63:=nh (by decide+kernel)
def K2:iD 127:=nh (by decide+kernel)
def K4:iD 255:=nh (by decide+kernel)
def K5:((List.range 256).all λn=>[8,16,32,64,128,256].contains (SetTable.sizeAbove n) && decide (n<SetTable.sizeAbove n))=true:=by decide+kernel
def DN{n:Nat}(h:n<256):iD (SetTable.sizeAbove n - 1)/\n<=SetTable.sizeAbove n - 1/\SetTable.sizeAbove n<=256:=by
 let e:=Aj.mp K5 n (QU.mpr h);rw[gq,kB]at e;let(e1,e2):=e
 let e3:SetTable.sizeAbove n∈[8,16,32,64,128,256]:=by simpa using e1
 simp only[cb,bF,cS]at e3;show(?_,(),())
 rcases e3 with q|q|q|q|q|q<;>rw[q]
 .show DM
 .show J'
 .show K0
 .show K1
 .show K2
 .show K4
noncomputable def lp(mask:Nat):Nat->Nat×Nat->Nat×Nat
 |0,p=>p
 |t+1,p=>lp mask t (SetTable.leap mask p.1 p.2)
theorem DO(mask:Nat):∀(a b:Nat) (p:Nat×Nat),lp mask (a+b) p=lp mask b (lp mask a p)
 |0,b,p=>by rw[Nat.zero_add];rfl
 |a+1,b,p=>by rw[Nat.succ_add];show DO mask a b _
theorem DP(mask:Nat):∀(t:Nat) (p:Nat×Nat),(lp mask t p).2=p.2 / 32 ^ t
 |0,p=>by simp[lp]
 |t+1,p=>by
  change(lp mask t (SetTable.leap mask p.1 p.2)).2=_
  rw[DP mask t]
  change p.2 / 32 / 32 ^ t=_
  rw[Nat.div_div_eq_div_mul,Nat.pow_succ,Nat.mul_comm]
theorem DQ(mask:Nat):∀(t i:Nat),lp mask t (i,0,)=(lit mask t i,0,)
 |0,i=>rfl
 |t+1,i=>by
  change lp mask t (SetTable.leap mask i 0)=_
  let e:SetTable.leap mask i 0=(lg mask i,0,):=by simp[SetTable.leap,lg]
  rw[e];show DQ mask t (lg mask i)
theorem DR(mask:Nat):∀(t:Nat) (p:Nat×Nat),p.1<=mask->(lp mask t p).1<=mask
 |0,p,h=>h
 |t+1,p,h=>DR mask t _ (Nat.le_of_lt_succ (Nat.mod_lt _ (Nat.succ_pos _)))
theorem DS{mask:Nat}{owner:Array (Option Nat)}:∀(Rr i p:Nat),SetTable.layClean.free mask owner Rr i p=none->∀t,t<Rr->(owner.getD (lp mask t (i,p,)).1 (some 0)).isNone=false
 |0,i,p,h,t,ht=>absurd ht (iO _)
 |Rr+1,i,p,h,t,ht=>by
  unfold SetTable.layClean.free at h;split at h
  .cases h
  .rename_i hn
   cases t with
   |zero=>
    let hm:0∈List.range (SetTable.runEnd mask i+1 - i):=by
     rw[QU];unfold SetTable.runEnd;split<;>lia
    let q:=List.find?_eq_none.mp hn 0 hm
    change(owner.getD i (some 0)).isNone=false
    rw[Nat.add_zero]at q;show Bool.eq_false_iff.mpr q
   |succ t=>show DS Rr _ _ h t (Nat.lt_of_succ_lt_succ ht)
theorem DT{mask:Nat}{owner:Array (Option Nat)}:∀(Rr i p j:Nat),SetTable.layClean.free mask owner Rr i p=some j->(owner.getD j (some 0)).isNone=true
 |0,i,p,j,h=>by cases h
 |Rr+1,i,p,j,h=>by
  unfold SetTable.layClean.free at h;split at h
  .rename_i k hk;injection h with h;rw[<-h];show List.find?_some (p:=λk=>(owner.getD (i+k) (some 0)).isNone) hk
  .show DT Rr _ _ j h
def K7(h:Int):SetTable.bits h<2 ^ 64:=by
 unfold SetTable.bits;let h1:0<=h % (2 ^ 64:Int):=uE _ (by decide);let h2:h % (2 ^ 64:Int)<2 ^ 64:=As _ (by decide);lia
def K8{mask:Nat}(hc:iD mask){owner:Array (Option Nat)}(hz:owner.size=mask+1){q:Nat}(hq:owner[q]?=some none)(h:Int):
  ∃j,SetTable.layClean.free mask owner (SetTable.turns mask) (SetTable.bits h % (mask+1)) (SetTable.bits h)=some j/\owner[j]?=some none:=by
 cases e:SetTable.layClean.free mask owner (SetTable.turns mask) (SetTable.bits h % (mask+1)) (SetTable.bits h)with
 |some j=>
  show(j,rfl,?_);have:=DT _ _ _ _ e;rw[mG]at this
  cases z:owner[j]? with
  |none=>rw[z]at this;simp at this
  |some v=>rw[z]at this;cases v with
   |none=>rfl
   |some v=>simp at this
 |none=>
  exfalso
  let hqm:q<=mask:=by
   have:q<owner.size:=by
    apply Nat.lt_of_not_le;ext RV;rw[Array.getElem?_eq_none RV]at hq;cases hq
   lia
  let h0:SetTable.bits h % (mask+1)<=mask:=Nat.le_of_lt_succ (Nat.mod_lt _ (Nat.succ_pos _))
  let hp:(lp mask 13 (SetTable.bits h % (mask+1),SetTable.bits h,)).2=0:=by
   rw[DP];show Nat.div_eq_of_lt (cM (K7 h) (by decide))
  let hi:=DR mask 13 (SetTable.bits h % (mask+1),SetTable.bits h,) h0;let(t,ht,et):=hc _ q hi hqm;let f:=DS _ _ _ e (13+t) (by unfold SetTable.turns;lia);rw[DO,show lp mask 13 (SetTable.bits h % (mask+1),SetTable.bits h,)=((lp mask 13 (SetTable.bits h % (mask+1),SetTable.bits h,)).1,0,)from Prod.ext rfl hp,DQ,et,mG,hq]at f;simp at f
noncomputable def ji(m:Nat)(owner:Array (Option Nat)):List Nat:=(List.range m).filterMap λj=>owner.getD j none
theorem DU{f g:Nat->Option Nat}:∀{l:List Nat},(∀x∈l,g x=f x)->l.filterMap g=l.filterMap f
 |[],_=>rfl
 |x::r,h=>by
  let hx:=h x (gK ..);let ih:=DU λy hy=>h y (gW _ hy)
  cases e:f x with
  |none=>rw[um e,um (hx.trans e),ih]
  |some v=>rw[uk e,uk (hx.trans e),ih]
theorem DV{f g:Nat->Option Nat}{j k:Nat}(hj:f j=none)(gj:g j=some k)(hg:∀x,x≠j->g x=f x):∀l:List Nat,l.Nodup->j∈l->(l.filterMap g).Perm (k::l.filterMap f)
 |[],_,h=>by simp at h
 |x::r,hn,h=>by
  let(n1,n2):=fV.mp hn;by_cases e:x=j
  .subst e;rw[uk gj,um hj];have:r.filterMap g=r.filterMap f:=DU λy hy=>hg y λz=>n1 (z▸hy);rw[this]
  .let hr:j∈r:=(cb.mp h).resolve_left (λz=>e z.symm);let ih:=DV hj gj hg r n2 hr
   cases fx:f x with
   |none=>rw[um (by rw[hg x e,fx]),um fx];show ih
   |some v=>rw[uk (by rw[hg x e,fx]:g x=some v),uk fx];show(ih.cons v).trans (List.Perm.swap _ _ _)
theorem DW{mask:Nat}(hc:iD mask):∀(hs:LE) (owner:Array (Option Nat)) (k:Nat),owner.size=mask+1->(ji (mask+1) owner).Perm (List.range k)->k+hs.length<=mask->
  ∃Ts:Array (Option Nat),hs.foldl (λRm h=>do
   let(owner,k,)<-Rm
   let j<-SetTable.layClean.free mask owner (SetTable.turns mask) (SetTable.bits h % (mask+1)) (SetTable.bits h)
   pure (owner.setIfInBounds j (some k),k+1,)) (some (owner,k,))=some (Ts,k+hs.length,)/\Ts.size=mask+1/\(ji (mask+1) Ts).Perm (List.range (k+hs.length))
 |[],owner,k,hz,hv,hl=>(owner,rfl,hz,hv)
 |h::hs,owner,k,hz,hv,hl=>by
  simp only[kC]at hl
  let hq:∃q:Nat,owner[q]?=some none:=by
   apply Classical.byContradiction;ext X0
   let Sw:∀j∈List.range (mask+1),((owner.getD j none).isSome)=true:=λj hj=>by
    let SS:j<owner.size:=by rw[hz];show QU.mp hj
    rw[mG,o9 SS]
    cases z:owner[j]with
    |some v=>rfl
    |none=>show absurd (j,by rw[o9 SS,z]) X0
   let bP:(ji (mask+1) owner).length=mask+1:=by
    unfold ji;rw[List.filterMap_length_eq_length.mpr Sw,gL]
   rw[hv.length_eq,gL]at bP;lia
  let(q,hq):=hq;let(j,ej,hj):=K8 hc hz hq h
  let hjm:j<mask+1:=by
   rw[<-hz];apply Nat.lt_of_not_le;ext RV;rw[Array.getElem?_eq_none RV]at hj;cases hj
  let ja4:(ji (mask+1) (owner.setIfInBounds j (some k))).Perm (List.range (k+1)):=by
   let p:=DV (f:=λx=>owner.getD x none) (g:=λx=>(owner.setIfInBounds j (some k)).getD x none) (j:=j) (k:=k)
    (by change owner.getD j none=none;rw[mG,hj];rfl)
    (by change(owner.setIfInBounds j (some k)).getD j none=some k;rw[mG,Array.getElem?_setIfInBounds_self_of_lt (by rw[hz];show hjm)];rfl)
    (λx hx=>by change(owner.setIfInBounds j (some k)).getD x none=owner.getD x none;rw[mG,mG,Array.getElem?_setIfInBounds_ne (Ne.symm hx)])
    (List.range (mask+1)) List.nodup_range (QU.mpr hjm)
   show p.trans ((hv.cons k).trans ?_);rw[oq];show(List.perm_append_singleton k _).symm
  let(o',e1,e2,e3):=DW hc hs (owner.setIfInBounds j (some k)) (k+1) (by rw[Array.size_setIfInBounds,hz]) ja4 ();show(o',?_,e2,?_)
  .rw[List.foldl_cons]
   have:(do
     let(owner,k,)<-some (owner,k,)
     let j<-SetTable.layClean.free mask owner (SetTable.turns mask) (SetTable.bits h % (mask+1)) (SetTable.bits h)
     pure (owner.setIfInBounds j (some k),k+1,))=some (owner.setIfInBounds j (some k),k+1,):=by
    change((SetTable.layClean.free mask owner (SetTable.turns mask) (SetTable.bits h % (mask+1)) (SetTable.bits h)).bind λj=>some (owner.setIfInBounds j (some k),k+1,))=_
    rw[ej];rfl
   rw[this,e1];simp only[kC]
   congr 2;lia
  .simp only[kC];rw[show k+(hs.length+1)=k+1+hs.length by lia];show e3
def DX{mask finger moves:Nat}{led plain:Bool}{hs:Array Int}(hc:iD mask)(hl:hs.size<=mask):
  ∃t o,SetTable.laid mask finger moves led plain hs=some (t,o,)/\o.toList.Perm (List.range hs.size)/\t.fits hs.size=true/\t.mask=mask/\t.dummies= #[]:=by
 let(o',e1,e2,e3):=DW hc hs.toList (Array.replicate (mask+1) none) 0 ∅ (by
  have:ji (mask+1) (Array.replicate (mask+1) none)=[]:=by
   unfold ji;rw[List.filterMap_eq_nil_iff];ext j hj;rw[mG]
   cases z:(Array.replicate (mask+1) (none:Option Nat))[j]? with
   |none=>rfl
   |some v=>rw[Array.getElem?_replicate]at z;split at z<;>simp_all
  rw[this];simp) (by simpa using hl)
 let jd4:SetTable.layClean mask hs=some o':=by
  unfold SetTable.layClean;rw[<-Array.foldl_toList,e1];rfl
 let bP:((List.range (mask+1)).filterMap λj=>(o'.getD j none).map (j,·,)).map (·.2)=ji (mask+1) o':=by
  rw[List.map_filterMap];unfold ji
  congr 1
  funext j
  cases o'.getD j none<;>rfl
 let Yx:(ji (mask+1) o').Perm (List.range hs.size):=by simpa using e3
 show(_,_,by unfold SetTable.laid;rw[jd4];rfl,?_,?_,rfl,rfl)
 .change(List.map (λx:Nat×Nat=>x.2) ((List.range (mask+1)).filterMap λj=>(o'.getD j none).map (j,·,))).Perm _
  rw[bP];show Yx
 .unfold SetTable.fits SetTable.fill
  let Ro:((List.range (mask+1)).filterMap λj=>(o'.getD j none).map (j,·,)).length=hs.size:=by
   rw[<-au (f:=(·.2)),bP,Yx.length_eq,gL]
  simp only[fM,au,Ro];simpa using hl
def h_(w:World)(h:Heap)(a:Addr)(ks:LE)(o:Obj)(es:Array (Int×Value))(ep:Nat)(t:SetTable):Prop:=h.get? a=some o/\o.ExactSet/\o.data=.set es ep t/\
 es.toList.map bX=ks/\(∀e∈es.toList,gA e)/\ks.Nodup/\ks.length<scanBound/\t.fits es.size=true/\dX t.place/\(t.led=true\/bt w=true)
def h_.g{w:World}{h:Heap}{a:Addr}{ks:LE}{o:Obj}{es:Array (Int×Value)}{ep:Nat}{t:SetTable}(x:h_ w h a ks o es ep t):aZ w h a ks:=(o,es,ep,t,x)
section
variable{prog:Program}{w:World}{A:Around}{E:Value->Shared->Prop}{s:Shared}
def sF{h:Heap}{a:Addr}{o:Obj}{es:Array (Int×Value)}{ep:Nat}{t:SetTable}(ho:h.get? a=some o)(cZ:o.ExactSet)(hd:o.data=.set es ep t)
  {es':Array (Int×Value)} {t':SetTable} (bH:∀e∈es'.toList,gA e) (c_:(es'.toList.map bX).Nodup) (hb:es'.size<scanBound) (hf:t'.fits es'.size=true) (hr:dX t'.place) (hl:t'.led=true\/bt w=true):
  h_ w (h.update a (Obj.putSet es' t')) a (es'.toList.map bX) {o with data:=.set es' (ep+1) t'} es' (ep+1) t':=by
 let hg:(h.update a (Obj.putSet es' t')).get? a=some {o with data:=.set es' (ep+1) t'}:=by
  have:=An (Obj.putSet es' t') ho (by rw[putSet_of es' t' hd];rfl);rw[putSet_of es' t' hd]at this;show this
 show(hg,cZ,rfl,rfl,bH,c_,by simpa using hb,hf,hr,hl)
def DY{es:Array (Int×Value)}{o:Array Nat}(hp:o.toList.Perm (List.range es.size)):(o.filterMap (es[·]?)).toList.Perm es.toList:=by
 rw[Array.toList_filterMap];show(hp.filterMap _).trans (by rw[filterMap_getElem?_range])
def DZ{a:Addr}{ks:LE}{o:Obj}{es:Array (Int×Value)}{ep:Nat}{t:SetTable}{n:Nat}{Q:Unit->Shared->Prop}(hS:h_ w s.heap a ks o es ep t)(hn:n<256)(hk:es.size<=n)
  (h:∀h' RF o' es' t',Heap.SameBut a s.heap h'->h_ w h' a RF o' es' (ep+1) t'->RF.Perm ks->t'.dummies= #[]->t'.mask=SetTable.sizeAbove n - 1->es'.size=es.size->Q ⟨⟩ {s with heap:=h'}):
  wpAny (model prog w) A (setRelay a n) Q E s:=by
 let(ho,cZ,hd,rfl,bH,c_,hb,hf,hr,hl):=hS
 let TY:es.size<scanBound:=by simpa using hb
 let(hc,SR,WM):=DN hn;let(t',od,e,hp,Za,Sn,Ye):=DX (mask:=SetTable.sizeAbove n - 1) (finger:=t.finger) (moves:=t.movedTo (SetTable.sizeAbove n - 1)) (led:=t.led) (plain:=t.plain) (hs:=es.map (·.1)) hc (by rw[Array.size_map];lia);let(rr,rl):=vS e;rw[Array.size_map]at hp Za;unfold setRelay;show ae (cO ho hd hf ?_);dsimp only;erw[gr];rw[aO (by rw[iQ];lia)];let e':t.relaid (es.map (·.1)) n=some (t',od,):=e;rw[e'];let pe:=DY hp
 let hz:(od.filterMap (es[·]?)).size=es.size:=by rw[<-gX,pe.length_eq,gX]
 erw[ae]
 change wpAny _ _ (if((od.filterMap (es[·]?)).size !=es.size)=true then _ else pure (od.filterMap (es[·]?),t',)) _ _ _
 rw[aO (by rw[hz];simp)];erw[aw];dsimp only;show og ho hd ?_ (by rw[hz];show lP TY);let RY:=sF (w:=w) ho cZ hd (es':=od.filterMap (es[·]?)) (t':=t') (λx hx=>bH x (pe.mem_iff.mp hx)) ((pe.map _).nodup_iff.mpr c_) (by rw[hz];show TY) (by rw[hz];show Za) rr (by rw[rl];show hl);show h _ _ _ _ _ (lO _ _ _) RY (pe.map _) Ye Sn hz
def K9{Q:Value->Shared->Prop}(h:∀h' o,h_ w h' s.heap.objs.size [] o #[] 0 (.fresh 0 0 (!bt w))->h'.objs.size=s.heap.objs.size+1->(∀b o,s.heap.get? b=some o->h'.get? b=some o)->Q (.ref s.heap.objs.size) {s with heap:=h'}):
  wpAny (model prog w) A (newSet (.type "set")) Q E s:=by
 unfold newSet setsByText;show ae (ae (om (aw ?_)));dsimp only;simp only[newObj];show ae (wpAny_alloc (aw (h _ _ (bR _ rfl,(rfl,rfl,rfl),rfl,rfl,λe he=>by simp at he,qS,by decide,by rfl,List.Pairwise.nil,?_) (eQ ..) λb o e=>aR _ e)))
 change(!w.params.followText "set-order")=true\/bt w=true
 unfold bt
 grind
def D_{a r:Addr}{ks:LE}{o ofr:Obj}{es:Array (Int×Value)}{ep epr:Nat}{t tr:SetTable}{Q:Unit->Shared->Prop}(hS:h_ w s.heap a ks o es ep t)(hR:h_ w s.heap r [] ofr #[] epr tr)(hdm:tr.dummies= #[])(hc:iD tr.mask)(SR:es.size<=tr.mask){jd5:Sem Unit}
  (h:∀h' kr,Heap.SameBut r s.heap h'->aZ w h' r kr->kr.Perm ks->Q ⟨⟩ {s with heap:=h'}):
  wpAny (model prog w) A (match tr.road t with
   |.slotForSlot=>storeSet r es {t with finger:=tr.finger,led:=tr.led && t.led,moves:=tr.moves,plain:=tr.plain && t.plain}
   |.clean=>do
    let p<-(do
     let some (t,order,):=SetTable.laid tr.mask tr.finger tr.moves (led:=tr.led && t.led) (plain:=tr.plain && t.plain) (es.map (·.1))|unsupported "internal:set-table-without-room"
     let es':=order.filterMap (es[·]?)
     if es'.size !=es.size then unsupported "internal:set-table-lost-an-element"
     pure (es',t,):Sem (Array (Int×Value)×SetTable))
    storeSet r p.1 p.2
   |.oneByOne=>jd5) Q E s:=by
 let(ho,cZ,hd,rfl,bH,c_,hb,hf,hr,hl):=hS;let(Wo,Wx,Uq,hkr,jc1,ja',hbr,VR,hrr,hlr):=hR
 let TY:es.size<scanBound:=⋯
 let Vt:(tr.led && t.led)=true\/bt w=true:=by
  grind
 let VL:tr.place.size=0:=by
  unfold SetTable.fits at VR
  grind
 let h0:tr.fill=0:=by unfold SetTable.fill;rw[VL,hdm];rfl
 unfold SetTable.road;rw[h0];by_cases hm:(tr.mask==t.mask && t.dummies.isEmpty)=true
 .rw[aO (by decide),bf hm];dsimp only;show og Wo Uq ?_ (lP TY);let RY:=sF (w:=w) Wo Wx Uq (es':=es) (t':={t with finger:=tr.finger,led:=tr.led && t.led,moves:=tr.moves,plain:=tr.plain && t.plain}) bH c_ TY hf hr Vt;show h _ _ (lO _ _ _) RY.g (iP _)
 .rw[aO (by decide),aO hm];dsimp only;let(t',od,e,hp,Za,Sn,Ye):=DX (mask:=tr.mask) (finger:=tr.finger) (moves:=tr.moves) (led:=tr.led && t.led) (plain:=tr.plain && t.plain) (hs:=es.map (·.1)) hc ⋯;let(rr,rl):=vS e;rw[Array.size_map]at hp Za;let pe:=DY hp
  let hz:(od.filterMap (es[·]?)).size=es.size:=by rw[<-gX,pe.length_eq,gX]
  rw[e];dsimp only;erw[ae];rw[aO ⋯];erw[aw];show og Wo Uq ?_ (by rw[hz];show lP TY);let RY:=sF (w:=w) Wo Wx Uq (es':=od.filterMap (es[·]?)) (t':=t') (λx hx=>bH x (pe.mem_iff.mp hx)) ((pe.map _).nodup_iff.mpr c_) () ⋯ rr ⋯;show h _ _ (lO _ _ _) RY.g (pe.map _)
def Ka{a:Addr}{ks:LE}{Q:Value->Shared->Prop}(hS:aZ w s.heap a ks)(hk:ks.length<64)
  (h:∀h' kr,aZ w h' s.heap.objs.size kr->kr.Perm ks->h'.objs.size=s.heap.objs.size+1->(∀c o,s.heap.get? c=some o->h'.get? c=some o)->Q (.ref s.heap.objs.size) {s with heap:=h'}):
  wpAny (model prog w) A (Builtin.Frozenset.copyOf a) Q E s:=by
 let hT:=hS.type (s':=s) rfl;let RA:=hS.lt;let(o,es,ep,t,hS):=hS;let hS0:=hS;let(ho,cZ,hd,Vu,bH,c_,hb,hf,hr,hl):=hS0;let SQ:s.heap.objs.size≠a:=fY RA
 let hes:es.size<64:=by rw[<-Vu]at hk;simpa using hk
 unfold Builtin.Frozenset.copyOf;show ae (vW hT ?_);show ae (K9 λh1 or hR Vo RN=>?_);show ae (aw ?_);let Vf:=RN _ _ ho
 let Sz:h_ w h1 a ks o es ep t:=(Vf,cZ,hd,Vu,bH,c_,hb,hf,hr,hl)
 let fin:∀h' kr,Heap.SameBut s.heap.objs.size h1 h'->aZ w h' s.heap.objs.size kr->kr.Perm ks->Q (.ref s.heap.objs.size) {s with heap:=h'}:=λh' kr sb g p=>
  h h' kr g p (by rw[sb.1,Vo]) λc x e=>by rw[sb.2 _ (bW (bw e))];show RN _ _ e
 unfold setMerge;erw[ae,gr];rw[aO (by simpa using SQ)];show ae (cO (s:={s with heap:=h1}) Vf hd hf ?_);dsimp only;erw[gr];split
 .rename_i he;show aw (aw (fin h1 [] (jB _ _) hR.g ?_))
  have:es= #[]:=by simpa using he
  rw[<-Vu,this];show iP _
 .unfold setRoomFor;let(Wo,Wx,Uq,hkr,jc1,ja',hbr,VR,hrr,hlr):=id hR;show ae (ae (cO (s:={s with heap:=h1}) Wo Uq VR ?_));by_cases UK:(0+es.size)*5≥7*3
  .let er:SetTable.roomFor (.fresh 0 0 (!bt w)) es.size=some ((0+es.size)*2):=by
    unfold SetTable.roomFor SetTable.fill SetTable.fresh;show bf UK
   dsimp only;rw[er];dsimp only
   let WM:(0+es.size)*2<256:=()
   show DZ (s:={s with heap:=h1}) hR WM (cm _) λh2 k2 o2 Yw t2 RK Xd p2 jc4 UO hz2=>?_;let(hc,SR,_):=DN WM;let hk2:k2=[]:=p2.eq_nil
   let Wy:Yw= #[]:=by simpa using hz2
   subst hk2;subst Wy;let(ja5,jb9,jc3,je6,jc0,ja_,je9,jb7,jd',je3):=id Xd;show ae (cO (s:={s with heap:=h2}) ja5 jc3 jb7 ?_);dsimp only
   let Uh:h_ w h2 a ks o es ep t:=(by rw[RK.2 _ (Ne.symm SQ)];show Vf,cZ,hd,Vu,bH,c_,hb,hf,hr,hl)
   show D_ (s:={s with heap:=h2}) Uh Xd jc4 (by rw[UO];show hc) (by rw[UO];lia) λh3 kr Sr g3 p3=>?_;show aw (fin h3 kr (RK.trans Sr) g3 p3)
  .let er:SetTable.roomFor (.fresh 0 0 (!bt w)) es.size=none:=by
    unfold SetTable.roomFor SetTable.fill SetTable.fresh;show aO UK
   dsimp only;rw[er];dsimp only;erw[aw];show ae (cO (s:={s with heap:=h1}) Wo Uq VR ?_);dsimp only;show D_ (s:={s with heap:=h1}) Sz hR rfl DM (by change es.size<=7;lia) λh3 kr Sr g3 p3=>?_;show aw (fin h3 kr Sr g3 p3)
end
def sI{α:Type}(xs:Array α)(p:Nat)(hp:p<xs.size):(SetTable.eraseAt xs p).toList=xs.toList.eraseIdx p:=by
 unfold SetTable.eraseAt;rw[Array.toList_append,Array.toList_extract,Array.toList_extract,List.eraseIdx_eq_take_drop_succ];simp[List.extract_eq_drop_take,ku]
section
variable{prog:Program}{w:World}{A:Around}{E:Value->Shared->Prop}{s:Shared}
def Kb{a:Addr}{ks:LE}{o:Obj}{es:Array (Int×Value)}{ep:Nat}{t:SetTable}{k:Int}{tok:Tok}{Q:Option Nat->Shared->Prop}(hS:h_ w s.heap a ks o es ep t)
  (h0:k∉ks->Q none s) (h1:∀i e,es.toList[i]?=some e->bX e=k->Q (some i) s):
  wpAny (model prog w) A (setFind a (.int k tok) (hashInt k)) Q E s:=by
 let(ho,cZ,hd,rfl,bH,c_,hb,hf,hr,hl):=hS
 let TY:es.size<scanBound:=⋯
 let Te:ElemsOf (intKind prog w) es.toList:=vT bH;unfold setFind setFindIn;show ae (cO ho hd hf ?_);dsimp only;rw[byScan_of (knd:=intKind prog w) rfl TY Te];simp only[↓reduceIte];show ae (ip ?_);show ae (wpAny_setScan_of (knd:=intKind prog w) (k:=k) (r8 _ _ _ _) ho hd hf Te ?_)
 cases hq:List.findIdx? (λe=>(intKind prog w).is k e.2) es.toList with
 |none=>
  show aw (h0 ((find_none (prog:=prog) (w:=w) bH).mp hq))
 |some j=>
  let(hj,hjk,_):=List.findIdx?_eq_some_iff_getElem.mp hq;let Sv:=bH _ (cG hj);rw[vU Sv,kB]at hjk;erw[aw]
  grind
def Kc{a:Addr}{ks:LE}{k:Int}{tok:Tok}{Q:Bool->Shared->Prop}(hS:aZ w s.heap a ks)
  (h:∀h' RF b,Heap.SameBut a s.heap h'->aZ w h' a RF->(∀x,x∈RF↔x∈ks/\x≠k)->RF.length<=ks.length->Q b {s with heap:=h'}):
  wpAny (model prog w) A (setDiscardHashed a (.int k tok) (hashInt k)) Q E s:=by
 let e0:s={s with heap:=s.heap}:=by cases s;rfl
 let(o,es,ep,t,hS):=hS;let(ho,cZ,hd,Vu,bH,c_,hb,hf,hr,hl):=id hS;unfold setDiscardHashed;show ae (Kb hS (λX0=>?_) λi e hi hk=>?_)
 .erw[aw];rw[e0];show h s.heap ks false (jB _ _) (h_.g hS) (λx=>(λz=>(z,λy=>X0 (y▸z)),λz=>z.1)) (aD _)
 .dsimp only
  let Rt:i<es.size:=by
   have:i<es.toList.length:=by
    apply Nat.lt_of_not_le;ext hc;rw[gp hc]at hi;cases hi
   simpa using this
  let Ue:t.place.size=es.size/\t.fill<=t.mask:=by
   unfold SetTable.fits at hf;simpa using hf
  let W4:i<t.place.size:=by rw[Ue.1];show Rt
  let TY:es.size<scanBound:=by rw[<-Vu]at hb;simpa using hb
  let ezs:(SetTable.eraseAt es i).size=es.size - 1:=by
   rw[<-gX,sI _ _ Rt,uj (by simpa using Rt)];simp
  let ezp:(SetTable.eraseAt t.place i).size=es.size - 1:=by
   rw[<-gX,sI _ _ W4,uj (by simpa using W4)];simp[Ue.1]
  let UV:t.drop i={t with place:=SetTable.eraseAt t.place i,dummies:=SetTable.insertAt t.dummies (SetTable.below t.dummies t.place[i]) t.place[i]}:=by
   unfold SetTable.drop;rw[o9 W4]
  let TX:(SetTable.insertAt t.dummies (SetTable.below t.dummies t.place[i]) t.place[i]).size=t.dummies.size+1:=by
   rw[<-gX,(SetTable.insertAt_perm ..).length_eq];simp
  show ae (cO ho hd hf ?_);dsimp only;show ae (og ho hd ?_ (by rw[ezs];show cf (Nat.sub_le _ _) (lP TY)))
  let pe:(e::(SetTable.eraseAt es i).toList).Perm es.toList:=by
   rw[sI _ _ Rt]
   let Vv:i<es.toList.length:=by simpa using Rt
   let ee:es.toList[i]=e:=by
    rw[aK Vv]at hi;injection hi
   rw[<-ee];show sv _ _ Vv
  let pk:(k::(SetTable.eraseAt es i).toList.map bX).Perm ks:=by
   have:=pe.map bX;rw[cQ,hk,Vu]at this;show this
  let jb1:=pk.nodup_iff.mpr c_;let(n1,n2):=fV.mp jb1
  let RY:=sF (w:=w) ho cZ hd (es':=SetTable.eraseAt es i) (t':=t.drop i) (λx hx=>bH x (pe.mem_iff.mp (gW _ hx))) n2 (by rw[ezs];lia)
   (by
    rw[UV,ezs];unfold SetTable.fits SetTable.fill;let q:=Ue.2;unfold SetTable.fill at q;simp only[ezp,TX,beq_self_eq_true,j8,kB]
    lia)
   (by
    rw[UV]
    change List.Pairwise _ (SetTable.eraseAt t.place i).toList
    rw[sI _ _ W4]
    show List.Pairwise.sublist (List.eraseIdx_sublist ..) hr)
   (by rw[UV];show hl)
  show ae (wpAny_point (aw (h _ _ true (lO _ _ _) RY.g (λx=>?_) ?_)))
  .rw[<-pk.mem_iff,cb];constructor
   .ext z;show(.inr z,λy=>n1 (y▸z))
   .ext⟨z|z,y⟩
    .show absurd z y
    .show z
  .have:=pk.length_eq;rw[kC]at this;lia
def Kd{a:Addr}{ks:LE}{Q:Unit->Shared->Prop}(hS:aZ w s.heap a ks)(hk:ks.length<64)
  (h:∀h' RF,Heap.SameBut a s.heap h'->aZ w h' a RF->RF.Perm ks->Q ⟨⟩ {s with heap:=h'}):wpAny (model prog w) A (setTidy a) Q E s:=by
 let e0:s={s with heap:=s.heap}:=by cases s;rfl
 let(o,es,ep,t,hS):=hS;let(ho,cZ,hd,Vu,bH,c_,hb,hf,hr,hl):=id hS
 let hes:es.size<64:=by rw[<-Vu]at hk;simpa using hk
 unfold setTidy;show ae (cO ho hd hf ?_);dsimp only;erw[gr];split
 .let eg:SetTable.grown es.size=es.size*4:=by unfold SetTable.grown;show aO ()
  rw[eg];show DZ hS () () λh' RF o' es' t' sb g p _ _ _=>h h' RF sb g.g p
 .erw[aw];rw[e0];show h s.heap ks (jB _ _) (h_.g hS) (iP _)
theorem E1{r:Addr}{f:Int×Value->PUnit->Sem (ForInStep PUnit)}{h0:Heap}
  (turn:∀(k:Int) (tok:Tok) (kr:LE) (s':Shared) (R:ForInStep PUnit->Shared->Prop),Heap.SameBut r h0 s'.heap->aZ w s'.heap r kr->
   (∀h' SZ,Heap.SameBut r s'.heap h'->aZ w h' r SZ->(∀x,x∈SZ↔x∈kr/\x≠k)->SZ.length<=kr.length->R (.yield ⟨⟩) {s' with heap:=h'})->wpAny (model prog w) A (f (hashInt k,.int k tok,) ⟨⟩) R E s'):
  ∀(es:List (Int×Value)) (kr:LE) (s':Shared) (Q:PUnit->Shared->Prop),(∀e∈es,gA e)->Heap.SameBut r h0 s'.heap->aZ w s'.heap r kr->
   (∀h' SZ,Heap.SameBut r h0 h'->aZ w h' r SZ->(∀x,x∈SZ↔x∈kr/\x∉es.map bX)->SZ.length<=kr.length->Q ⟨⟩ {s' with heap:=h'})->wpAny (model prog w) A (forIn es ⟨⟩ f) Q E s'
 |[],kr,s',Q,bH,hb,hS,h=>by
  let e0:s'={s' with heap:=s'.heap}:=by cases s';rfl
  rw[AF];erw[aw];rw[e0];show h _ kr hb hS (λx=>∅) (aD _)
 |e::rest,kr,s',Q,bH,hb,hS,h=>by
  let(k,tok,rfl):=bH e (gK ..);rw[uD];show ae (turn k tok kr s' _ hb hS λh' SZ sb g m hl=>?_);show E1 turn rest SZ {s' with heap:=h'} Q (λe he=>bH e (gW _ he)) (hb.trans sb) g λh2 ZW RK g2 m2 Ro=>?_;show h h2 ZW RK g2 (λx=>?_) (cf Ro hl);rw[m2,m,cQ,cb];let ek:bX (hashInt k,Value.int k tok,)=k:=rfl;rw[ek,fO,and_assoc]
def Ke{r b:Addr}{kr kb:LE}{id:String}{Q:Unit->Shared->Prop}(hR:aZ w s.heap r kr)(hB:aZ w s.heap b kb)(Ve:r≠b)(hk:kr.length<64)(hsm:¬kb.length / 8 >kr.length)
  (h:∀h' k',Heap.SameBut r s.heap h'->aZ w h' r k'->(∀x,x∈k'↔x∈kr/\x∉kb)->Q ⟨⟩ {s with heap:=h'}):
  wpAny (model prog w) A (Builtin.Frozenset.differenceUpdate id r (.ref b)) Q E s:=by
 unfold Builtin.Frozenset.differenceUpdate;erw[gr];rw[aO (by rw[DK Ve];decide)];show ae (ma (hB.type rfl) ?_);rw[bf rfl];show ae (aw ?_);show ae (ng hB ?_);show ae (ng hR ?_);rw[aO hsm];let hB':=hB;let(ob,esb,epb,tb,hob,je7,hdb,hkb,je8,je2,Ug,hfb,je0,W6):=hB;unfold setEpoch;show ae (ae (cO hob hdb hfb (aw ?_)));show ae (dA ?_);show ae (JY hB' (λc hc=>(kr,by rw[Ra.mp hc];show hR)) λes bH pm=>?_);rw[<-GC];show ae (E1 (h0:=s.heap) (r:=r) (λk tok k1 s' R sb hS Xe=>?_) es.toList kr s _ bH (jB _ _) hR λh2 k2 RK g2 m2 Ro=>?_)
 .let ja8:s'.heap.get? b=some ob:=by rw[sb.2 _ (Ne.symm Ve)];show hob
  show ae (dA (Kc hS λh3 k3 bb Sr g3 m3 S4=>?_));show ae (pB (s:={s' with heap:=h3}) (by change h3.get? b=_;rw[Sr.2 _ (Ne.symm Ve)];show ja8) hdb hfb (aw ?_));show Xe h3 k3 Sr g3 m3 S4
 .show aw (Kd (s:={s with heap:=h2}) g2 () λh4 k4 Uv g4 p4=>?_);show h h4 k4 (RK.trans Uv) g4 λx=>?_;rw[p4.mem_iff,m2,pm.mem_iff]
def Kf{a b:Addr}{ka kb:LE}{id:String}{Q:Value->Shared->Prop}(hA:aZ w s.heap a ka)(hB:aZ w s.heap b kb)(hk:ka.length<64)
  (h:∀h' kr,aZ w h' s.heap.objs.size kr->(∀x,x∈kr↔x∈ka/\x∉kb)->h'.objs.size=s.heap.objs.size+1->(∀c o,s.heap.get? c=some o->h'.get? c=some o)->Q (.ref s.heap.objs.size) {s with heap:=h'}):
  wpAny (model prog w) A (Builtin.Frozenset.difference id a (.ref b)) Q E s:=by
 unfold Builtin.Frozenset.difference;dsimp only;show ae (ma (hB.type rfl) ?_);simp only[Bool.not_true,Bool.false_eq_true,if_false,ot,kF];show ae (aw ?_);show ae (ng hB ?_);show ae (ng hA ?_);let W3:s.heap.objs.size≠a:=fY hA.lt;let Ve:s.heap.objs.size≠b:=fY hB.lt;erw[gr];split
 .rename_i Wv;show ae (ip ?_);show ae (Ka hA hk λh1 k1 g1 p1 Vo RN=>?_);show ae (aw ?_);show ae (dA ?_);let RB:=p1.length_eq;show Ke (s:={s with heap:=h1}) g1 (hB.at λo e=>RN _ _ e) Ve () () λh2 k2 RK g2 m2=>?_;show aw (h h2 k2 g2 (λx=>by rw[m2,p1.mem_iff]) (by rw[RK.1,<-Vo]) λc o e=>?_);rw[RK.2 _ (bW (bw e))];show RN _ _ e
 .show ae (vW (hA.type rfl) ?_);show ae (Dv λh1 hR Vo RN=>?_);show ae (aw ?_);let Vh:aZ w h1 a ka:=hA.at λo e=>RN _ _ e;let Xg:aZ w h1 b kb:=hB.at λo e=>RN _ _ e;let jc_:=Vh;let(ow,WN,epw,tw,XY,jb8,Wz,rfl,jb',ja9,hbw,Ww,hrw,hlw):=Vh;unfold setEpoch;show ae (ae (cO (s:={s with heap:=h1}) XY Wz Ww (aw ?_)));show ae (dA ?_);show ae (DJ (s:={s with heap:=h1}) jc_ hR (λc hc=>?_) λes h2 bH pm RK Xd=>?_)
  .grind
  let UL:aZ w h2 b kb:=Xg.at λo e=>by rw[RK.2 _ (Ne.symm Ve)];show e
  let Wn:h2.get? a=some ow:=by rw[RK.2 _ (Ne.symm W3)];show XY
  let bP:es.toList.length=WN.size:=by
   have:=pm.length_eq
   grind
  let WC:WN.size<scanBound:=⋯
  rw[<-GC];show ae (vX (p:=λx=>decide (x∉kb)) (h0:=h2) (n:=WN.size) WC (λk tok kr s' R sb hS hb Xe=>?_) es.toList [] {s with heap:=h2} _ bH (jB _ _) Xd ⋯ λh3 kr Sr g3 m3=>?_)
  .let hqs:aZ w s'.heap b kb:=UL.at λo e=>by rw[sb.2 _ (Ne.symm Ve)];show e
   let UM:s'.heap.get? a=some ow:=by rw[sb.2 _ (Ne.symm W3)];show Wn
   let e0:s'={s' with heap:=s'.heap}:=⋯
   show ae (dA (ae (DG hqs λr hr=>ae (aw ?_))));erw[gr];rw[hr];by_cases Sv:k∈kb
   .rw[aO ⋯];erw[aw];show ae (pB UM Wz Ww (aw ?_));rw[e0];erw[Xe s'.heap kr (jB _ _) hS]
    grind
   .rw[bf ⋯];show ae (sr hS hb λh4 kr4 Uv g4 p4=>aw ?_);show ae (pB (s:={s' with heap:=h4}) (by change h4.get? a=_;rw[Uv.2 _ (Ne.symm W3)];show UM) Wz Ww (aw ?_))
    grind
  .show aw (aw (h h3 kr g3 (λx=>?_) ?_ λc o e=>?_))
   .grind
   .rw[Sr.1,RK.1];show Vo
   .let hc:c≠s.heap.objs.size:=bW (bw e);rw[Sr.2 _ hc,RK.2 _ hc];show RN _ _ e
def Kg{a b:Addr}{ka kb:LE}{Q:Value->Shared->Prop}(hA:aZ w s.heap a ka)(hB:aZ w s.heap b kb)(hk:ka.length<64)
  (h:∀h' kr,aZ w h' s.heap.objs.size kr->(∀x,x∈kr↔x∈ka/\x∉kb)->h'.objs.size=s.heap.objs.size+1->(∀c o,s.heap.get? c=some o->h'.get? c=some o)->Q (.ref s.heap.objs.size) {s with heap:=h'}):
  wpAny (model prog w) A (binaryOp .Sub (.ref a) (.ref b)) Q E s:=by
 show wpAny_binaryOp_same (T:="set") (hA.type rfl) (hB.type rfl) PySem.F.fills_set_sub PySem.F.slot_set_sub (gZ PySem.F.slot_set_sub (hA.type rfl) FF.entry_set_sub ?_ (PySem.F.args_set_sub_2 _ _))
 change wpAny _ _ (do
  if !(<-(Builtin.Frozenset.isAnySet (.ref a)<&&>Builtin.Frozenset.isAnySet (.ref b)))then rule "frozenset.__sub__.declined";return<-ret .notImplemented
  ret (<-Builtin.Frozenset.difference "frozenset.__sub__" (<-Builtin.Frozenset.addrOf (.ref a)) (.ref b))) _ _ _
 show ae (ae (ma (hA.type rfl) (ma (hB.type rfl) ?_)));erw[gr];rw[aO (by decide)];show ae (aw ?_);show ae (Kf hA hB hk λh' kr g m z old=>?_);show aw (_,rfl,(∅,h h' kr g m z old))
end
noncomputable def cq(w:World)(a:Addr)(ks:LE):HO:=HO.ext λh=>aZ w h a ks
def sJ{P:Program}{w:World}{H:Hp}{h:Heap}{a:Addr}{ks:LE}(g:aZ w h a ks):c8 P w H h a (cq w a ks):=by
 show(g,?_,λh1 h2 g1 k=>g1.at k);let(o,_,_,_,e,_):=g
 grind
def nr{P:Program}{w:World}{H:Hp}{h:Heap}{a:Addr}{ks:LE}(x:cz P w H h)(e:H a=some (cq w a ks)):aZ w h a ks:=(x a _ e).1
def aZ.nodup{w:World}{h:Heap}{a:Addr}{ks:LE}(g:aZ w h a ks):ks.Nodup:=by
 let(_,_,_,_,_,_,_,_,_,n,_):=g;show n
theorem sL:∀{ns:LE} {us:T0},a_ (ns.map V.int) us->IntsAre us ns
 |[],_,.nil=>.nil
 |n::r,_,.cons h t=>by
  let(tk,rfl):=(show ∃t,_=Value.int n t from h)
  show .cons n tk (sL t)
theorem sM:∀{ns:LE} {us:T0},IntsAre us ns->a_ (ns.map V.int) us
 |_,_,.nil=>.nil
 |_,_,.cons n t h=>.cons (t,rfl) (sM h)
section
variable{X:Cx}{a9:Tl}{Z:St}{H:Hp}{s:Shared}{h':Heap}{a:Addr}{o:HO}
def Inv.laidD{t':Nat}{d':Drawn}(I:Inv X a9 Z H s)(k:∀b u,s.heap.get? b=some u->h'.get? b=some u)(hp:s.heap.objs.size<=a)
  (new:c8 X.prog X.w (aa H a o) h' a o):Inv X a9 Z (aa H a o) {s with heap:=h',drawn:=d',toks:=t'}:=by
 let hn:H a=none:=I.hok.fresh hp
 show I.step (g':=s.gens) (d':=d') (ch:=[]) (λb hb=>by simp at hb) (λb u _ _ _ e _=>k b u e) (λb u _ _ _ e _=>(u.slots,k b u e))
  (λb u _ e n=>by rw[aB (bW (cM (bw e) hp))];show n)
  (λb u _ e=>(u,k b u e)) (λb xs e=>by rw[aB (bq e hn)];show e) (λb u v e=>by rw[aB (bq e hn)];show e) (λb ps e=>(#[],by rw[aB (bq e hn),e];simp)) (λm hm=>?_) (I.hok.laid k hp new) I.bare
 let(u,es,ep,ho,r):=hm;show(u,es,ep,k _ u ho,r)
end
section
variable{X:Cx}
def vY(w:World):LT->Hp->VK->Prop:=λxs H Q=>∃(a:Addr) (ks:LE),xs=[.ref a]/\H a=some (cq w a ks)/\ks.length<64/\∀(l:Addr) (ns:LE),H l=none->ns.Perm ks->ns.Pairwise (· <= ·)->Q (.ref l) (aa H l (.lst (ns.map V.int)))
def Kh(hc:X.calm=true):cJ X (.builtin "sorted") (vY X.w):=by
 ext a9 s Z H xs us Q I r h;let(a,ks,rfl,ha,hl,q):=h;let(u,rfl,rx):=fZ r;cases rx;show JW (I.ok.hd hc) (nr I.hok ha) hl λL n SD ns h' d' tk hi hp hs hL hz old=>?_;show(.ref L,_,I.laidD (d':=d') old hz (o:=.lst (ns.map V.int)) (?_,SD.toList,n,sM hi,by simpa using hL),rfl,q _ ns (I.hok.fresh hz) hp hs);rw[au,hp.length_eq,iQ];lia
def vZ(w:World):LT->Hp->VK->Prop:=λxs H Q=>∃(a:Addr) (ks:LE),xs=[.ref a]/\H a=some (cq w a ks)/\Q (.int ks.length) H
def Ki:cJ X (.builtin "len") (vZ X.w):=by
 ext a9 s Z H xs us Q I r h;let(a,ks,rfl,ha,q):=h;let(u,rfl,rx):=fZ r;cases rx
 show JX (nr I.hok ha) λtk Xm=>(.int ks.length,H,I.tok _,(tk,rfl),q)
def v_(w:World):R2:=λx y H Q=>∃(a b:Addr) (ka kb:LE),x=.ref a/\y=.ref b/\H a=some (cq w a ka)/\H b=some (cq w b kb)/\a≠b/\∀(l:Addr) (kr:LE),H l=none->kr.Nodup->(∀x,x∈kr↔x∈ka/\x∈kb)->Q (.ref l) (aa H l (cq w l kr))
def Kj:bT X (binaryOp .BitAnd) (v_ X.w):=by
 ext a9 s Z H x y v u Q I rx ry h;let(a,b,ka,kb,rfl,rfl,ha,hb,SM,q):=h;cases rx;cases ry;show J_ (nr I.hok ha) (nr I.hok hb) SM λh' kr g m hz old=>?_;show(.ref s.heap.objs.size,_,I.laid (t':=s.toks) old (aD _) (sJ g),rfl,q _ kr (I.hok.fresh (aD _)) g.nodup m)
def w4(w:World):R2:=λx y H Q=>∃(a b:Addr) (ka kb:LE),x=.ref a/\y=.ref b/\H a=some (cq w a ka)/\H b=some (cq w b kb)/\ka.length<64/\∀(l:Addr) (kr:LE),H l=none->kr.Nodup->(∀x,x∈kr↔x∈ka/\x∉kb)->Q (.ref l) (aa H l (cq w l kr))
def Kk:bT X (binaryOp .Sub) (w4 X.w):=by
 ext a9 s Z H x y v u Q I rx ry h;let(a,b,ka,kb,rfl,rfl,ha,hb,SM,q):=h;cases rx;cases ry;show Kg (nr I.hok ha) (nr I.hok hb) SM λh' kr g m hz old=>?_;show(.ref s.heap.objs.size,_,I.laid (t':=s.toks) old (aD _) (sJ g),rfl,q _ kr (I.hok.fresh (aD _)) g.nodup m)
end
section
variable{X:Cx}{K:W.Frag}{w:World}
def w6(hw:X.w=w)(hc:X.calm=true):cJ X (.builtin "sorted") (vY w):=by subst hw;show Kh hc
def pE(hw:X.w=w):cJ X (.builtin "len") (vZ w):=by subst hw;show Ki
def Kl(hw:X.w=w):bT X (binaryOp .BitAnd) (v_ w):=by subst hw;show Kj
def Km(hw:X.w=w):bT X (binaryOp .Sub) (w4 w):=by subst hw;show Kk
end
section
variable{Z:St}{H:Hp}{Q:VK}{K:W.Frag}{w:World}
def w9{a:Addr}{ks:LE}(h:H a=some (cq w a ks))(l:ks.length<64)(q:∀(l:Addr) (ns:LE),H l=none->ns.Perm ks->ns.Pairwise (· <= ·)->Q (.ref l) (aa H l (.lst (ns.map V.int)))):vY w [.ref a] H Q:=(a,ks,rfl,h,l,q)
def pF{a:Addr}{ks:LE}(h:H a=some (cq w a ks))(q:Q (.int ks.length) H):vZ w [.ref a] H Q:=(a,ks,rfl,h,q)
def Kn{a b:Addr}{ka kb:LE}(ha:H a=some (cq w a ka))(hb:H b=some (cq w b kb))(SM:a≠b)(q:∀(l:Addr) (kr:LE),H l=none->kr.Nodup->(∀x,x∈kr↔x∈ka/\x∈kb)->Q (.ref l) (aa H l (cq w l kr))):v_ w (.ref a) (.ref b) H Q:=(a,b,ka,kb,rfl,rfl,ha,hb,SM,q)
def Ko{a b:Addr}{ka kb:LE}(ha:H a=some (cq w a ka))(hb:H b=some (cq w b kb))(SM:ka.length<64)(q:∀(l:Addr) (kr:LE),H l=none->kr.Nodup->(∀x,x∈kr↔x∈ka/\x∉kb)->Q (.ref l) (aa H l (cq w l kr))):w4 w (.ref a) (.ref b) H Q:=(a,b,ka,kb,rfl,rfl,ha,hb,SM,q)
end
section
variable{X:Cx}{a9:Tl}{Z:St}{H:Hp}{s:Shared}
def nu(I:Inv X a9 Z H s){a:Addr}{vs:LT}(e:H a=some (.lst vs)):∃av:T0,a_ vs av/\s.heap.IsList a av.toArray:=by
 let(_,av,n,r,h):=(show c8 X.prog X.w H s.heap a (.lst vs)from I.hok a _ e)
 show(av,r,(_,h,rfl,n,rfl))
def sN(I:Inv X a9 Z H s){a:Addr}{vs:LT}(e:H a=some (.tup vs)):∃av:T0,a_ vs av/\s.heap.IsTuple a av.toArray:=by
 let(_,av,r,h):=(show c8 X.prog X.w H s.heap a (.tup vs)from I.hok a _ e)
 show(av,r,h)
end
section
variable{X:Cx}
end
section
variable{Z:St}{H:Hp}{Q:VK}{K:W.Frag}{D:gu}
def wb(J:It)(g:TG)(tb:TS)(D:gu)(Z:St)(H1:Hp):Prop:=∃W:Nat->Nat->St->Hp->Prop,(∃m,W 0 m Z H1)/\∀i m Z H,W i m Z H->
 (J.stop i H/\D.nx Z H)\/(J.go i H/\∃N:St->Hp->Prop,(∀Z' H',N Z' H'->∃m',m'<m/\W (i+1) m' Z' H')/\∀x H',J.yld i H x H'->g x Z H' λZ2 H2=>tb {D with nx:=N,ct:=N,bk:=D.nx} Z2 H2)
def Kp{wi:TI}{g:TG}{tb:TS}(q:wi Z H λJ H1=>wb J g tb D Z H1):Cd wi g tb D Z H:=q
def E4{J:It}{g:TG}{tb:TS}(W:Nat->St->Hp->Prop)(n:Nat)(w0:W 0 Z H)(fin:∀Z' H',W n Z' H'->J.stop n H'/\D.nx Z' H')
  (step:∀i Z' H',i<n->W i Z' H'->J.go i H'/\∀x H2,J.yld i H' x H2->g x Z' H2 λZ3 H3=>tb {D with nx:=W (i+1),ct:=W (i+1),bk:=D.nx} Z3 H3):wb J g tb D Z H:=by
 show(λi m Z' H'=>i<=n/\m=n - i/\W i Z' H',(n,cm _,rfl,w0),?_);ext i m Z' H' ⟨hi,rfl,hw⟩
 rcases fq i n with RA|hge
 .right;let(g1,g2):=step i Z' H' RA hw;show(g1,W (i+1),λZ2 H2 w2=>(n - (i+1),(),(),rfl,w2),g2)
 .left
  obtain rfl:i=n:=()
  show fin _ _ hw
def wc{J:It}{g:TG}{tt:TT}{te:TE}{Fin:LT->Hp->Prop}(W:Nat->LT->St->Hp->Prop)(n:Nat)(w0:W 0 [] Z H)(fin:∀ys Z' H',W n ys Z' H'->J.stop n H'/\Fin ys H')
  (step:∀i ys Z' H',i<n->W i ys Z' H'->J.go i H'/\ys.length<sizeLine/\∀x H2,J.yld i H' x H2->g x Z' H2 λZ3 H3=>tt Z3 H3 λb H4=>if b=true then te Z3 H4 λy H5=>∃m',m'<n - i/\(i+1<=n/\m'=n - (i+1)/\W (i+1) (ys++[y]) Z3 H5)else ∃m',m'<n - i/\(i+1<=n/\m'=n - (i+1)/\W (i+1) ys Z3 H4)):jf J g tt te Fin Z H:=by
 show(λi m ys Z' H'=>i<=n/\m=n - i/\W i ys Z' H',(n,cm _,rfl,w0),?_);ext i m ys Z' H' ⟨hi,rfl,hw⟩
 rcases fq i n with RA|hge
 .right;show step i ys Z' H' RA hw
 .left
  obtain rfl:i=n:=()
  show fin _ _ _ hw
def cu{n i:Nat}{A:Prop}(h:i<n)(a:A):∃m',m'<n - i/\(i+1<=n/\m'=n - (i+1)/\A):=(n - (i+1),(),h,rfl,a)
def Kq{T:String}{r:V->LT->Hp->VK->Prop}{to:TE}{t:TA}(q:to Z H λx H1=>u_ K T x H1/\t Z H1 λxs H2=>r x xs H2 Q):p6 K T r to t Z H Q:=q
def md{l:Addr}{xs:LT}{y:V}(h:H l=some (.lst xs))(z:xs.length<sizeLine)(q:Q .non (aa H l (.lst (xs++[y])))):vg (.ref l) [y] H Q:=(l,xs,y,rfl,rfl,h,z,q)
def l5{a b:Addr}{xs zs:LT}(h1:H a=some (.lst xs))(h2:H b=some (.lst zs))(l:xs.length+zs.length<=sizeLine)(q:∀p,H p=none->Q (.ref p) (aa H p (.lst (xs++zs)))):CU (.ref a) (.ref b) H Q:=(a,b,xs,zs,rfl,rfl,h1,h2,l,q)
theorem pG(z:Int):∀ns:LE,o_ (.int z) (ns.map V.int)=decide (z∈ns)
 |[]=>by simp[o_]
 |n::r=>by
  let ih:=pG z r;unfold o_ at ih⊢;rw[cQ,ox,ih]
  change((n==z)||decide (z∈r))=_
  grind
def sO(ns:LE):(ns.map V.int).all je=true:=by simp[je]
def mh{p:Addr}{ns:LE}{z:Int}(h:ah K H p (ns.map V.int))(q:Q (.bl (decide (z∈ns))) H):kS K false (.int z) (.ref p) H Q:=by
 show(p,_,rfl,.inl h,rfl,sO ns,?_);rw[pG];show q
def E5{p:Addr}{ns:LE}{z:Int}(h:ah K H p (ns.map V.int))(q:Q (.bl (!decide (z∈ns))) H):kS K true (.int z) (.ref p) H Q:=by
 show(p,_,rfl,.inl h,rfl,sO ns,?_);rw[pG];show q
end
section
variable{X:Cx}{K:W.Frag}{o e:Expr}{es:List Expr}{to:TE}{t:TA}{bM bL:Pos}
def pH(h:X.K=K)(ho:PE X o to)(ha:PA X (e::es) t)
  (hbase:↥(attributeBase o "append" X.env (eval o X.env)=eval o X.env))
  (hfew:↥(((backTo bL (starEach (e::es) X.env)).all (λx=>!x.1) && (backToKw bL (keywordEach [] X.env)).all (λx=>x.1.isSome)
   && decide ((e::es).length+([]:List Keyword).length+(if([]:List Keyword).isEmpty then 0 else 1)<30))=true))
  (hline:↥((bM.endLine==bL.line)=true)) (hs:↥(starEach (e::es) X.env=(false,eval e X.env,)::starEach es X.env)) (Sb:↥((backTo bL (starEach es X.env)).any (·.1)=false)):
  PE X (.Call (.Attribute o "append" bM) (e::es) [] bL) (p6 K "list" vg to t):=by
 subst h;show vd Gn PySem.F.slot_list_append PySem.F.type_list_append Im ho ha hbase hfew hline hs Sb
end
def eJ(rs:LE)(P:Int->Prop):Prop:=rs.Pairwise (· < ·)/\∀x,x∈rs↔P x
theorem gg:∀{ks ns:LE},ks.Nodup->(∀x∈ks,x∈ns)->ks.length<=ns.length
 |[],_,_,_=>cm _
 |k::r,ns,h,m=>by
  rw[fV]at h;let hk:=m k gK;have:=gg (ks:=r) (ns:=ns.erase k) h.2 λx hx=>(List.mem_erase_of_ne (λz=>h.1 ⋯)).mpr (m x (gW _ hx))
  grind
def eJ.nodup{rs:LE}{P:Int->Prop}(h:eJ rs P):rs.Nodup:=h.1.imp (λq z=>())
def wg{ns ks:LE}{P:Int->Prop}(p:ns.Perm ks)(s:ns.Pairwise (· <= ·))(n:ks.Nodup)(m:∀x,x∈ks↔P x):eJ ns P:=by
 show(?_,λx=>(p.mem_iff).trans (m x));let nd:ns.Nodup:=p.nodup_iff.mpr n
 show(s.and nd).imp λ(a,b)=>()
def eJ.le{rs ns:LE}{P:Int->Prop}(h:eJ rs P)(m:∀x,P x->x∈ns):rs.length<=ns.length:=gg h.nodup λx hx=>m x ((h.2 x).mp hx)
noncomputable def gR(lo:Int)(n:Nat):LE:=(List.range n).map λ(k:Nat)=>lo+(k:Int)
def ny(lo:Int)(n:Nat):(gR lo n).length=n:=by simp[gR]
def wj{lo x:Int}{n:Nat}:x∈gR lo n↔lo<=x/\x<lo+n:=by
 unfold gR;rw[Ag];constructor
 .ext⟨k,hk,rfl⟩;rw[QU]at hk;lia
 .ext⟨h1,h2⟩;show((x - lo).toNat,QU.mpr (),())
def Kr(lo:Int)(n:Nat):(gR lo n).Pairwise (· < ·):=by
 unfold gR;rw[Gh]
 show List.pairwise_lt_range.imp λh=>()
theorem E6:∀{xs:LT} {us:T0},xs.length=us.length->(∀(k:Nat) x u,xs[k]?=some x->us[k]?=some u->aV x u)->a_ xs us
 |[],[],_,_=>.nil
 |[],_::_,e,_=>by cases e
 |_::_,[],e,_=>by cases e
 |x::r,u::z,e,h=>.cons (h 0 x u rfl rfl) (E6 (by simpa using e) λk a b e1 e2=>h (k+1) a b (by simpa using e1) (by simpa using e2))
theorem E7:∀{xs:LT} {us:T0},a_ xs us->a_ xs.reverse us.reverse
 |_,_,.nil=>.nil
 |_,_,.cons h t=>by rw[List.reverse_cons,List.reverse_cons];show(E7 t).append (.cons h .nil)
theorem E8{α β:Type}(f:α->β):∀(l:List α) (k:Nat),(l.map f).eraseIdx k=(l.eraseIdx k).map f
 |[],_=>rfl
 |_::_,0=>rfl
 |x::r,k+1=>by rw[cQ,List.eraseIdx_cons_succ,List.eraseIdx_cons_succ,cQ,E8 f r k]
section
variable{X:Cx}{K:W.Frag}
def E9:LT->Hp->VK->Prop:=λxs H Q=>∃(i j:Int),xs=[.int i,.int j]/\∀l,H l=none->Q (.ref l) (aa H l (.rng i j))
def Ks:cJ X (.type "range") E9:=by
 ext a9 s Z H xs us Q I r h;let(i,j,rfl,q):=h;let(u,w',rfl,(t,rfl),(t',rfl)):=mU r;erw[call_range_2];show(.ref s.heap.objs.size,_,I.laid (t':=s.toks+1) (o:=.rng i j) (λb ob q=>aR _ q) (aD _) (_,_,_,bR _ rfl),rfl,q _ (I.hok.fresh (aD _)))
def Ea:LT->Hp->VK->Prop:=λxs H Q=>∃(p:Addr) (i j:Int),xs=[.ref p]/\H p=some (.rng i j)/\ -(2 ^ 62)<=i/\j<2 ^ 62/\i<=2 ^ 61/\ -(2 ^ 61)<=j/\(j - i).toNat<=1000/\∀l,H l=none->Q (.ref l) (aa H l (.lst ((gR i (j - i).toNat).map V.int)))
def Kt(hc:X.calm=true):cJ X (.type "list") Ea:=by
 ext a9 s Z H xs us Q I r h;let(p,i,j,rfl,hp,h1,h2,h3,h4,hn,q):=h;let(u,rfl,rx):=fZ r;cases rx;let(t,u',v,hg):=I.hok p _ hp
 let hs:Builtin.Range.rangeSize i j 1=(((j - i).toNat:Nat):Int):=by rw[rangeSize_one];split<;>lia
 show call_list_range (n:=(j - i).toNat) (I.ok.hd hc) hg (small_one h1 () () h2) hs () λh' tk Rm c old hL items=>?_;show(.ref s.heap.objs.size,_,I.laid (t':=tk) (o:=.lst ((gR i (j - i).toNat).map V.int)) old (aD _) (?_,Rm.toList,c,?_,by simpa using hL),rfl,q _ (I.hok.fresh (aD _)))
 .rw[au,ny];show cf hn (by decide)
 .show E6 (by rw[au,ny];show items.1.symm) λk x v e1 e2=>?_;let(t2,rfl):=items.2 k v (by simpa using e2)
  let hk:k<(j - i).toNat:=by
   rcases fq k (j - i).toNat with q|q
   .show q
   .rw[gp (by rw[au,ny];show q)]at e1;cases e1
  let e3:((gR i (j - i).toNat).map V.int)[k]?=some (.int (i+(k:Int))):=by simp[gR,Ap hk]
  rw[e3]at e1;cases e1;show(t2,by rw[Int.mul_one])
def Eb:LT->Hp->VK->Prop:=λxs H Q=>∃i j,xs=[.int i,.int j]/\Q (.int (if j<i then j else i)) H
def Ec:LT->Hp->VK->Prop:=λxs H Q=>(∃i,xs=[.int i]/\Q (.int i) H)\/∃k,xs=[.bl k]/\Q (.int (if k then 1 else 0)) H
def Ed(hc:X.calm=true):cJ X (.builtin "min") Eb:=Hq hc
def pI:cJ X (.type "int") Ec:=Hr
def wk(K:W.Frag):LT->Hp->VK->Prop:=λxs H Q=>∃p ys,xs=[.ref p]/\((ah K H p ys/\∀l,H l=none->Q (.ref l) (aa H l (.tup ys)))\/(az K H p ys/\Q (.ref p) H))
def Ku(h:X.K=K):cJ X (.type "tuple") (wk K):=by subst h;show Ij
def Kv{α:Type}(xs:List α):(((List.range xs.length).map λ(k:Nat)=>(((xs.length:Int) - 1+ -1*(k:Int))).toNat).filterMap (xs.toArray[·]?))=xs.reverse:=by
 let e:∀n,n<=xs.length->(((List.range n).map λ(k:Nat)=>(((xs.length:Int) - 1+ -1*(k:Int))).toNat).filterMap (xs.toArray[·]?))=xs.reverse.take n:=by
  ext n
  induction n with
  |zero=>ext _;rfl
  |succ n ih=>
   ext hn;rw[oq,bO,List.filterMap_append,ih (),List.take_add_one]
   congr 1
   let e1:((xs.length:Int) - 1+ -1*(n:Int)).toNat=xs.length - 1 - n:=()
   let e2:xs.reverse[n]?=xs[xs.length - 1 - n]?:=List.getElem?_reverse ();let e3:xs[xs.length - 1 - n]?=some (xs[xs.length - 1 - n]'()):=aK ();simp only[cQ,qY,Ar,List.filterMap_nil,e1,e2,List.getElem?_toArray,e3];rfl
 rw[e _ (aD _),ku ∅]
def Kw(av:T0):slicePick av.toArray none none (some (-1))=av.reverse.toArray:=by
 let e:sliceBounds none none (some (-1)) av.toArray.size=((av.length:Int) - 1,-1,-1,):=by
  simp[sliceBounds]
 unfold slicePick;rw[e]
 change(List.filterMap (av.toArray[·]?) (sliceRange ((av.length:Int) - 1) (-1) (-1))).toArray=_
 let c:(if(-1:Int) >0 then(if((av.length:Int) - 1)< -1 then(-1 - ((av.length:Int) - 1)+ -1 - 1) / -1 else 0)else(if((av.length:Int) - 1) > -1 then(((av.length:Int) - 1) - -1 - -1 - 1) / (- -1)else 0))=(av.length:Int):=by
  rw[aO (by decide)];split
  .have: - -1=(1:Int):=rfl;rw[this,Int.ediv_one];lia
  .lia
 unfold sliceRange;simp only[c,Int.toNat_natCast];rw[Kv]
def Ee(K:W.Frag)(te:TE)(ts:TO):TE:=λZ H Q=>te Z H λx H1=>ts Z H1 λst H2=>∃a xs,x=.ref a/\st=some (-1)/\ah K H2 a xs/\∀p,H2 p=none->Q (.ref p) (aa H2 p (.lst xs.reverse))
def Kx{e:Expr}{te:TE}{ts:TO}{se:Expr}{p2 pos:Pos}(h:X.K=K)(he:PE X e te)(hs:PO X (some se) ts):PE X (.Subscript e (.Slice none none (some se) p2) pos) (Ee K te ts):=by
 subst h;ext a9 s Z H Q I h;show Subscript_ (aI (he a9 s Z H _ I h) λv s1 (x,H1,I1,r1,q1)=>?_);erw[wpAny_Slice];rw[evalPart_none];show aw (aw (aI (hs a9 s1 Z H1 _ I1 q1) λvs s3 (st,H3,I3,ps,q3)=>?_));let I4:Inv X a9 Z H3 {s3 with heap:=s3.heap.push {cls:=.type "slice",data:=.fields #[.none,.none,vs]}}:=I3.kept (t':=s3.toks) λb ob q=>aR _ q;let(a,xs,rfl,rfl,hx,q):=q3;cases r1;let(av,r,ht,hz):=I4.list hx;let bP:=r.length
 change wpAny (model X.prog X.w) X.A (subscriptTail e (.Slice none none (some se) p2) (.ref a) (.ref s3.heap.objs.size)) (EP X a9 Z Q) X.xe {s3 with heap:=s3.heap.push {cls:=.type "slice",data:=.fields #[.none,.none,vs]}}
 show tail_any (ops:=[.ref a,.ref s3.heap.objs.size]) (ht.isList.typeIs) slot_list_getitem.lookup ?_ (by with_unfolding_all rfl);show wpAny_getItem_list_slice ht.isList (Heap.IsSliceOf.new ..) .none .none ps ∅ ?_ (by rw[fM]<;>lia);rw[Kw];show(.ref _,_,I4.laid (t':=s3.toks) (o:=.lst xs.reverse) (λb ob q=>aR _ q) (aD _) ?_,rfl,q _ (I4.hok.fresh (aD _)));show(by rw[List.length_reverse];show hz,av.reverse,0,E7 r,bR _ rfl)
end
section
variable{X:Cx}{K:W.Frag}{o e:Expr}{es:List Expr}{to:TE}{t:TA}{bM bL:Pos}
omit Ky Kz pop extend vi vh slot_list_pop slot_list_extend type_list_pop type_list_extend Iq Ip in
def Ky(h:X.K=K)(ho:PE X o to)(ha:PA X (e::es) t)
  (hbase:↥(attributeBase o "pop" X.env (eval o X.env)=eval o X.env))
  (hfew:↥(((backTo bL (starEach (e::es) X.env)).all (λx=>!x.1) && (backToKw bL (keywordEach [] X.env)).all (λx=>x.1.isSome)
   && decide ((e::es).length+([]:List Keyword).length+(if([]:List Keyword).isEmpty then 0 else 1)<30))=true))
  (hline:↥((bM.endLine==bL.line)=true)) (hs:↥(starEach (e::es) X.env=(false,eval e X.env,)::starEach es X.env)) (Sb:↥((backTo bL (starEach es X.env)).any (·.1)=false)):
  PE X (.Call (.Attribute o "pop" bM) (e::es) [] bL) (p6 K "list" vi to t):=by
 subst h;show vd Gn PySem.F.slot_list_pop PySem.F.type_list_pop Iq ho ha hbase hfew hline hs Sb
end
section
variable{Z:St}{H:Hp}{Q:VK}{K:W.Frag}
def KA{i j:Int}(q:∀l,H l=none->Q (.ref l) (aa H l (.rng i j))):E9 [.int i,.int j] H Q:=(i,j,rfl,q)
def KB{p:Addr}{i j:Int}(h:H p=some (.rng i j))(h1: -(2 ^ 61)<=i)(h2:i<=2 ^ 61)(h3: -(2 ^ 61)<=j)(h4:j<=2 ^ 61)(hn:(j - i).toNat<=1000)(q:∀l,H l=none->Q (.ref l) (aa H l (.lst ((gR i (j - i).toNat).map V.int)))):Ea [.ref p] H Q:=
 (p,i,j,rfl,h,(),(),h2,h3,hn,q)
def KC{i j:Int}(q:Q (.int (if j<i then j else i)) H):Eb [.int i,.int j] H Q:=(i,j,rfl,q)
def KF{k:Bool}(q:Q (.int (if k then 1 else 0)) H):Ec [.bl k] H Q:=.inr (k,rfl,q)
def KG{te:TE}{ts:TO}(q:te Z H λx H1=>ts Z H1 λst H2=>∃a xs,x=.ref a/\st=some (-1)/\ah K H2 a xs/\∀p,H2 p=none->Q (.ref p) (aa H2 p (.lst xs.reverse))):Ee K te ts Z H Q:=q
def KH{l:Addr}{ns:LE}{k:Nat}(h:H l=some (.lst (ns.map V.int)))(hk:k<ns.length)(hl:ns.length<=1000)(q:Q (.int ns[k]) (aa H l (.lst ((ns.eraseIdx k).map V.int)))):vi (.ref l) [.int k] H Q:=by
 show(l,_,k,k,.int ns[k],rfl,rfl,h,(),(),?_,?_,?_)
 .show PySem.StrLaws.seqIndex_nonneg () (by rw[au];lia)
 .rw[aH,aK hk];rfl
 .rw[E8];show q
def KI{l b:Addr}{xs zs:LT}(h1:H l=some (.lst xs))(h2:H b=some (.lst zs))(z:xs.length+zs.length<=sizeLine)(q:Q .non (aa H l (.lst (xs++zs)))):vh (.ref l) [.ref b] H Q:=(l,b,xs,zs,rfl,rfl,h1,h2,z,q)
def iW{p:Addr}{ys:LT}(h:ah K H p ys)(q:∀l,H l=none->Q (.ref l) (aa H l (.tup ys))):wk K [.ref p] H Q:=(p,ys,rfl,.inl (h,q))
end
section
variable{X:Cx}
def wo(Uz:Bool):R2:=λx y H Q=>∃(p q:Addr) (ns ms:LE),x=.ref p/\y=.ref q/\H p=some (.lst (ns.map V.int))/\H q=some (.lst (ms.map V.int))/\Q (.bl (if Uz then !decide (ns=ms)else decide (ns=ms))) H
def sP{ns ms:LE}(h:ns.length=ms.length):((List.range ns.length).all λj=>decide (ns[j]?=ms[j]?))=decide (ns=ms):=by
 by_cases e:ns=ms
 .subst e;simp
 .rw[cW e];rw[Bool.eq_false_iff];ext z;apply e;rw[Aj]at z;apply List.ext_getElem?;ext j
  rcases fq j ns.length with q|q
  .show cP (z j (QU.mpr q))
  .rw[gp q,gp ()]
def sQ{A:Around}{s:Shared}{ns ms:LE}{us zs:T0}(r1:a_ (ns.map V.int) us)(r2:a_ (ms.map V.int) zs)(j:Nat)(h1:j<us.length)(h2:j<zs.length):SeqAt.EqAt A s us[j] zs[j] (decide (ns[j]?=ms[j]?)):=by
 let l1:=r1.length;let l2:=r2.length;rw[au]at l1 l2;let(u,e1,q1):=r1.get (i:=j) (x:=.int (ns[j]'())) (by rw[aH,aK ()];rfl);let(z,e2,q2):=r2.get (i:=j) (x:=.int (ms[j]'())) (by rw[aH,aK ()];rfl);rw[aK h1]at e1;rw[aK h2]at e2;cases e1;cases e2;let q:=CS (A:=A) (s:=s) q1 q2 rfl rfl;rw[aK (show j<ns.length by lia),aK (show j<ms.length by lia)]
 let e:jR (.int (ns[j]'())) (.int (ms[j]'()))=decide (some (ns[j]'())=some (ms[j]'())):=by
  change(ns[j]'()==ms[j]'())=_
  by_cases z:ns[j]'()=ms[j]'()
  .simp[z]
  .simp[z]
 rw[e]at q;show q
def Ef(hu:X.A.units+64<cLine):bT X (compareOp .Eq) (wo false):=by
 ext a9 s Z H x y v u Q I rx ry h;let(p,q,ns,ms,rfl,rfl,h1,h2,k):=h;cases(show v=Value.ref p from rx);cases(show u=Value.ref q from ry);let(us,r1,l1):=nu I h1;let(zs,r2,l2):=nu I h2;let e1:=r1.length;let e2:=r2.length;rw[au]at e1 e2;by_cases hl:ns.length=ms.length
 .erw[SeqAt.RcAt.lists (A:=X.A) (e:=λj=>decide (ns[j]?=ms[j]?)) l1 l2 (by simp;lia) () (λj h1 h2=>?_) X.prog X.w _ _]
  .simpa using sQ (A:=X.A.in1) (s:=s) r1 r2 j (by simpa using h1) (by simpa using h2)
  .rw[fM,<-e1,sP hl];show(.bl _,H,I,rfl,k)
 .erw[SeqAt.RcAt.lists_lengths l1 l2 (by simp;lia) () X.prog X.w _ _];let e:decide (ns=ms)=false:=cW λz=>hl (by rw[z]);show(.bl false,H,I,rfl,?_);rw[aO (by decide),e]at k;show k
def KJ(hu:X.A.units+64<cLine):bT X (compareOp .NotEq) (wo true):=by
 ext a9 s Z H x y v u Q I rx ry h;let(p,q,ns,ms,rfl,rfl,h1,h2,k):=h;cases(show v=Value.ref p from rx);cases(show u=Value.ref q from ry);let(us,r1,l1):=nu I h1;let(zs,r2,l2):=nu I h2;let e1:=r1.length;let e2:=r2.length;rw[au]at e1 e2;by_cases hl:ns.length=ms.length
 .erw[SeqAt.RcNeAt.lists (A:=X.A) (e:=λj=>decide (ns[j]?=ms[j]?)) l1 l2 (by simp;lia) () (λj h1 h2=>?_) X.prog X.w _ _]
  .simpa using sQ (A:=X.A.in1) (s:=s) r1 r2 j (by simpa using h1) (by simpa using h2)
  .rw[fM,<-e1,sP hl];show(.bl _,H,I,rfl,k)
 .erw[SeqAt.RcNeAt.lists_lengths l1 l2 (by simp;lia) () X.prog X.w _ _];let e:decide (ns=ms)=false:=cW λz=>hl (by rw[z]);show(.bl true,H,I,rfl,?_);rw[bf rfl,e]at k;show k
def wt{Uz:Bool}{H:Hp}{Q:VK}{p q:Addr}{ns ms:LE}(h1:H p=some (.lst (ns.map V.int)))(h2:H q=some (.lst (ms.map V.int)))(k:Q (.bl (if Uz then !decide (ns=ms)else decide (ns=ms))) H):wo Uz (.ref p) (.ref q) H Q:=(p,q,ns,ms,rfl,rfl,h1,h2,k)
end
def Eg:bootBuiltins "min"=some (.builtin "min"):=by decide+kernel
def KL:bootBuiltins "range"=some (.type "range"):=by decide+kernel
def KM:bootBuiltins "enumerate"=some (.type "enumerate"):=by decide+kernel
structure bC(mg:Str->Option Value):Prop extends Blt mg where
 z_min:mg "min"=none
 z_max:mg "max"=none
 z_sum:mg "sum"=none
 z_enumerate:mg "enumerate"=none
section
variable{K:W.Frag}
def wu{a:Addr}{rs:LE}{f:Int->Bool}{tt:TT}{H1:Hp}{Fin:LT->Hp->Prop}{Z0:List (Option V)}(hl:rs.length<=1000)
  (ha:ah K H1 a (rs.map V.int)) (htt:∀z R,R (f z) H1->tt (some (.int z)::Z0) H1 R) (fin:Fin ((rs.filter f).map V.int) H1):
  jf (rC K a) (dB 0) tt (eT 0) Fin (none::Z0) H1:=by
 erw[wc (λi ys Z' H'=>(∃x,Z'=x::Z0)/\H'=H1/\ys=((rs.take i).filter f).map V.int) rs.length ((none,rfl),rfl,rfl) ?_]
 .ext ys Z' H' ⟨_,rfl,rfl⟩;show((_,ha,by rw[au];show aD _),?_)
  grind
 .ext i ys Z' H' hi ⟨⟨x0,rfl⟩,rfl,rfl⟩
  let hx:(rs.map V.int)[i]?=some (.int rs[i]):=⋯
  let SR:((rs.take i).filter f).length<=1000:=cf (fW _ _) ⋯;show((_,_,ha,hx),cM (show _<1001 by rw[au];lia) (by decide),?_);ext x H6 ⟨rfl,hy⟩;let e:=hy _ ha;rw[hx]at e;cases e;erw[gz,htt _ _]
  let et:rs.take (i+1)=rs.take i++[rs[i]]:=by rw[il,aK hi];rfl
  cases hf:f rs[i]with
  |true=>
   erw[br,dW (v:=.int rs[i]) rfl];show cu hi ((_,rfl),rfl,?_)
   grind
  |false=>
   erw[bB];show cu hi ((_,rfl),rfl,?_)
   grind
end
def KN{Z:St}{H:Hp}{ta:TA}{N:It->Hp->Prop}(q:ta Z H λvs H1=>∃i j:Int,vs=[.int i,.int j]/\(-(2 ^ 62)<=i/\i<2 ^ 62/\ -(2 ^ 62)<=j/\j<2 ^ 62)/\N (mO i (j - i).toNat) H1):Cc ta Z H N:=q
noncomputable def iE:LE->LE
 |[]=>[]
 |x::r=>if x∈iE r then iE r else x::iE r
theorem l7{x:Int}:∀{ns:LE},x∈iE ns↔x∈ns
 |[]=>Iff.rfl
 |y::r=>by
  let ih:=@l7 x r;unfold iE
  grind
theorem jV:∀{ns:LE},(iE ns).Nodup
 |[]=>qS
 |y::r=>by
  unfold iE;split
  .show jV
  .rename_i h;show fV.mpr (h,jV)
def Eh{ks js:LE}(h1:ks.Nodup)(h2:js.Nodup)(m:∀x,x∈ks↔x∈js):ks.length=js.length:=
 Nat.le_antisymm (gg h1 λx hx=>(m x).mp hx) (gg h2 λx hx=>(m x).mpr hx)
noncomputable def dy(ns:LE):Nat:=(iE ns).length
noncomputable def eL(ns ms:LE):Nat:=((iE ns).filter λx=>decide (x∈ms)).length
def jW{ks ns:LE}(h:ks.Nodup)(m:∀x,x∈ks↔x∈ns):ks.length=dy ns:=Eh h jV λx=>(m x).trans l7.symm
def pJ{ks ns ms:LE}(h:ks.Nodup)(m:∀x,x∈ks↔x∈ns/\x∈ms):ks.length=eL ns ms:=Eh h (jV.filter _) λx=>by
 rw[m x,Ah,l7,gY]
def wx(ns:LE):dy ns<=ns.length:=gg jV λx hx=>l7.mp hx
def KO(ns ms:LE):eL ns ms<=dy ns:=fW _ _
def wy{ns ms:LE}(m:∀x,x∈ns↔x∈ms):dy ns=dy ms:=jW jV λx=>l7.trans (m x)
def KP{ns ms Tj XF:LE}(m:∀x,x∈ns↔x∈Tj)(n:∀x,x∈ms↔x∈XF):eL ns ms=eL Tj XF:=pJ (jV.filter _) λx=>by
 rw[Ah,l7,gY,m x,n x]
def wz(ns ms:LE):eL ns ms=eL ms ns:=pJ (jV.filter _) λx=>by
 rw[Ah,l7,gY];show And.comm
def KQ(ns:LE):eL ns ns=dy ns:=(pJ jV λx=>by rw[l7];show(λh=>(h,h),λh=>h.1)).symm
noncomputable def dk(ns ms:LE):Bool:=decide (dy ns<2*eL ns ms) && decide (dy ms<2*eL ns ms)
def KR{ns ms Tj XF:LE}(m:∀x,x∈ns↔x∈Tj)(n:∀x,x∈ms↔x∈XF):dk ns ms=dk Tj XF:=by
 unfold dk;rw[wy m,wy n,KP m n]
def KS(ns ms:LE):dk ns ms=dk ms ns:=by
 unfold dk;rw[wz ns ms,Bool.and_comm]
section
variable{X:Cx}
end
section
variable{X:Cx}{K:W.Frag}{o e:Expr}{es:List Expr}{to:TE}{t:TA}{bM bL:Pos}
end
section
variable{Z:St}{H:Hp}{Q:VK}
end
section
variable{prog:Program}{w:World}{A:Around}{E:Value->Shared->Prop}{s:Shared}
end
section
variable{X:Cx}{K:W.Frag}
def eV(K:W.Frag)(H:Hp)(p:Addr)(xs:LT):Prop:=ah K H p xs\/az K H p xs
def l9{H H':Hp}{a:Addr}{xs:LT}(e:aC H H')(h:az K H a xs):az K H' a xs:=by
 rcases h with(h|⟨o,h⟩)|h
 .show .inl (.inl (e _ _ h))
 .show .inl (.inr (o,e _ _ h))
 .show .inr h
def eV.same{H H':Hp}{p:Addr}{xs:LT}(s:aC H H')(h:eV K H p xs):eV K H' p xs:=h.elim (λh=>.inl (s.seq h)) λh=>.inr (l9 s h)
def wA(K:W.Frag)(w:World):LT->Hp->VK->Prop:=λxs H Q=>∃(p:Addr) (ns:LE),xs=[.ref p]/\eV K H p (ns.map V.int)/\ns.length+1<4096/\∀(l:Addr) (ks:LE),H l=none->ks.Nodup->(∀x,x∈ks↔x∈ns)->Q (.ref l) (aa H l (cq w l ks))
def K_(hc:X.calm=true):cJ X (.type "set") (wA X.K X.w):=by
 ext a9 s Z H xs us Q I r h;let(p,ns,rfl,hq,hl,q):=h;let(u,rfl,rx):=fZ r;cases rx
 rcases hq with hq|hq
 .let(av,r',pl,hz):=I.list hq;let hi:=sL r';let bP:=lQ hi;show JO (I.ok.hd hc) pl.isList () (by simp only[fM];change _<4096;lia) λh' tk ks g m old=>?_;show(.ref s.heap.objs.size,_,I.laidD (d':=s.drawn) (λb o e=>old b o (bw e) e) (aD _) (sJ g),rfl,q _ ks (I.hok.fresh (aD _)) g.nodup m)
 .let(av,r',pl,hz):=I.tuple hq;let hi:=sL r';let bP:=lQ hi;show KZ (I.ok.hd hc) (show s.heap.IsTuple p av.toArray from pl) () (by simp only[fM];change _<4096;lia) λh' tk ks g m old=>?_;show(.ref s.heap.objs.size,_,I.laidD (d':=s.drawn) (λb o e=>old b o (bw e) e) (aD _) (sJ g),rfl,q _ ks (I.hok.fresh (aD _)) g.nodup m)
def jj{w:World}(h:X.K=K)(hw:X.w=w)(hc:X.calm=true):cJ X (.type "set") (wA K w):=by subst h;subst hw;show K_ hc
end
section
variable{Z:St}{H:Hp}{Q:VK}{K:W.Frag}{w:World}
def jk{p:Addr}{ns:LE}(h:eV K H p (ns.map V.int))(l:ns.length+1<4096)(q:∀(l:Addr) (ks:LE),H l=none->ks.Nodup->(∀x,x∈ks↔x∈ns)->Q (.ref l) (aa H l (cq w l ks))):wA K w [.ref p] H Q:=(p,ns,rfl,h,l,q)
def Ei{p:Addr}{ns:LE}{z:Int}(h:eV K H p (ns.map V.int))(q:Q (.bl (decide (z∈ns))) H):kS K false (.int z) (.ref p) H Q:=by
 show(p,_,rfl,h,rfl,sO ns,?_);rw[pG];show q
def Ej{p:Addr}{ns:LE}{z:Int}(h:eV K H p (ns.map V.int))(q:Q (.bl (!decide (z∈ns))) H):kS K true (.int z) (.ref p) H Q:=by
 show(p,_,rfl,h,rfl,sO ns,?_);rw[pG];show q
def nz{p:Addr}{ys:LT}(h:eV K H p ys)(q:∀l,H l=none->Q (.ref l) (aa H l (.lst ys))):sh K [.ref p] H Q:=(p,ys,rfl,h,q)
def L0{p:Addr}{ys:LT}(h:eV K H p ys)(q:Q (.int ys.length) H):pA K [.ref p] H Q:=(p,ys,rfl,h,q)
end
noncomputable def wB(K:W.Frag)(l:Addr):It:=
 (λi H=>∃xs u,ah K H l xs/\xs[i]?=some u,
  λi H x H'=>∃T u,x=.ref T/\H T=none/\H'=aa H T (.tup [.int i,u])/\∀xs,ah K H l xs->xs[i]?=some u,
  λi H=>∃xs,ah K H l xs/\xs.length<=i)
def L1{P:Program}{w:World}{K:W.Frag}{es:List Expr}{kk:Nat}{pos:Pos}{e it l:Addr}(SQ:e≠it)(hli:l≠it)(SR:l≠e):
  ir P w K (.Tuple es kk pos) (wB K l) [e,it] e (λi h=>(∃old,IsEnum h e it i old)/\h.IsListIter it l i) where
 mem:=∅
 obj:=λi h st b hb=>by
  let((old,he),hit):=st;simp only[cb,bF,cS]at hb
  rcases hb with rfl|rfl
  .grind
  .let(o,e',c,d):=hit
   grind
 keep:=λi h h' st k=>by
  let((old,he),hit):=st;show((old,k e ∅ _ he),hit.at λo q=>k it ∅ o q)
 item:=by
  ext X hP hw hK hc i a9 s Z H E I hf st hg;subst hP hw hK;let(xs,u,q1,e1):=hg;let(av,rv,p1,_):=I.list q1;let(a1,b1,r1):=rv.get e1;let((old,he),hit):=id st;show wpAny_pyNext_enum_item he hit p1.isList (x:=a1) ⋯ SQ λh' g1 g2 g3 g4 g5=>?_;show(_,rfl,wpAny_letOwnedTupleGo_enum g1 λT5 g1' Tn=>?_);let ne:∀{b:Addr} {o:Obj},s.heap.get? b=some o->s.heap.objs.size≠b:=λe=>fY (bw e)
  let kk:∀b o,b∉ [e,it]->s.heap.get? b=some o->T5.get? b=some o:=λb o hb q=>by
   simp only[cb,bF,cS,fO]at hb;show Tn.extBut _ _ hb.1 (g5 b o hb.1 hb.2 q)
  let hT:T5.get? s.heap.objs.size=some {cls:=.type "tuple",data:=.seq #[.int i s.toks,a1]}:=Tn.extBut _ _ (ne he) g3;let hch:∀b∈[e,it],cC X a9 H b:=hf
  let new:c8 X.prog X.w (aa H s.heap.objs.size (.tup [.int i,u])) T5 s.heap.objs.size (.tup [.int i,u]):=
   (by change 2<=sizeLine;decide,[.int i s.toks,a1],.cons (_,rfl) (.cons r1 .nil),_,hT,rfl,_,rfl)
  let I1:Inv X a9 Z (aa H s.heap.objs.size (.tup [.int i,u])) {s with heap:=T5,toks:=s.toks+1}:=I.chgLaid hch kk (aD _) new;let hn:H s.heap.objs.size=none:=I.hok.fresh (aD _);show(.ref s.heap.objs.size,_,I1,rfl,(_,u,rfl,hn,rfl,λxs' w1=>by rw[I.list_inj w1 q1];show e1),((a1,by simpa using g1'),g2.at λo q=>Tn.extBut _ _ (Ne.symm SQ) q),λb hb=>?_);rw[aB (λz=>?_)]
  .show(hf b hb).1
  .obtain⟨o,ho⟩:∃o,s.heap.get? b=some o:=by
    simp only[cb,bF,cS]at hb
    rcases hb with rfl|rfl
    .grind
    .let(o,e',_):=hit;show(o,e')
   grind
 done:=by
  ext X hP hw hK hc i a9 s Z H E I hf st hg;subst hP hw hK;let(xs,q1,hx):=hg;let(av,rv,p1,_):=I.list q1;let hl:=rv.length;let((old,he),hit):=id st;let(f0,f1,f2,f3,f4,f5):=hf it ∅
  show wpAny_pyNext_enum_end (I.ok.hd hc) he hit p1.isList ⋯ λh' eb=>(rfl,I.turned (t':=s.toks) (λb o hb e=>eb b o hb e) f0 f1 f3 f4 f5)
 self:=λ_ _ _ _ _ st h=>by
  let((old,he),hit):=st;show wpAny_pyIter_enum he h
section
variable{X:Cx}{K:W.Frag}{es:List Expr}{kk:Nat}{Sk:Pos}
def Ek(K:W.Frag)(ta:TA):TI:=λZ H R=>ta Z H λvs H1=>∃a,vs=[.ref a]/\(∃xs,ah K H1 a xs)/\R (wB K a) H1
def wC{a:Expr}{ta:TA}{p pos:Pos}(hK:X.K=K)(hg:Gl X "enumerate")(hm:X.mg "enumerate"=none)(ha:PA X [a] ta)(hs:↥(starEach [a] X.env=[(false,eval a X.env,)])):
  PI X (.Tuple es kk Sk) (.Call (.Name "enumerate" p) [a] [] pos) (Ek K ta):=by
 subst hK;ext a9 s Z H R I h;show Call_ (kK I hg hm KM (qB (aI (ha pos a9 s Z H _ I h) λus s1 (vs,H1,I1,r1,q1)=>?_) hs rfl));let(l,e,(xs,hq),q):=q1;subst e;let(u,rfl,rx):=fZ r1;cases rx;let(av,rv,p1,_):=I1.list hq
 let VE:l<s1.heap.objs.size:=by obtain⟨_,e,_⟩:=p1.isList;show bw e
 show call_enumerate_list p1.isList λh' g1 g2 g3 g4=>?_;erw[wpAny_pyIter_enum g1];show(_,_,_,_,H1,rfl,I1.kept (t':=s1.toks) g4,L1 (e:=s1.heap.objs.size+1) (it:=s1.heap.objs.size) (l:=l) (Nat.succ_ne_self _) (bW VE) (bW (Nat.lt_succ_of_lt VE)),((_,g1),g2),λb hb=>?_,q);simp only[cb,bF,cS]at hb
 let SR:s1.heap.objs.size<=b:=⋯
 show I1.fpOk SR (I1.hok.fresh SR)
def L6{Z:St}{H:Hp}{ta:TA}{N:It->Hp->Prop}(q:ta Z H λvs H1=>∃a,vs=[.ref a]/\(∃xs,ah K H1 a xs)/\N (wB K a) H1):Ek K ta Z H N:=q
end
section
variable{X:Cx}{K:W.Frag}
def El(K:W.Frag):LT->Hp->VK->Prop:=λxs H Q=>∃(p:Addr) (ns:LE),xs=[.ref p]/\ah K H p (ns.map V.int)/\ns.length<64/\∀(l:Addr) (rs:LE),H l=none->rs.Perm ns->rs.Pairwise (· <= ·)->Q (.ref l) (aa H l (.lst (rs.map V.int)))
def La(h:X.K=K):cJ X (.builtin "sorted") (El K):=by
 subst h;ext a9 s Z H xs us Q I r h;let(p,ns,rfl,hq,hl,q):=h;let(u,rfl,rx):=fZ r;cases rx;let(av,r',pl,hz):=I.list hq;let hi:=sL r';let bP:=lQ hi;show PyProof.Rows.sorted_ints pl.isList hi () λSD rs a1 a2 a3=>?_;let(e,he):=PyProof.Rows.sortedAll_at s.heap av SD;show(.ref (s.heap.objs.size+1),_,I.laidD (d':=s.drawn) (t':=s.toks) (o:=.lst (rs.map V.int)) (λb o k=>PyProof.Rows.sortedAll_old k) (kE _) (?_,SD.toList,e,sM a1,by simpa using he),rfl,q _ rs (I.hok.fresh (kE _)) a2 a3);rw[au,a2.length_eq,iQ];lia
def Em(h:X.K=K):jP X (uX K):=by subst h;show HY
end
section
variable{Z:St}{H:Hp}{Q:VK}{K:W.Frag}
def Lb{p:Addr}{ns:LE}(h:ah K H p (ns.map V.int))(l:ns.length<64)(q:∀(l:Addr) (rs:LE),H l=none->rs.Perm ns->rs.Pairwise (· <= ·)->Q (.ref l) (aa H l (.lst (rs.map V.int)))):El K [.ref p] H Q:=(p,ns,rfl,h,l,q)
def En{r r':R2}{ta tb tc:TE}(q:ta Z H λx H1=>tb Z H1 λy H2=>r x y H2 λz H3=>∃k,z=.bl k/\(if k=true then tc Z H3 λw' H4=>r' y w' H4 Q else Q (.bl false) H3)):uV r r' ta tb tc Z H Q:=q
end
noncomputable def gC(ns:LE):Bool:=(ns.zip (ns.drop 1)).all λp=>decide (p.1<p.2)
theorem wD:∀{ns:LE},gC ns=true↔ns.Pairwise (· < ·)
 |[]=>by simp[gC]
 |[x]=>by simp[gC]
 |x::y::r=>by
  let ih:=@wD (y::r)
  let e:gC (x::y::r)=(decide (x<y) && gC (y::r)):=by
   unfold gC;simp
  rw[e,gq,ih,gY,QV (a:=x)];constructor
  .ext⟨h1,h2⟩;show(λz hz=>?_,h2);rw[QV]at h2
   grind
  .grind
section
variable{X:Cx}{K:W.Frag}
end
section
variable{prog:Program}{w:World}{A:Around}{E:Value->Shared->Prop}{s:Shared}
end
section
variable{X:Cx}{K:W.Frag}{pos:Pos}
end
section
variable{Z:St}{H:Hp}{Q:VK}{K:W.Frag}
end
def jX(H:Hp)(ts:Tk)(rh:List LE):Prop:=ts.length=rh.length/\∀(i:Nat) t ys,ts[i]?=some t->rh[i]?=some ys->H t=some (.tup (ys.map V.int))
def jX.same{H H':Hp}{ts:Tk}{rh:List LE}(s:aC H H')(h:jX H ts rh):jX H' ts rh:=(h.1,λi t p e1 e2=>s _ _ (h.2 i t p e1 e2))
section
variable{X:Cx}{a9:Tl}{Z:St}{H:Hp}{s:Shared}{K:W.Frag}
end
section
variable{H:Hp}{Q:VK}
end
abbrev sR(h:Heap)(l1:Addr):Heap:=h.push {cls:=.type "list_iterator",data:=.fields #[.ref l1,.int 0 0]}
abbrev sS(h:Heap)(l1 l2:Addr):Heap:=(sR h l1).push {cls:=.type "tuple_iterator",data:=.fields #[.ref l2,.int 0 0]}
abbrev sU(h:Heap)(l1 l2:Addr):Heap:=(sS h l1 l2).push {cls:=.type "tuple",data:=.seq #[.ref h.objs.size,.ref (sR h l1).objs.size]}
abbrev sV(h:Heap)(l1 l2:Addr):Heap:=(sU h l1 l2).push {cls:=.type "tuple",data:=.seq #[.none,.none]}
abbrev mj(h:Heap)(l1 l2:Addr):Heap:=(sV h l1 l2).push {cls:=.type "zip",data:=.fields #[.none,.bool false,.bool false,.ref (sS h l1 l2).objs.size,.ref (sU h l1 l2).objs.size]}
def Lc(l1 l2:Addr)(xs ys:Array Value):
  Meets (Builtin.«zip.__new__» ([.type "zip",.ref l1,.ref l2],[])) (λ_ R s=>s.heap.IsList l1 xs/\s.heap.IsTuple l2 ys/\
   R (.ok (.ret (.ref (sV s.heap l1 l2).objs.size))) {s with heap:=mj s.heap l1 l2}):=
 .of_wp λprog w A R s h=>by
  let(hp,g,d,tk,os):=s;let(RB,Ro,h):=h;let uH:=sub_zip;let Yo:Heap.IsList (Shared.heap (hp,g,d,tk,os)) l1 xs:=RB;let VW:Heap.IsTuple (Shared.heap (hp.push {cls:=.type "list_iterator",data:=.fields #[.ref l1,.int 0 0]},g,d,tk,os)) l2 ys:=Heap.IsTuple.push Ro _
  wp_walk using uz Yo,uw VW
  show(_,rfl,h)
def Ld{prog:Program}{w:World}{A:Around}{E:Value->Shared->Prop}{s:Shared}{l1 l2:Addr}{xs ys:Array Value}{Q:Value->Shared->Prop}(RB:s.heap.IsList l1 xs)(Ro:s.heap.IsTuple l2 ys)
  (h:∀h',IsZip h' (s.heap.objs.size+4) (s.heap.objs.size+2) (s.heap.objs.size+3) .none->IsPair h' (s.heap.objs.size+2) (.ref s.heap.objs.size) (.ref (s.heap.objs.size+1))->
   IsPair h' (s.heap.objs.size+3) .none .none->h'.IsListIter s.heap.objs.size l1 0->h'.IsTupleIter (s.heap.objs.size+1) l2 0->h'.objs.size=s.heap.objs.size+5->
   (∀c o,s.heap.get? c=some o->h'.get? c=some o)->Q (.ref (s.heap.objs.size+4)) {s with heap:=h'}):
  wpAny (model prog w) A (call (.type "zip") [.ref l1,.ref l2]) Q E s:=by
 show callType_new F.called_zip (by decide) (F.typeCall_zip_2 _ _) (F.newCall_zip_2 _ _) (λobj=>F.args_object_init_3 obj _ _) F.entry_zip_new
  (Lc l1 l2 xs ys) (RB,Ro,?_)
 let z1:(sR s.heap l1).objs.size=s.heap.objs.size+1:=eQ ..
 let z2:(sS s.heap l1 l2).objs.size=s.heap.objs.size+2:=by rw[eQ,z1]
 let z3:(sU s.heap l1 l2).objs.size=s.heap.objs.size+3:=by rw[eQ,z2]
 let z4:(sV s.heap l1 l2).objs.size=s.heap.objs.size+4:=by rw[eQ,z3]
 let z5:(mj s.heap l1 l2).objs.size=s.heap.objs.size+5:=by rw[eQ,z4]
 let g5:(mj s.heap l1 l2).get? (sV s.heap l1 l2).objs.size=some _:=bR _ rfl;let g4:(mj s.heap l1 l2).get? (sU s.heap l1 l2).objs.size=some _:=aR _ (bR _ rfl);let g3:(mj s.heap l1 l2).get? (sS s.heap l1 l2).objs.size=some _:=aR _ (aR _ (bR _ rfl));let g2:(mj s.heap l1 l2).get? (sR s.heap l1).objs.size=some _:=aR _ (aR _ (aR _ (bR _ rfl)));let g1:(mj s.heap l1 l2).get? s.heap.objs.size=some _:=aR _ (aR _ (aR _ (aR _ (bR _ rfl))))
 change _/\_
 rw[z2,z3,z4]at g5;rw[z1,z2]at g3;rw[z3]at g4;rw[z1]at g2;rw[z4]
 show((_,g5,rfl),h _ g5 g3 g4 (_,g1,rfl,rfl) (_,g2,rfl,rfl) z5 λc o x=>
  aR _ (aR _ (aR _ (aR _ (aR _ x)))))
section
variable{X:Cx}{K:W.Frag}{es:List Expr}{kk:Nat}{Sk:Pos}
def Eo(K:W.Frag)(ta:TA):TI:=λZ H R=>ta Z H λvs H1=>∃a b,vs=[.ref a,.ref b]/\
 (∃xs ys,ah K H1 a xs/\az K H1 b ys/\R (kX (λH xs=>ah K H a xs) (λH ys=>az K H b ys)) H1)
def Le{a b:Expr}{ta:TA}{p pos:Pos}(hK:X.K=K)(hg:Gl X "zip")(hm:X.mg "zip"=none)(ha:PA X [a,b] ta)(hs:↥(starEach [a,b] X.env=[(false,eval a X.env,),(false,eval b X.env,)]))(S0:↥(starEach [b] X.env=[(false,eval b X.env,)]))
  (hv:bootBuiltins "zip"=some (.type "zip"):=by first|rfl|decide+kernel):
  PI X (.Tuple es kk Sk) (.Call (.Name "zip" p) [a,b] [] pos) (Eo K ta):=by
 subst hK;ext a9 s Z H R I h;show Call_ (kK I hg hm hv (qB (aI (ha pos a9 s Z H _ I h) λus s1 (vs,H1,I1,r1,q1)=>?_) ⋯ (by rw[S0];rfl)));let(l1,l2,e,xs,ys,q1,q2,q):=q1;subst e;let(u1,u2,rfl,e1,e2):=mU r1;cases e1;cases e2
 let fp:∀(h':Heap) (H':Hp),(∀b,s1.heap.objs.size<=b->H' b=none)->∀b∈[s1.heap.objs.size+4,s1.heap.objs.size+2,s1.heap.objs.size+3,s1.heap.objs.size,s1.heap.objs.size+1],cC X a9 H' b:=λh' H' hn b hb=>by
  simp only[cb,bF,cS]at hb
  let SR:s1.heap.objs.size<=b:=()
  show I1.fpOk SR (hn b SR)
 let(av,rv,p1,_):=I1.list q1;let(W0,RM,p2,_):=I1.tuple q2
 let VE:l1<s1.heap.objs.size:=by obtain⟨_,e,_⟩:=p1.isList;show bw e
 let XI:l2<s1.heap.objs.size:=by obtain⟨_,e,_⟩:=p2;show bw e
 show Ld p1.isList (show s1.heap.IsTuple l2 W0.toArray from p2) λh' g1 g2 g3 g4 g5 g6 g7=>?_;erw[Aw g1];show(_,_,_,_,H1,rfl,I1.kept (t':=s1.toks) g7,vp (vq VE XI) (dJ.list _ l1) (dJ.tuple _ l2) (iz.list X.K l1) (iz.tuple X.K l2),(g1,g2,(_,_,g3),g4,g5),fp h' H1 λb hb=>I1.hok.fresh hb,q)
def Lf{Z:St}{H:Hp}{ta:TA}{N:It->Hp->Prop}(q:ta Z H λvs H1=>∃a b,vs=[.ref a,.ref b]/\(∃xs ys,ah K H1 a xs/\az K H1 b ys/\N (kX (λH xs=>ah K H a xs) (λH ys=>az K H b ys)) H1)):Eo K ta Z H N:=q
end
section
variable{X:Cx}{K:W.Frag}{o e:Expr}{es:List Expr}{to:TE}{t:TA}{bM bL:Pos}
end
section
variable{X:Cx}{K:W.Frag}
def Ep:R2:=λx y H Q=>∃(p q:Addr) (ns ms:LE),x=.ref p/\y=.ref q/\H p=some (.tup (ns.map V.int))/\H q=some (.tup (ms.map V.int))/\Q (.bl (decide (ns=ms))) H
def F3:R2:=λx y H Q=>∃(p q:Addr) (ns ms:LE),x=.ref p/\y=.ref q/\H p=some (.tup (ns.map V.int))/\H q=some (.tup (ms.map V.int))/\Q (.bl (!decide (ns=ms))) H
omit Lg Mc Eq NotEq Ep F3 RcAt RcNeAt in
def Lg(hu:X.A.units+64<cLine):bT X (compareOp .Eq) Ep:=by
 ext a9 s Z H x y v u Q I rx ry h;let(p,q,ns,ms,rfl,rfl,h1,h2,k):=h;cases(show v=Value.ref p from rx);cases(show u=Value.ref q from ry);let(us,r1,l1):=sN I h1;let(zs,r2,l2):=sN I h2;let e1:=r1.length;let e2:=r2.length;rw[au]at e1 e2;erw[SeqAt.RcAt.tuples (A:=X.A) (s:=s) (e:=λj=>decide (ns[j]?=ms[j]?)) l1 l2 () (λj z1 z2=>by simpa using sQ (A:=X.A.in1) (s:=s) r1 r2 j () ()) X.prog X.w _ _]
 let er:((List.range (min us.toArray.size zs.toArray.size)).all (λj=>decide (ns[j]?=ms[j]?)) && (us.toArray.size==zs.toArray.size))=decide (ns=ms):=by
  rw[fM,fM,<-e1,<-e2];by_cases hl:ns.length=ms.length
  .rw[<-hl,Nat.min_self,sP hl,beq_self_eq_true,uF]
  .grind
 rw[er];show(.bl _,H,I,rfl,k)
end
section
variable{Z:St}{H:Hp}{Q:VK}{K:W.Frag}{D:gu}
def Er{p q:Addr}{ns ms:LE}(h1:H p=some (.tup (ns.map V.int)))(h2:H q=some (.tup (ms.map V.int)))(k:Q (.bl (decide (ns=ms))) H):Ep (.ref p) (.ref q) H Q:=(p,q,ns,ms,rfl,rfl,h1,h2,k)
def Lh{i:Nat}{te:TE}{ti:oN}{x:V}(h:Z[i]?=some (some x))(q:te Z H λy H1=>ti x y H1 λz H2=>D.nx (Z.set i (some z)) H2):C6 i te ti D Z H:=(x,h,q)
def Li{f:Int->Int->Int}{i j:Int}(q:Q (.int (f i j)) H):C7 f (.int i) (.int j) H Q:=(i,j,rfl,rfl,q)
def Lj{i j:Nat}{ta:TA}(q:ta Z H λvs H1=>∃v w,vs=[v,w]/\D.nx ((Z.set i (some v)).set j (some w)) H1):C5 i j ta D Z H:=q
def Lk{a b:V}{R:V->V->Prop}(q:R a b):∃v w,[a,b]=[v,w]/\R v w:=(a,b,rfl,q)
end
section
variable{κ:Type}[DecidableEq κ]
noncomputable def aM(kvs:List (κ×V))(k:κ):Option V:=(kvs.find? λkv=>decide (kv.1=k)).map (·.2)
noncomputable def bu(kvs:List (κ×V))(k:κ)(v:V):List (κ×V):=
 if(kvs.any λkv=>decide (kv.1=k))=true then kvs.map (λkv=>if kv.1=k then(kv.1,v,)else kv)else kvs++[(k,v,)]
noncomputable def iX(kvs:List (κ×V))(k:κ):List (κ×V):=kvs.filter λkv=>decide (kv.1≠k)
def iY{p:κ×V}{r:List (κ×V)}{k:κ}(e:p.1=k):aM (p::r) k=some p.2:=by simp[aM,mI,e]
def iZ{p:κ×V}{r:List (κ×V)}{k:κ}(e:¬p.1=k):aM (p::r) k=aM r k:=by simp[aM,mI,e]
theorem jY(k:κ):∀kvs:List (κ×V),(kvs.any λkv=>decide (kv.1=k))=(aM kvs k).isSome
 |[]=>rfl
 |p::r=>by
  rw[ox];by_cases e:p.1=k
  .simp only[iY e,cY e,Bool.true_or,Option.isSome_some]
  .rw[iZ e,cW e,Bool.false_or];show jY k r
theorem Es(k j:κ)(y:V):∀kvs:List (κ×V),aM (kvs.map λkv=>if kv.1=k then(kv.1,y,)else kv) j=(aM kvs j).map λx=>if j=k then y else x
 |[]=>rfl
 |p::r=>by
  let ih:=Es k j y r;rw[cQ];by_cases h:p.1=k
  .rw[bf h];by_cases e:p.1=j
   .rw[iY (p:=(p.1,y,)) e,iY e,uC,bf (e.symm.trans h)]
   .rw[iZ (p:=(p.1,y,)) e,iZ e,ih]
  .rw[aO h];by_cases e:p.1=j
   .rw[iY (p:=p) e,iY e,uC,aO (λz=>h (e.trans z))]
   .rw[iZ (p:=p) e,iZ e,ih]
theorem sW(k j:κ)(y:V):∀kvs:List (κ×V),aM kvs k=none->aM (kvs++[(k,y,)]) j=if j=k then some y else aM kvs j
 |[],_=>by
  by_cases e:k=j
  .rw[bf e.symm];show iY (p:=(k,y,)) e
  .rw[aO (λz=>e z.symm)];show iZ (p:=(k,y,)) e
 |p::r,hn=>by
  rw[List.cons_append]
  let hk:¬p.1=k:=λz=>by rw[iY z]at hn;cases hn
  rw[iZ hk]at hn;let ih:=sW k j y r hn;by_cases e:p.1=j
  .rw[iY e,iY e,aO (λz=>hk (e.trans z))]
  .rw[iZ e,iZ e,ih]
def sY(kvs:List (κ×V))(k j:κ)(y:V):aM (bu kvs k y) j=if j=k then some y else aM kvs j:=by
 unfold bu;by_cases a:(kvs.any λkv=>decide (kv.1=k))=true
 .rw[bf a,Es];rw[jY]at a;by_cases e:j=k
  .let(x,hx):=Option.isSome_iff_exists.mp a
   grind
  .rw[aO e]
   cases aM kvs j with
   |none=>rfl
   |some x=>rw[uC,aO e]
 .rw[aO a];erw[sW k j y kvs];rw[jY]at a
  cases q:aM kvs k with
  |none=>rfl
  |some x=>rw[q]at a;show(a rfl).elim
def jZ(kvs:List (κ×V))(k:κ)(v:V):(bu kvs k v).length<=kvs.length+1:=by
 unfold bu
 grind
def ml{kvs:List (κ×V)}{k:κ}(v:V)(h:aM kvs k=none):bu kvs k v=kvs++[(k,v,)]:=by
 unfold bu;rw[jY,h]
 grind
def eR.isSome_eq{o:Option V}{u:Option Value}(r:eR o u):o.isSome=u.isSome:=by
 cases o with
 |none=>cases u with
  |none=>rfl
  |some _=>show(show False from r).elim
 |some _=>cases u with
  |none=>show(show False from r).elim
  |some _=>rfl
def eR.getD{o:Option V}{u:Option Value}{d:V}{d':Value}(r:eR o u)(rd:aV d d'):aV (o.getD d) (u.getD d'):=by
 cases o with
 |none=>cases u with
  |none=>show rd
  |some _=>show(show False from r).elim
 |some _=>cases u with
  |none=>show(show False from r).elim
  |some _=>show r
def KV.val{kvs:List (κ×V)}{vs:List (κ×Value)}(r:KV kvs vs)(k:κ):eR (aM kvs k) (valueAt vs k):=by
 unfold KV at r
 induction r with
 |nil=>show True.intro
 |@cons p q ps qs h t ih=>
  let(h1,h2):=h;by_cases e:p.1=k
  .let e':q.1=k:=h1.symm.trans e
   let b:valueAt (q::qs) k=some q.2:=by simp[valueAt,mI,e']
   rw[iY e,b];show h2
  .let e':¬q.1=k:=λz=>e (h1.trans z)
   let b:valueAt (q::qs) k=valueAt qs k:=by simp[valueAt,mI,e']
   rw[iZ e,b];show ih
def KV.any{kvs:List (κ×V)}{vs:List (κ×Value)}(r:KV kvs vs)(k:κ):(kvs.any λkv=>decide (kv.1=k))=vs.any λkv=>decide (kv.1=k):=by
 unfold KV at r
 induction r with
 |nil=>rfl
 |cons h t ih=>rw[ox,ox,ih,h.1]
def KV.repl{kvs:List (κ×V)}{vs:List (κ×Value)}(r:KV kvs vs)(k:κ){y:V}{u:Value}(ry:aV y u):
  KV (kvs.map λkv=>if kv.1=k then(kv.1,y,)else kv) (vs.map λkv=>if kv.1=k then(kv.1,u,)else kv):=by
 unfold KV at r⊢
 induction r with
 |nil=>show .nil
 |@cons p q ps qs h t ih=>
  rw[cQ,cQ];show .cons ?_ ih
  grind
def KV.put{kvs:List (κ×V)}{vs:List (κ×Value)}(r:KV kvs vs)(k:κ){y:V}{u:Value}(ry:aV y u):KV (bu kvs k y) (stored vs k u):=by
 unfold bu stored;rw[r.any k];by_cases e:(vs.any λkv=>decide (kv.1=k))=true
 .rw[bf e,bf e];show r.repl k ry
 .rw[aO e,aO e];show Paired.snoc r (rfl,ry)
def KV.drop{kvs:List (κ×V)}{vs:List (κ×Value)}(r:KV kvs vs)(k:κ):KV (iX kvs k) (without vs k):=by
 unfold KV at r⊢;unfold iX without
 induction r with
 |nil=>show .nil
 |@cons p q ps qs h t ih=>
  let(h1,h2):=h;rw[j7,j7];by_cases e:p.1=k
  .grind
  .let e':¬q.1=k:=λz=>e (h1.trans z)
   let a:decide (p.1≠k)=true:=by simp[e]
   let b:decide (q.1≠k)=true:=⋯
   rw[bf a,bf b];show .cons (h1,h2) ih
def KV.keys{kvs:List (κ×V)}{vs:List (κ×Value)}(r:KV kvs vs):kvs.map (·.1)=vs.map (·.1):=by
 unfold KV at r
 induction r with
 |nil=>rfl
 |cons h t ih=>rw[cQ,cQ,ih,h.1]
def KV.length{kvs:List (κ×V)}{vs:List (κ×Value)}(r:KV kvs vs):kvs.length=vs.length:=Paired.length r
def Ll(kvs:List (κ×V))(k:κ):(iX kvs k).length<=kvs.length:=fW _ _
end
def gS{P:Program}{w:World}{k:aF}{u:Value}(r:aV (kV k) u):(cI P w).is k u=true:=by
 cases k with
 |inl i=>obtain⟨t,e⟩:=(show ∃t,u=Value.int i t from r);subst e;show GO P w i t
 |inr x=>obtain⟨t,e⟩:=(show ∃t,u=Value.str x t from r);subst e;show GP P w x t
theorem Et{P:Program}{w:World}:∀{ks:List aF} {us:T0},a_ (ks.map kV) us->ItemsAre (cI P w) ks us
 |[],_,r=>by rw[qY]at r;cases r;show .nil
 |k::ks,_,r=>by
  rw[cQ]at r
  cases r with
  |cons h t=>show .cons (gS h) (Et t)
abbrev KT(H:Hp):List (List aF×V)->List (List aF×Addr×Value)->Prop:=Paired λp q=>p.1=q.1/\H q.2.1=some (.tup (p.1.map kV))/\aV p.2 q.2.2
def KT.val{H:Hp}{kvs:List (List aF×V)}{xs:List (List aF×Addr×Value)}(r:KT H kvs xs)(k:List aF):eR (aM kvs k) ((atKey xs k).map (·.2)):=by
 induction r with
 |nil=>show True.intro
 |@cons p q ps qs h t ih=>
  let(h1,_,h2):=h;by_cases e:p.1=k
  .let e':q.1=k:=h1.symm.trans e
   let b:atKey (q::qs) k=some q.2:=by simp[atKey,mI,e']
   rw[iY e,b];show h2
  .let e':¬q.1=k:=λz=>e (h1.trans z)
   let b:atKey (q::qs) k=atKey qs k:=by simp[atKey,mI,e']
   rw[iZ e,b];show ih
def KT.repl{H:Hp}{kvs:List (List aF×V)}{xs:List (List aF×Addr×Value)}(r:KT H kvs xs)(k:List aF){y:V}{u:Value}(ry:aV y u):
  KT H (kvs.map λkv=>if kv.1=k then(kv.1,y,)else kv) (xs.map (putAt k u)):=by
 induction r with
 |nil=>show .nil
 |@cons p q ps qs h t ih=>
  rw[cQ,cQ];show .cons ?_ ih;let(h1,h2,h3):=h;unfold putAt
  grind
def KT.put{H:Hp}{kvs:List (List aF×V)}{xs:List (List aF×Addr×Value)}(r:KT H kvs xs)(k:List aF){b:Addr}{y:V}{u:Value}(hb:H b=some (.tup (k.map kV)))(ry:aV y u):
  KT H (bu kvs k y) (storedH xs k b u):=by
 let e:(kvs.any λkv=>decide (kv.1=k))=(atKey xs k).isSome:=by
  rw[jY,(r.val k).isSome_eq,Option.isSome_map]
 unfold bu storedH;rw[e];by_cases q:(atKey xs k).isSome=true
 .rw[bf q,bf q];show r.repl k ry
 .rw[aO q,aO q];show Paired.snoc r (rfl,hb,ry)
def KT.keeps{H H':Hp}{kvs:List (List aF×V)}{xs:List (List aF×Addr×Value)}(r:KT H kvs xs)(ht:∀b ys,H b=some (.tup ys)->H' b=some (.tup ys)):KT H' kvs xs:=
 Paired.mapP r λ_ _ z=>(z.1,ht _ _ z.2.1,z.2.2)
section
variable{P:Program}{w:World}{H:Hp}{h:Heap}{a:Addr}
def Eu{u:HO}(ok:cz P w H h)(e:Rd H a u):c8 P w H h a u:=e.ok ok
def jl{kvs:Tm}(ok:cz P w H h)(e:Rd H a (.dK kvs)):kvs.length<=sizeLine/\(a==sysModules)=false/\∃vs,KV kvs vs/\h.DictOf (cI P w) a vs:=
 show c8 P w H h a (.dK kvs)from Eu ok e
def mn{kvs:Tm}(ok:cz P w H h)(e:H a=some (.dK kvs)):kvs.length<=sizeLine/\(a==sysModules)=false/\∃vs,KV kvs vs/\h.DictOf (cI P w) a vs:=jl ok (.inl e)
def mq{ks:List aF}(ok:cz P w H h)(e:H a=some (.tup (ks.map kV))):(tupleKind (cI P w)).is h ks a:=by
 let(_,av,r,o,h1,h2,n,h3):=(show c8 P w H h a (.tup (ks.map kV))from ok a _ e)
 show(o,av.toArray,n,h1,h2,h3,by simpa using Et r)
def lh{kvs:List (List aF×V)}(ok:cz P w H h)(e:Rd H a (.dT kvs)):kvs.length<=sizeLine/\(a==sysModules)=false/\
  ∃xs,KT H kvs xs/\h.DictOfH (tupleKind (cI P w)) a xs:=by
 let(z,y,xs,r,o,es,ep,h1,h2,h3,h4,h5):=(show c8 P w H h a (.dT kvs)from Eu ok e)
 show(z,y,xs,r,o,es,ep,h1,h2,h3,h4,λx hx=>?_,h5)
 let all:∀{l:List (List aF×V)} {m:List (List aF×Addr×Value)},KT H l m->∀x∈m,(tupleKind (cI P w)).is h x.1 x.2.1:=by
  ext l m q
  induction q with
  |nil=>ext x hx;show nomatch hx
  |@cons p q ps qs hq t ih=>
   ext x hx
   rcases cb.mp hx with e|hx
   .subst e;show mq ok ⋯
   .grind
 grind
def Lm{kvs:List (List aF×V)}(ok:cz P w H h)(e:H a=some (.dT kvs)):kvs.length<=sizeLine/\(a==sysModules)=false/\
  ∃xs,KT H kvs xs/\h.DictOfH (tupleKind (cI P w)) a xs:=lh ok (.inl e)
end
def eN(H:Hp)(a:Addr)(y:V)(r:Option V):Prop:=
 (∃kvs k,Rd H a (.dK kvs)/\y=kV k/\r=aM kvs k)\/∃kvs k b,Rd H a (.dT kvs)/\y=.ref b/\H b=some (.tup (k.map kV))/\r=aM kvs k
def gD(H:Hp)(a:Addr)(y v:V)(H':Hp):Prop:=
 (∃kvs k,H a=some (.dK kvs)/\y=kV k/\kvs.length<sizeLine/\H'=aa H a (.dK (bu kvs k v)))\/
 ∃kvs k b,H a=some (.dT kvs)/\y=.ref b/\H b=some (.tup (k.map kV))/\kvs.length<sizeLine/\H'=aa H a (.dT (bu kvs k v))
def gD.k{H:Hp}{a:Addr}{kvs:Tm}{k:aF}{v:V}(e:H a=some (.dK kvs))(hl:kvs.length<sizeLine):gD H a (kV k) v (aa H a (.dK (bu kvs k v))):=.inl (kvs,k,e,rfl,hl,rfl)
section
variable{X:Cx}{a9:Tl}{Z:St}{H:Hp}{s:Shared}{a:Addr}{y v:V}{u r:Value}{o:Option V}{A:Around}{E:Value->Shared->Prop}
def Inv.big(I:Inv X a9 Z H s):sysModules<s.heap.objs.size:=by
 let h:mainGlobals<s.heap.objs.size:=(I.mod.glob.keeps I.bk).lt;show kD (by decide) h
def Ln{Q:Value->Shared->Prop}(hu:A.units+1<cLine)(I:Inv X a9 Z H s)(g:eN H a y (some v))(ry:aV y u)(h:∀w' s',Inv X a9 Z H s'->aV v w'->Q w' s'):
  wpAny (model X.prog X.w) A (getItem (.ref a) u) Q E s:=by
 rcases g with⟨kvs,k,e,ey,l⟩|⟨kvs,k,b,e,ey,eb,l⟩
 .subst ey;let(z,hd,vs,Rp,dd):=jl I.hok e;let(w',hw,RM):=eR.some_of (v:=v) (o:=valueAt vs k) (by rw[l];show Rp.val k);show wpAny_getItem_of (gS ry) dd.mapOf hw (h w' _ (I.tok _) RM)
 .subst ey;cases(show u=Value.ref b from ry);let(z,hd,xs,Rp,dd):=lh I.hok e;let(w',hw,RM):=eR.some_of (v:=v) (o:=(atKey xs k).map (·.2)) (by rw[l];show Rp.val k);let(p,hp,Tc):=Rh.mp hw;erw[wpAny_getItem_heap (qO hu) (mq I.hok eb) dd hp];rw[Tc];show h w' _ (I.tok _) RM
def Lp{Q:Value->Shared->Prop}(hu:A.units+1<cLine)(I:Inv X a9 Z H s)(g:eN H a y o)(ry:aV y u)(h:∀s',Inv X a9 Z H s'->Q (.bool o.isSome) s'):
  wpAny (model X.prog X.w) A (compareOp .In u (.ref a)) Q E s:=by
 rcases g with⟨kvs,k,e,ey,l⟩|⟨kvs,k,b,e,ey,eb,l⟩
 .subst ey;let(z,hd,vs,Rp,dd):=jl I.hok e;erw[wpAny_in_of (gS ry) hd dd.mapOf];rw[<-(Rp.val k).isSome_eq,<-l];show h _ (I.tok _)
 .subst ey;cases(show u=Value.ref b from ry);let(z,hd,xs,Rp,dd):=lh I.hok e;erw[wpAny_in_heap (qO hu) (mq I.hok eb) hd dd];let q:=(Rp.val k).isSome_eq;rw[Option.isSome_map]at q;rw[<-q,<-l];show h _ (I.tok _)
def Lq{Q:Value->Shared->Prop}(hu:A.units+1<cLine)(I:Inv X a9 Z H s)(g:eN H a y o)(ry:aV y u)(h:∀s',Inv X a9 Z H s'->Q (.bool (!o.isSome)) s'):
  wpAny (model X.prog X.w) A (compareOp .NotIn u (.ref a)) Q E s:=by
 rcases g with⟨kvs,k,e,ey,l⟩|⟨kvs,k,b,e,ey,eb,l⟩
 .subst ey;let(z,hd,vs,Rp,dd):=jl I.hok e;erw[wpAny_notIn_of (gS ry) hd dd.mapOf];rw[<-(Rp.val k).isSome_eq,<-l];show h _ (I.tok _)
 .subst ey;cases(show u=Value.ref b from ry);let(z,hd,xs,Rp,dd):=lh I.hok e;erw[wpAny_notIn_heap (qO hu) (mq I.hok eb) hd dd];let q:=(Rp.val k).isSome_eq;rw[Option.isSome_map]at q;rw[<-q,<-l];show h _ (I.tok _)
def nE{h':Heap}{t':Nat}{ob:HO}(I:Inv X a9 Z H s)(mu:oJ (H a))(hs:Heap.SameBut a s.heap h')(he:∃q,h'.get? a=some q)(new:c8 X.prog X.w (aa H a ob) h' a ob):
  Inv X a9 Z (aa H a ob) {s with heap:=h',toks:=t'}:=
 I.write (x:=a) (e:=a) mu (.inl rfl) (λb q hb z=>(hs.2 b hb).trans z) he new
def nG{P:Program}{w:World}{H':Hp}{h':Heap}{kvs:Tm}{vs:List (aF×Value)}(z:kvs.length<=sizeLine)(hd:(a==sysModules)=false)(Rp:KV kvs vs)(dd:h'.DictOf (cI P w) a vs):
  c8 P w H' h' a (.dK kvs):=(z,hd,vs,Rp,dd)
def Lr{H':Hp}{Q:Unit->Shared->Prop}(hu:A.units+1<cLine)(I:Inv X a9 Z H s)(g:gD H a y v H')(ry:aV y u)(rv:aV v r)(h:∀s',Inv X a9 Z H' s'->Q ⟨⟩ s'):
  wpAny (model X.prog X.w) A (setItem (.ref a) u r) Q E s:=by
 rcases g with⟨kvs,k,e,ey,l,eH⟩|⟨kvs,k,b,e,ey,eb,l,eH⟩
 .subst ey eH;let(z,hd,vs,Rp,dd):=mn I.hok e
  let hz:vs.length<=sizeLine:=by rw[<-Rp.length];show z
  let hl:(bu kvs k v).length<=sizeLine:=by have:=jZ kvs k v;lia
  show wpAny_setItem_pairs (hsz:=hz) (gS ry) dd λh' Ul hs=>h _ ?_;let he:∃q,h'.get? a=some q:=let(q,_,_,hq,_):=Ul;(q,hq);show nE I (by rw[e];show True.intro) hs he (nG hl hd (Rp.put k rv) Ul)
 .subst ey eH;cases(show u=Value.ref b from ry);let(z,hd,xs,Rp,dd):=Lm I.hok e
  let hz:xs.length<=sizeLine:=by rw[<-Paired.length Rp];show z
  let hl:(bu kvs k v).length<=sizeLine:=by have:=jZ kvs k v;lia
  show wpAny_setItem_heap (hsz:=hz) (qO hu) (mq I.hok eb) dd λh' Ul hs=>h _ ?_;let(q,es,ep,hq,h2,h3,h4,_,h5):=Ul;show nE I (by rw[e];show True.intro) hs (q,hq) (hl,hd,_,(Rp.put k eb rv).keeps λc ys ec=>?_,q,es,ep,hq,h2,h3,h4,h5);rw[aB (bp ec e (λz=>nomatch z))];show ec
end
section
variable{X:Cx}{a9:Tl}{Z:St}{H:Hp}{s:Shared}{a:Addr}{kvs:Tm}{k:aF}{u:Value}{A:Around}{E:Value->Shared->Prop}
def Ls{v:V}{more:T0}{Q:Value->Shared->Prop}(I:Inv X a9 Z H s)(e:H a=some (.dK kvs))(ry:aV (kV k) u)(l:aM kvs k=some v)(hm:more=[]\/∃x,more=[x])
  (h:∀w' s',Inv X a9 Z (aa H a (.dK (iX kvs k))) s'->aV v w'->Q w' s'):wpAny (model X.prog X.w) A (call (.builtin "dict.pop") (.ref a::u::more)) Q E s:=by
 let(z,hd,vs,Rp,dd):=mn I.hok e;let(w',hw,RM):=eR.some_of (v:=v) (o:=valueAt vs k) (by rw[<-l];show Rp.val k)
 let hp:(keyPart u).isSome=true:=by
  cases k with
  |inl i=>obtain⟨t,q⟩:=(show ∃t,u=Value.int i t from ry);subst q;rfl
  |inr x=>obtain⟨t,q⟩:=(show ∃t,u=Value.str x t from ry);subst q;rfl
 let ha:argsOk "dict.pop" (.ref a::u::more,[]):=by
  rcases hm with q|⟨x,q⟩
  .subst q;show PySem.F.args_dict_pop_2 _ _
  .subst q;show PySem.F.args_dict_pop_3 _ _ _
 show lT Gu dd.typeIs PySem.F.entry_dict_pop ha (meets_dict_pop_there (cI X.prog X.w) a (gS ry) more hm hp)
  (vs,w',dd,by rw[<-Rp.length];show z,hw,λh' Ul hs=>h w' _ ?_ RM)
 let he:∃q,h'.get? a=some q:=let(q,_,_,hq,_):=Ul;(q,hq);show nE I (by rw[e];show True.intro) hs he (nG (cf (Ll kvs k) z) hd (Rp.drop k) Ul)
def Lu{r:Value}{Q:Value->Shared->Prop}(I:Inv X a9 Z H s)(e:H a=some (.dK kvs))(ry:aV (kV k) u)(l:aM kvs k=none)(h:∀s',Inv X a9 Z H s'->Q r s'):
  wpAny (model X.prog X.w) A (call (.builtin "dict.pop") [.ref a,u,r]) Q E s:=by
 let(z,hd,vs,Rp,dd):=mn I.hok e;let hn:valueAt vs k=none:=eR.none_of (by rw[<-l];show Rp.val k)
 let hp:(keyPart u).isSome=true:=by
  cases k with
  |inl i=>obtain⟨t,q⟩:=(show ∃t,u=Value.int i t from ry);subst q;rfl
  |inr x=>obtain⟨t,q⟩:=(show ∃t,u=Value.str x t from ry);subst q;rfl
 show lT Gu dd.typeIs PySem.F.entry_dict_pop (PySem.F.args_dict_pop_3 _ _ _) (meets_dict_pop_default (cI X.prog X.w) a (gS ry) hd hp r) (vs,dd,hn,h _ (I.tok _))
def Lv{Q:Value->Shared->Prop}(I:Inv X a9 Z H s)(e:Rd H a (.dK kvs))(h:∀t s',Inv X a9 Z H s'->Q (.int kvs.length t) s'):wpAny (model X.prog X.w) A (call (.builtin "len") [.ref a]) Q E s:=by
 let(z,hd,vs,Rp,dd):=jl I.hok e;erw[call_len_dict hd dd (by rw[<-Rp.length];rw[iQ]at z;lia)];rw[<-Rp.length];show h _ _ (I.tok _)
end
def sZ(i:Expr):Prop:=∀ov iv,subscripted i false ov iv=operate [ov,iv] (getItem ov iv)
def Ew{prog:Program}{w:World}{A:Around}{E:Value->Shared->Prop}{s:Shared}{env:Env}{value RS:Expr}{pos:Pos}{T id:String}{Q:Value->Shared->Prop}
  (hl:typeLookup (.type T) "__getitem__"=pure (some (.builtin id))) (hs:sZ RS)
  (h:wpAny (model prog w) A (eval value env) (λo Rk=>wpAny (model prog w) A (eval RS env) (λi Rn=>Rn.TypeIs o T/\wpAny (model prog w) A (getItem o i) Q E Rn) E Rk) E s):
  wpAny (model prog w) A (eval (.Subscript value RS pos) env) Q E s:=by
 show Subscript_ (cR h (λo Rk Sl=>cR Sl (λi Rn SN=>?_) λ_ _ x=>x) λ_ _ x=>x);let(hT,SN):=SN;unfold subscriptTail;erw[ae];rw[getitemInPython_of_ne hT.not_modules];show ae (wpAny_specialOf hT hl ?_)
 let fin:wpAny (model prog w) A (subscripted RS false o i) (λr RJ=>wpAny (model prog w) A (letTemporaryGo value o r >>=λ_=>pure r) Q E RJ) E Rn:=by
  rw[hs o i];show wpAny_operating (cR SN (λr RJ Ub=>ae (wpAny_letTemporaryGo (aw Ub))) λ_ _ x=>x)
 first
  |show aw (ae fin)
  |show ae (aw (ae fin))
  |show ae fin
def Lx{X:Cx}{a9:Tl}{Z:St}{H:Hp}{s:Shared}{a:Addr}{y:V}{o:Option V}(I:Inv X a9 Z H s)(g:eN H a y o):s.TypeIs (.ref a) "dict":=by
 rcases g with⟨kvs,k,e,_,_⟩|⟨kvs,k,b,e,_,_,_⟩
 .let(_,_,vs,_,dd):=jl I.hok e;show dd.typeIs
 .let(_,_,xs,_,dd):=lh I.hok e;show dd.typeIs
def wF(td ty:TE):TE:=λZ H Q=>td Z H λx H1=>ty Z H1 λy H2=>∃a v,x=.ref a/\eN H2 a y (some v)/\Q v H2
def Ex(ty td:TE):TE:=λZ H Q=>ty Z H λy H1=>td Z H1 λx H2=>∃a o,x=.ref a/\eN H2 a y o/\Q (.bl o.isSome) H2
def Ey(ty td:TE):TE:=λZ H Q=>ty Z H λy H1=>td Z H1 λx H2=>∃a o,x=.ref a/\eN H2 a y o/\Q (.bl (!o.isSome)) H2
def wG(td ty tv:TE):TS:=λD Z H=>tv Z H λv H1=>td Z H1 λx H2=>ty Z H2 λy H3=>∃a H4,x=.ref a/\gD H3 a y v H4/\D.nx Z H4
section
variable{X:Cx}{o i e value:Expr}{pos Rv Sk:Pos}{td ty tv:TE}
def Ly(hu:X.A.units+1<cLine)(ho:PE X o td)(hi:PE X i ty)(hs:sZ i):PE X (.Subscript o i pos) (wF td ty):=by
 ext a9 s Z H Q I h;show Ew PySem.F.slot_dict_getitem.lookup hs (aI (ho a9 s Z H _ I h) λu s1 (x,H1,I1,rx,q1)=>aI (hi a9 s1 Z H1 _ I1 q1) λiv s2 (y,H2,I2,ry,a,v,ex,g,q2)=>?_);subst ex;obtain rfl:u=Value.ref a:=rx;show(Lx I2 g,Ln hu I2 g ry λw' s3 I3 RM=>(v,H2,I3,RM,q2))
def s_(hu:X.A.units+1<cLine)(hi:PE X i ty)(ho:PE X o td):PC X .In i o (Ex ty td):=by
 ext a9 s Z H Q I h;show aI (hi a9 s Z H _ I h) λiv s1 (y,H1,I1,ry,q1)=>aI (ho a9 s1 Z H1 _ I1 q1) λu s2 (x,H2,I2,rx,a,ov,ex,g,q2)=>?_;subst ex;obtain rfl:u=Value.ref a:=rx
 show Lp hu I2 g ry λs3 I3=>(.bl ov.isSome,H2,I3,rfl,q2)
def pK(hu:X.A.units+1<cLine)(hi:PE X i ty)(ho:PE X o td):PC X .NotIn i o (Ey ty td):=by
 ext a9 s Z H Q I h;show aI (hi a9 s Z H _ I h) λiv s1 (y,H1,I1,ry,q1)=>aI (ho a9 s1 Z H1 _ I1 q1) λu s2 (x,H2,I2,rx,a,ov,ex,g,q2)=>?_;subst ex;obtain rfl:u=Value.ref a:=rx
 show Lq hu I2 g ry λs3 I3=>(.bl (!ov.isSome),H2,I3,rfl,q2)
def gE(hu:X.A.units+1<cLine)(ho:PE X o td)(hi:PE X i ty)(hv:PE X value tv)(hs:swapsWith value (some (.Subscript o i Rv)) pos.line X.env=pure false):
  PS X (.Assign [.Subscript o i Rv] value pos) (wG td ty tv):=by
 ext a9 s Z H D I h;show wpAny_Assign_Subscript (aI (hv a9 s Z H _ I h) λr s1 (v,H1,I1,rv,q1)=>aI (ho a9 s1 Z H1 _ I1 q1) λu s2 (x,H2,I2,rx,q2)=>aI (hi a9 s2 Z H2 _ I2 q2) λiv s3 (y,H3,I3,ry,a,H4,ex,g,q3)=>?_) hs;subst ex;obtain rfl:u=Value.ref a:=rx
 show Lr hu I3 g ry rv λs4 I4=>(Z,H4,I4,q3)
end
def wH{P:Program}{w:World}{H:Hp}(h:Heap)(hb:sysModules<h.objs.size):c8 P w H (h.push {cls:=.type "dict",data:=.dict #[]}) h.objs.size (.dK []):=
 (cm _,beq_eq_false_iff_ne.mpr (Ne.symm (bW hb)),[],.nil,Heap.DictOf.new h)
def wI:TE:=λ_ H Q=>∀p,H p=none->Q (.ref p) (aa H p (.dK []))
section
variable{X:Cx}{pos:Pos}
def mr:PE X (.Dict [] [] pos) wI:=λa9 s Z H Q I h=>
 wpAny_Dict_empty (.ref s.heap.objs.size,_,I.laid (a:=s.heap.objs.size) (o:=.dK []) (t':=s.toks) (λ_ _ q=>aR _ q) (aD _) (wH s.heap I.big),rfl,h _ (I.hok.fresh (aD _)))
end
def tj:List (TE×TE)->St->Hp->(List (V×V)->Hp->Prop)->Prop
 |[],_,H,Q=>Q [] H
 |(tk,tv,)::r,Z,H,Q=>tk Z H λx H1=>tv Z H1 λy H2=>tj r Z H2 λps H3=>Q ((x,y,)::ps) H3
abbrev VV:List (V×V)->List (Value×Value)->Prop:=Paired λp q=>aV p.1 q.1/\aV p.2 q.2
def tq(X:Cx)(pos:Pos)(keys:List (Option Expr))(So:List Expr)(Um:List (TE×TE)):Prop:=
 ∀(a9:Tl) (s:Shared) (Z:St) (H:Hp) (Q:List (V×V)->Hp->Prop),Inv X a9 Z H s->tj Um Z H Q->
  wpAny (model X.prog X.w) X.A (evalPairs (pairTrees keys So X.env pos)) (λvs s'=>∃ps H',Inv X a9 Z H' s'/\VV ps vs/\Q ps H') X.xe s
def Lz{X:Cx}{pos:Pos}:tq X pos [] [] []:=λa9 s Z H Q I h=>pairTrees_nil_walk ([],H,I,.nil,h)
def nH{X:Cx}{pos:Pos}{k v:Expr}{ks:List (Option Expr)}{vs:List Expr}{tk tv:TE}{Um:List (TE×TE)}(hk:PE X k tk)(hv:PE X v tv)(hr:tq X pos ks vs Um):
  tq X pos (some k::ks) (v::vs) ((tk,tv,)::Um):=λa9 s Z H Q I h=>
 pairTrees_cons_walk (aI (hk a9 s Z H _ I h) λu s1 (x,H1,I1,rx,q1)=>aI (hv a9 s1 Z H1 _ I1 q1) λw2 s2 (y,H2,I2,ry,q2)=>
  aI (hr a9 s2 Z H2 _ I2 q2) λws s3 (ps,H3,I3,Rp,q3)=>((x,y,)::ps,H3,I3,.cons (rx,ry) Rp,q3))
noncomputable def i3(kvs more:Tm):Tm:=more.foldl (λRm kv=>bu Rm kv.1 kv.2) kvs
def KV.merge:∀{more:Tm} {rs:List (aF×Value)} {kvs:Tm} {vs:List (aF×Value)},KV more rs->KV kvs vs->KV (i3 kvs more) (merged vs rs):=by
 ext more rs kvs vs r;unfold KV at r
 induction r generalizing kvs vs with
 |nil=>ext q;show q
 |@cons p q ps qs h t ih=>
  ext r0
  let e:KV (bu kvs p.1 p.2) (stored vs q.1 q.2):=by
   have:=r0.put p.1 h.2
   grind
  show ih e
theorem wJ:∀(more kvs:Tm),(i3 kvs more).length<=kvs.length+more.length
 |[],kvs=>by change kvs.length<=kvs.length+0;lia
 |p::r,kvs=>by
  let h1:=wJ r (bu kvs p.1 p.2);let h2:=jZ kvs p.1 p.2
  change(i3 (bu kvs p.1 p.2) r).length<=_
  grind
theorem Ez{P:Program}{w:World}:∀{kvs:Tm} {ws:List (Value×Value)},VV (kvs.map λkv=>(kV kv.1,kv.2,)) ws->∃rs,Carries (cI P w) ws rs/\KV kvs rs
 |[],_,r=>by rw[qY]at r;cases r;show([],True.intro,.nil)
 |p::kvs,_,r=>by
  rw[cQ]at r
  cases r with
  |@cons a b as bs h t=>
   let(rs,c,q):=Ez (P:=P) (w:=w) t;let(b1,b2):=b;show((p.1,b2,)::rs,(gS h.1,rfl,c),.cons (rfl,h.2) q)
def EA(Um:List (TE×TE)):TE:=λZ H Q=>∀p,H p=none->tj Um Z (aa H p (.dK [])) λps H2=>H2 p=some (.dK [])/\∃kvs:Tm,ps=kvs.map (λkv=>(kV kv.1,kv.2,))/\kvs.length<=15/\Q (.ref p) (aa H2 p (.dK (i3 [] kvs)))
def LA{X:Cx}{pos:Pos}{keys:List (Option Expr)}{So:List Expr}{Um:List (TE×TE)}(h:tq X pos keys So Um)(Sw:keys.all (·.isSome)=true)(hl:keys.length=So.length)(h0:keys≠[])
  (h15:keys.length<=15):PE X (.Dict keys So pos) (EA Um):=by
 ext a9 s Z H Q I q;let hn:=I.hok.fresh (aD s.heap.objs.size);let I1:=I.laid (a:=s.heap.objs.size) (o:=.dK []) (h':=s.heap.push {cls:=.type "dict",data:=.dict #[]}) (t':=s.toks) (λ_ _ q=>aR _ q) (aD _) (wH s.heap I.big);show wpAny_Dict_walk (knd:=cI X.prog X.w) Sw hl h0 h15 (aI (h a9 _ Z _ _ I1 (q _ hn)) λws s2 (ps,H2,I2,Rp,e,kvs,ep,lk,q2)=>?_);subst ep;let(rs,c,rk):=Ez (P:=X.prog) (w:=X.w) Rp;let(z,hd,vs0,r0,dd):=mn I2.hok e;cases r0;show(rs,c,dd,λh' Ul hs=>(.ref s.heap.objs.size,_,?_,rfl,q2))
 let hz:(i3 [] kvs).length<=sizeLine:=by
  let h1:=wJ kvs [];rw[List.length_nil]at h1;rw[iQ];lia
 let he:∃q,h'.get? s.heap.objs.size=some q:=let(q,_,_,hq,_):=Ul;(q,hq);show nE I2 (by rw[e];show True.intro) hs he (nG hz hd (rk.merge .nil) Ul)
structure M1(X:Cx)(o:Expr)(m:Str)(bM:Pos)(e:Expr)(bL:Pos):Prop where
 base:attributeBase o m X.env (eval o X.env)=eval o X.env
 few:((backTo bL (starEach [e] X.env)).all (λx=>!x.1) && (backToKw bL (keywordEach [] X.env)).all (λx=>x.1.isSome)
  && decide (([e]:List Expr).length+([]:List Keyword).length+(if([]:List Keyword).isEmpty then 0 else 1)<30))=true
 line:(bM.endLine==bL.line)=true
 trees:backTo bL (starEach [e] X.env)=[(false,eval e X.env,)]
structure M2(X:Cx)(o:Expr)(m:Str)(bM:Pos)(e f:Expr)(bL:Pos):Prop where
 base:attributeBase o m X.env (eval o X.env)=eval o X.env
 few:((backTo bL (starEach [e,f] X.env)).all (λx=>!x.1) && (backToKw bL (keywordEach [] X.env)).all (λx=>x.1.isSome)
  && decide (([e,f]:List Expr).length+([]:List Keyword).length+(if([]:List Keyword).isEmpty then 0 else 1)<30))=true
 line:(bM.endLine==bL.line)=true
 trees:backTo bL (starEach [e,f] X.env)=[(false,eval e X.env,),(false,eval f X.env,)]
def j_(H:Hp)(a:Addr):Prop:=(∃kvs,Rd H a (.dK kvs))\/∃kvs,Rd H a (.dT kvs)
def tu{X:Cx}{a9:Tl}{Z:St}{H:Hp}{s:Shared}{a:Addr}(I:Inv X a9 Z H s)(d:j_ H a):
  s.TypeIs (.ref a) "dict"/\(∀b,Value.ref a=.ref b->∃ob,s.heap.get? b=some ob/\ob.dict=none)/\(a==sysModules)=false:=by
 rcases d with⟨kvs,e⟩|⟨kvs,e⟩
 .let(_,hd,vs,_,dd):=jl I.hok e;show(dd.typeIs,λb q=>?_,hd);cases q;let(ob,_,_,h1,h2,_):=dd;show(ob,h1,h2.2.1)
 .let(_,hd,xs,_,dd):=lh I.hok e;show(dd.typeIs,λb q=>?_,hd);cases q;let(ob,_,_,h1,h2,_):=dd;show(ob,h1,h2.2.1)
section
variable{X:Cx}{a9:Tl}{Z:St}{H:Hp}{s:Shared}{a:Addr}{y d:V}{u r:Value}{o:Option V}{A:Around}{E:Value->Shared->Prop}
def LB{Q:Value->Shared->Prop}(hu:A.units+1<cLine)(I:Inv X a9 Z H s)(g:eN H a y o)(ry:aV y u)(h:∀w' s',Inv X a9 Z H s'->aV (o.getD .non) w'->Q w' s'):
  wpAny (model X.prog X.w) A (call (.builtin "dict.get") [.ref a,u]) Q E s:=by
 rcases g with⟨kvs,k,e,ey,l⟩|⟨kvs,k,b,e,ey,eb,l⟩
 .subst ey;let(z,hd,vs,Rp,dd):=jl I.hok e;show lT qJ dd.typeIs Al (PySem.F.args_dict_get_2 _ _) (meets_dict_get (cI X.prog X.w) a (gS ry) hd) (_,dd.mapOf,h _ _ (I.tok _) ?_);rw[l];show(Rp.val k).getD rfl
 .subst ey;cases(show u=Value.ref b from ry);let(z,hd,xs,Rp,dd):=lh I.hok e;show lT qJ dd.typeIs Al (PySem.F.args_dict_get_2 _ _) (meetsH_dict_get (tupleKind (cI X.prog X.w)) a b hd) (qO hu,k,xs,mq I.hok eb,dd,h _ _ (I.tok _) ?_);rw[l];show(Rp.val k).getD rfl
def LC{Q:Value->Shared->Prop}(hu:A.units+1<cLine)(I:Inv X a9 Z H s)(g:eN H a y o)(ry:aV y u)(rd:aV d r)(h:∀w' s',Inv X a9 Z H s'->aV (o.getD d) w'->Q w' s'):
  wpAny (model X.prog X.w) A (call (.builtin "dict.get") [.ref a,u,r]) Q E s:=by
 rcases g with⟨kvs,k,e,ey,l⟩|⟨kvs,k,b,e,ey,eb,l⟩
 .subst ey;let(z,hd,vs,Rp,dd):=jl I.hok e;show lT qJ dd.typeIs Al (PySem.F.args_dict_get_3 _ _ _) (meets_dict_get_default (cI X.prog X.w) a (gS ry) hd r) (_,dd.mapOf,h _ _ (I.tok _) ?_);rw[l];show(Rp.val k).getD rd
 .subst ey;cases(show u=Value.ref b from ry);let(z,hd,xs,Rp,dd):=lh I.hok e;show lT qJ dd.typeIs Al (PySem.F.args_dict_get_3 _ _ _) (meetsH_dict_get_default (tupleKind (cI X.prog X.w)) a b hd r) (qO hu,k,xs,mq I.hok eb,dd,h _ _ (I.tok _) ?_);rw[l];show(Rp.val k).getD rd
end
def EB(td ty:TE):TE:=λZ H Q=>td Z H λx H1=>∃a,x=.ref a/\j_ H1 a/\ty Z H1 λy H2=>∃o,eN H2 a y o/\Q (o.getD .non) H2
def EC(td ty tx:TE):TE:=λZ H Q=>td Z H λx H1=>∃a,x=.ref a/\j_ H1 a/\ty Z H1 λy H2=>tx Z H2 λz H3=>∃o,eN H3 a y o/\Q (o.getD z) H3
def LD(td ty tx:TE):TE:=λZ H Q=>td Z H λx H1=>∃a,x=.ref a/\j_ H1 a/\ty Z H1 λy H2=>tx Z H2 λz H3=>∃kvs k,H3 a=some (.dK kvs)/\y=kV k/\
 (∀v,aM kvs k=some v->Q v (aa H3 a (.dK (iX kvs k))))/\(aM kvs k=none->Q z H3)
section
variable{X:Cx}{o e f:Expr}{bM bL:Pos}{td ty tx:TE}
def LF(hu:X.A.units+1<cLine)(ho:PE X o td)(he:PE X e ty)(m:M1 X o "get" bM e bL):PE X (.Call (.Attribute o "get" bM) [e] [] bL) (EB td ty):=by
 ext a9 s Z H Q I h;show Au m.base m.few m.line uo qJ PySem.F.type_dict_get (aI (ho a9 s Z H _ I h) λu s1 (x,H1,I1,rx,a,ex,d,q1)=>?_);subst ex;obtain rfl:u=Value.ref a:=rx;let(t1,t2,_):=tu I1 d;show(t1,t2,?_);rw[m.trees];show qH rfl (ur (mH (aI (he a9 s1 Z H1 _ I1 q1) λiv s2 (y,H2,I2,ry,ov,g,q2)=>uA ?_)))
 show LB hu I2 g ry λw' s3 I3 RM=>(_,H2,I3,RM,q2)
def lj(hu:X.A.units+1<cLine)(ho:PE X o td)(he:PE X e ty)(hf:PE X f tx)(m:M2 X o "get" bM e f bL):PE X (.Call (.Attribute o "get" bM) [e,f] [] bL) (EC td ty tx):=by
 ext a9 s Z H Q I h;show Au m.base m.few m.line uo qJ PySem.F.type_dict_get (aI (ho a9 s Z H _ I h) λu s1 (x,H1,I1,rx,a,ex,d,q1)=>?_);subst ex;obtain rfl:u=Value.ref a:=rx;let(t1,t2,_):=tu I1 d;show(t1,t2,?_);rw[m.trees]
 show qH rfl (ur (mH (aI (he a9 s1 Z H1 _ I1 q1) λiv s2 (y,H2,I2,ry,q2)=>
  mH (aI (hf a9 s2 Z H2 _ I2 q2) λfv s3 (z,H3,I3,rz,ov,g,q3)=>uA ?_))))
 show LC hu I3 g ry rz λw' s4 I4 RM=>(_,H3,I4,RM,q3)
def ED(ho:PE X o td)(he:PE X e ty)(hf:PE X f tx)(m:M2 X o "pop" bM e f bL):PE X (.Call (.Attribute o "pop" bM) [e,f] [] bL) (LD td ty tx):=by
 ext a9 s Z H Q I h;show Au m.base m.few m.line uo Gu PySem.F.type_dict_pop (aI (ho a9 s Z H _ I h) λu s1 (x,H1,I1,rx,a,ex,d,q1)=>?_);subst ex;obtain rfl:u=Value.ref a:=rx;let(t1,t2,_):=tu I1 d;show(t1,t2,?_);rw[m.trees]
 show qH rfl (ur (mH (aI (he a9 s1 Z H1 _ I1 q1) λiv s2 (y,H2,I2,ry,q2)=>
  mH (aI (hf a9 s2 Z H2 _ I2 q2) λfv s3 (z,H3,I3,rz,kvs,k,ea,ey,q3,q4)=>uA ?_))))
 subst ey
 cases l:aM kvs k with
 |some v=>show Ls I3 ea ry l (.inr (fv,rfl)) λw' s4 I4 RM=>(v,_,I4,RM,q3 v l)
 |none=>show Lu I3 ea ry l λs4 I4=>(z,H3,I4,rz,q4 l)
end
section
variable{X:Cx}{a9:Tl}{Z:St}{H:Hp}{s:Shared}{a:Addr}{kvs:Tm}{A:Around}{E:Value->Shared->Prop}
end
section
variable{X:Cx}{a9:Tl}{Z:St}{H:Hp}{s:Shared}{a:Addr}{y:V}{u:Value}{A:Around}{E:Value->Shared->Prop}
end
end L2
namespace Att
open PySem PySem.W PySem.Calls PyProof.Rows
variable{P:Program}{w:World}{K:W.Frag}{mg:Str->Option Value}{base:Heap}{CY CD aL:Addr}
section
variable{prog:Program}{w:World}{A:Around}{E:Value->Shared->Prop}{s:Shared}{K:Frag}
end
end Att
namespace L2
open PySem PySem.Spec PyProof.Rows
section
variable{P:Program}{w:World}{K:W.Frag}{mg:Str->Option Value}{base:Heap}
end
section
variable{X:Cx}
end
section
variable{κ:Type}[DecidableEq κ]
def EE{kvs:List (κ×V)}{k:κ}(h:aM kvs k=none):¬k∈kvs.map (·.1):=by
 ext m;let(p,hp,e):=Ag.mp m;let q:(kvs.any λkv=>decide (kv.1=k))=true:=List.any_eq_true.mpr (p,hp,cY e);rw[jY,h]at q
 grind
def wK{kvs:List (κ×V)}{k:κ}{v:V}(h:aM kvs k=some v):k∈kvs.map (·.1):=by
 let q:(kvs.any λkv=>decide (kv.1=k))=true:=by
  rw[jY,h]
  all_goals rfl
 grind
theorem LG:∀{l:List κ} {k:κ},l.Nodup->¬k∈l->(l++[k]).Nodup
 |[],k,_,_=>∅
 |a::r,k,h,hk=>by
  grind
end
def cw{A:Around}(h:A.units+64<cLine):A.units+1<cLine:=()
section
variable{Z:St}{H:Hp}{Q:VK}{D:gu}
def LH{td ty:TE}(q:td Z H λx H1=>ty Z H1 λy H2=>∃a v,x=.ref a/\eN H2 a y (some v)/\Q v H2):wF td ty Z H Q:=q
def LI{td ty:TE}(q:ty Z H λy H1=>td Z H1 λx H2=>∃a o,x=.ref a/\eN H2 a y o/\Q (.bl o.isSome) H2):Ex ty td Z H Q:=q
def LJ{td ty:TE}(q:ty Z H λy H1=>td Z H1 λx H2=>∃a o,x=.ref a/\eN H2 a y o/\Q (.bl (!o.isSome)) H2):Ey ty td Z H Q:=q
def LK{td ty tv:TE}(q:tv Z H λv H1=>td Z H1 λx H2=>ty Z H2 λy H3=>∃a H4,x=.ref a/\gD H3 a y v H4/\D.nx Z H4):wG td ty tv D Z H:=q
def LL{td ty:TE}(q:td Z H λx H1=>∃a,x=.ref a/\j_ H1 a/\ty Z H1 λy H2=>∃o,eN H2 a y o/\Q (o.getD .non) H2):EB td ty Z H Q:=q
end
def k7(K:W.Frag)(a:Addr)(D:List (Str×Addr)):Prop:=KTD.tabLook (λ(f:Addr) (v:Value)=>v==Value.ref f) (λb=>K.lookup b) a D=true
abbrev pL(h:Heap)(a:Addr)(D:List (Str×Addr)):Prop:=KTD.TabOf (λ(f:Addr) (v:Value)=>v=Value.ref f) h a D
section
variable{X:Cx}{a9:Tl}{Z:St}{H:Hp}{s:Shared}{a:Addr}{D:List (Str×Addr)}{k:Str}{tk:Tok}{A:Around}{E:Value->Shared->Prop}
def EF(I:Inv X a9 Z H s)(t:k7 X.K a D):pL s.heap a D:=
 KTD.tab_of_look (λ_ _ e=>by simpa using e) (λb o e=>I.kIn b o e) t
def wM(T:pL s.heap a D):s.TypeIs (.ref a) "dict":=by
 let(_,o,_,_,ho,hc,_):=T;show(o,ho,hc.1)
def EG{Q:Option Value->Shared->Prop}(T:pL s.heap a D)(q:Q ((KTD.datumAt k D).map Value.ref) {s with toks:=s.toks+1}):wpAny (model X.prog X.w) A (dictGet a (.str k tk)) Q E s:=by
 let(_,o,es,ep,ho,hc,hd,hr):=T;unfold dictGet
 try with_reducible refine dA ?_
 show ae (wpAny_pyHash_str (ae (KTD.kt_dictFind_strs (s:={s with toks:=s.toks+1}) ho hd (by obtain⟨l⟩:=es;simpa using hr.exact) ?_)))
 let z:findBy (λk v=>v.isStr k) es k=(KTD.datumAt k D).map Value.ref:=by
  let z1:findBy (λk v=>v.isStr k) es k=(es.toList.find? λe=>e.key.isStr k).map (·.val):=by obtain⟨l⟩:=es;simp[findBy]
  rw[z1]
  cases hat:KTD.datumAt k D with
  |none=>rw[hr.find_none hat];rfl
  |some f=>obtain⟨v,hv,hf⟩:=hr.find_some hat;rw[hv,hf];rfl
 rw[<-z,findBy_of_findIdx?]at q
 cases hi:es.findIdx? λe=>e.key.isStr k with
 |some i=>rw[hi]at q;show ae (wpAny_dictEntries (s:={s with toks:=s.toks+1}) ho hd (aw q))
 |none=>rw[hi]at q;show aw q
def LM{Q:Value->Shared->Prop}{f:Addr}(T:pL s.heap a D)(e:KTD.datumAt k D=some f)(q:Q (.ref f) {s with toks:=s.toks+1}):wpAny (model X.prog X.w) A (getItem (.ref a) (.str k tk)) Q E s:=by
 let ty:=wM T;unfold getItem
 try with_reducible refine dA ?_
 show ae (wpAny_sequenceKey ty (by decide) ?_);show ae (oa (name:=Str.ofString "__getitem__") ty slot_dict_getitem (gZ slot_dict_getitem ty entry_dict_getitem ?_ (args_dict_getitem _ _)))
 change wpAny _ _ (dictGet a (.str k tk) >>=_) _ _ s
 show ae (EG (X:=X) T ?_);rw[e];show aw (_,rfl,aw q)
def LN{Q:Bool->Shared->Prop}(T:pL s.heap a D)(q:Q (KTD.datumAt k D).isSome {s with toks:=s.toks+1}):wpAny (model X.prog X.w) A (contains (.ref a) (.str k tk)) Q E s:=by
 let ty:=wM T;unfold contains
 try with_reducible refine dA ?_
 show ae (wpAny_specialOf ty slot_dict_contains.lookup ?_)
 change wpAny _ _ (if(some (Value.builtin "dict.__contains__")==some Value.none)=true then _ else _) _ E s
 rw[aO ⋯];show ae (wpAny_callSpecialUnlessNone?_slot (name:=Str.ofString "__contains__") ty slot_dict_contains (gZ slot_dict_contains ty entry_dict_contains ?_ (args_dict_contains _ _)))
 change wpAny _ _ (dictGet a (.str k tk) >>=_) _ _ s
 show ae (EG (X:=X) T ?_)
 cases e:KTD.datumAt k D with
 |some f=>
  rw[e]at q
  change wpAny _ _ (ret (.bool true)) _ _ _
  show aw (_,rfl,kA q)
 |none=>
  rw[e]at q
  change wpAny _ _ (Builtin.Dict.pendingKey? a (.str k tk) >>=_) _ _ _
  show ae (wpAny_pendingKey_other T.1 (aw (_,rfl,kA q)))
end
def EH(K:W.Frag)(td ty:TE):TE:=λZ H Q=>td Z H λx H1=>ty Z H1 λy H2=>∃(a:Addr) (D:List (Str×Addr)) (k:Str) (f:Addr),x=.ref a/\k7 K a D/\y=.str k/\KTD.datumAt k D=some f/\Q (.ref f) H2
def EI(K:W.Frag)(ty td:TE):TE:=λZ H Q=>ty Z H λy H1=>td Z H1 λx H2=>∃(a:Addr) (D:List (Str×Addr)) (k:Str),x=.ref a/\k7 K a D/\y=.str k/\Q (.bl (!(KTD.datumAt k D).isSome)) H2
def k9(P:Program)(w:World)(K:W.Frag)(mg:Str->Option Value)(base:Heap)(f:Addr)(k:Nat)(ps:List Str)(sp:Sp):Prop:=
 ∃fd:FuncData,aN P w K mg base aU k f fd ps sp/\W.keepIn K (.ref f)=true/\f_ K fd ps []
def EJ(P:Program)(w:World)(K:W.Frag)(mg:Str->Option Value)(base:Heap)(k:Nat)(tf:TE)(t:TA):TE:=λZ H Q=>tf Z H λx H1=>∃(f:Addr) (ps:List Str) (sp:Sp),x=.ref f/\k9 P w K mg base f k ps sp/\t Z H1 λvs H2=>sp (vs++[]) H2 Q E0
section
variable{X:Cx}{K:W.Frag}{o i e:Expr}{es:List Expr}{pos p:Pos}{td ty tf:TE}{t:TA}{x:Str}{k:Nat}
def EK(h:X.K=K)(ho:PE X o td)(hi:PE X i ty)(hs:sZ i):PE X (.Subscript o i pos) (EH K td ty):=by
 subst h;ext a9 s Z H Q I q;show Ew PySem.F.slot_dict_getitem.lookup hs (aI (ho a9 s Z H _ I q) λu s1 (x,H1,I1,rx,q1)=>aI (hi a9 s1 Z H1 _ I1 q1) λiv s2 (y,H2,I2,ry,a,D,k,f,ex,t,ey,ek,q2)=>?_);subst ex ey;obtain rfl:u=Value.ref a:=rx
 let(tk,rfl):=(show ∃tk,iv=Value.str k tk from ry)
 let T:=EF I2 t;show(wM T,LM T ek (.ref f,H2,I2.tok _,rfl,q2))
def LO(h:X.K=K)(hi:PE X i ty)(ho:PE X o td):PC X .NotIn i o (EI K ty td):=by
 subst h;ext a9 s Z H Q I q;show aI (hi a9 s Z H _ I q) λiv s1 (y,H1,I1,ry,q1)=>aI (ho a9 s1 Z H1 _ I1 q1) λu s2 (x,H2,I2,rx,a,D,k,ex,t,ey,q2)=>?_;subst ex ey;obtain rfl:u=Value.ref a:=rx
 let(tk,rfl):=(show ∃tk,iv=Value.str k tk from ry)
 let T:=EF I2 t
 change wpAny _ _ (do return Value.bool (!(<-contains (.ref a) (.str k tk)))) _ _ _
 show ae (LN T (aw (.bl _,H2,I2.tok _,rfl,q2)))
def EL{P:Program}{w:World}{mg:Str->Option Value}{base:Heap}(h:X.prog=P/\X.w=w/\X.K=K/\X.mg=mg/\X.base=base)(hr:cn k X.A)(hf:PE X (.Name x p) tf)(ha:PA X (e::es) t)
  (he:↥(starEach (e::es) X.env=(false,eval e X.env,)::starEach es X.env)) (hpl:↥((backTo pos (starEach es X.env)).any (·.1)=false)):
  PE X (.Call (.Name x p) (e::es) [] pos) (EJ P w K mg base k tf t):=by
 let(rfl,rfl,rfl,rfl,rfl):=h;ext a9 s Z H Q I q;show qM (aI (hf a9 s Z H _ I q) λu s1 (y,H1,I1,ry,f,ps,sp,ey,(fd,F,hk,hb),q1)=>?_);subst ey;obtain rfl:u=Value.ref f:=ry;show W.callWith_K (h₀:=X.base) I1.ok.mod.kin hk (aI (ha pos a9 s1 Z H1 _ I1 q1) λus s2 (vs,H2,I2,r,q2)=>(I2.kIn,?_)) he hpl;show rN F hr hb .nil mZ I2 r q2
end
section
variable{X:Cx}{K:W.Frag}
end
section
variable{Z:St}{H:Hp}{Q:VK}{K:W.Frag}
def LP{td ty:TE}(q:td Z H λx H1=>ty Z H1 λy H2=>∃(a:Addr) (D:List (Str×Addr)) (k:Str) (f:Addr),x=.ref a/\k7 K a D/\y=.str k/\KTD.datumAt k D=some f/\Q (.ref f) H2):EH K td ty Z H Q:=q
def LQ{td ty:TE}(q:ty Z H λy H1=>td Z H1 λx H2=>∃(a:Addr) (D:List (Str×Addr)) (k:Str),x=.ref a/\k7 K a D/\y=.str k/\Q (.bl (!(KTD.datumAt k D).isSome)) H2):EI K ty td Z H Q:=q
def LR{P:Program}{w:World}{mg:Str->Option Value}{base:Heap}{k:Nat}{tf:TE}{t:TA}(q:tf Z H λx H1=>∃(f:Addr) (ps:List Str) (sp:Sp),x=.ref f/\k9 P w K mg base f k ps sp/\t Z H1 λvs H2=>sp (vs++[]) H2 Q E0):EJ P w K mg base k tf t Z H Q:=q
def wN{a:Addr}{xs:LT}{lo hi:Option Int}(h:az K H a xs)(n:¬(HT.sIx xs.length 0 lo=0/\HT.sIx xs.length xs.length hi=xs.length))(q:∀p,H p=none->Q (.ref p) (aa H p (.tup (fR xs lo hi)))):uX K (.ref a) lo hi H Q:=(a,xs,rfl,h,n,q)
def LS{td ty tx:TE}(q:td Z H λx H1=>∃a,x=.ref a/\j_ H1 a/\ty Z H1 λy H2=>tx Z H2 λz H3=>∃o,eN H3 a y o/\Q (o.getD z) H3):EC td ty tx Z H Q:=q
def LU{Um:List (TE×TE)}(q:∀p,H p=none->tj Um Z (aa H p (.dK [])) λps H2=>H2 p=some (.dK [])/\∃kvs:Tm,ps=kvs.map (λkv=>(kV kv.1,kv.2,))/\kvs.length<=15/\Q (.ref p) (aa H2 p (.dK (i3 [] kvs)))):EA Um Z H Q:=q
end
def b_(P:Program)(w:World)(K:W.Frag)(mg:Str->Option Value)(base:Heap)(C:Addr)(m:Str)(k:Nat)(ps:List Str)(sp:Sp):Prop:=
 dR K C/\∃(f:Addr) (fd:FuncData),aN P w K mg base aU k f fd ps sp/\rJ K C m f/\f_ K fd ps []
def nI(P:Program)(w:World)(K:W.Frag)(mg:Str->Option Value)(base:Heap)(x:Str)(C:Addr)(k:Nat)(ps:List Str)(sp:Sp):Prop:=
 mg x=some (.ref C)/\∃(f:Addr) (fd:FuncData),aN P w K mg base aU k f fd ps sp/\Mk K C f/\f_ K fd ps []
section
variable{X:Cx}{k:Nat}{C:Addr}{ps:List Str}{sp:Sp}{x m:Str}{p pos bM:Pos}{e o:Expr}{es:List Expr}{ta:TE}{t:TA}
def LV{pl:Sem Bool}(c:b_ X.prog X.w X.K X.mg X.base C m k ps sp)(hr:cn k X.A)(he:PE X o ta)(ha:PA X (e::es) t)
  (hst:↥(starEach (e::es) X.env=(false,eval e X.env,)::starEach es X.env)) (hpl:↥((backTo pos (starEach es X.env)).any (·.1)=false))
  (ht:↥(eval (.Call (.Attribute o m bM) (e::es) [] pos) X.env=(do
   let ov<-eval o X.env
   standAt bM.atName
   let(f,first,)<-holding [ov] (getMethod ov m pl)
   callWith pos f first (backTo pos (starEach (e::es) X.env)) (backToKw pos (keywordEach [] X.env))))):
  PE X (.Call (.Attribute o m bM) (e::es) [] pos) (lZ C m sp [] E0 ta t):=by
 let(c,f,fd,F,hm,hb):=c;show HL he c hm F hr hb .nil mZ ha hst hpl ht
def pM{pl:Sem Bool}(c:b_ X.prog X.w X.K X.mg X.base C m k ps sp)(he:PE X o ta)(ha:PA X (e::es) t)(hr:cn k X.A:=by exact cn.mono (by assumption) (by omega))
  (hst:↥(starEach (e::es) X.env=(false,eval e X.env,)::starEach es X.env)) (hpl:↥((backTo pos (starEach es X.env)).any (·.1)=false))
  (ht:↥(eval (.Call (.Attribute o m bM) (e::es) [] pos) X.env=(do
   let ov<-eval o X.env
   standAt bM.atName
   let(f,first,)<-holding [ov] (getMethod ov m pl)
   callWith pos f first (backTo pos (starEach (e::es) X.env)) (backToKw pos (keywordEach [] X.env))))):
  PE X (.Call (.Attribute o m bM) (e::es) [] pos) (lZ C m sp [] E0 ta t):=LV c hr he ha hst hpl ht
def jm{pl:Sem Bool}(c:b_ X.prog X.w X.K X.mg X.base C m k ps sp)(hr:cn k X.A)(he:PE X o ta)
  (ht:↥(eval (.Call (.Attribute o m bM) [] [] pos) X.env=(do
   let ov<-eval o X.env
   standAt bM.atName
   let(f,first,)<-holding [ov] (getMethod ov m pl)
   callWith pos f first (backTo pos (starEach [] X.env)) (backToKw pos (keywordEach [] X.env))))):
  PE X (.Call (.Attribute o m bM) [] [] pos) (lZ C m sp [] E0 ta jd):=by
 let(c,f,fd,F,hm,hb):=c;show HM he c hm F hr hb .nil mZ ht
def LW(c:nI X.prog X.w X.K X.mg X.base x C k ps sp)(hr:cn (k+1) X.A)(hg:Gl X x)(ha:PA X (e::es) t)(hdb:⇑((x==("__debug__":Str))=false))(he:↥(starEach (e::es) X.env=(false,eval e X.env,)::starEach es X.env))(hpl:↥((backTo pos (starEach es X.env)).any (·.1)=false)):
  PE X (.Call (.Name x p) (e::es) [] pos) (oV C sp [] E0 t):=by
 let(hm,f,fd,F,M,hb):=c;show HN M F hr hg hm hb .nil mZ ha hdb he hpl
def LX(c:nI X.prog X.w X.K X.mg X.base x C k ps sp)(hr:cn (k+1) X.A)(hg:Gl X x)(hdb:⇑((x==("__debug__":Str))=false)):
  PE X (.Call (.Name x p) [] [] pos) (oV C sp [] E0 jd):=by
 let(hm,f,fd,F,M,hb):=c;show HP M F hr hg hm hb .nil mZ hdb
end
section
variable{Z:St}{H:Hp}{Q:VK}{D:gu}{K:W.Frag}{f:Str}{ta tv:TE}
def tD(q:ta Z H λx H1=>∃a C dx fs v,x=.ref a/\H1 a=some (.ins C dx fs)/\dR K C/\dD K C f/\fs.lookup f=some v/\Q v H1):rK K ta f Z H Q:=q
def tF{a C dx:Addr}{fs:List (Str×V)}{v:V}{R:V->Prop}(e:H a=some (.ins C dx fs))(l:fs.lookup f=some v)(c:dR K C)(n:dD K C f)(q:R v):
  ∃a' C dx fs v,V.ref a=.ref a'/\H a'=some (.ins C dx fs)/\dR K C/\dD K C f/\fs.lookup f=some v/\R v:=(a,C,dx,fs,v,rfl,e,c,n,l,q)
def tG(q:tv Z H λy H1=>ta Z H1 λx H2=>∃a C dx fs,x=.ref a/\H2 a=some (.ins C dx fs)/\dR K C/\dD K C f/\fs.length<1000/\D.nx Z (aa H2 a (.ins C dx (bG f y fs)))):rL K ta tv f D Z H:=q
def pN{a C dx:Addr}{fs:List (Str×V)}{y:V}{N:St->Hp->Prop}(e:H a=some (.ins C dx fs))(l:fs.length<1000)(c:dR K C)(n:dD K C f)(q:N Z (aa H a (.ins C dx (bG f y fs)))):
  ∃a' C dx fs,V.ref a=.ref a'/\H a'=some (.ins C dx fs)/\dR K C/\dD K C f/\fs.length<1000/\N Z (aa H a' (.ins C dx (bG f y fs))):=(a,C,dx,fs,rfl,e,c,n,l,q)
def LY{C:Addr}{m:Str}{sp:Sp}{E:XK}{t:TA}(q:ta Z H λx H1=>∃a dx fs,x=.ref a/\H1 a=some (.ins C dx fs)/\fs.lookup m=none/\t Z H1 λvs H2=>sp (x::(vs++[])) H2 Q E):lZ C m sp [] E ta t Z H Q:=q
def LZ{a C dx:Addr}{fs:List (Str×V)}{m:Str}{R:Prop}(e:H a=some (.ins C dx fs))(l:fs.lookup m=none)(q:R):
  ∃a' dx fs,V.ref a=.ref a'/\H a'=some (.ins C dx fs)/\fs.lookup m=none/\R:=(a,dx,fs,rfl,e,l,q)
def L_{C:Addr}{sp:Sp}{E:XK}{t:TA}(q:t Z H λvs H1=>∀x dx,H1 x=none->H1 dx=none->dx≠x->sp (.ref x::(vs++[])) (aa (aa H1 dx (.own x)) x (.ins C dx [])) (λv H2=>v=.non/\Q (.ref x) H2) E):oV C sp [] E t Z H Q:=q
def L'(q:∀p,H p=none->Q (.ref p) (aa H p (.dK []))):wI Z H Q:=q
end
section
variable{X:Cx}{a9:Tl}{Z:St}{H:Hp}{s:Shared}{d:Addr}{kvs:Tm}{o:Obj}
def Inv.freeze(I:Inv X a9 Z H s)(e:H d=some (.dK kvs))(g:s.heap.get? d=some o):Inv X a9 Z (aa H d (.frz o (.dK kvs))) s:=by
 let nd:∀{b:Addr} {u:HO},H b=some u->u≠ .dK kvs->b≠d:=λh n z=>by subst z;rw[e]at h;show n (cH h).symm
 show I.un (h':=s.heap) (t':=s.toks) (λb o q _ _ _=>q,λb o q _ _ _=>(o.slots,q),λb o q n _=>?_,λb o q _=>(o,q),λb xs q=>?_,λb o u q=>?_,λb ps q=>(#[],?_)) λb u q=>?_
 .rw[aB (λz=>by subst z;rw[e]at n;cases n)];show n
 .rw[aB (nd q nofun)];show q
 .rw[aB (nd q nofun)];show q
 .rw[aB (nd q nofun),q];simp
 .by_cases hb:b=d
  .subst hb;rw[ar]at q;cases q;show(g,I.hok b _ e)
  .rw[aB hb]at q
   show(I.hok b u q).stay (λc v _ z=>z) (λc z=>by rw[aB (nd z nofun)];show z) λc xs z=>by rw[aB (nd z nofun)];show z
def Inv.thaw(I:Inv X a9 Z H s)(e:H d=some (.frz o (.dK kvs)))(hz:∀o u,X.H₀ d≠some (.frz o u)):Inv X a9 Z (aa H d (.dK kvs)) s:=by
 let nn:∀{b:Addr},H b=none->aa H d (.dK kvs) b=none:=λ{b} n=>by rw[aB (λz=>by subst z;rw[e]at n;cases n)];show n
 let nd:∀{b:Addr} {u:HO},H b=some u->u≠ .frz o (.dK kvs)->b≠d:=λh n z=>by subst z;rw[e]at h;show n (cH h).symm
 show(I.ok,I.os,I.bare,(I.base.keep,I.base.slot,λb o q n x=>nn (I.base.free b o q n x),I.base.there,λb xs q=>?_,λb o u q=>?_,λb ps q=>?_),I.loc,I.cell,nn I.free,λx c q=>nn (I.freeC x c q),λp hp=>?_,λb u q=>?_,I.len)
 .let z:=I.base.tups b xs q;rw[aB (nd z nofun)];show z
 .let z:=I.base.frzs b o u q;rw[aB (λy=>by subst y;show hz _ _ q)];show z
 .let(more,z):=I.base.tbls b ps q;show(more,by rw[aB (nd z nofun)];show z)
 .let(a1,a2,a3):=I.pin p hp;show(a1,nn a2,a3)
 .by_cases hb:b=d
  .subst hb;rw[ar]at q;cases q;show(I.hok b _ e).2
  .rw[aB hb]at q
   show(I.hok b u q).stay (λc v _ z=>z) (λc z=>by rw[aB (nd z nofun)];show z) λc xs z=>by rw[aB (nd z nofun)];show z
def wO(t:TE):TE:=λZ H Q=>∃(d:Addr) (kvs:Tm),H d=some (.dK kvs)/\∀o,t Z (aa H d (.frz o (.dK kvs))) λv H1=>H1 d=some (.frz o (.dK kvs))/\Q v (aa H1 d (.dK kvs))
def nJ{e:Expr}{t:TE}(h:PE X e t):PE X e (wO t):=by
 ext a9 s Z H Q I q;let(d,kvs,ed,q):=q;let(_,_,vs,_,o,es,ep,g,_):=I.hok d _ ed
 let hz:∀o u,X.H₀ d≠some (.frz o u):=λo u z=>by have:=I.base.frzs d o u z;rw[ed]at this;cases this
 show aI (h a9 s Z _ _ (I.freeze ed g) (q o)) λu s1 (v,H1,I1,r,e1,q1)=>?_;show(v,_,I1.thaw e1 hz,r,q1)
noncomputable def wQ(d:Addr)(o:Obj)(kvs:Tm):It:=
 (λi H=>H d=some (.frz o (.dK kvs))/\i<kvs.length,λi H x H'=>H'=H/\∃k v,kvs[i]?=some (k,v,)/\x=kV k,λi H=>H d=some (.frz o (.dK kvs))/\kvs.length<=i)
noncomputable def pO(o:Obj):Nat:=match o.data with|.dict _ ep=>ep|_=>0
def wR{P:Program}{w:World}{k:aF}{u:Value}(h:(cI P w).is k u=true):aV (kV k) u:=by
 rw[GN]at h
 cases k with
 |inl i=>cases u with|int j t=>(let e:j=i:=by simpa[jJ,Value.isInt]using h);subst e;show(_,rfl)|_=>cases h
 |inr x=>cases u with|str j t=>(let e:j=x:=by simpa[jJ,Value.isStrOf]using h);subst e;show(_,rfl)|_=>cases h
def lA(I:Inv X a9 Z H s)(e:H d=some (.frz o (.dK kvs))):(d==sysModules)=false/\∃vs,KV kvs vs/\s.heap.DictAt (cI X.prog X.w) d vs (pO o):=by
 let(g,_,hd,vs,r,o',es,ep,g',q):=I.hok d _ e;rw[g]at g';cases g';show(hd,vs,r,o,es,g,?_)
 have:pO o=ep:=by unfold pO;rw[q.2.1]
 rw[this];show q
def M0{P:Program}{w:World}{K:W.Frag}{tg:Expr}(d it:Addr)(o:Obj)(kvs:Tm):ir P w K tg (wQ d o kvs) [it] it (λi h=>h.IsKeyIter it d i kvs.length (pO o)) where
 mem:=∅
 obj:=λi h st b hb=>by
  let e:b=it:=by simpa using hb
  subst e;let(o,e,c,d):=st;show(o,e,λv z=>by rw[d]at z;cases z)
 keep:=λi h h' st k=>st.at λo e=>k it ∅ o e
 item:=by
  ext X hP hw hK hc i a9 s Z H E I hf st hg;subst hP hw hK;let(e,hi):=hg;let(_,vs,r,dd):=lA I e;let hl:=r.length;rw[hl]at st;let(f0,f1,f2,f3,f4,f5):=hf it ∅;let hx:vs[i]?=some (vs[i]'()):=aK _;let hk:=r.keys;show wpAny_pyNext_dict_item (k:=(vs[i]'()).1) (v:=(vs[i]'()).2) st dd hx λkey h' UP SG sb=>?_;let I1:Inv X a9 Z H {s with heap:=h'}:=I.turned (t':=s.toks) (λb o hb e=>(sb.2 b hb).trans e) f0 f1 f3 f4 f5;let(o',e',c,dt):=id SG;show(key,rfl,rB (s:={s with heap:=h'}) e' c dt (by decide) ⟨kV (vs[i]'()).1,H,I1,wR UP,⟨rfl,kvs[i].1,kvs[i].2,aK _,?_⟩,by rw[hl];show SG,λb hb=>(hf b hb).1⟩)
  let a1:(kvs.map (·.1))[i]?=some kvs[i].1:=by rw[aH,aK hi];rfl
  let a2:(vs.map (·.1))[i]?=some (vs[i]'()).1:=by rw[aH,hx];rfl
  rw[hk,a2]at a1;rw[cH a1]
 done:=by
  ext X hP hw hK hc i a9 s Z H E I hf st hg;subst hP hw hK;let(e,hi):=hg;let(_,vs,r,dd):=lA I e;let hl:=r.length;rw[hl]at st hi;let(f0,f1,f2,f3,f4,f5):=hf it ∅
  show wpAny_pyNext_dict_end (I.ok.hd hc) st dd (gp hi) λh' eb=>(rfl,I.turned (t':=s.toks) (λb o hb e=>eb b o hb e) f0 f1 f3 f4 f5)
 self:=λ_ _ _ _ _ st h=>wpAny_pyIter_keyiter st h
def EM(tl:TE):TI:=λZ H N=>tl Z H λx H1=>∃d o kvs,x=.ref d/\H1 d=some (.frz o (.dK kvs))/\N (wQ d o kvs) H1
def pP{K:W.Frag}{tg l:Expr}{tl:TE}(_h:X.K=K)(hl:PE X l tl):PI X tg l (EM tl):=by
 ext a9 s Z H R I h;show aI (hl a9 s Z H _ I h) λv s1 (x,H1,I1,r1,q1)=>?_;let(d,o,kvs,e,hq,q):=q1;subst e;cases r1;let(hd,vs,r,dd):=lA I1 hq;erw[wpAny_pyIter_dict hd dd];show(s1.heap.objs.size,[s1.heap.objs.size],_,_,H1,rfl,I1.kept (t':=s1.toks) λb o e=>aR _ e,M0 d _ o kvs,(_,bR _ rfl,rfl,by rw[r.length];rfl),λb hb=>?_,q)
 let e:b=s1.heap.objs.size:=⋯
 subst e;show I1.fpOk (aD _) (I1.hok.fresh (aD _))
def pQ{t:TE}{Q:VK}(e:H d=some (.dK kvs))(q:∀o,t Z (aa H d (.frz o (.dK kvs))) λv H1=>H1 d=some (.frz o (.dK kvs))/\Q v (aa H1 d (.dK kvs))):wO t Z H Q:=(d,kvs,e,q)
def M3{tl:TE}{N:It->Hp->Prop}(q:tl Z H λx H1=>∃d o kvs,x=.ref d/\H1 d=some (.frz o (.dK kvs))/\N (wQ d o kvs) H1):EM tl Z H N:=q
end
section
variable{X:Cx}{a9:Tl}{Z:St}{H:Hp}{s:Shared}{a:Addr}{kvs:Tm}{k:aF}{u r:Value}{A:Around}{E:Value->Shared->Prop}
def M4{z:V}{Q:Value->Shared->Prop}(I:Inv X a9 Z H s)(e:H a=some (.dK kvs))(ry:aV (kV k) u)(rz:aV z r)(l:aM kvs k=none)(hl:kvs.length<sizeLine)(h:∀s',Inv X a9 Z (aa H a (.dK (bu kvs k z))) s'->Q r s'):
  wpAny (model X.prog X.w) A (call (.builtin "dict.setdefault") [.ref a,u,r]) Q E s:=by
 let(z1,hd,vs,Rp,dd):=mn I.hok e
 let hv:valueAt vs k=none:=by
  have:=Rp.val k;rw[l]at this
  cases q:valueAt vs k with
  |none=>rfl
  |some _=>rw[q]at this;show this.elim
 show lT Gj dd.typeIs PySem.F.entry_dict_setdefault (PySem.F.args_dict_setdefault_3 _ _ _) (kt_meets_setdefault (cI X.prog X.w) a (gS ry) hd r) (vs,dd,by rw[<-Rp.length];show z1,(λv q=>by rw[hv]at q;cases q),λ_ h' d' sb=>h _ ?_);let he:∃q,h'.get? a=some q:=let(o,_,_,g,_):=d';(o,g);show nE (ob:=.dK (bu kvs k z)) I (by rw[e];show True.intro) sb he (nG (by have:=jZ kvs k z;lia) hd (Rp.put k rz) d')
def i5(e:Rd H a (.dK kvs)):j_ H a:=.inl (kvs,e)
def EN:LT->Hp->VK->Prop:=λxs H Q=>∃(d:Addr) (kvs:Tm) (ns:LE),xs=[.ref d]/\Rd H d (.dK kvs)/\kvs.map (·.1)=ns.map Sum.inl/\ns.length<64/\
 ∀(l:Addr) (rs:LE),H l=none->rs.Perm ns->rs.Pairwise (· <= ·)->Q (.ref l) (aa H l (.lst (rs.map V.int)))
theorem EO:∀{Rm:T0} {vs:List (aF×Value)} {ns:LE},Rm.length=vs.length->(∀(j:Nat) (v:Value),Rm[j]?=some v->∃(k:aF) (x:Value),vs[j]?=some (k,x,)/\aV (kV k) v)->vs.map (·.1)=ns.map Sum.inl->IntsAre Rm ns
 |[],[],ns,_,_,h=>by cases ns with|nil=>show .nil|cons=>cases h
 |[],_::_,_,hl,_,_=>by cases hl
 |_::_,[],_,hl,_,_=>by cases hl
 |v::Rm,p::vs,ns,hl,hj,h=>by
  cases ns with
  |nil=>cases h
  |cons n ns=>
   let h1:p.1=Sum.inl n:=(List.cons.inj h).1;let(k,x,e,rv):=hj 0 v rfl;let e:p=(k,x,):=cH e;subst e;let h1:k=Sum.inl n:=h1;subst h1
   let(t,rfl):=(show ∃t,v=Value.int n t from rv)
   show .cons _ _ (EO (by simpa using hl) (λj v e=>hj (j+1) v (by simpa using e)) (List.cons.inj h).2)
def wU(hc:X.calm=true):cJ X (.builtin "sorted") EN:=by
 ext a9 s Z H xs us Q I r h;let(d,kvs,ns,rfl,hq,hk,hn,q):=h;let(u,rfl,rx):=fZ r;cases rx;let(hz,lo,vs,Rp,dd):=jl I.hok hq;let(ep,dd):=dd.dictAt
 let hl:vs.length=ns.length:=by rw[<-Rp.length];have:=congrArg List.length hk;simpa using this
 erw[Calls.call_function_entry kind_sorted plain_sorted entry_sorted (args_sorted1 _)];unfold Builtin.«sorted»;show ae (m:=checkCount "sorted" 1 1 _) (aw ?_);show ae (W.kdu_collect (W.kdl_dict (prog:=X.prog) (w:=X.w) (knd:=cI X.prog X.w) (kvs:=vs) (ep:=ep) lo) (I.ok.hd hc) dd (by rw[iQ];lia) λh2 t2 Rm old SU=>?_)
 let hi:IntsAre Rm.toList ns:=EO (vs:=vs) (by rw[gX];show SU.1) (λj v e=>by
  let(k,x,e1,e2):=SU.2 j v (by rw[<-Gw];show e)
  show(k,x,e1,wR e2)) (by rw[<-Rp.keys];show hk)
 let Y4:Rm.toList.length<64:=by rw[lQ hi];show hn
 show ae (wpAny_newList ?_ (by rw[iQ];lia));generalize XT:Rm.toList=ws at*;let Vq:(h2.push (seqObj "list" ws.toArray 0)).get? h2.objs.size=some (seqObj "list" ws.toArray 0):=bR _ rfl
 change wpAny _ _ _ _ _ {s with heap:=h2.push (seqObj "list" ws.toArray 0),toks:=t2}
 show ae (dA (gZ slot_list_sort (_,Vq,rfl) entry_list_sort (list_sort_tree Vq hi Y4 λSD Tj a1 a2 a3=>(_,rfl,?_)) (args_list_sort _)));let I2:Inv X a9 Z H {s with heap:=h2,toks:=t2}:=I.kept (t':=t2) old
 let keep:∀b o,h2.get? b=some o->(sortedHeap (h2.push (seqObj "list" ws.toArray 0)) h2.objs.size ws SD).get? b=some o:=λb o e=>by
  let e2:=e;let hb:b<h2.objs.size:=bw e2;unfold sortedHeap;rw[ky _ _ (fY hb)];show aR _ (aR _ ?_);rw[ky _ _ (fY hb)];show aR _ e2
 let Vf:=qR Vq (λ_=>(#[]:Array Value));let ho3:=qR (aR (seqObj "list" #[] 0) (aR (seqObj "tuple" ws.toArray 0) Vf)) (λ_=>SD);show aw (_,rfl,?_);show(.ref h2.objs.size,_,I2.laid (t':=t2) (o:=.lst (Tj.map V.int)) keep (aD _) (?_,SD.toList,_,sM a1,by rw[Array.toArray_toList];show ho3),rfl,q _ Tj (I2.hok.fresh (aD _)) a2 a3);let e1:=lQ a1;rw[au,a2.length_eq];rw[iQ];lia
def ER{d:Addr}{ns:LE}{Q:VK}(h:Rd H d (.dK kvs))(hk:kvs.map (·.1)=ns.map Sum.inl)(hn:ns.length<64)(q:∀(l:Addr) (rs:LE),H l=none->rs.Perm ns->rs.Pairwise (· <= ·)->Q (.ref l) (aa H l (.lst (rs.map V.int)))):EN [.ref d] H Q:=(d,kvs,ns,rfl,h,hk,hn,q)
noncomputable def i_:Bool->Str
 |true=>"loose"
 |false=>"lost"
end
def az.mono{K:W.Frag}{H H':Hp}{a:Addr}{xs:LT}(s:aC H H')(h:az K H a xs):az K H' a xs:=by
 rcases h with(h|⟨o,h⟩)|h
 .show .inl (.inl (s _ _ h))
 .show .inl (.inr (o,s _ _ h))
 .show .inr h
section
variable{X:Cx}{K:W.Frag}{o e value:Expr}{f:Str}{pos Rv:Pos}{ta tv:TE}
def bU(h:X.K=K)(he:PE X e ta)(hb:↥(attributeBase e f X.env (eval e X.env)=eval e X.env)):PE X (.Attribute e f pos) (rK K ta f):=by subst h;show HD he hb
def gh(h:X.K=K)(ha:PE X o ta)(hv:PE X value tv)(hs:swapsWith value (some (.Attribute o f Rv)) pos.line X.env=pure false):PS X (.Assign [.Attribute o f Rv] value pos) (rL K ta tv f):=by subst h;show HF ha hv hs
def ES:LT->Hp->VK->Prop:=λxs H Q=>∃a kvs,xs=[V.ref a]/\Rd H a (.dK kvs)/\Q (.int kvs.length) H
def ET:cJ X (.builtin "len") ES:=by
 ext a9 s Z H xs us Q I r h;let(a,kvs,rfl,e,q):=h;let(u,rfl,rx):=fZ r;cases(show u=Value.ref a from rx)
 show Lv I e λt s' I'=>(.int kvs.length,H,I',(_,rfl),q)
def M5{H:Hp}{Q:VK}{a:Addr}{kvs:Tm}(e:Rd H a (.dK kvs))(q:Q (.int kvs.length) H):ES [.ref a] H Q:=(a,kvs,rfl,e,q)
end
section
variable{X:Cx}{a9:Tl}{Z:St}{H:Hp}{s:Shared}{scope:Scope}{own:List Str}{aJ:List (Nat×Str)}{fp:Tk}{C D:Addr}{h1:Heap}{m:Str->Option Value}
def M6{tk:Nat}(I:Inv X a9 Z H s)(S:g0 X.N X.env.scope scope own aJ)(Ue:∀b∈fp,cC X a9 H b)(Vw:∀b∈fp,∃o,s.heap.get? b=some o)
  (old:∀b o,s.heap.get? b=some o->h1.get? b=some o) (hC:s.heap.objs.size<=C) (Tw:h1.Ns C m):
  Inv (gy X (own++aJ.map (·.2)) scope (dM X.env.cells scope.names []) C s H fp) [] (eZ own.length aJ Z) H {s with heap:=h1,toks:=tk}:=by
 let sub:=λ{x:Str} {c:Addr}=>I.clos_sub (x:=x) (c:=c) S
 let lt:∀b∈fp,b<s.heap.objs.size:=λb hb=>by obtain⟨o,e⟩:=Vw b hb;show bw e
 let clt:∀x c,X.env.cells.lookup x=some c->c<s.heap.objs.size:=λx c e=>by obtain⟨v,q⟩:=I.cell x c e;show q.lt
 show((I.ok.mod,S.kind,I.ok.glob,I.ok.blt,hC,λx y c e1 e2=>I.ok.inj x y c (sub e1) (sub e2),λx hx=>?_,λx c z=>absurd z (by change ¬(false=true);decide),I.ok.hd,I.ok.frames,.inl rfl,λb hb=>?_,I.bs,cf I.ok.bsz I.sz,λb o e hb=>?_,λb hb=>?_,I.stack,I.stkFree),
  rfl,I.bare,Un.kept old,(m,Tw,λi x v e1 e2 e3=>?_),λx c e=>?_,I.hok.fresh hC,λx c e=>I.freeC x c (sub e),λp hp=>?_,I.hok.kept old,?_)
 .let VI:scope.names.lookup x=some .cell\/scope.names.lookup x=some .free:=by
   rcases hx with z|z
   .show p7 (.inl rfl) z
   .show p7 (.inr rfl) z
  rcases VI with z|z
  .show absurd rfl (S.ocell _ (mem_of_lookup z))
  .show(_,p8 _ _ (.inl (mem_of_lookup z)))
 .show(bW (cM (lt b hb) hC),λx c e=>(Ue b hb).2.2.2.2.1 x c (sub e))
 .let(_,_,_,f3,_):=Ue b hb
  rcases f3 with z|z
  .show I.ok.noex b o e z
  .show absurd (cM (bw e) (cf I.ok.bsz z)) (mK _)
 .ext z
  rcases cb.mp (I.stkSub b z)with q|q
  .show(Ue b hb).2.1 q
  .show(Ue b hb).2.2.1 q
 .let hi:own.length<=i:=by
   rcases fq i own.length with z|z
   .unfold eZ at e2
    grind
   .show z
  unfold eZ at e2;rw[fj ⋯,aH,Gv]at e2
  replace e1:(own++aJ.map (·.2))[i]?=some x:=e1
  rw[fj hi,aH]at e1
  cases q:aJ[i - own.length]? with
  |none=>rw[q]at e1;cases e1
  |some p=>
   rw[q]at e1 e2;let U4:p.2=x:=cH e1;let Yy:(Z[p.1]?).join=some v:=cH e2;subst U4
   let e4:Z[p.1]?=some (some v):=by
    grind
   let(n1,n2):=S.fres p (dr q);let hm:=mem_of_lookup n2;let kd:=S.frees _ hm rfl;let(m2,VN,Ro):=I.loc;let(u,ru,lk):=Ro p.1 p.2 v n1 e4 (.inr kd);show(u,ru,?_)
   rcases lk with⟨z,_⟩|⟨_,c,hc,hcell⟩
   .let z':X.env.scope.names.lookup p.2=some .local :=z
    grind
   .show .inr (vw n2,c,?_,?_)
    .have:=p8 (cells:=X.env.cells) (x:=p.2) scope.names [] (.inl hm);rw[hc]at this;show this
    .let(o,ho,hd):=hcell;show(o,old _ _ ho,hd)
 .let(v,o,ho,hd):=I.cell x c (sub e);show(v,o,old _ _ ho,hd)
 .show absurd hp (by simp[gy])
 .unfold eZ
  change _=(own++aJ.map (·.2)).length
  simp
end
def nK(D:Addr)(J:It)(g:TG)(tk tv:TE)(Q:Hp->Prop)(Z0:St)(H0:Hp):Prop:=
 ∃W:Nat->Nat->St->Hp->Prop,(∃m,W 0 m Z0 H0)/\∀i m Z' H',W i m Z' H'->(J.stop i H'/\Q H')\/
  (J.go i H'/\∀x H2,J.yld i H' x H2->g x Z' H2 λZ3 H3=>tk Z3 H3 λkx H4=>tv Z3 H4 λvx H5=>∃kvs k,H5 D=some (.dK kvs)/\kx=kV k/\kvs.length<sizeLine/\∃m',m'<m/\W (i+1) m' Z3 (aa H5 D (.dK (bu kvs k vx))))
def wV(n:Nat)(aJ:List (Nat×Str))(wi:TI)(g:TG)(tk tv:TE):TE:=λZ H Q=>wi Z H λJ H1=>∀D,H1 D=none->nK D J g tk tv (λH'=>Q (.ref D) H') (eZ n aJ Z) (aa H1 D (.dK []))
section
variable{X:Cx}{a9:Tl}{Z:St}{scope:Scope}{own:List Str}{aJ:List (Nat×Str)}{ke ve tg iter:Expr}{pos:Pos}{wi:TI}{g:TG}{tk tv:TE}
abbrev kc(ke ve tg iter:Expr)(scope:Scope)(pos:Pos):Expr:=.DictComp ke ve [(tg,iter,[],0)] scope pos
def M7(it Rm:Value)(env:Env)(D:Addr)(SU:Rm=.ref D):compTurn (kc ke ve tg iter scope pos) 0 it Rm env=(standAt iter.pos >>=λ_=>pyNext it >>=λr=>match r with
   |none=>pure (.done .next)
   |some v=>letOwnedTupleGo tg it v >>=λ_=>assign tg env v >>=λ_=>
    ((eval ke env >>=λkv=>holding [kv] (eval ve env) >>=λvv=>standAt {line:=ke.pos.line,col:=ke.pos.col,endLine:=ve.pos.endLine,endCol:=ve.pos.endCol} >>=λ_=>holding [kv,vv] (dictSet D kv vv)) >>=λ_=>again (.compLoop (kc ke ve tg iter scope pos) 0 it Rm env))):=by
 subst SU;unfold kc;unfold compTurn;rfl
def M8(hX:p9 X)(hg:PG X tg g)(hk:PE X ke tk)(hv:PE X ve tv){s:Shared}{H:Hp}{it D:Addr}{fp:Tk}{tn:Nat->Heap->Prop}{J:It}{Fin:Hp->Prop}{R:Result->Shared->Prop}(I:Inv X [] Z H s)(T:ir X.prog X.w X.K tg J fp it tn)(st:tn 0 s.heap)(f9:∀b∈fp,cC X [] H b)
  (nD:∀b∈fp,b≠D) (turns:nK D J g tk tv Fin Z H) (hR:∀s' Z' H',Inv X [] Z' H' s'->Fin H'->R (.ok .next) s'):codeAny (model X.prog X.w) X.A (.compLoop (kc ke ve tg iter scope pos) 0 (.ref it) (.ref D) X.env) R s:=by
 let(W,(m0,w0),turn):=turns
 let hb:∀{A:Prop} {x:Value} {s':Shared},X.xe x s'->A:=λ{A x s'} z=>by rw[hX.xe]at z;show z.elim
 let fx:∀{H':Hp} {b:Addr},b∈fp->H' b=none->cC X [] H' b:=λhb hn=>(hn,(f9 _ hb).2)
 show codeAny_loop rfl (λn s'=>∃i' Z' H',Inv X [] Z' H' s'/\tn i' s'.heap/\(∀b∈fp,H' b=none)/\W i' n Z' H') (λn s3 hI=>?_) m0 (0,Z,H,I,st,λb hb=>(f9 b hb).1,w0)
 change wpAny _ X.A ((compTurn (kc ke ve tg iter scope pos) 0 (.ref it) (.ref D) X.env).onRaise (λx=>do noteFrame x X.env;theTreesLotGoes x)) _ _ s3
 erw[wpAny_noted];rw[M7 _ _ _ D rfl];let(i',S7,RL,V8,S_,Tg,Xk):=hI;show ae (lR (ae ?_))
 rcases turn i' n S7 RL Xk with⟨S9,U1⟩|⟨go1,step1⟩
 .let dn:=T.done X rfl rfl rfl hX.calm i' _ s3 S7 RL (λ_ _=>False) V8 (λb hb=>fx hb (Tg b hb)) S_ S9;show cR dn (λr s11 (hr,I11)=>?_) λ_ _ z=>z.elim;subst hr;show aw (hR _ S7 RL I11 U1)
 .let UD:=T.item X rfl rfl rfl hX.calm i' _ s3 S7 RL (λ_ _=>False) V8 (λb hb=>fx hb (Tg b hb)) S_ go1;show cR UD (λr s11 (u1,hr,h11)=>?_) λ_ _ z=>z.elim;subst hr;show ae (cR h11 (λ_ s12 (x1,T_,I12,r12,y12,st12,fr12)=>?_) λ_ _ z=>z.elim);let U9:=I12.pinned (λb hb=>fx hb (fr12 b hb)) (T.obj _ _ st12);show ae (cR (hg _ s12 S7 T_ x1 u1 _ U9 r12 (step1 x1 T_ y12)) (λ_ s13 (Tq,WR,I13,q13)=>?_) (λ_ _ z=>hb z));show ae (ae (cR (hk _ s13 Tq WR _ I13 q13) (λkv s14 (kx,WQ,I14,r14,q14)=>?_) (λ_ _ z=>hb z)));show ae (dA (cR (hv _ s14 Tq WQ _ I14 q14) (λvv SI (vx,H15,I15,r15,q15)=>?_) (λ_ _ z=>hb z)));let(kvs,k,eD,ek,hl,m',Sn,w'):=q15;subst ek;let(z,hd,vs,Rp,dd):=mn I15.hok eD
  let hz:vs.length<=sizeLine:=by rw[<-Rp.length];show z
  let Ro:(bu kvs k vx).length<=sizeLine:=by have:=jZ kvs k vx;lia
  show ae (lR (dA (wpAny_dictSet_pairs (hsz:=hz) (gS r14) dd λh' Ul hs=>?_)));let he:∃q,h'.get? D=some q:=let(q,_,_,hq,_):=Ul;(q,hq);let I16:=nE (t':=SI.toks+1) I15 (by rw[eD];show True.intro) hs he (nG Ro hd (Rp.put k r15) Ul);show aw (rfl,m',Sn,i'+1,Tq,_,I16.unpinned,T.keep _ _ _ st12 λb hb o e=>?_,λb hb=>?_,w')
  .show(I16.pin (b,o,) (cF _ (cF _ (kP hb e)))).1
  .let(o,e,_):=T.obj _ _ st12 b hb;show(I16.pin (b,o,) (cF _ (cF _ (kP hb e)))).2.1
def M9{s2:Shared}{H2:Hp}{it:Addr}{fp:Tk}{tn:Nat->Heap->Prop}{J:It}{Fin:Addr->Hp->Prop}{RR:Value->Addr->Result->Shared->Prop}{E:Value->Shared->Prop}
  (hc:X.calm=true) (S:g0 X.N X.env.scope scope own aJ) (I2:Inv X a9 Z H2 s2) (T:ir X.prog X.w X.K tg J fp it tn) (SY:tn 0 s2.heap) (f2:∀b∈fp,cC X a9 H2 b)
  (hg:∀cl C Rn RC fp,PG (gy X (own++aJ.map (·.2)) scope cl C Rn RC fp) tg g) (hk:∀cl C Rn RC fp,PE (gy X (own++aJ.map (·.2)) scope cl C Rn RC fp) ke tk) (hv:∀cl C Rn RC fp,PE (gy X (own++aJ.map (·.2)) scope cl C Rn RC fp) ve tv)
  (turns:∀D,H2 D=none->nK D J g tk tv (Fin D) (eZ own.length aJ Z) (aa H2 D (.dK [])))
  (hend:∀(D C:Addr) (s':Shared) (H':Hp) (m:Str->Option Value),s2.heap.objs.size<=C->Inv X a9 Z H' s'->H' C=none->s'.heap.Ns C m->Fin D H'->RR (.ref D) C (.ok .next) s'):
  wpAny (model X.prog X.w) X.A newDict (λRm RJ=>wpAny (model X.prog X.w) X.A (newFunctionEnv scope X.env.globals (dM X.env.cells scope.names []) [] X.env.qual none .none (some X.env)) (λU6 Wa=>
   codeAny (model X.prog X.w) X.A (.compStart (kc ke ve tg iter scope pos) 0 (.ref it) Rm {U6 with scope:=relabel scope X.env}) (RR Rm U6.locals) Wa) E RJ) E s2:=by
 show ik (wpAny_newFunctionEnv S.ocell ⋯ (λSl RO RI=>?_) S.kind);dsimp only at RO RI⊢;let I3:=I2.laid (a:=s2.heap.objs.size) (o:=.dK []) (t':=s2.toks) (λ_ _ q=>aR _ q) (aD _) (wH s2.heap I2.big);let hD0:H2 s2.heap.objs.size=none:=I2.hok.fresh (aD _);let eo:∀b o,s2.heap.get? b=some o->(s2.heap.push {cls:=.type "dict",data:=.dict #[]}).get? b=some o:=λ_ _ q=>aR _ q;let esz:(s2.heap.push {cls:=.type "dict",data:=.dict #[]}).objs.size=s2.heap.objs.size+1:=eQ ..;generalize s2.heap.push {cls:=.type "dict",data:=.dict #[]}=HH at RO RI I3 eo esz⊢;generalize hD:s2.heap.objs.size=D at*;let old:∀b o,HH.get? b=some o->Sl.get? b=some o:=λb o e=>RI.extBut b o (bW (bw e)) (aR _ e)
 let Vw:∀b∈fp,∃o,HH.get? b=some o:=λb hb=>by obtain⟨o,e,_⟩:=T.obj _ _ SY b hb;show(o,eo _ _ e)
 let nD:∀b∈fp,b≠D:=λb hb=>by obtain⟨o,e,_⟩:=T.obj _ _ SY b hb;rw[<-hD];show bW (bw e)
 let f3:∀b∈fp,cC X a9 (aa H2 D (.dK [])) b:=λb hb=>(by rw[aB (nD b hb)];show(f2 b hb).1,(f2 b hb).2)
 let I1:=M6 (tk:=s2.toks+([]:List (Str×Value)).length) I3 S f3 Vw old (aD _) RO;let hg':=hg (dM X.env.cells scope.names []) HH.objs.size {s2 with heap:=HH,toks:=s2.toks} (aa H2 D (.dK [])) fp;let Y_:=hk (dM X.env.cells scope.names []) HH.objs.size {s2 with heap:=HH,toks:=s2.toks} (aa H2 D (.dK [])) fp;let Vd:=hv (dM X.env.cells scope.names []) HH.objs.size {s2 with heap:=HH,toks:=s2.toks} (aa H2 D (.dK [])) fp;generalize hX':gy X (own++aJ.map (·.2)) scope (dM X.env.cells scope.names []) HH.objs.size {s2 with heap:=HH,toks:=s2.toks} (aa H2 D (.dK [])) fp=X' at I1 hg' Y_ Vd
 let eP:X'.prog=X.prog:=by rw[<-hX'];rfl
 let eW:X'.w=X.w:=by rw[<-hX'];rfl
 let eK:X'.K=X.K:=by rw[<-hX'];rfl
 let eA:X'.A=X.A:=by rw[<-hX'];rfl
 let eE:X'.env=compEnvC scope (dM X.env.cells scope.names []) HH.objs.size X.env:=by rw[<-hX'];rfl
 let eX:X'.xe=λ_ _=>False:=by rw[<-hX'];rfl
 let ePn:X'.pn=[]:=by rw[<-hX'];rfl
 let eC:X'.calm=true:=by rw[<-hX'];show hc
 let eS:X'.s₀={s2 with heap:=HH,toks:=s2.toks}:=by rw[<-hX'];rfl
 let eH:X'.H₀=aa H2 D (.dK []):=by rw[<-hX'];rfl
 let eF:X'.fs=gs X.stack:=by rw[<-hX'];rfl
 let eEx:X'.ex=fp:=by rw[<-hX'];rfl
 let flt:∀b∈fp,b<HH.objs.size:=λb hb=>by obtain⟨o,e⟩:=Vw b hb;show bw e
 let Tr:∀b∈fp,cC X' [] (aa H2 D (.dK [])) b:=λb hb=>by
  show((f3 b hb).1,?_,?_,.inl ⋯,λx c e=>?_,λp hp=>?_)
  .rw[eE];show bW (flt b hb)
  .rw[eF];ext z
   rcases cb.mp (I2.stkSub b z)with q|q
   .show(f2 b hb).2.1 q
   .show(f2 b hb).2.2.1 q
  .rw[eE]at e;show(f2 b hb).2.2.2.2.1 x c (I2.clos_sub S e)
  .grind
 let UC:∀RJ:Shared,RJ={s2 with heap:=Sl,toks:=s2.toks+([]:List (Str×Value)).length}->
   codeAny (model X.prog X.w) X.A (.compLoop (kc ke ve tg iter scope pos) 0 (.ref it) (.ref D) (compEnvC scope (dM X.env.cells scope.names []) HH.objs.size X.env)) (RR (.ref D) HH.objs.size) RJ:=by
  ext RJ rfl
  let run:=M8 (R:=RR (.ref D) HH.objs.size) (iter:=iter) (scope:=scope) (pos:=pos) (eX,ePn,eC) hg' Y_ Vd I1 (by rw[eP,eW,eK];show T) (T.keep _ _ _ SY λb _ o e=>old _ _ (eo b o e)) Tr nD (turns D hD0) (λs4 Z3 H3 I4 fin=>by
    let(m4,X2,_):=I4.loc
    let b4:Un (gs X.stack) fp (aa H2 D (.dK [])) H3 HH s4.heap:=by
     let z:=I4.base
     grind
    let o4:s4.os=s2.os:=by have z:=I4.os;rw[eS]at z;show z
    let k4:cz X.prog X.w H3 s4.heap:=by have z:=I4.hok;rw[eP,eW]at z;show z
    let Io:Inv X a9 Z H3 s4:=I3.call' o4 b4 k4 I4.bare λb hb=>by
     let(_,f1,_,f3,f4,f5):=f2 b hb
     grind
    show hend _ _ s4 H3 m4 () Io ?_ ?_ fin
    .let z:=I4.free;rw[eE]at z;show z
    .rw[eE]at X2;show X2)
  grind
 show codeAny_compStart_dict (UC _ rfl) (T.self X.A 0 _ _ _ (T.keep _ _ _ SY λb _ o e=>old _ _ (eo b o e)) (UC _ rfl))
def wW(hc:X.calm=true)(S:g0 X.N X.env.scope scope own aJ)(hi:PI X tg iter wi)
  (hg:∀cl C Rn RC fp,PG (gy X (own++aJ.map (·.2)) scope cl C Rn RC fp) tg g) (hk:∀cl C Rn RC fp,PE (gy X (own++aJ.map (·.2)) scope cl C Rn RC fp) ke tk) (hv:∀cl C Rn RC fp,PE (gy X (own++aJ.map (·.2)) scope cl C Rn RC fp) ve tv)
  (hs:∀x,foldedSetIterable iter X.env x=pure x:=by intro _;rfl):PE X (kc ke ve tg iter scope pos) (wV own.length aJ wi g tk tv):=by
 ext a9 s Z H Q I h
 change wpAny _ _ (comprehension (kc ke ve tg iter scope pos) scope X.env _ newDict false (eval iter X.env) none) _ _ s
 show Gm (use:=none) rfl hs (vy (I.clos_cells S)) S.kind S.locs (aI (hi a9 s Z H _ I h) λv s1 h1=>aI h1 λXN s2 h2=>?_);let(it,fp,tn,J,H2,e,I2,T,SY,f2,turns):=h2;subst e;erw[M9 (RR:=λRm C=>compPost (model X.prog X.w) X.A X.xe none (EP X a9 Z Q) Rm C) hc S I2 T SY f2 hg hk hv turns];ext D C s' H' m hC Io nC XA fin;show(m,XA,λh' Tn=>?_)
 let J1:Inv X a9 Z H' {s' with heap:=h',toks:=s'.toks}:=Io.chg (ch:=[C]) (λb hb=>by
  let e:b=C:=⋯
  rw[e];show I2.fpOk hC nC) λb o hb e=>Tn.extBut _ _ ⋯ e
 show(.ref D,_,J1,rfl,fin)
end
section
variable{Z:St}{H:Hp}{Q:VK}{n:Nat}{aJ:List (Nat×Str)}{wi:TI}{g:TG}{tk tv:TE}
def EU(q:wi Z H λJ H1=>∀D,H1 D=none->nK D J g tk tv (λH'=>Q (.ref D) H') (eZ n aJ Z) (aa H1 D (.dK []))):wV n aJ wi g tk tv Z H Q:=q
def EV{D:Addr}{J:It}{Fin:Hp->Prop}{H0:Hp}(W:Nat->St->Hp->Prop)(n:Nat)(w0:W 0 Z H0)(fin:∀Z' H',W n Z' H'->J.stop n H'/\Fin H')
  (step:∀i Z' H',i<n->W i Z' H'->J.go i H'/\∀x H2,J.yld i H' x H2->g x Z' H2 λZ3 H3=>tk Z3 H3 λkx H4=>tv Z3 H4 λvx H5=>∃kvs k,H5 D=some (.dK kvs)/\kx=kV k/\kvs.length<sizeLine/\∃m',m'<n - i/\(i+1<=n/\m'=n - (i+1)/\W (i+1) Z3 (aa H5 D (.dK (bu kvs k vx))))):nK D J g tk tv Fin Z H0:=by
 show(λi m Z' H'=>i<=n/\m=n - i/\W i Z' H',(n,cm _,rfl,w0),?_);ext i m Z' H' ⟨hi,rfl,hw⟩
 rcases fq i n with RA|hge
 .show .inr (step i Z' H' RA hw)
 .obtain rfl:i=n:=()
  show .inl (fin _ _ hw)
end
section
variable{X:Cx}{K:W.Frag}{o value:Expr}{f:Str}{pos Sk:Pos}{ta tv:TE}
end
inductive jo where
 |non
 |w (b:Bool)
 |boat (nm:Int)
deriving DecidableEq
section
variable{X:Cx}{a9:Tl}{Z:St}{H:Hp}{s:Shared}
def gF(K:W.Frag)(H:Hp):V->jo->Prop
 |.non,.non=>True
 |.ref p,.w b=>az K H p [.str (i_ b)]
 |.ref p,.boat nm=>az K H p [.str "boat",.int nm]
 |_,_=>False
noncomputable def iF:jo->PyData
 |.non=>.none
 |.w b=>.tuple [.str (i_ b)]
 |.boat nm=>.tuple [.str "boat",.int nm]
def mv{x:V}{o:jo}{v:Value}(I:Inv X a9 Z H s)(h:gF X.K H x o)(r:aV x v):∃as,Reads s.heap v (iF o) as:=by
 cases o with
 |non=>
  cases x<;>first|show h.elim|skip
  cases(show v=Value.none from r);show(_,.none)
 |w b=>
  cases x<;>first|show h.elim|skip
  rename_i p;cases(show v=Value.ref p from r);let(av,rv,(ob,g,c,n,dt),_):=I.tuple h
  cases rv with
  |cons r1 t=>
   cases t;let(t,rfl):=r1;show(_,.tuple g c dt (.cons (.str _ _) .nil))
 |boat nm=>
  cases x<;>first|show h.elim|skip
  rename_i p;cases(show v=Value.ref p from r);let(av,rv,(ob,g,c,n,dt),_):=I.tuple h
  cases rv with
  |cons r1 t=>
   cases t with
   |cons r2 t2=>
    cases t2;let(t,rfl):=r1;let(t',rfl):=r2;show(_,.tuple g c dt (.cons (.str _ _) (.cons (.int _ _) .nil)))
def tH(o:jo):SeqAt.shaped (iF o)=true:=by
 cases o with
 |non=>decide+kernel
 |w b=>cases b<;>decide+kernel
 |boat nm=>
  let e:PyData.strOk (Str.ofString "boat")=true:=by decide+kernel
  simp[iF,SeqAt.shaped,PyData.canLay0,PyData.depth,PyData.canLayAll0,PyData.depthAll,e]
def wY(a b:jo):PyData.eqv (iF a) (iF b)=decide (a=b):=by
 cases a with
 |non=>cases b with
  |non=>decide+kernel
  |w v=>cases v<;>decide+kernel
  |boat nm=>rfl
 |w x=>cases b with
  |non=>cases x<;>decide+kernel
  |w v=>cases x<;>cases v<;>decide+kernel
  |boat nm=>cases x<;>simp[iF,i_,PyData.eqv,PyData.eqvAll]
 |boat x=>cases b with
  |non=>rfl
  |w v=>cases v<;>simp[iF,i_,PyData.eqv,PyData.eqvAll]
  |boat y=>
   by_cases e:x=y
   .subst e;simp[iF,PyData.eqv,PyData.eqvAll]
   .simp[iF,PyData.eqv,PyData.eqvAll,e]
def wZ(K:W.Frag)(Uz:Bool):R2:=λx y H Q=>∃a b,gF K H x a/\gF K H y b/\Q (.bl (Uz ^^ decide (a=b))) H
omit EW EX Eq NotEq false true eq_dataH ne_dataH in
def EW{K:W.Frag}(h:X.K=K)(hu:X.A.units+64<cLine):bT X (compareOp .Eq) (wZ K false):=by
 subst h;ext a9 s Z H x y v u Q I rx ry h;let(a,b,h1,h2,k):=h;let(as,r1):=mv I h1 rx;let(bs,r2):=mv I h2 ry;show eq_dataH r1 r2 (tH a) (tH b) hu (.bl _,H,I,rfl,by rw[wY];simpa using k)
def pR{K:W.Frag}{Uz:Bool}{x y:V}{a b:jo}{Q:VK}(h1:gF K H x a)(h2:gF K H y b)(k:Q (.bl (Uz ^^ decide (a=b))) H):wZ K Uz x y H Q:=(a,b,h1,h2,k)
end
section
variable{X:Cx}{a9:Tl}{Z:St}{H:Hp}{s:Shared}{a:Addr}{kvs:Tm}{k:aF}{u r:Value}{A:Around}{E:Value->Shared->Prop}
def Ma{z:V}{Q:Value->Shared->Prop}(I:Inv X a9 Z H s)(e:H a=some (.dK kvs))(ry:aV (kV k) u)(l:aM kvs k=some z)(h:∀w' s',Inv X a9 Z H s'->aV z w'->Q w' s'):
  wpAny (model X.prog X.w) A (call (.builtin "dict.setdefault") [.ref a,u,r]) Q E s:=by
 let(z1,hd,vs,Rp,dd):=mn I.hok e;let(w',hw,RM):=eR.some_of (v:=z) (o:=valueAt vs k) (by rw[<-l];show Rp.val k);show lT Gj dd.typeIs PySem.F.entry_dict_setdefault (PySem.F.args_dict_setdefault_3 _ _ _) (kt_meets_setdefault (cI X.prog X.w) a (gS ry) hd r) (vs,dd,by rw[<-Rp.length];show z1,(λv q=>?_),λq=>by rw[hw]at q;cases q);rw[hw]at q;cases q;show h _ _ (I.tok _) RM
def EY(td ty tx:TE):TE:=λZ H Q=>td Z H λx H1=>∃a,x=.ref a/\j_ H1 a/\ty Z H1 λy H2=>tx Z H2 λz H3=>∃kvs k,H3 a=some (.dK kvs)/\y=kV k/\((aM kvs k=none/\kvs.length<sizeLine/\Q z (aa H3 a (.dK (bu kvs k z))))\/∃v,aM kvs k=some v/\Q v H3)
def Mb{o e f:Expr}{bM bL:Pos}{td ty tx:TE}(ho:PE X o td)(he:PE X e ty)(hf:PE X f tx)(m:M2 X o "setdefault" bM e f bL):PE X (.Call (.Attribute o "setdefault" bM) [e,f] [] bL) (EY td ty tx):=by
 ext a9 s Z H Q I h;show Au m.base m.few m.line uo Gj PySem.F.type_dict_setdefault (aI (ho a9 s Z H _ I h) λu s1 (x,H1,I1,rx,a,ex,d,q1)=>?_);subst ex;obtain rfl:u=Value.ref a:=rx;let(t1,t2,_):=tu I1 d;show(t1,t2,?_);rw[m.trees]
 show qH rfl (ur (mH (aI (he a9 s1 Z H1 _ I1 q1) λiv s2 (y,H2,I2,ry,q2)=>
  mH (aI (hf a9 s2 Z H2 _ I2 q2) λfv s3 (z,H3,I3,rz,kvs,k,e3,ey,q3)=>uA ?_))))
 subst ey
 rcases q3 with⟨l,hl,q3⟩|⟨v,l,q3⟩
 .show M4 I3 e3 ry rz l hl λs4 I4=>(_,_,I4,rz,q3)
 .show Ma I3 e3 ry l λw' s4 I4 RM=>(v,_,I4,RM,q3)
def EZ{td ty tx:TE}{Q:VK}(q:td Z H λx H1=>∃a,x=.ref a/\j_ H1 a/\ty Z H1 λy H2=>tx Z H2 λz H3=>∃kvs k,H3 a=some (.dK kvs)/\y=kV k/\((aM kvs k=none/\kvs.length<sizeLine/\Q z (aa H3 a (.dK (bu kvs k z))))\/∃v,aM kvs k=some v/\Q v H3)):EY td ty tx Z H Q:=q
end
section
variable{X:Cx}{a9:Tl}{Z:St}{H:Hp}{s:Shared}
def E_:R2:=λx y H Q=>∃(p q:Addr) (xs:LT),x=.ref p/\y=.ref q/\H p=some (.lst xs)/\H q=some (.lst [])/\Q (.bl xs.isEmpty) H
def w_(hu:X.A.units+64<cLine):bT X (compareOp .Eq) E_:=by
 ext a9 s Z H x y v u Q I rx ry h;let(p,q,xs,rfl,rfl,h1,h2,k):=h;cases(show v=Value.ref p from rx);cases(show u=Value.ref q from ry);let(us,r1,l1):=nu I h1;let(zs,r2,l2):=nu I h2;let e1:=r1.length;let e2:=r2.length
 cases xs with
 |nil=>
  erw[SeqAt.RcAt.lists (A:=X.A) (e:=λ_=>true) l1 l2 (by simp at e1 e2⊢;lia) () (λj h1 h2=>?_) X.prog X.w _ _]
  .simp at e1 h1;lia
  .rw[show((List.range us.toArray.size).all λ_=>true)=true by simp];show(.bl _,H,I,rfl,k)
 |cons x t=>
  erw[SeqAt.RcAt.lists_lengths l1 l2 (by simp at e1 e2⊢;lia) () X.prog X.w _ _];show(.bl false,H,I,rfl,k)
def tI{Q:VK}{p q:Addr}{xs:LT}(h1:H p=some (.lst xs))(h2:H q=some (.lst []))(k:Q (.bl xs.isEmpty) H):E_ (.ref p) (.ref q) H Q:=(p,q,xs,rfl,rfl,h1,h2,k)
def Md{Q:VK}{p q:Addr}{ns ms:LE}(h1:H p=some (.tup (ns.map V.int)))(h2:H q=some (.tup (ms.map V.int)))(k:Q (.bl (!decide (ns=ms))) H):F3 (.ref p) (.ref q) H Q:=(p,q,ns,ms,rfl,rfl,h1,h2,k)
end
end L2
namespace L2
open PySem
section
variable{X:Cx}{a9:Tl}{Z:St}{H:Hp}{s:Shared}
def tJ(o:jo):(iF o).canLay0=true/\(iF o).depth<=2:=by
 cases o with
 |non=>decide+kernel
 |w b=>cases b<;>decide+kernel
 |boat nm=>
  let e:PyData.strOk (Str.ofString "boat")=true:=by decide+kernel
  simp[iF,PyData.canLay0,PyData.depth,PyData.canLayAll0,PyData.depthAll,e]
def F4(K:W.Frag):R2:=λx y H Q=>∃t p1 p2 a b1 b2,y=.ref t/\az K H t [.ref p1,.ref p2]/\gF K H x a/\gF K H (.ref p1) b1/\gF K H (.ref p2) b2/\Q (.bl (!(decide (b1=a)||decide (b2=a)))) H
def Me{K:W.Frag}(h:X.K=K)(hu:X.A.units+64<cLine):bT X (compareOp .NotIn) (F4 K):=by
 subst h;ext a9 s Z H x y v u Q I rx ry h;let(t,p1,p2,a,b1,b2,rfl,ht,h1,h2,h3,k):=h;let(as,r1):=mv I h1 rx;cases(show u=Value.ref t from ry);let(av,rv,(ob,g,c,n,dt),_):=I.tuple ht
 cases rv with
 |cons q1 t1=>
  cases t1 with
  |cons q2 t2=>
   cases t2;let(_,r2):=mv I h2 q1;let(_,r3):=mv I h3 q2;show SeqAt.notIn_tuple_reads (.tuple g c dt (.cons r2 (.cons r3 .nil))) r1 ?_ (tJ a).1 ?_ (.bl _,H,I,rfl,?_)
   .simp[PyData.canLayAll0,(tJ b1).1,(tJ b2).1]
   .have:=(tJ a).2;lia
   .simp only[ox,List.any_nil,wY,Bool.or_false];show k
end
end L2
namespace L2
open PySem PySem.Spec PyProof.Rows
section
variable{X:Cx}{a9:Tl}{Z:St}{H:Hp}{s:Shared}{d:Addr}{kvs:Tm}{o:Obj}
noncomputable def nM(p d:Addr):HO:=.ext λh=>h.IsItemsView p d
def x8:V->LT->Hp->VK->Prop:=λx xs H Q=>∃(d:Addr) (o:Obj) (kvs:Tm),x=.ref d/\xs=[]/\H d=some (.frz o (.dK kvs))/\∀p,H p=none->Q (.ref p) (aa H p (nM p d))
def Mf:CO X "dict.items" x8:=by
 ext a9 s Z H x xs v us Q I rx r h;let(d,o,kvs,rfl,rfl,e,q):=h;cases r;cases(show v=Value.ref d from rx);let(lo,vs,Rp,dd):=lA I e;show lT PySem.F.slot_dict_items dd.dictOf.typeIs PySem.F.entry_dict_items (PySem.F.args_dict_items_1 _) (meets_dict_items (cI X.prog X.w) d lo) ((vs,dd.dictOf),?_);let g:(s.heap.push {cls:=.type "dict_items",data:=.fields #[.ref d]}).get? s.heap.objs.size=some {cls:=.type "dict_items",data:=.fields #[.ref d]}:=bR _ rfl;show(.ref s.heap.objs.size,_,I.laid (t':=s.toks) (o:=nM s.heap.objs.size d) (λb u z=>aR _ z) (aD _) ((_,g,rfl,rfl),(_,g),λh1 h2 z k=>?_),rfl,q _ (I.hok.fresh (aD _)));let(o,z1,z2):=z;show(o,k o z1,z2)
noncomputable def tK(d:Addr)(o:Obj)(kvs:Tm):It:=
 (λi H=>H d=some (.frz o (.dK kvs))/\i<kvs.length,λi H x H'=>∃T k v,kvs[i]?=some (k,v,)/\x=.ref T/\H T=none/\H'=aa H T (.tup [kV k,v]),λi H=>H d=some (.frz o (.dK kvs))/\kvs.length<=i)
def KV.at{kvs:Tm}{vs:List (aF×Value)}(r:KV kvs vs){i:Nat}{q:aF×Value}(e:vs[i]?=some q):∃p,kvs[i]?=some p/\p.1=q.1/\aV p.2 q.2:=by
 unfold KV at r
 induction r generalizing i with
 |nil=>simp at e
 |cons h t ih=>
  cases i with
  |zero=>cases e;show(_,rfl,h.1,h.2)
  |succ j=>show ih e
def Mg{P:Program}{w:World}{K:W.Frag}{es:List Expr}{kk:Nat}{pos:Pos}(d it:Addr)(o:Obj)(kvs:Tm):ir P w K (.Tuple es kk pos) (tK d o kvs) [it] it (λi h=>∃ok ov,IsItemIter h it d i kvs.length (pO o) ok ov) where
 mem:=∅
 obj:=λi h st b hb=>by
  grind
 keep:=λi h h' st k=>by
  grind
 item:=by
  ext X hP hw hK hc i a9 s Z H E I hf st hg;subst hP hw hK;let(e,hi):=hg;let(_,vs,r,dd):=lA I e;let hl:=r.length;let(ok,ov,st):=st;rw[hl]at st;let hx:vs[i]?=some (vs[i]'()):=aK _;let(p,ep,e1,e2):=r.at hx;show wpAny_pyNext_items_item (k:=(vs[i]'()).1) (v:=(vs[i]'()).2) st dd hx λkey h' UP SD hT hsz kp=>?_;show(_,rfl,wpAny_letOwnedTupleGo_items SD λT5 SG sb=>?_);let ne:s.heap.objs.size≠it:=fY (bw st)
  let kk:∀b u,b∉ [it]->s.heap.get? b=some u->T5.get? b=some u:=λb u hb q=>by
   let hb:b≠it:=⋯
   show sb.extBut _ _ hb (kp b u hb q)
  let hT':T5.get? s.heap.objs.size=some {cls:=.type "tuple",data:=.seq #[key,(vs[i]'()).2]}:=sb.extBut _ _ ne hT
  let rk:aV (kV p.1) key:=by rw[e1];show wR UP
  let new:c8 X.prog X.w (aa H s.heap.objs.size (.tup [kV p.1,p.2])) T5 s.heap.objs.size (.tup [kV p.1,p.2]):=
   (by change 2<=sizeLine;decide,[key,(vs[i]'()).2],.cons rk (.cons e2 .nil),_,hT',rfl,_,rfl)
  let I1:Inv X a9 Z (aa H s.heap.objs.size (.tup [kV p.1,p.2])) {s with heap:=T5,toks:=s.toks}:=I.chgLaid hf kk (aD _) new;show(.ref s.heap.objs.size,_,I1,rfl,(_,p.1,p.2,ep,rfl,I.hok.fresh (aD _),rfl),(_,_,by rw[hl];show SG),λb hb=>?_)
  let e:b=it:=⋯
  subst e;rw[aB (Ne.symm ne)];show(hf b hb).1
 done:=by
  ext X hP hw hK hc i a9 s Z H E I hf st hg;subst hP hw hK;let(e,hi):=hg;let(_,vs,r,dd):=lA I e;let hl:=r.length;let(ok,ov,st):=st;rw[hl]at st hi;let(f0,f1,f2,f3,f4,f5):=hf it ∅
  show wpAny_pyNext_items_end (I.ok.hd hc) st dd (gp hi) λh' eb=>(rfl,I.turned (t':=s.toks) (λb o hb e=>eb b o hb e) f0 f1 f3 f4 f5)
 self:=λ_ _ _ _ _ st h=>by
  let(ok,ov,st):=st;show W.kcp_self st h
def F5(to:TE):TE:=λZ H Q=>to Z H λx H1=>x8 x [] H1 Q
def Mh{o:Expr}{to:TE}{bM bL:Pos}(ho:PE X o to)(hbase:↥(attributeBase o "items" X.env (eval o X.env)=eval o X.env))(hline:↥((bM.endLine==bL.line)=true)):PE X (.Call (.Attribute o "items" bM) [] [] bL) (F5 to):=by
 ext a9 s Z H Q I h;show wpAny_Call_method0_late hbase hline (aI (ho a9 s Z H _ I h) λv s1 (x,H1,I1,r1,q1)=>?_);let q:=q1;let(d,ob,kvs,rfl,_,e,_):=q1;cases(show v=Value.ref d from r1);let(_,vs,Rp,dd):=lA I1 e;let(_,_,_,_,_,o2,_,_,g2,ex,_):=I1.hok d _ e;show("dict","dict.items",uo,PySem.F.slot_dict_items,PySem.F.type_dict_items,dd.dictOf.typeIs,λa z1=>by cases z1;show(o2,g2,ex.2.1),qH rfl (PySem.evalArgs_none (Mf a9 s1 Z H1 (.ref d) [] _ [] Q I1 rfl .nil q)))
def x9(to:TE):TI:=λZ H N=>F5 to Z H λx H1=>∃(p d:Addr) (o:Obj) (kvs:Tm),x=.ref p/\H1 p=some (nM p d)/\H1 d=some (.frz o (.dK kvs))/\N (tK d o kvs) H1
def F6{K:W.Frag}{es:List Expr}{kk:Nat}{Sk bM bL:Pos}{o:Expr}{to:TE}(_h:X.K=K)(ho:PE X o to)(hbase:↥(attributeBase o "items" X.env (eval o X.env)=eval o X.env))(hline:↥((bM.endLine==bL.line)=true)):
  PI X (.Tuple es kk Sk) (.Call (.Attribute o "items" bM) [] [] bL) (x9 to):=by
 ext a9 s Z H R I h;show aI (Mh ho hbase hline a9 s Z H _ I h) λv s1 (x,H1,I1,r1,q1)=>?_;let(p,d,ob,kvs,rfl,hp,hq,q):=q1;cases r1;let(hd,vs,r,dd):=lA I1 hq;let hv:s1.heap.IsItemsView p d:=(I1.hok p _ hp).1;erw[wpAny_pyIter_items hv dd];show(s1.heap.objs.size,[s1.heap.objs.size],_,_,H1,rfl,I1.kept (t':=s1.toks) λb o e=>aR _ e,Mg d _ ob kvs,(_,_,by rw[r.length];show bR _ rfl),λb hb=>?_,q)
 let e:b=s1.heap.objs.size:=⋯
 subst e;show I1.fpOk (aD _) (I1.hok.fresh (aD _))
def Mi{to:TE}{N:It->Hp->Prop}(q:to Z H λx H1=>x8 x [] H1 λx H1=>∃(p d:Addr) (o:Obj) (kvs:Tm),x=.ref p/\H1 p=some (nM p d)/\H1 d=some (.frz o (.dK kvs))/\N (tK d o kvs) H1):x9 to Z H N:=q
end
def F7:entryFor table "dict.update.loop"=some Builtin.«dict.update.loop»:=entryFor_of_tree (by kernel_rfl)
def tL:plainId "dict.update.loop"=true:=by decide+kernel
def Mj:typeLookup (.type "list") "keys"=pure none:=am_miss_of_fast (by kernel_rfl)
section
variable{prog:Program}{w:World}{A:Around}{E:Value->Shared->Prop}{s:Shared}{KT:Type}[DecidableEq KT]{knd:KeyKind prog w KT}
def Ml{a:Addr}{xs:Array Value}{k:Nat}{sl:Array (Option Value)}{Q:Option Value->Shared->Prop}(hx:s.heap.get? a=some {cls:=.type "list",dict:=none,data:=.seq xs k,slots:=sl})(hA:A.handled=none)
  (h:∀h' tk,(∀b o,s.heap.get? b=some o->h'.get? b=some o)->Q none {s with heap:=h',toks:=tk}):wpAny (model prog w) A (getAttr? (.ref a) "keys") Q E s:=by
 let(hp,g,d,tk,os):=s
 let hT:∀Xm,((hp,g,d,Xm,os):Shared).TypeIs (.ref a) "list":=λ_=>(_,hx,rfl)
 let f1:=sub_AttributeError;let f3:=PySem.F.slot_list_getattribute.lookup;let f4:=PySem.F.slot_list_getattribute.bind (.ref a);let f5:=am_list_getattr_none;unfold getAttr? getAttrBy? getAttrBy
 repeat (any_goals (first|done|show hT _|((with_reducible show wpAny _ _ (call (Value.builtin "list.__getattribute__") _ _) _ _ _);show call_meets PySem.F.slot_list_getattribute (hT _) am_entry_list_getattribute (PySem.F.args_list_getattribute_2 _ _) (meets_getattribute_miss_list a xs k sl "keys" _ Mj (by decide) (by size_fits)) (hx,hA,λh' Xm e VI=>?_))|wp_step))
 let(t',u',he):=VI.there
 change wpAny _ _ (getattributeRaised _ _ _ _ _ _ _) _ _ _
 unfold getattributeRaised
 repeat (any_goals (first|done|wp_step))
 show h _ _ VI.keeps
def Mm{R:Result->Shared->Prop}{I D l:Addr}{items:Array Value}{ps:List (KT×Value)}{h0:Heap}(hh:A.in1.handled=none)(hb:items.size<=sizeLine)(VL:ps.length=items.size)(n1:D≠I)(n2:l≠D)(n3:l≠I)(hl:h0.IsList l items)
  (hi:∀i (RA:i<items.size),∃t k key x,items[i]=.ref t/\ps[i]?=some (k,x,)/\knd.is k key=true/\t≠D/\t≠I/\h0.IsTuple t #[key,x]):
  ∀(k i:Nat) (s:Shared) (kvs:List (KT×Value)),items.size - i=k->i<=items.size->s.heap.IsListIter I l i->(∀b o,b≠D->b≠I->h0.get? b=some o->s.heap.get? b=some o)->s.heap.DictOf knd D kvs->kvs.length<=i->
   (∀h' tk,(∀b o,b≠D->b≠I->s.heap.get? b=some o->h'.get? b=some o)->h'.DictOf knd D (merged kvs (ps.drop i))->R (.ok (.ret .none)) {s with heap:=h',toks:=tk})->
   codeAny (model prog w) A (.builtin "dict.update.loop" ([.ref D,.ref I,rawInt i,.none],[])) R s:=by
 ext k
 induction k with
 |zero=>
  ext i s kvs hk SR hit kp hD VO hR
  let Sv:i=items.size:=()
  subst Sv;erw[jC F7];rw[lN tL _]
  change wpAny _ A.in1 (pyNext (.ref I) >>=_) _ _ s
  show ae (Gr hh hit (hl.at λo e=>kp _ _ n2 n3 e) ∅ λh' eb=>?_)
  change wpAny _ A.in1 (Builtin.Dict.addKeywords D [] >>=_) _ _ _
  show ae (aw ?_)
  change wpAny _ A.in1 (ret Value.none) _ _ _
  show aw (hR h' s.toks (λb o _ b2 e=>eb b o b2 e) ?_);rw[List.drop_of_length_le ()];show hD.extBut eb n1
 |succ k ih=>
  ext i s kvs hk SR hit kp hD VO hR
  let RA:i<items.size:=()
  let(t,kk,key,x,hv,hp,hky,t1,t2,ht):=hi i RA;erw[jC F7];rw[lN tL _]
  change wpAny _ A.in1 (pyNext (.ref I) >>=_) _ _ s
  show ae (Gp hit (hl.at λo e=>kp _ _ n2 n3 e) (x:=items[i]) (by simp[RA]) λh1 UQ Up=>?_);rw[hv];let TU:h1.IsTuple t #[key,x]:=ht.at λo e=>Up.extBut _ _ t2 (kp _ _ t1 t2 e);let TC:=hD.extBut Up.extBut n1;show ae (dA (ae (wpAny_tryCatch ?_)));unfold Builtin.Dict.pairItems;show ae (uG (T:="tuple") (s:={s with heap:=h1}) (show Shared.TypeIs {s with heap:=h1} (.ref t) "tuple" from let⟨o,a,b,_⟩:=TU;(o,a,b)) ?_);let(o,ho,hc,n,jc5):=TU;simp only[show(Value.type "tuple"==Value.type "list"||Value.type "tuple"==Value.type "tuple")=true from rfl,kF];show ae (jE (s:={s with heap:=h1}) ho jc5 (aw ?_))
  change wpAny _ _ (holding [key,x] (dictSet D key x)) _ _ _
  show dA (wpAny_dictSet_pairs (s:={s with heap:=h1}) hky TC (λh2 RG RK=>?_) ());show aw (ou tL _,?_);have:=ih (i+1) {s with heap:=h2,toks:=s.toks+1} (stored kvs kk x) () RA (UQ.extBut RK.extBut (Ne.symm n1)) (λb o b1 b2 e=>RK.extBut _ _ b1 (Up.extBut _ _ b2 (kp b o b1 b2 e))) RG (cf (stored_length_le ..) ()) λh' tk kp' WJ=>hR h' tk (λb o b1 b2 e=>kp' b o b1 b2 (RK.extBut _ _ b1 (Up.extBut _ _ b2 e))) ?_
  .show this
  .rw[show ps.drop i=(kk,x,)::ps.drop (i+1)from(List.drop_eq_getElem_cons ()).trans (by rw[show ps[i]=(kk,x,)from cH ((aK ()).symm.trans hp)])];show WJ
def Mn{l:Addr}{items:Array Value}{n:Nat}{sl:Array (Option Value)}{ps:List (KT×Value)}{Q:Value->Shared->Prop}(hh:A.handled=none)(hl:s.heap.get? l=some {cls:=.type "list",dict:=none,data:=.seq items n,slots:=sl})(hb:items.size<=sizeLine)(VL:ps.length=items.size)
  (hi:∀i (RA:i<items.size),∃t k key x,items[i]=.ref t/\ps[i]?=some (k,x,)/\knd.is k key=true/\s.heap.IsTuple t #[key,x])
  (h:∀(h':Heap) (tk:Nat),h'.DictOf knd s.heap.objs.size (merged [] ps)->(∀b o,b<s.heap.objs.size->s.heap.get? b=some o->h'.get? b=some o)->Q (.ref s.heap.objs.size) {s with heap:=h',toks:=tk}):
  wpAny (model prog w) A (call (.type "dict") [.ref l]) Q E s:=by
 erw[callType_codes (Q₁:=λobj Rk=>obj=.ref s.heap.objs.size/\Rk={s with heap:=s.heap.push {cls:=.type "dict",data:=.dict #[]}}) PySem.F.kt_called_dict (PySem.F.kt_typeCall_dict_1 _) PySem.F.entry_dict_init (kt_code_dict_new _ ⟨rfl,rfl⟩)];ext obj Rk ⟨rfl,rfl⟩;let Vr:(s.heap.push {cls:=.type "dict",data:=.dict #[]}).DictOf knd s.heap.objs.size []:=Heap.DictOf.new s.heap;let Vt:(s.heap.push {cls:=.type "dict",data:=.dict #[]}).get? l=_:=aR _ hl;let W7:l<s.heap.objs.size:=bw hl;show(Vr.typeIs,PySem.F.args_dict_init_2 _ _,?_);unfold Builtin.«dict.__init__»;erw[ae];unfold Builtin.Dict.selfAndRest;show ae (wpAny_notOrdered_dict Vr.typeIs ?_)
 change wpAny _ _ (pure (s.heap.objs.size,[Value.ref l],)) _ _ _
 erw[aw]
 change wpAny _ _ (Builtin.Dict.updateFrom "dict.__init__" s.heap.objs.size (.ref l) [] .none) _ _ _
 unfold Builtin.Dict.updateFrom;show ae (uG (T:="list") (_,Vt,rfl) ?_);rw[bf (by decide)];show ae (Ml Vt () λh1 tk1 k1=>?_);simp only[Option.isNone_none,kF];show ae (ip ?_)
 let RB:h1.IsList l items:=(_,k1 _ _ Vt,rfl,n,rfl)
 show ae (uz (s:={s with heap:=h1,toks:=tk1}) RB ?_)
 let Sz:s.heap.objs.size<h1.objs.size:=by
  let(o,_,_,ho,_):=Vr;show bw (k1 _ _ ho)
 show aw (ou tL _,?_)
 show Mm (h0:=h1) (D:=s.heap.objs.size) (I:=h1.objs.size) (ps:=ps) () hb VL (bW Sz) (bW W7) (bW (kD W7 Sz)) RB (λi RA=>?_) (items.size - 0) 0 _ [] rfl (cm _)
  (_,bR _ rfl,rfl,rfl) (λb o _ _ e=>aR _ e) ?_ (aD _) λh' tk kp WJ=>(rfl,h h' tk WJ λb o hb e=>?_)
 .let(t,k,key,x,e1,e2,e3,e4):=hi i RA;let ht:t<s.heap.objs.size:=let(_,ho,_):=e4;bw ho;show(t,k,key,x,e1,e2,e3,bW ht,bW (kD ht Sz),e4.at λo e=>k1 _ _ (aR _ e))
 .let(o,es,ep,ho,r):=Vr;show(o,es,ep,aR _ (k1 _ _ ho),r)
 .show kp b o (bW hb) (bW (kD hb Sz)) (aR _ (k1 _ _ (aR _ e)))
end
section
variable{X:Cx}{a9:Tl}{Z:St}{H:Hp}{s:Shared}
def F8:LT->Hp->VK->Prop:=λxs H Q=>∃(l:Addr) (ts:Tk) (kvs:Tm),xs=[.ref l]/\H l=some (.lst (ts.map V.ref))/\ts.length=kvs.length/\(∀(i:Nat) (t:Addr) (p:aF×V),ts[i]?=some t->kvs[i]?=some p->H t=some (.tup [kV p.1,p.2]))/\∀p,H p=none->Q (.ref p) (aa H p (.dK (i3 [] kvs)))
theorem F9(I:Inv X a9 Z H s):∀{ts:Tk} {kvs:Tm},ts.length=kvs.length->(∀(i:Nat) t p,ts[i]?=some t->kvs[i]?=some p->H t=some (.tup [kV p.1,p.2]))->
  ∃rs:List (aF×Value),KV kvs rs/\rs.length=ts.length/\∀(i:Nat) t,ts[i]?=some t->∃k key x,rs[i]?=some (k,x,)/\(cI X.prog X.w).is k key=true/\s.heap.IsTuple t #[key,x]
 |[],[],_,_=>([],.nil,rfl,λ_ _ e=>by simp at e)
 |t::ts,p::kvs,hl,h=>by
  let(rs,r1,r2,r3):=F9 I (ts:=ts) (kvs:=kvs) (by simpa using hl) λi t p a b=>h (i+1) t p (by simpa using a) (by simpa using b);let(av,r,pl,_):=I.tuple (az.of (h 0 t p rfl rfl));let(key,x,rfl,ry,rz):=mU r;show((p.1,x,)::rs,.cons (rfl,rz) r1,by simp[r2],λi t' e=>?_)
  cases i with
  |zero=>cases e;show(p.1,key,x,rfl,gS ry,pl)
  |succ i=>show r3 i t' (by simpa using e)
def xg(hc:X.calm=true):cJ X (.type "dict") F8:=by
 ext a9 s Z H xs us Q I r h;let(l,ts,kvs,rfl,e,hl,hi,q):=h;let(u,rfl,rx):=fZ r;cases rx
 let(z,av,n,r',el):=(show c8 X.prog X.w H s.heap l (.lst (ts.map V.ref))from I.hok l _ e)
 let(rs,r1,r2,r3):=F9 I hl hi;let bP:=r'.length;rw[au]at bP z
 let hr:∀(i:Nat) t,ts[i]?=some t->av[i]?=some (.ref t):=by
  clear el r1 r2 r3 hi hl e q z bP
  induction ts generalizing av with
  |nil=>ext i t e;simp at e
  |cons a ts ih=>
   cases r' with
   |cons h1 h2=>
    ext i t e
    cases i with
    |zero=>cases e;cases h1;rfl
    |succ i=>show ih _ h2 i t ⋯
 show Mn (knd:=cI X.prog X.w) (ps:=rs) (I.ok.hd hc) el ⋯ ⋯ (λi RA=>?_) λh' tk dd old=>?_
 .let XU:i<ts.length:=by simp only[fM]at RA;lia
  let(k,key,x,e1,e2,e3):=r3 i _ (aK XU);show(_,k,key,x,?_,e1,e2,e3);have:=hr i _ (aK XU)
  grind
 .let zz:(i3 [] kvs).length<=sizeLine:=cf (wJ _ _) ⋯;show(.ref s.heap.objs.size,_,I.laid (a:=s.heap.objs.size) (o:=.dK (i3 [] kvs)) (t':=tk) (λb o e=>old b o (bw e) e) (aD _) (nG zz (beq_eq_false_iff_ne.mpr (Ne.symm (bW I.big))) (KV.merge r1 .nil) dd),rfl,q _ (I.hok.fresh (aD _)))
theorem Fb:∀{more Rm:Tm},((Rm++more).map (·.1)).Nodup->i3 Rm more=Rm++more
 |[],Rm,_=>by simp[i3]
 |p::r,Rm,h=>by
  let hn:aM Rm p.1=none:=by
   cases e:aM Rm p.1 with
   |none=>rfl
   |some v=>
    have:=wK e
    grind
  change i3 (bu Rm p.1 p.2) r=_
  rw[ml _ hn,Fb ⋯];simp
def xh{H:Hp}{Q:VK}{l:Addr}{ts:Tk}{kvs:Tm}(e:H l=some (.lst (ts.map V.ref)))(hl:ts.length=kvs.length)(hi:∀(i:Nat) t p,ts[i]?=some t->kvs[i]?=some p->H t=some (.tup [kV p.1,p.2]))(nd:(kvs.map (·.1)).Nodup)(q:∀p,H p=none->Q (.ref p) (aa H p (.dK kvs))):F8 [.ref l] H Q:=
 (l,ts,kvs,rfl,e,hl,hi,λp hp=>by rw[Fb (by simpa using nd)];show q p hp)
end
def xj:bootBuiltins "dict"=some (.type "dict"):=by decide+kernel
section
variable{X:Cx}{a9:Tl}{Z:St}{H:Hp}{s:Shared}{d:Addr}{kvs:Tm}{o:Obj}
def Mo(t:TS):TS:=λD Z H=>∃(d:Addr) (kvs:Tm),H d=some (.dK kvs)/\∀o,t {nx:=λZ' H1=>H1 d=some (.frz o (.dK kvs))/\D.nx Z' (aa H1 d (.dK kvs)),rt:=λ_ _=>False} Z (aa H d (.frz o (.dK kvs)))
def Mp{e:Stmt}{t:TS}(h:PS X e t):PS X e (Mo t):=by
 ext a9 s Z H D I q;let(d,kvs,ed,q):=q;let(_,_,vs,_,o,es,ep,g,_):=I.hok d _ ed
 let hz:∀o u,X.H₀ d≠some (.frz o u):=λo u z=>by have:=I.base.frzs d o u z;rw[ed]at this;cases this
 show aI (h a9 s Z _ _ (I.freeze ed g) (q o)) λf s1 z=>?_
 cases f with
 |next=>obtain⟨Z',H1,I1,e1,q1⟩:=z;show(Z',_,I1.thaw e1 hz,q1)
 |brk=>obtain⟨_,_,_,z⟩:=z;show z.elim
 |cont=>obtain⟨_,_,_,z⟩:=z;show z.elim
 |ret u=>obtain⟨_,_,_,_,_,z⟩:=z;show z.elim
def Mq(H:Hp)(x:V):Prop:=x=.non\/∃p,∃ns:LE,x=.ref p/\H p=some (.tup (ns.map V.int))
def Mr:R2:=λx y H Q=>Mq H x/\∃(p:Addr) (ns:LE),y=.ref p/\H p=some (.tup (ns.map V.int))/\∀b,(x=.non->b=true)->Q (.bl b) H
def Ms(ns:LE):SeqAt.shaped (.tuple (ns.map PyData.int))=true:=by
 let a:∀ns:LE,PyData.canLayAll0 (ns.map PyData.int)=true:=λns=>by
  induction ns with
  |nil=>rfl
  |cons n r ih=>simp only[cQ,PyData.canLayAll0,PyData.canLay0,ih,uF]
 let b:∀ns:LE,PyData.depthAll (ns.map PyData.int)<=1:=λns=>by
  induction ns with
  |nil=>decide
  |cons n r ih=>simp only[cQ,PyData.depthAll,PyData.depth];lia
 have:=b ns;unfold SeqAt.shaped;rw[show(PyData.tuple (ns.map PyData.int)).canLay0=true by rw[PyData.canLay0];show a ns,j8,kB,PyData.depth];lia
def Fc{p:Addr}{ns:LE}{v:Value}(I:Inv X a9 Z H s)(e:H p=some (.tup (ns.map V.int)))(r:aV (.ref p) v):∃dt as,Reads s.heap v dt as/\SeqAt.shaped dt=true/\dt=.tuple (ns.map PyData.int):=by
 cases(show v=Value.ref p from r);let(av,rv,(ob,g,c,n,dt),hz):=I.tuple (az.of e)
 have:∃as,ReadsAll s.heap av (ns.map PyData.int) as:=by
  clear dt e hz
  induction ns generalizing av with
  |nil=>cases rv;show(_,.nil)
  |cons x r ih=>
   cases rv with
   |cons r1 t=>
    let(u,rfl):=r1;let(as,ra):=ih _ t;show(_,.cons (.int _ _) ra)
 let(as,ra):=this;show(_,_,.tuple g c dt ra,Ms ns,rfl)
def Mt(hu:X.A.units+64<cLine):bT X (compareOp .NotEq) Mr:=by
 ext a9 s Z H x y v u Q I rx ry h;let(h1,p,ns,rfl,h2,k):=h;let(db,bs,r2,s2,e2):=Fc I h2 ry
 rcases h1 with rfl|⟨q,ms,rfl,h1⟩
 .cases(show v=Value.none from rx);show ne_dataH .none r2 (by decide+kernel) s2 hu (.bl _,H,I,rfl,k _ λ_=>by rw[e2];rfl)
 .let(da,as,r1,s1,_):=Fc I h1 rx;show ne_dataH r1 r2 s1 s2 hu (.bl _,H,I,rfl,k _ nofun)
def Fd(K:W.Frag)(tl:TE):TI:=λZ H R=>oP K tl Z H R\/mP K tl Z H R
def Mu{K:W.Frag}{tg l:Expr}{tl:TE}(h:X.K=K)(hl:PE X l tl):PI X tg l (Fd K tl):=λa9 s Z H R I z=>z.elim (cU h hl a9 s Z H R I) (dO h hl a9 s Z H R I)
def Mv(J:It)(p:Addr)(o:HO)(ns:LE):Prop:=(∀H',H' p=some o->J.stop ns.length H')/\(∀i H',i<ns.length->H' p=some o->J.go i H')/\∀i H' x H2,H' p=some o->J.yld i H' x H2->H2=H'/\∃t,ns[i]?=some t/\x=.int t
def Mw{K:W.Frag}{R:It->Hp->Prop}{i:Nat}{p:Addr}{ns:LE}(hv:Z[i]?=some (some (.ref p)))(h:H p=some (.lst (ns.map V.int))\/H p=some (.tup (ns.map V.int)))(q:∀J o,H p=some o->Mv J p o ns->R J H):Fd K (eT i) Z H R:=by
 rcases h with h|h
 .show .inl (Dn (dW hv (p,rfl,(_,ah.of h),q _ _ h (λH' z=>(_,ah.of z,by rw[au];show aD _),λi H' hi z=>(_,_,ah.of z,aK ⋯),λi H' x H2 z (e,hy)=>(e,?_)))));let ey:=hy _ (ah.of z)
  grind
 .show .inr (Do (dW hv (p,rfl,(_,az.of h),q _ _ h (λH' z=>(_,az.of z,by rw[au];show aD _),λi H' hi z=>(_,_,az.of z,aK ⋯),λi H' x H2 z (e,hy)=>(e,?_)))));let ey:=hy _ (az.of z)
  grind
end
section
variable{Z:St}{H:Hp}{D:gu}
def e_{t u:TS}(P:St->Hp->Prop)(h1:∀(M:St->Hp->Prop) (R:VK) (bk ct:St->Hp->Prop),(∀{Z H},P Z H->M Z H)->(∀{v H},D.rt v H->R v H)->t {nx:=M,rt:=R,bk:=bk,ct:=ct} Z H)(h2:∀Z' H',P Z' H'->u D Z' H'):Dg t u D Z H:=(P,h1 P D.rt D.bk D.ct (λh=>h) (λh=>h),h2)
def dP{J:It}{g:TG}{tb:TS}(W:Nat->St->Hp->Prop)(n:Nat)(w0:W 0 Z H)(fin:∀Z' H',W n Z' H'->J.stop n H'/\D.nx Z' H')
  (step:∀(M:Nat->St->Hp->Prop) (R:VK) (bk:St->Hp->Prop),(∀{i Z H},W i Z H->M i Z H)->(∀{v H},D.rt v H->R v H)->∀i Z' H',i<n->W i Z' H'->J.go i H'/\∀x H2,J.yld i H' x H2->g x Z' H2 λZ3 H3=>tb {nx:=M (i+1),rt:=R,bk:=bk,ct:=M (i+1)} Z3 H3):wb J g tb D Z H:=
 E4 W n w0 fin (step W D.rt D.nx (λh=>h) (λh=>h))
def gG{J:It}{g:TG}{tt:TT}{te:TE}{Fin:LT->Hp->Prop}(W:Nat->LT->St->Hp->Prop)(n:Nat)(w0:W 0 [] Z H)(fin:∀ys Z' H',W n ys Z' H'->J.stop n H'/\Fin ys H')
  (step:∀(M:Nat->LT->St->Hp->Prop),(∀{i ys Z H},W i ys Z H->M i ys Z H)->∀i ys Z' H',i<n->W i ys Z' H'->J.go i H'/\ys.length<sizeLine/\∀x H2,J.yld i H' x H2->g x Z' H2 λZ3 H3=>tt Z3 H3 λb H4=>if b=true then te Z3 H4 λy H5=>∃m',m'<n - i/\(i+1<=n/\m'=n - (i+1)/\M (i+1) (ys++[y]) Z3 H5)else ∃m',m'<n - i/\(i+1<=n/\m'=n - (i+1)/\M (i+1) ys Z3 H4)):jf J g tt te Fin Z H:=
 wc W n w0 fin (step W λh=>h)
end
section
variable{X:Cx}{a b e:Expr}{ta tb te:TE}{p pos:Pos}
def qT(K:W.Frag)(ha:PE X a ta)(hb:PE X b tb)(h:↥(X.K=K))(hs:uY b:=by exact λ_ _=>rfl):PE X (.Subscript a b pos) (iu (rR K) ta tb):=CP (JB (K:=K) h) ha hb hs
def qI(K:W.Frag)(ha:PE X a ta)(hb:PE X b tb)(h:↥(X.K=K))(hs:uY b:=by exact λ_ _=>rfl):PE X (.Subscript a b pos) (iu (rQ K) ta tb):=CP (JA (K:=K) h) ha hb hs
def qD(hu:X.A.units+64<cLine)(ho:PE X a ta)(hi:PE X b tb)(hs:sZ b:=by exact λ_ _=>rfl):PE X (.Subscript a b pos) (wF ta tb):=Ly (cw hu) ho hi hs
def qN(K:W.Frag)(T:bC X.mg)(ha:PE X e te)(h:↥(X.K=K))(hg:↥(Gl X "len"))(he:↥(starEach [e] X.env=(false,eval e X.env,)::starEach [] X.env))(hpl:↥((backTo pos (starEach [] X.env)).any (·.1)=false)):PE X (.Call (.Name "len" p) [e] [] pos) (mX (pA K) (mV te jd)):=cg (JC (K:=K) h) hg T.z_len kY (ab ha ak he) (he:=he) (hpl:=hpl)
def qC{op:CmpOp}{r:R2}(ho:bT X (compareOp op) r)(ha:PE X a ta)(hb:PE X b tb)(hm:behindInMarks op b=false:=by first|exact Cq _|with_unfolding_all rfl):PE X (.Compare a [op] [b] pos) (iu r ta tb):=Hm ho ha hb hm
def qE{op:CmpOp}{r:R2}(ho:bT X (compareOp op) r)(ha:PE X a ta)(hb:PE X b tb)(hm:behindInMarks op b=false:=by first|exact Cq _|with_unfolding_all rfl):PT X (.Compare a [op] [b] pos) (uU (iu r ta tb)):=Hn ho ha hb hm
omit qZ qU list tuple sh wk JD Ku z_list z_tuple Dh vJ in
def qZ(K:W.Frag)(T:bC X.mg)(ha:PE X e te)(h:↥(X.K=K))(hg:↥(Gl X "list"))(he:↥(starEach [e] X.env=(false,eval e X.env,)::starEach [] X.env))(hpl:↥((backTo pos (starEach [] X.env)).any (·.1)=false)):PE X (.Call (.Name "list" p) [e] [] pos) (mX (sh K) (mV te jd)):=eI (JD (K:=K) h) hg T.z_list Dh (ab ha ak he) (he:=he) (hpl:=hpl)
def cX{N:List Str}{U' sc:Scope}(own:List Str)(aJ:List (Nat×Str))(h:decide (sc.kind=.function/\(∀y∈sc.names,y.2≠ .cell)/\(∀y∈sc.names,y.2=.local ->sc.names.lookup y.1=some .local)/\(∀y∈sc.names,y.2=.free->U'.names.lookup y.1=some .cell\/U'.names.lookup y.1=some .free)/\∀p∈aJ,N[p.1]?=some p.2/\sc.names.lookup p.2=some .free)=true:=by kernel_rfl):g0 N U' sc own aJ:=JF h
def qG(i:Nat){x:Str}{Rv:Pos}(hi:↥(X.N[i]?=some x))(hx:lV X.env.scope x:=by first|exact Or.inl rfl|exact Or.inr rfl)(hf:X.fn x=true\/X.env.scope.names.lookup x=some .local :=by first|exact .inl rfl|exact .inr rfl|assumption)(hN:decide X.N.Nodup=true:=by kernel_rfl):PG X (.Name x Rv) (dB i):=GX (cP hN) hi hx hf
def qV(i:Nat){x:Str}{Rv:Pos}(he:PE X e te)(hi:↥(X.N[i]?=some x))(hx:lV X.env.scope x:=by first|exact Or.inl rfl|exact Or.inr rfl)(hs:↥(swapsWith e (some (.Name x Rv)) pos.line X.env=pure false))(hf:X.fn x=true\/X.env.scope.names.lookup x=some .local :=by first|exact .inl rfl|exact .inr rfl|assumption)(hN:decide X.N.Nodup=true:=by kernel_rfl):PS X (.Assign [.Name x Rv] e pos) (kN te (dB i)):=C4 (cP hN) hi hx he hs hf
def qL(iy:Nat){y:Str}{py Sq:Pos}{tg iter bI:Expr}{R_:List Expr}{scope:Scope}{own:List Str}{aJ:List (Nat×Str)}{wi:TI}{g:TG}{tt:TT}(S:g0 X.N X.env.scope scope own aJ)(hi:PI X tg iter wi)(hg:cE X own aJ scope λY=>PG Y tg g)(ht:cE X own aJ scope λY=>gO Y R_ tt)(he:cE X own aJ scope λY=>PE Y bI te)(hc:↥(X.calm=true))(Rt:↥(X.N[iy]?=some y))(hy:↥(X.env.scope.names.lookup y=some .local ))(hsw:↥(swapsWith (.ListComp bI [(tg,iter,R_,0)] scope pos) (some (.Name y py)) Sq.line X.env=pure true))(hs:∀x,foldedSetIterable iter X.env x=pure x:=by intro _;rfl)(hN:decide X.N.Nodup=true:=by kernel_rfl):PS X (.Assign [.Name y py] (.ListComp bI [(tg,iter,R_,0)] scope pos) Sq) (kN (rY own.length aJ wi g tt te) (dB iy)):=IK hc (cP hN) Rt hy S hi hg ht he hsw hs
end
end L2
namespace K29
open PySem L2
variable{P:Program}{w:World}{K:W.Frag}{mg:Str->Option Value}{base:Heap}{CY CD aL:Addr}
noncomputable def bj(i:Nat):Stmt:=PySem.Challenge.pw_argosy_k29_whole_one_rival_at_most.main.body.getD i (.Pass (0,0,0,0))
noncomputable def yF(most day:Int)(dl dc de db:Addr):List (Str×V):=[("most",.int most,),("day",.int day,),("lines",.ref dl,),("chains",.ref dc,),("ends",.ref de,),("debts",.ref db,)]
noncomputable def dF(dn dt:Addr)(c:Int):List (Str×V):=[("shares",.int 1,),("by_name",.ref dn,),("by_timber",.ref dt,),("coins",.int c,),("settled",.int 0,)]
section
variable{most day d2 c c2:Int}{dl dc de db dn dt:Addr}
def Mx:(yF most day dl dc de db).lookup ("most":Str)=some (.int most):=by kernel_rfl
def My:(yF most day dl dc de db).lookup ("day":Str)=some (.int day):=by kernel_rfl
def Mz:(yF most day dl dc de db).lookup ("lines":Str)=some (.ref dl):=by kernel_rfl
def MA:(yF most day dl dc de db).lookup ("chains":Str)=some (.ref dc):=by kernel_rfl
def MB:(yF most day dl dc de db).lookup ("ends":Str)=some (.ref de):=by kernel_rfl
def MC:(yF most day dl dc de db).lookup ("debts":Str)=some (.ref db):=by kernel_rfl
def MD:(dF dn dt c).lookup ("shares":Str)=some (.int 1):=by kernel_rfl
def xk:(dF dn dt c).lookup ("by_name":Str)=some (.ref dn):=by kernel_rfl
def xl:(dF dn dt c).lookup ("by_timber":Str)=some (.ref dt):=by kernel_rfl
def ME:(dF dn dt c).lookup ("settled":Str)=some (.int 0):=by kernel_rfl
def MF:bG "day" (.int d2) (yF most day dl dc de db)=yF most d2 dl dc de db:=by kernel_rfl
def MG:bG "debts" (.ref db) (bG "ends" (.ref de) (bG "chains" (.ref dc) (bG "lines" (.ref dl) (bG "day" (.int day) (bG "most" (.int most) [])))))=yF most day dl dc de db:=by kernel_rfl
def MH:bG "settled" (.int 0) (bG "coins" (.int 0) (bG "by_timber" (.ref dt) (bG "by_name" (.ref dn) (bG "shares" (.int 1) []))))=dF dn dt 0:=by kernel_rfl
end
local macro_rules
 |`(tactic|walk_at "s")=>do
  let f n:=Lean.mkIdent (`_root_.L2++n)
  let a<-#[`kZ,`Dk,`jh,`Jf,`vL,`Jg,`di,`IX,`IY,`J5,`J6,`J7,`J8,`J9,`Dj,`Ja,`Jb,`Jc,`Jd,`Je,`gz,`vM,`vN,`Jh,`Ji,`Dl,`Dm,`Jj,`k_,`Jn,`Jo,`Jp,`Js,`Jt,`Dn,`Do,`Ju,`Kq,`Kp,`KG,`KN,`L6,`Lj,`LH,`LI,`LJ,`LK,`LL,`LP,`LQ,`LR,`LS,`En,`IM,`tD,`tG,`LY,`L_,`L',`M3].mapM fun n=>`(Lean.Parser.Tactic.tacticSeq|exact $(f n))
  let b<-#[`vK,`IZ,`sf,`Jq,`Jl,`Jm,`Jx,`KC,`KA,`KF,`Lk,`Li].mapM fun n=>`(Lean.Parser.Tactic.tacticSeq|refine $(f n) ?_)
  let c<-#[`Mx,`My,`Mz,`MA,`MB,`MC,`MD,`xk,`xl,`ME].mapM fun n=>`(Lean.Parser.Tactic.tacticSeq|exact $(Lean.mkIdent (`_root_.K29++n)))
  let o(n:Lean.Name):Lean.MacroM (Lean.TSyntax `tactic):=`(tactic|case k1=>first|exact $(f n) (by assumption)|assumption|exact $(f n) ar)
  let p<-o `ah.of
  let q<-o `az.of
  `(tactic|first|((with_reducible refine' dW ?k1 ?_);(case k1=>exact rfl))|((refine(?F:(?A->?G)->?A->?G) ?w ?_);(case w=>with_reducible first $[|$a]*);(case F=>exact fun _ q=>q))|(with_reducible first $[|$b]*)|((with_reducible refine' I_ ?k1 ?_);(case k1=>exact rfl))|((with_reducible refine' J4 ?k1 ?_);(case k1=>exact rfl))|((with_reducible refine' iB ?k1 ?k2 ?_);$p;(case k2=>exact rfl))|((with_reducible refine' sg ?k1 ?k2 ?_);$q;(case k2=>exact rfl))|((with_reducible refine' Jk ?k1 ?k2 ?_);(case k1=>first|assumption|exact ar);(case k2=>exact rfl))|((with_reducible refine' iV ?k1 ?k2 ?_);$q;(case k2=>exact rfl))|((with_reducible refine' Jv ?k1 ?_);$p)|((with_reducible refine' Jw ?k1 ?_);$q)|((with_reducible refine' Jy ?k1 ?_);$p)|((with_reducible refine' Jr ?k1 ?_);$p)|((with_reducible refine' Jz ?k1 ?k2 ?_);(case k1=>assumption);(case k2=>decide))|((with_reducible refine pz ?k1 ?_);(case k1=>first|(show(0:Int)<_;decide)|(show Ci _ _;exact⟨by decide,by decide,by decide⟩)|(show rE _ _;exact⟨by decide,by decide⟩)|(show jN _ _;exact .inr ⟨by decide,by decide⟩)|(show jN _ _;exact .inl ⟨by decide,by decide⟩)|(show(0:Int)<_;omega)|(show rE _ _;exact⟨by omega,by omega⟩)|(show jN _ _;exact .inr ⟨by omega,by omega⟩)|(show jN _ _;exact .inl ⟨by omega,by omega⟩)))|((with_reducible refine' Lh ?k1 ?_);(case k1=>exact rfl))|((with_reducible refine' tF ?k1 ?k2 ?k3 ?k4 ?_);(case k1=>assumption);(case k2=>first $[|$c]*);(case k3=>assumption);(case k4=>assumption))|((with_reducible refine' pN ?k1 ?k2 ?k3 ?k4 ?_);(case k1=>first|assumption|exact ar);(case k2=>first|decide|exact cP (by kernel_rfl));(case k3=>assumption);(case k4=>assumption))|((with_reducible refine' LZ ?k1 ?k2 ?_);(case k1=>assumption);(case k2=>kernel_rfl))|((with_reducible refine' M5 ?k1 ?_);(case k1=>first|assumption|exact Rd.of (by assumption))))
 |`(tactic|walk_at "k")=> `(tactic|((repeat walk_at "s");try (with_reducible first|refine $(Lean.mkIdent `mi) ?_|refine $(Lean.mkIdent `ri) ?_)))
 |`(tactic|walk_at "r")=> `(tactic|repeat walk_at "s")
def bQ(H:Hp)(d c:Addr):Prop:=∃(ns:LE) (a:Nat) (r e:Int),H d=some (.lst [.ref c,.int a,.int r,.int e])/\H c=some (.lst (ns.map V.int))/\0<=r/\0<=e
def xm(K:W.Frag):Sp:=λvs H Q _=>∃(a:Addr) (ns:LE),vs=[.ref a]/\ah K H a (ns.map V.int)/\ns.length<=63/\∀d c H',aC H H'->H d=none->H c=none->bQ H' d c->Q (.ref d) H'
def mw:Sp:=λvs H Q _=>∃(d c:Addr) (m:Int),vs=[.ref d,.int m]/\bQ H d c/\0<m/\m.natAbs<2 ^ 500/\∀r H',0<=r->r<m->bQ H' d c->bS d H H'->Q (.int r) H'
def bQ.same{H H':Hp}{d c:Addr}(s:aC H H')(h:bQ H d c):bQ H' d c:=by
 let(ns,a,r,e,h1,h2,h3,h4):=h;show(ns,a,r,e,s _ _ h1,s _ _ h2,h3,h4)
def bQ.put{H:Hp}{d c b:Addr}{o:HO}(h:bQ H d c)(n1:b≠d)(n2:b≠c):bQ (aa H b o) d c:=by
 let(ns,a,r,e,h1,h2,h3,h4):=h;show(ns,a,r,e,by rw[aB (Ne.symm n1)];show h1,by rw[aB (Ne.symm n2)];show h2,h3,h4)
def bQ.is{H:Hp}{d c:Addr}(h:bQ H d c):(∃o,H d=some o)/\∃o,H c=some o:=by
 let(ns,a,r,e,h1,h2,h3,h4):=h
 grind
def bQ.ne_tup{H:Hp}{d c p:Addr}{xs:LT}(h:bQ H d c)(e:H p=some (.tup xs)):p≠d:=by
 let(ns,a,r,e',h1,_):=h
 grind
abbrev xn:Stmt:=bj 73
def MI:bc ["_law_script"] ["_law_script"] (aW xn):=bh
def MJ{f:Addr}{fd:FuncData}(F:aY K "_law_begin" "_law_begin" xn f fd)(T:bC mg):aN P w K mg base aU 1 f fd ["_law_script"] (xm K):=by
 show F.ok MI (λvs H Q E h=>?_) (λaP A outer s H vs Q E hr h=>?_)
 .let(a,ns,rfl,_):=h;rfl
 .let(a,ns,rfl,hS,hl,k):=h;show(_,(aA (aQ (dS (ab (qZ K T (rP (vP (K:=K) rfl) (pv 0) rO (oW ay))) (ab ay (ab ay (ab ay ak))))))),?_)
  kd_p
  ext p hp;let s1:=ax (o:=.lst (fR (ns.map V.int) none (some 63))) hp
  kd_p
  ext c hc;let s2:=ax (o:=.lst (fR (ns.map V.int) none (some 63))) hc
  kd_p
  show(by change 4<=sizeLine;decide,λd hd=>?_);let s3:=ax (o:=.lst [.ref c,.int 0,.int 0,.int 17]) hd
  let e:fR (ns.map V.int) none (some 63)=(ns.take 63).map V.int:=by
   unfold fR;rw[HT.sIx_none,List.drop_zero,au,List.map_take];let z:HT.sIx ns.length ns.length (some (63:Int))=min 63 ns.length:=HT.sIx_nat ns.length ns.length 63;rw[z,Nat.sub_zero]
   rcases Nat.le_total 63 ns.length with q|q
   .rw[AA q]
   .rw[Nat.min_eq_right q,ku ∅,ku (by simpa using q)]
  show k d c _ ((s1.trans s2).trans s3) ((s1.trans s2).free hd) (s1.free hc) (ns.take 63,0,0,17,ar,?_,by decide,by decide);rw[<-e];show s3 _ _ ar
abbrev xo:Stmt:=bj 74
def MK:bc ["_law_draw","_law_many","_law_cell","_law_got"] ["_law_draw","_law_many"] (aW xo):=bh
def ML{f:Addr}{fd:FuncData}(F:aY K "_law_take" "_law_take" xo f fd)(T:bC mg):aN P w K mg base aU 1 f fd ["_law_draw","_law_many"] mw:=by
 show F.ok MK (λvs H Q E h=>?_) (λaP A outer s H vs Q E hr h=>?_)
 .let(d,c,m,rfl,_):=h;rfl
 .let(d,c,m,rfl,(ns,a,r,e,h1,h2,h3,h4),hm,UO,k):=h;let Vl:=Di h1 h2
  show(_,(dN (bx ((jb (qE mS (qI K (pv 0) ay) (pv 1)) (kL (qE mS (qI K (pv 0) ay) (qN K T (qI K (pv 0) ay)))))).pt (aG (qV 2 (qI K (qI K (pv 0) ay) (qI K (pv 0) ay)))
   (aG (kO (bg cT (qI K (pv 0) ay) ay) (mN (pv 0) ay mY))
   (aG (kO ay (mN (pv 0) ay mY))
   (aA (bx (qE uT (cg vO (by rfl) T.z_abs vI (ab (pv 2) ak)) (bg Hk ay ay)) (aA (kO (cg vO (by rfl) T.z_abs vI (ab (pv 2) ak)) (mN (pv 0) ay mY))) (aA (kO (bg mR (bg cT (bg cT (bg fH (qI K (pv 0) ay) ay) (bg fH (bg mR (pv 2) ay) ay)) ay) ay) (mN (pv 0) ay mY)))))))) bD)
   (aG (bx (qE uT (qI K (pv 0) ay) (pv 1)) (aG (qV 3 (bg mR (qI K (pv 0) ay) (pv 1)))
   (aG (kO (bg vo (qI K (pv 0) ay) (pv 1)) (mN (pv 0) ay mY))
   (aA (aQ (pv 3))))) bD)
   (aG (kO (bg mR (bg cT (bg fH (qI K (pv 0) ay) ay) ay) ay) (mN (pv 0) ay mY))
   (aA (aQ (bg mR (bg oT (qI K (pv 0) ay) ay) (pv 1))))))),?_)
  show(λZ' H'=>(∃v,Z'=[some (.ref d),some (.int m),v,none])/\bQ H' d c/\bS d H H',?_,?_)
  .kd_p
   show kW (λ_=>?_) (λ_=>?_)
   .kd_p
    show kW (λRA=>?_) (λ_=>?_)
    .let hlt':a<ns.length:=by
      let z:(a:Int)<((ns.map V.int).length:Int):=cP RA;rw[au]at z;lia
     let WB:gN (ns.map V.int) (a:Int)=some (.int (ns[a]'hlt')):=jQ (by rw[aH,aK hlt'];rfl);generalize ns[a]'hlt'=cell at WB
     kd_p
     erw[iB (ah.of h2) WB]
     kd_p
     show kW (λ_=>?_) (λ_=>?_)
     .kd_p
      show((_,rfl),(ns,a+1,_,e,ar,?_,?_,h4),fS.trans (fS.trans fS))
      .rw[aB Vl,aB Vl,aB Vl];show h2
      .split<;>lia
     .kd_p
      show((_,rfl),(ns,a+1,0,_,ar,?_,by decide,?_),fS.trans (fS.trans fS))
      .rw[aB Vl,aB Vl,aB Vl];show h2
      .show uE _ (by decide)
    .show((_,rfl),(ns,a,r,e,h1,h2,h3,h4),bS.refl)
   .show((_,rfl),(ns,a,r,e,h1,h2,h3,h4),bS.refl)
  .ext Z' H' ⟨⟨v,rfl⟩,⟨ns,a,r,e,h1,h2,h3,h4⟩,bt⟩;let Vl:=Di h1 h2
   kd_p
   show kW (λ_=>?_) (λ_=>?_)
   .kd_p
    erw[pz (JE hm UO)]
    kd_p
    show k _ _ (uE _ ()) (As _ hm) (ns,a,_,e,ar,?_,Int.ediv_nonneg h3 (),h4) (bt.trans fS);rw[aB Vl];show h2
   .kd_p
    show k _ _ (uE _ ()) (As _ hm) (ns,a,r,_,ar,?_,h3,uE _ (by decide)) (bt.trans fS);rw[aB Vl];show h2
def bQ.ne_ints{H:Hp}{d c p:Addr}{ns:LE}(h:bQ H d c)(e:H p=some (.lst (ns.map V.int))):p≠d:=by
 let(_,a,r,e',h1,_):=h;ext z;subst z;rw[h1]at e;let q:=cH e;injection q with q
 cases ns with
 |nil=>cases q
 |cons n r=>injection q with q _;cases q
def pS(K:W.Frag):Sp:=λvs H Q _=>∃(d c0 l:Addr) (ns:LE) (m:Int),vs=[.ref d,.ref l,.int m]/\bQ H d c0/\ah K H l (ns.map V.int)/\ns.length<=200/\ -(2 ^ 61)<=m/\m<=2 ^ 61/\
 ∀p H' (fs ls:LE),bQ H' d c0->bS d H H'->H p=none->H' p=some (.lst (fs.map V.int))->(fs++ls).Perm ns->fs.length=min m.toNat ns.length->Q (.ref p) H'
def pT{m:Int}(h:0<m)(h2:m<=10000):m.natAbs<2 ^ 500:=kD (show m.natAbs<2 ^ 20 by lia) (Nat.pow_lt_pow_right (by decide) (by decide))
def MN{n:Nat}(h:n<=1000):n<=sizeLine:=cf h (by decide)
def cA{n:Nat}(h:n<1000):n<sizeLine:=cM h (by decide)
def Fe{d a:Addr}{H H':Hp}{o:HO}(h:H a=none)(b:bS d H H'):bS d H (aa H' a o):=λc u n e=>by rw[aB (bq e h)];show b c u n e
theorem Ff:∀(l:LE) (k:Nat) (h:k<l.length),(l[k]::l.eraseIdx k).Perm l
 |[],_,h=>absurd h (iO _)
 |x::r,0,_=>iP _
 |x::r,k+1,h=>by
  let h':k<r.length:=by simpa using h
  show(List.Perm.swap x (r[k]) (r.eraseIdx k)).trans ((Ff r k h').cons x)
abbrev xq:Stmt:=bj 77
def MO:bc ["_law_draw","_law_pool","_law_many","_law_left","_law_found","_law_k"] ["_law_draw","_law_pool","_law_many"] (aW xq):=bh
def MP{f:Addr}{fd:FuncData}(F:aY K "_law_some" "_law_some" xq f fd)(T:bC mg)(dv:ba P w K mg base "_law_take" 1 ["_law_draw","_law_many"] mw):aN P w K mg base aU 2 f fd ["_law_draw","_law_pool","_law_many"] (pS K):=by
 show F.ok MO (λvs H Q E h=>?_) (λaP A outer s H vs Q E hr h=>?_)
 .let(d,c0,l,ns,m,rfl,_):=h;rfl
 .let(d,c0,l,ns,m,rfl,hD,hS,hl,m1,m2,k):=h
  show(_,(aG (qV 3 (qZ K T (pv 1)))
   (aG (qV 4 (dS ak))
   (aG (dC dH rfl (oQ (by rfl) T.z_range (ab (cg (Ed rfl) (by rfl) T.z_min Eg (ab (pv 2) (ab (qN K T (pv 3)) ak))) ak)) (qG 5) (aA (eB (pH (K:=K) rfl (pv 4) (ab (Ky (K:=K) rfl (pv 3) (ab (pC dv (ab (pv 0) (ab (qN K T (pv 3)) ak))) ak)) ak)))))
   (aA (aQ (pv 4)))))),?_)
  w_on
  ext a ha;let s1:=ax (o:=.lst (ns.map V.int)) ha;let Tz:aa H a (.lst (ns.map V.int)) a=some (.lst (ns.map V.int)):=ar;generalize aa H a (.lst (ns.map V.int))=H1 at s1 Tz⊢
  w_on
  show(cm _,λb hb=>?_);let s2:=ax (o:=.lst []) hb;let Tx:aa H1 b (.lst []) b=some (.lst []):=ar;let Ur:=s2 _ _ Tz;let SM:a≠b:=bq Tz hb;let Zd:=s1.free hb;let s12:=s1.trans s2;generalize aa H1 b (.lst [])=H2 at s2 s12 Ur Tx⊢
  w_on
  show(_,rfl,?_,?_,?_)
  .rw[au];split<;>lia
  .rw[au];split<;>lia
  rw[au]
  let en:(if(ns.length:Int)<m then(ns.length:Int)else m).toNat=min m.toNat ns.length:=by split<;>lia
  rw[en];let((o,ho),(o',UN)):=hD.is;let hac:a≠c0:=Ne.symm (bq UN ha);let hbc:b≠c0:=Ne.symm (bq UN Zd);let had:a≠d:=Ne.symm (bq ho ha);let hbd:b≠d:=Ne.symm (bq ho Zd)
  show dP (λi Z' H'=>(∃x,Z'=[some (.ref d),some (.ref l),some (.int m),some (.ref a),some (.ref b),x])/\bQ H' d c0/\bS d H H'/\∃fs ls:LE,H' a=some (.lst (ls.map V.int))/\H' b=some (.lst (fs.map V.int))/\fs.length=i/\ls.length=ns.length - i/\(fs++ls).Perm ns) (min m.toNat ns.length)
   ((none,rfl),hD.same s12,s12.but,[],ns,Ur,Tx,rfl,rfl,iP _) ?_ ?_
  .ext Z' H' ⟨⟨x,rfl⟩,WJ,bt,fs,ls,_,RW,lf,_,pm⟩;show(aD _,?_)
   w_on
   show k b H' fs ls WJ bt Zd RW pm lf
  .ext MM RR Bk mi ri i Z' H' hi ⟨⟨x,rfl⟩,WJ,bt,fs,ls,VT,RW,lf,ll,pm⟩;show(hi,?_);ext x' H3 ⟨rfl,rfl⟩
   w_on
   show(.inl (rfl,_,ah.of RW),?_)
   w_on
   show(.inl (rfl,_,ah.of VT),?_)
   w_on
   show(d,c0,_,rfl,WJ,by rw[au];lia,pT (by rw[au];lia) (by rw[au];lia),λr H4 r0 r1 S5 b4=>?_);rw[au]at r1;let VA:=b4 _ _ had VT;let UW:=b4 _ _ hbd RW
   w_on
   obtain⟨j,rfl⟩:∃j:Nat,r=j:=(r.toNat,())
   let hj:j<ls.length:=()
   erw[KH VA hj ()]
   w_on
   erw[md (by rw[aB (Ne.symm SM)];show UW) (cA (by rw[au];lia))]
   w_on
   let bt4:=bt.trans b4
   let hx:(fs.map V.int++[V.int ls[j]])=(fs++[ls[j]]).map V.int:=by rw[bO];rfl
   rw[hx];show((_,rfl),(S5.put had hac).put hbd hbc,Fe Zd (Fe ha bt4),fs++[ls[j]],ls.eraseIdx j,by rw[aB SM];show ar,ar,by simp[lf],by rw[uj hj];lia,?_);show List.Perm.trans ?_ pm;rw[oj];show List.Perm.append_left fs (Ff ls j hj)
abbrev xr:Stmt:=bj 75
def MQ:bc ["_law_timbers"] ["_law_timbers"] (aW xr):=bh
def jq(K:W.Frag):Sp:=λvs H Q _=>∃(p:Addr) (ns:LE),vs=[.ref p]/\eV K H p (ns.map V.int)/\ns.length<64/\∀l H' (rs:LE),aC H H'->H l=none->H' l=some (.lst (rs.map V.int))->eJ rs (λx=>x∈ns)->Q (.ref l) H'
abbrev xt:Stmt:=bj 2
def MS:bc ["timbers"] ["timbers"] (aW xt):=bh
omit MR MT _law_set rising xr xt _law_timbers timbers MQ MS in
def MR{f:Addr}{fd:FuncData}(F:aY K "_law_set" "_law_set" xr f fd)(T:bC mg):aN P w K mg base aU 1 f fd ["_law_timbers"] (jq K):=by
 show F.ok MQ (λvs H Q E h=>?_) (λaP A outer s H vs Q E hr h=>?_)
 .let(p,ns,rfl,_):=h;rfl
 .let(p,ns,rfl,hS,hl,k):=h;show(_,(aA (aQ (cg (w6 (w:=w) rfl rfl) (by rfl) T.z_sorted m7 (ab (eI (jj (K:=K) (w:=w) rfl rfl rfl) (by rfl) T.z_set jg (ab (pv 0) ak)) ak)))),?_)
  w_on
  show jk hS () λa ks ha nd mem=>?_
  w_on
  show w9 ar (iM (gg nd λx hx=>(mem x).mp hx) hl) λl rs hl pm so=>?_;let s1:=ax (o:=cq w a ks) ha;show k l _ rs (s1.trans (ax hl)) (s1.free hl) ar (wg pm so nd mem)
def j0{J:It}{g:TG}{te:TE}{ws:LT}{H1:Hp}{Fin:LT->Hp->Prop}{Z0:St}(Iv:St->Prop)(h0:Iv Z0)(hl:ws.length<=1000)
  (stop:∀H',aC H1 H'->J.stop ws.length H') (go:∀i H',i<ws.length->aC H1 H'->J.go i H')
  (step:∀i w x Z' H' H2 (R:V->St->Hp->Prop) (R0:St->Hp->Prop),ws[i]?=some w->Iv Z'->aC H1 H'->J.yld i H' x H2->(∀Z3 H3,Iv Z3->aC H1 H3->R w Z3 H3)->
   g x Z' H2 λZ3 H3=>gP Z3 H3 λb H4=>if b=true then te Z3 H4 (λy H5=>R y Z3 H5)else R0 Z3 H4)
  (fin:∀H',aC H1 H'->Fin ws H'):jf J g gP te Fin Z0 H1:=by
 erw[gG (λi ys Z' H'=>Iv Z'/\aC H1 H'/\ys=ws.take i) ws.length (h0,aC.refl _,rfl) ?_]
 .grind
 .ext MM mi i ys Z' H' hi ⟨iv,s1,rfl⟩;show(go i H' hi s1,cM (show _<1001 by rw[d_];lia) (by decide),?_);ext x H2 hy;let hw:ws[i]?=some ws[i]:=aK hi
  show step i _ x Z' H' H2 _ _ hw iv s1 hy λZ3 H3 iv3 s3=>cu hi<|mi (iv3,s3,?_)
  rw[il,hw];rfl
noncomputable def cB(lo hi x:Int):Bool:=decide (lo<=x) && decide (x<=hi)
def gH(lo hi:Int):Sp:=λvs H Q _=>∃x:Int,vs=[.int x]/\Q (.bl (cB lo hi x)) H
def pU{Z:St}{H:Hp}{Q:VK}{ta tb tc:TE}{lo hi x:Int}(h1:∀Q',Q' (.int lo) H->ta Z H Q')(h2:∀Q',Q' (.int x) H->tb Z H Q')(h3:∀Q',Q' (.int hi) H->tc Z H Q')(q:Q (.bl (cB lo hi x)) H):
  uV (iw λi j=>.bl (decide (i<=j))) (iw λi j=>.bl (decide (i<=j))) ta tb tc Z H Q:=by
 show En (h1 _ (h2 _ (vK (sf ?_))));unfold cB at q
 cases h:decide (lo<=x)with
 |true=>
  rw[h,j8]at q;show br (h3 _ (vK q))
 |false=>
  rw[h,ot]at q;show bB q
def lC{lo hi x:Int}(h1:lo<=x)(h2:x<=hi):cB lo hi x=true:=by unfold cB;rw[cY h1,cY h2];rfl
def pV(ns ms:LE)(x:Int):Prop:=x∈ns/\x∉ms
def xu(K:W.Frag)(R:LE->LE->Int->Prop):Sp:=λvs H Q _=>∃(p q:Addr) (ns ms:LE),vs=[.ref p,.ref q]/\eV K H p (ns.map V.int)/\eV K H q (ms.map V.int)/\ns.length<64/\ms.length<64/\
 ∀l H' (rs:LE),aC H H'->H l=none->H' l=some (.lst (rs.map V.int))->eJ rs (R ns ms)->Q (.ref l) H'
abbrev xv:Stmt:=bj 3
def MU:bc ["one","other"] ["one","other"] (aW xv):=bh
def MV{f:Addr}{fd:FuncData}(F:aY K "apart" "apart" xv f fd)(T:bC mg):aN P w K mg base aU 1 f fd ["one","other"] (xu K pV):=by
 show F.ok MU (λvs H Q E h=>?_) (λaP A outer s H vs Q E hr h=>?_)
 .let(p,q,ns,ms,rfl,_):=h;rfl
 .let(p,q,ns,ms,rfl,hp,hq,l1,l2,k):=h;show(_,(aA (aQ (cg (w6 (w:=w) rfl rfl) (by rfl) T.z_sorted m7 (ab (bg (Km (w:=w) rfl) (eI (jj (K:=K) (w:=w) rfl rfl rfl) (by rfl) T.z_set jg (ab (pv 0) ak)) (eI (jj (K:=K) (w:=w) rfl rfl rfl) (by rfl) T.z_set jg (ab (pv 1) ak))) ak)))),?_)
  kd_p
  show jk hp () λa ks ha nd mem=>?_;let s1:=ax (o:=cq w a ks) ha
  kd_p
  show jk (hq.same s1) () λb js hb Wg Wi=>?_;let s2:=ax (o:=cq w b js) hb;let ea:aa (aa H a (cq w a ks)) b (cq w b js) a=some (cq w a ks):=s2 _ _ ar;show Ko ea ar (iM (gg nd λx hx=>(mem x).mp hx) l1) λc kr hc YU Vm=>?_;let s3:=ax (o:=cq w c kr) hc;show w9 ar (iM (gg YU λx hx=>(mem x).mp ((Vm x).mp hx).1) l1) λl rs hl pm so=>?_;let Xr:=(s1.trans s2).trans s3;show k l _ rs (Xr.trans (ax hl)) (Xr.free hl) ar (wg pm so YU λx=>?_);rw[Vm x,mem x,Wi x];show Iff.rfl
abbrev xw:Stmt:=bj 24
def MW:bc ["number"] ["number"] (aW xw):=bh
def MX{f:Addr}{fd:FuncData}(F:aY K "is_slip" "is_slip" xw f fd)(T:bC mg){tk:Tok}(Ym:mg "MOST_SLIP"=some (.int 12 tk)):aN P w K mg base aU 1 f fd ["number"] (gH 1 12):=by
 show F.ok MW (λvs H Q E h=>?_) (λaP A outer s H vs Q E hr h=>?_)
 .let(x,rfl,_):=h;rfl
 .let(x,rfl,k):=h;show(_,(aA (aQ (mT gM gM ay (pv 0) (fz (v:=.int 12) (by rfl) Ym (_,rfl))))),?_);erw[jh];show pU (λ_ q=>di q) (λ_ q=>dW rfl q) (λ_ q=>di q) k
def xx:Sp:=λvs H Q _=>∃x:Int,vs=[.int x]/\1<=x/\x<=12/\Q .non H
abbrev xy:Stmt:=bj 28
def MY:bc ["number"] ["number"] (aW xy):=bh
def MZ{f:Addr}{fd:FuncData}(F:aY K "need_slip" "need_slip" xy f fd)(T:bC mg)(AI:ba P w K mg base "is_slip" 1 ["number"] (gH 1 12)):aN P w K mg base aU 2 f fd ["number"] xx:=by
 show F.ok MY (λvs H Q E h=>?_) (λaP A outer s H vs Q E hr h=>?_)
 .let(x,rfl,_):=h;rfl
 .let(x,rfl,h1,h2,k):=h;show(_,(aA (bx (fu (eh (pC AI (ab (pv 0) ak)))) (aA fI) bD)),?_)
  kd_p
  show(x,rfl,?_);rw[lC h1 h2]
  kd_p
  done
def tM(K:W.Frag):Sp:=λvs H Q _=>∃(p q:Addr) (ns ms:LE),vs=[.ref p,.ref q]/\eV K H p (ns.map V.int)/\eV K H q (ms.map V.int)/\ns.length<64/\ms.length<64/\∀H',aC H H'->Q (.bl (dk ns ms)) H'
def tN(K:W.Frag):Sp:=λvs H Q _=>∃(p q:Addr) (ns ms:LE),vs=[.ref p,.ref q]/\eV K H p (ns.map V.int)/\eV K H q (ms.map V.int)/\ns.length<64/\ms.length<64/\∀H',aC H H'->Q (.int (eL ns ms:Nat)) H'
abbrev xA:Stmt:=bj 4
def M_:bc ["one","other"] ["one","other"] (aW xA):=bh
def M'{f:Addr}{fd:FuncData}(F:aY K "many_common" "many_common" xA f fd)(T:bC mg):aN P w K mg base aU 1 f fd ["one","other"] (tN K):=by
 show F.ok M_ (λvs H Q E h=>?_) (λaP A outer s H vs Q E hr h=>?_)
 .let(p,q,ns,ms,rfl,_):=h;rfl
 .let(p,q,ns,ms,rfl,hS,hT,hl,hm,k):=h;show(_,(aA (aQ (cg (pE (w:=w) rfl) (by rfl) T.z_len kY (ab (bg (Kl (w:=w) rfl) (eI (jj (K:=K) (w:=w) rfl rfl rfl) (by rfl) T.z_set jg (ab (pv 0) ak)) (eI (jj (K:=K) (w:=w) rfl rfl rfl) (by rfl) T.z_set jg (ab (pv 1) ak))) ak)))),?_)
  kd_p
  show jk hS () λa ks ha nd mem=>?_;let s1:=ax (o:=cq w a ks) ha
  kd_p
  show jk (hT.same s1) () λb js hb Wg Wi=>?_;let s2:=ax (o:=cq w b js) hb;let SM:a≠b:=bq ar hb;show Kn (s2 _ _ ar) ar SM λc kr hc YU Vm=>?_;let s3:=ax (o:=cq w c kr) hc
  kd_p
  erw[pF ar];rw[pJ (ns:=ns) (ms:=ms) YU λx=>by rw[Vm x,mem x,Wi x]];show k _ ((s1.trans s2).trans s3)
abbrev xB:Stmt:=bj 30
def N0:bc ["one","other","shared"] ["one","other"] (aW xB):=bh
def N1{f:Addr}{fd:FuncData}(F:aY K "same" "same" xB f fd)(T:bC mg)(oy:ba P w K mg base "many_common" 1 ["one","other"] (tN K))(hJ:ba P w K mg base "rising" 1 ["timbers"] (jq K)):aN P w K mg base aU 2 f fd ["one","other"] (tM K):=by
 show F.ok N0 (λvs H Q E h=>?_) (λaP A outer s H vs Q E hr h=>?_)
 .let(p,q,ns,ms,rfl,_):=h;rfl
 .let(p,q,ns,ms,rfl,hS,hT,hl,hm,k):=h
  show(_,(aG (qV 2 (pC oy (ab (pv 0) (ab (pv 1) ak))))
   (aA (aQ (gw (qC dI (bg fH ay (pv 2)) (qN K T (pC hJ (ab (pv 0) ak)))) (iq (qC dI (bg fH ay (pv 2)) (qN K T (pC hJ (ab (pv 1) ak))))))))),?_)
  kd_p
  show(p,q,ns,ms,rfl,hS,hT,hl,hm,λH1 s1=>?_);let b1:=KO ns ms;let b2:=wx ns
  kd_p
  show(p,ns,rfl,hS.same s1,hl,λl H2 rs s2 _ Ro SJ=>?_);let e1:rs.length=dy ns:=jW SJ.nodup SJ.2
  kd_p
  rw[au,e1]
  kd_p
  let ee:dk ns ms=(decide ((dy ns:Int)<2*(eL ns ms:Int)) && decide ((dy ms:Int)<2*(eL ns ms:Int))):=by
   unfold dk
   congr 1
   .show decide_eq_decide.mpr ()
   .show decide_eq_decide.mpr ()
  show kW (λc1=>?_) (λc1=>?_)
  .kd_p
   show(q,ms,rfl,hT.same (s1.trans s2),hm,λl' H3 rs' s3 _ S4 Xt=>?_);let e2:rs'.length=dy ms:=jW Xt.nodup Xt.2
   kd_p
   rw[au,e2];let q:=k _ ((s1.trans s2).trans s3);rw[ee,c1,j8]at q;show q
  .let q:=k _ (s1.trans s2);rw[ee,Bool.eq_false_iff.mpr c1,ot]at q;show q
def lD(H:Hp)(c:Addr)(fl:List LE):Prop:=∃ts:Tk,H c=some (.lst (ts.map V.ref))/\ts.length=fl.length/\∀(i:Nat) t ns,ts[i]?=some t->fl[i]?=some ns->H t=some (.lst (ns.map V.int))
def lD.same{H H':Hp}{c:Addr}{fl:List LE}(s:aC H H')(h:lD H c fl):lD H' c fl:=by
 let(ts,h1,h2,h3):=h;show(ts,s _ _ h1,h2,λi t ns e1 e2=>s _ _ (h3 i t ns e1 e2))
noncomputable def jr(fl:List LE):Bool:=fl.all (λns=>!decide (ns=[])) && decide (dy fl.flatten=(fl.map dy).sum)
def jt{α:Type}{xs:List α}{n i:Nat}(h:xs.length=n)(hi:i<n):∃x,xs[i]?=some x:=(xs[i]'(),aK ())
def Fg(fl:List LE):(fl.map dy).sum<=(fl.map List.length).sum:=by
 induction fl with
 |nil=>show aD _
 |cons ns r ih=>
  rw[cQ,cQ,AH,AH];have:=wx ns;lia
def N2(fl:List LE)(i:Nat):((fl.take i).map List.length).sum<=(fl.map List.length).sum:=by
 induction fl generalizing i with
 |nil=>simp
 |cons ns r ih=>
  cases i with
  |zero=>simp
  |succ i=>
   grind
def xC{fl:List LE}{ns:LE}(h:ns∈fl):ns.length<=(fl.map List.length).sum:=by
 induction fl with
 |nil=>cases h
 |cons m r ih=>
  grind
def xD:Sp:=λvs H Q _=>∃(c:Addr) (fl:List LE),vs=[.ref c]/\lD H c fl/\(fl.map List.length).sum<64/\∀H',aC H H'->Q (.bl (jr fl)) H'
abbrev xE:Stmt:=bj 31
def N3:bc ["boats","timbers","boat"] ["boats"] (aW xE):=bh
def N4{f:Addr}{fd:FuncData}(F:aY K "is_fleet" "is_fleet" xE f fd)(T:bC mg)(hJ:ba P w K mg base "rising" 1 ["timbers"] (jq K)):aN P w K mg base aU 2 f fd ["boats"] xD:=by
 show F.ok N3 (λvs H Q E h=>?_) (λaP A outer s H vs Q E hr h=>?_)
 .let(c,fl,rfl,_):=h;rfl
 .let(c,fl,rfl,(ts,hc,lt,Wl),hsum,k):=h;unfold jr at k
  show(_,(aG (qV 1 (dS ak))
   (aG (dC dH rfl (cU (K:=K) rfl (pv 0)) (qG 2) (aG (bx (qE eG (qN K T (pv 2)) ay) (aA (aQ fQ)) bD)
   (aA (eB (Kz (K:=K) rfl (pv 1) (ab (pC hJ (ab (pv 2) ak)) ak))))))
   (aA (aQ (qC eG (qN K T (pC hJ (ab (pv 1) ak))) (qN K T (pv 1))))))),?_)
  kd_p
  show(cm _,λe he=>?_);let s1:=ax (o:=.lst []) he;let Xa:aa H e (.lst []) e=some (.lst ([]:LT)):=ar;generalize aa H e (.lst [])=H1 at s1 Xa⊢
  kd_p
  show(c,rfl,(_,ah.of (s1 _ _ hc)),?_)
  show E4 (λi Z' H'=>(∃x,Z'=[some (.ref c),some (.ref e),x])/\aC H H'/\((fl.take i).all λns=>!decide (ns=[]))=true/\∃ks:LE,H' e=some (.lst (ks.map V.int))/\ks.length=((fl.take i).map dy).sum/\∀x,x∈ks↔x∈(fl.take i).flatten) fl.length
   ((none,rfl),s1,rfl,[],Xa,rfl,λx=>∅) ?_ ?_
  .ext Z' H2 ⟨⟨x,rfl⟩,s2,Sw,ks,Wy,lk,mk⟩;show((_,ah.of (s2 _ _ hc),by rw[au];lia),?_);rw[ku (aD _)]at Sw lk mk
   let lks:ks.length<64:=by have:=Fg fl;lia
   kd_p
   show(e,ks,rfl,.inl (ah.of Wy),lks,λl H3 rs s3 _ S4 SJ=>?_);let he3:=s3 _ _ Wy
   let er:rs.length=dy fl.flatten:=by rw[jW SJ.nodup SJ.2,wy mk]
   kd_p
   rw[au,au,er,lk];rw[Sw,j8]at k
   let ed:decide (V.int ((dy fl.flatten:Nat):Int)=V.int (((fl.map dy).sum:Nat):Int))=decide (dy fl.flatten=(fl.map dy).sum):=by
    grind
   rw[ed];show k _ (s2.trans s3)
  .ext i Z' H2 hi ⟨⟨x,rfl⟩,s2,Sw,ks,Wy,lk,mk⟩;let(t,e1):=jt lt hi;let(ns,e2):=jt (xs:=fl) rfl hi;let ht:=s2 _ _ (Wl i t ns e1 e2);show((_,.ref t,ah.of (s2 _ _ hc),by rw[aH,e1];rfl),?_);ext x' G ⟨rfl,hy⟩;let ex:=hy _ (ah.of (s2 _ _ hc));rw[aH,e1]at ex;cases ex
   let et:fl.take (i+1)=fl.take i++[ns]:=by rw[il,e2];rfl
   let lns:=xC (dr e2)
   kd_p
   rw[au]
   let e0:decide (V.int (ns.length:Int)=V.int 0)=decide (ns=[]):=by
    apply decide_eq_decide.mpr;constructor
    .ext h;injection h with h;show Rg.mp ()
    .grind
   rw[e0]
   cases h0:decide (ns=[])with
   |true=>
    erw[br]
    kd_p
    grind
   |false=>
    erw[bB]
    kd_p
    show(.inl (rfl,_,ah.of Wy),?_)
    kd_p
    show(t,ns,rfl,.inl (ah.of ht),(),λl H3 rs s3 _ S4 SJ=>?_)
    kd_p
    let er:rs.length=dy ns:=jW SJ.nodup SJ.2
    let hk:ks.length<=64:=by
     have:=Fg (fl.take i);have:=N2 fl i;lia
    let hr:=wx ns;erw[KI (s3 _ _ Wy) S4 (MN ⋯)]
    kd_p
    show((_,rfl),λb o q=>by rw[aB (bq q he)];show s3 _ _ (s2 _ _ q),?_,ks++rs,by rw[ar,bO],?_,λz=>?_)
    .grind
    .grind
    .rw[et,kz,ui,ui,mk z,SJ.2 z];simp
noncomputable def ju(a b:List LE)(i j:Nat):List (Nat×Nat):=((List.range j).filter λk=>dk (a.getD i []) (b.getD k [])).map λk=>(i,k,)
noncomputable def kg(a b:List LE)(i:Nat):List (Nat×Nat):=(List.range i).flatMap λr=>ju a b r b.length
noncomputable def gk(a b:List LE):List (Nat×Nat):=kg a b a.length
def Fh(a b:List LE)(i j:Nat):ju a b i (j+1)=ju a b i j++(if dk (a.getD i []) (b.getD j [])=true then[(i,j,)]else[]):=by
 unfold ju;rw[oq,iN,bO]
 congr 1
 grind
def Fi(a b:List LE)(i:Nat):kg a b (i+1)=kg a b i++ju a b i b.length:=by
 unfold kg;rw[oq,List.flatMap_append];simp
def kh(H:Hp)(ts:Tk)(ps:List (Nat×Nat)):Prop:=ts.length=ps.length/\∀(i:Nat) t p,ts[i]?=some t->ps[i]?=some p->H t=some (.tup [.int p.1,.int p.2])
def kh.same{H H':Hp}{ts:Tk}{ps:List (Nat×Nat)}(s:aC H H')(h:kh H ts ps):kh H' ts ps:=(h.1,λi t p e1 e2=>s _ _ (h.2 i t p e1 e2))
def kh.snoc{H:Hp}{ts:Tk}{ps:List (Nat×Nat)}{t:Addr}{p:Nat×Nat}(h:kh H ts ps)(ht:H t=some (.tup [.int p.1,.int p.2])):kh H (ts++[t]) (ps++[p]):=by
 show(by simp[h.1],λi t' p' e1 e2=>?_)
 rcases fq i ts.length with q|q
 .rw[iL q]at e1;rw[iL (by rw[<-h.1];show q)]at e2;show h.2 i t' p' e1 e2
 .rw[fj q]at e1;rw[fj (by rw[<-h.1];show q),<-h.1]at e2
  grind
def xF:Sp:=λvs H Q _=>∃(c e:Addr) (a b:List LE),vs=[.ref c,.ref e]/\lD H c a/\lD H e b/\(a.map List.length).sum<64/\(b.map List.length).sum<64/\a.length<=60/\b.length<=60/\
 jr a=true/\jr b=true/\∀l H' (ts:Tk),aC H H'->H l=none->H' l=some (.lst (ts.map V.ref))->kh H' ts (gk a b)->Q (.ref l) H'
abbrev xG:Stmt:=bj 32
def N5:bc ["ahead","behind"] ["ahead","behind"] (aW xG):=bh
def N6{f:Addr}{fd:FuncData}(F:aY K "paired" "paired" xG f fd)(T:bC mg)(uI:ba P w K mg base "is_fleet" 2 ["boats"] xD)(oz:ba P w K mg base "same" 2 ["one","other"] (tM K)):aN P w K mg base aU 3 f fd ["ahead","behind"] xF:=by
 show F.ok N5 (λvs H Q E h=>?_) (λaP A outer s H vs Q E hr h=>?_)
 .let(c,e,a,b,rfl,_):=h;rfl
 .let(c,e,a,b,rfl,fa,fb,sa,sb,la,lb,ga,gb,k):=h
  show(_,(aG (bx ((hU (fu (eh (pC uI (ab (pv 0) ak)))) (iT (fu (eh (pC uI (ab (pv 1) ak))))))).pt (aA fI) bD)
   (aA (aQ (pj rfl (cX ["at","one","to","other"] [(1,"behind",)]) (wC (K:=K) rfl (by rfl) T.z_enumerate (ab (pv 0) ak)) (by ext _ _ _ _ _;show(fJ (K:=K) (n:=2) rfl rfl (by show c9 (qG 0) (c9 (qG 1) fE)))) (by ext _ _ _ _ _;show cD) (by ext _ _ _ _ _;show(cp (ab (pv 0) (ab (pv 2) ak)))) (by ext _ _ _ _ _;show(wC (K:=K) rfl (by rfl) T.z_enumerate (ab (pv 4) ak))) (by ext _ _ _ _ _;show(fJ (K:=K) (n:=2) rfl rfl (by show c9 (qG 2) (c9 (qG 3) fE)))) (by ext _ _ _ _ _;show(gQ (eh (pC oz (ab (pv 1) (ab (pv 3) ak)))))))))),?_)
  kd_p
  show(c,a,rfl,fa,sa,λH1 s1=>?_);rw[ga]
  kd_p
  erw[bB]
  kd_p
  show(e,b,rfl,fb.same s1,sb,λH2 s2'=>?_);rw[gb]
  kd_p
  erw[bB];let s2:=s1.trans s2';let(ta,hc,lta,ra):=fa.same s2;let(tb,he,ZR,rb):=fb.same s2
  kd_p
  show(c,rfl,(_,ah.of hc),?_);erw[vD (λi ys Z' H'=>(∃x y z u,Z'=[x,y,z,u,some (.ref e)])/\aC H2 H'/\∃ts:Tk,ys=ts.map V.ref/\kh H' ts (kg a b i)/\ts.length<=i*b.length) a.length ((none,none,none,none,rfl),aC.refl _,[],rfl,(rfl,λi t p h=>by simp at h),cm _) ?_]
  .ext ys Z' H3 ⟨_,s3,ts,rfl,pr,_⟩;show((_,ah.of (s3 _ _ hc),by rw[au];lia),λl hl=>?_);let s4:=ax (o:=.lst (ts.map V.ref)) hl;show k l _ ts (s2.trans (s3.trans s4)) ((s2.trans s3).free hl) ar (pr.same s4)
  .ext i ys Z' H3 hi ⟨⟨x,y,z,u,rfl⟩,s3,ts,rfl,pr,ZQ⟩;let(t,e1):=jt lta hi;let(ns,e2):=jt (xs:=a) rfl hi;let Tw:=xC (dr e2);show((_,.ref t,ah.of (s3 _ _ hc),by rw[aH,e1];rfl),?_);ext x' H4 ⟨T',u',rfl,hn,rfl,q⟩;let eu:=q _ (ah.of (s3 _ _ hc));rw[aH,e1]at eu;cases eu;let s4:=s3.trans (ax (o:=.tup [.int i,.ref t]) hn);let pr4:=pr.same (ax (o:=.tup [.int i,.ref t]) hn);let hT:aa H3 T' (.tup [.int i,.ref t]) T'=some (.tup [.int i,.ref t]):=ar;generalize aa H3 T' (.tup [.int i,.ref t])=H4 at s4 hT pr4⊢;erw[iV (az.of hT) rfl]
   kd_p
   erw[br]
   kd_p
   show(e,rfl,(_,ah.of (s4 _ _ he)),?_);let hib:i*b.length<=60*60:=Nat.mul_le_mul () lb;erw[vC (λj ys Z' H'=>(∃z u,Z'=[some (.int i),some (.ref t),z,u,some (.ref e)])/\aC H2 H'/\∃ts:Tk,ys=ts.map V.ref/\kh H' ts (kg a b i++ju a b i j)/\ts.length<=i*b.length+j) b.length ((_,_,rfl),s4,ts,rfl,by simpa[ju]using pr4,()) ?_]
   .ext ys Z' H5 ⟨⟨z,u,rfl⟩,s5,ts,rfl,pr5,lts5⟩;show((_,ah.of (s5 _ _ he),by rw[au];lia),?_);show cu hi ((_,_,_,_,rfl),s5,ts,rfl,by rw[Fi];show pr5,by rw[Nat.succ_mul];show lts5)
   .ext j ys Z' H5 hj ⟨⟨z,u,rfl⟩,s5,ts,rfl,pr5,lts5⟩;let(t2,f1):=jt ZR hj;let(ms,f2):=jt (xs:=b) rfl hj;let hms:=xC (dr f2);show((_,.ref t2,ah.of (s5 _ _ he),by rw[aH,f1];rfl),cM (show _<10000 by rw[au];lia) (by decide),?_);ext x' H6 ⟨T2,u',rfl,VN,rfl,q2⟩;let eu:=q2 _ (ah.of (s5 _ _ he));rw[aH,f1]at eu;cases eu;let sn:=ax (o:=.tup [.int j,.ref t2]) VN;let Ze:aa H5 T2 (.tup [.int j,.ref t2]) T2=some (.tup [.int j,.ref t2]):=ar;generalize aa H5 T2 (.tup [.int j,.ref t2])=H6 at sn Ze⊢;let s6:=s5.trans sn;let pr6:=pr5.same sn;erw[iV (az.of Ze) rfl]
    kd_p
    let ga':a.getD i []=ns:=by rw[qF,e2];rfl
    let gb':b.getD j []=ms:=by rw[qF,f2];rfl
    show(t,t2,ns,ms,rfl,.inl (ah.of (s6 _ _ (ra i t ns e1 e2))),.inl (ah.of (s6 _ _ (rb j t2 ms f1 f2))),(),(),λH7 s7=>?_)
    kd_p
    cases VO:dk ns ms with
    |false=>
     erw[bB];show cu hj ((_,_,rfl),s6.trans s7,ts,rfl,?_,());rw[Fh,ga',gb',VO,aO cN,jD];show pr6.same s7
    |true=>
     erw[br]
     kd_p
     show(by change 2<=sizeLine;decide,λT3 hT3=>?_);let s8:=ax (o:=.tup [.int i,.int j]) hT3;show cu hj ((_,_,rfl),(s6.trans s7).trans s8,ts++[T3],by rw[bO];rfl,?_,by rw[c6,Am];lia);rw[Fh,ga',gb',VO,bf rfl,<-oj];show((pr6.same s7).same s8).snoc (p:=(i,j,)) ar
noncomputable def N7(a b:Nat):Nat×Nat:=(a / Nat.gcd a b,b / Nat.gcd a b,)
def N8(m n:Nat):Nat.gcd n (m % n)=Nat.gcd m n:=by
 rw[Nat.gcd_comm m n,Nat.gcd_rec n m,Nat.gcd_comm]
def N9(t:Nat):(if(t:Int)<0 then -(t:Int)else(t:Int))=(t:Int):=by split<;>lia
def tO:Sp:=λvs H Q _=>∃(a b:Nat),vs=[.int a,.int b]/\Q (.int (Nat.gcd a b:Nat)) H
abbrev xH:Stmt:=bj 38
def Fj:bc ["one","other"] ["one","other"] (aW xH):=bh
def Nb{f:Addr}{fd:FuncData}(F:aY K "divisor" "divisor" xH f fd):aN P w K mg base aU 1 f fd ["one","other"] tO:=by
 show F.ok Fj (λvs H Q E h=>?_) (λaP A outer s H vs Q E hr h=>?_)
 .let(a,b,rfl,_):=h;rfl
 .let(a,b,rfl,k):=h
  show(_,(aG (Hc dH (qE dI (pv 1) ay) (aA (GZ (i:=0) (j:=1) rfl Fj.nd rfl rfl (by decide) rfl rfl (ab (pv 1) (ab (bg mR (pv 0) (pv 1)) ak)) (by rfl))))
   (aA (aQ (pv 0)))),?_)
  show Hj (λZ H'=>∃m n:Nat,Z=[some (.int m),some (.int n)]/\H'=H/\Nat.gcd m n=Nat.gcd a b)
   (λZ _=>match Z with|[_,some (.int y)]=>y.toNat|_=>0) (a,b,rfl,rfl,rfl) ?_ ?_
  .ext Z H' ⟨m,n,rfl,rfl,e⟩;show(_,rfl,_,_,rfl,rfl,_,rfl,?_);show kW (λh=>?_) (λh=>?_)
   .let hn:0<n:=by
     have:=cP h;lia
    show(_,rfl,_,rfl,_,rfl,_,_,rfl,rfl,(by change(0:Int)<n;lia),_,_,rfl,(n,m % n,rfl,rfl,by rw[N8];show e),?_)
    change((m:Int) % (n:Int)).toNat<(n:Int).toNat
    let h1:(m:Int) % (n:Int)<n:=As _ ();lia
   .let hn:n=0:=by
     have:¬((0:Int)<n):=λz=>h (cY z);lia
    subst hn;show(_,rfl,?_);rw[Nat.gcd_zero_right]at e;rw[e];show k
  .ext Z H' Q1 Q2 hq ⟨v,e,i,j,e1,e2,c,e3,q⟩;show(v,e,i,j,e1,e2,c,e3,hq _ _ q)
def Fk{i:Int}{n:Nat}(h:0<n)(h2:n<2 ^ 8000):vm i (n:Int):=((),kD (CW (k:=8000) h2 (by decide)) (by decide))
def RX(H:Hp)(Q:VK)(v:Nat×Nat):Prop:=∀p H',aC H H'->H' p=some (.tup [.int v.1,.int v.2])->Q (.ref p) H'
def xI:Sp:=λvs H Q _=>∃(t b:Nat),vs=[.int t,.int b]/\0<b/\b<2 ^ 8000/\RX H Q (N7 t b)
abbrev xJ:Stmt:=bj 39
def Nc:bc ["top","bottom","shared"] ["top","bottom"] (aW xJ):=bh
def Nd{f:Addr}{fd:FuncData}(F:aY K "lowest" "lowest" xJ f fd)(T:bC mg)(oA:ba P w K mg base "divisor" 1 ["one","other"] tO):aN P w K mg base aU 2 f fd ["top","bottom"] xI:=by
 show F.ok Nc (λvs H Q E h=>?_) (λaP A outer s H vs Q E hr h=>?_)
 .let(a,b,rfl,_):=h;rfl
 .let(t,b,rfl,hb,Tx,k):=h
  show(_,(aG (qV 2 (pC oA (ab (cg vO (by rfl) T.z_abs vI (ab (pv 0) ak)) (ab (pv 1) ak))))
   (aA (aQ (cp (ab (bg vo (pv 0) (pv 2)) (ab (bg vo (pv 1) (pv 2)) ak)))))),?_)
  let g1:0<Nat.gcd t b:=Nat.gcd_pos_of_pos_right _ hb;let g2:Nat.gcd t b<=b:=Nat.gcd_le_right _ hb
  kd_p
  show(t,b,(by rw[N9];rfl),?_)
  kd_p
  erw[pz (Fk g1 (iM g2 Tx))]
  kd_p
  erw[pz (Fk g1 (iM g2 Tx))]
  kd_p
  show(by change 2<=sizeLine;decide,λp hp=>k p _ (ax hp) ar)
abbrev xK:Stmt:=bj 22
def Nf:bc ["number"] ["number"] (aW xK):=bh
def Ng{f:Addr}{fd:FuncData}(F:aY K "is_day" "is_day" xK f fd)(T:bC mg){tk:Tok}(hLD:mg "LAST_DAY"=some (.int 400 tk)):aN P w K mg base aU 1 f fd ["number"] (gH 1 400):=by
 show F.ok Nf (λvs H Q E h=>?_) (λaP A outer s H vs Q E hr h=>?_)
 .let(x,rfl,_):=h;rfl
 .let(x,rfl,k):=h;show(_,(aA (aQ (mT gM gM ay (pv 0) (fz (v:=.int 400) (by rfl) hLD (_,rfl))))),?_);erw[jh];show pU (λ_ q=>di q) (λ_ q=>dW rfl q) (λ_ q=>di q) k
abbrev xM:Stmt:=bj 23
def Nh:bc ["number"] ["number"] (aW xM):=bh
def Ni{f:Addr}{fd:FuncData}(F:aY K "is_timber" "is_timber" xM f fd)(T:bC mg){tk:Tok}(Yn:mg "MOST_TIMBERS"=some (.int 60 tk)):aN P w K mg base aU 1 f fd ["number"] (gH 1 60):=by
 show F.ok Nh (λvs H Q E h=>?_) (λaP A outer s H vs Q E hr h=>?_)
 .let(x,rfl,_):=h;rfl
 .let(x,rfl,k):=h;show(_,(aA (aQ (mT gM gM ay (pv 0) (fz (v:=.int 60) (by rfl) Yn (_,rfl))))),?_);erw[jh];show pU (λ_ q=>di q) (λ_ q=>dW rfl q) (λ_ q=>di q) k
def Fl{n:Nat}(h:1<=n):HT.sIx n 0 (some (1:Int))=1:=by
 let z:HT.sIx n 0 (some ((1:Nat):Int))=min 1 n:=HT.sIx_nat n 0 1
 grind
def Nj{n:Nat}:HT.sIx n n none=n:=rfl
def Fm{xs:LT}(h:1<=xs.length):fR xs (some 1) none=xs.drop 1:=by
 unfold fR;rw[Fl h,Nj];show ku ⋯
noncomputable def mx(ns:LE):LT:=(ns.zip (ns.drop 1)).map λp=>V.bl (decide (p.1<p.2))
def Fn{S1 S2:Hp->LT->Prop}{ns:LE}{H1:Hp}{Fin:LT->Hp->Prop}(hl:ns.length<=1000)(Sz:∀H',aC H1 H'->S1 H' (ns.map V.int))(Uh:∀H',aC H1 H'->S2 H' ((ns.drop 1).map V.int))
  (fin:∀H',aC H1 H'->Fin (mx ns) H'):
  jf (kX S1 S2) (mM K 2 (kM (dB 0) (kM (dB 1) oO))) gP (iu (iw λi j=>.bl (decide (i<j))) (eT 0) (eT 1)) Fin [none,none] H1:=by
 let lz:(mx ns).length=ns.length - 1:=by unfold mx;rw[au,List.length_zip,qQ];lia
 show j0 (λZ=>∃a b,Z=[a,b]) (none,none,rfl) () (λH' s'=>(_,_,Sz H' s',Uh H' s',.inr (by rw[au,qQ];lia))) (λi H' hi s'=>?_) ?_ fin
 .rw[lz]at hi;show(_,_,.int (ns[i]'()),.int (ns[i+1]'()),Sz H' s',Uh H' s',by rw[aH,aK ()];rfl,by rw[aH,uy,qX 1 i,aK ()];rfl)
 .ext i w x Z' H' H2 R R0 hw ⟨a0,b0,rfl⟩ s' ⟨T,u,v,rfl,hn,rfl,q⟩ hR;let(q1,q2):=q _ _ (Sz H' s') (Uh H' s')
  let hi:i<ns.length - 1:=by
   rcases fq i (ns.length - 1)with h|h
   .show h
   .rw[gp (by rw[lz];show h)]at hw;cases hw
  rw[aH,aK ()]at q1;rw[aH,uy,qX 1 i,aK ()]at q2;cases q1;cases q2;erw[iV (az.of ar) rfl]
  kd_p
  erw[br]
  kd_p
  let ew:w=.bl (decide (ns[i]'()<ns[i+1]'())):=by
   unfold mx at hw;rw[aH,aK (by rw[List.length_zip,qQ];lia)]at hw;let e:=cH hw;rw[List.getElem_zip,List.getElem_drop]at e;rw[<-e];simp only[qX 1 i]
  rw[<-ew];show hR _ _ (_,_,rfl) (s'.trans (ax hn))
def Nk(ns:LE):∃bs:List Bool,mx ns=bs.map V.bl/\bs.all id=gC ns:=by
 show((ns.zip (ns.drop 1)).map λp=>decide (p.1<p.2),by unfold mx;rw[du];rfl,?_);unfold gC;rw[q_];rfl
def tP(K:W.Frag):Sp:=λvs H Q _=>∃(p:Addr) (ns:LE),vs=[.ref p]/\eV K H p (ns.map V.int)/\1<=ns.length/\ns.length<=1000/\∀H',aC H H'->Q (.bl (gC ns)) H'
abbrev xN:Stmt:=bj 34
def Nl:bc ["numbers"] ["numbers"] (aW xN):=bh
def Nm{f:Addr}{fd:FuncData}(F:aY K "rises" "rises" xN f fd)(T:bC mg):aN P w K mg base aU 1 f fd ["numbers"] (tP K):=by
 show F.ok Nl (λvs H Q E h=>?_) (λaP A outer s H vs Q E hr h=>?_)
 .let(p,ns,rfl,_):=h;rfl
 .let(p,ns,rfl,hS,h1,hl,k):=h
  let ec:fR (ns.map V.int) (some 1) none=(ns.drop 1).map V.int:=by rw[Fm (by rw[au];show h1),List.map_drop]
  let(bs,eb,ea):=Nk ns;show(_,(aA (aQ (cg (iC (K:=K) rfl rfl) (by rfl) T.z_all iA (ab (dU rfl (cX ["ahead","behind"] []) (Dq (K:=K) rfl (by rfl) T.z_zip (ab (pv 0) (ab (rP ((vP (K:=K) rfl).or (Em (K:=K) rfl)) (pv 0) (oW ay) rO) ak))) (by ext _ _ _ _ _;show(fJ (K:=K) (n:=2) rfl rfl (by show c9 (qG 0) (c9 (qG 1) fE)))) (by ext _ _ _ _ _;show cD) (by ext _ _ _ _ _;show(qC mS (pv 0) (pv 1)))) ak)))),?_)
  kd_p
  let fin:∀{H1:Hp},aC H H1->∀H',aC H1 H'->∀D,H' D=none->vH K [.ref D] (aa H' D (.lst (mx ns))) Q:=λs1 H' s' D hD=>by
   show(D,bs,rfl,ah.of (by rw[ar,eb]),?_);rw[ea];show k _ ((s1.trans s').trans (ax hD))
  rcases hS with hS|hS
  .show .inl (p,_,rfl,hS,λc hc=>?_);rw[ec];let s1:=ax (o:=.lst ((ns.drop 1).map V.int)) hc;let Yh:aa H c (.lst ((ns.drop 1).map V.int)) c=some (.lst ((ns.drop 1).map V.int)):=ar;show(p,c,rfl,.inl (_,_,s1.seq hS,ah.of Yh,?_));erw[Fn () (λH' s'=>s'.seq (s1.seq hS)) (λH' s'=>ah.of (s' _ _ Yh))];ext H' s' D hD
   kd_p
   show fin s1 H' s' D hD
  .show .inr (p,_,rfl,hS,?_,λc hc=>?_)
   .rw[au,Fl h1];ext⟨z,_⟩;cases z
   rw[ec];let s1:=ax (o:=.tup ((ns.drop 1).map V.int)) hc;let Yh:aa H c (.tup ((ns.drop 1).map V.int)) c=some (.tup ((ns.drop 1).map V.int)):=ar;show(p,c,rfl,.inr (_,_,l9 s1 hS,az.of Yh,?_));erw[Fn () (λH' s'=>l9 s' (l9 s1 hS)) (λH' s'=>az.of (s' _ _ Yh))];ext H' s' D hD
   kd_p
   show fin s1 H' s' D hD
noncomputable def eO(slip:Int)(ns:LE):Bool:=cB 1 slip ns.length && (ns.all (cB 1 60) && gC ns)
def xO(K:W.Frag):Sp:=λvs H Q _=>∃(slip:Int) (p:Addr) (ns:LE),vs=[.int slip,.ref p]/\az K H p (ns.map V.int)/\ns.length<64/\∀H',aC H H'->Q (.bl (eO slip ns)) H'
abbrev xP:Stmt:=bj 35
def Nn:bc ["slip","timbers"] ["slip","timbers"] (aW xP):=bh
def Np{f:Addr}{fd:FuncData}(F:aY K "is_boat" "is_boat" xP f fd)(T:bC mg)(kG:ba P w K mg base "is_timber" 1 ["number"] (gH 1 60))(oB:ba P w K mg base "rises" 1 ["numbers"] (tP K)):aN P w K mg base aU 2 f fd ["slip","timbers"] (xO K):=by
 show F.ok Nn (λvs H Q E h=>?_) (λaP A outer s H vs Q E hr h=>?_)
 .let(slip,p,ns,rfl,_):=h;rfl
 .let(slip,p,ns,rfl,hS,hl,k):=h;unfold eO at k;show(_,(aA (aQ (gw (mT gM gM ay (qN K T (pv 1)) (pv 0)) (gw (cg (iC (K:=K) rfl rfl) (by rfl) T.z_all iA (ab (dU rfl (cX ["timber"] []) (dO (K:=K) rfl (pv 1)) (by ext _ _ _ _ _;show(qG 0)) (by ext _ _ _ _ _;show cD) (by ext _ _ _ _ _;show(pC kG (ab (pv 0) ak)))) ak)) (iq (pC oB (ab (pv 1) ak))))))),?_);show jh (Dj ?_);erw[pU (x:=ns.length) (λ_ q=>di q) (λ_ q=>?_) (λ_ q=>dW rfl q)]
  .kd_p
   grind
  erw[sf]
  cases h1:cB 1 slip ns.length with
  |false=>
   rw[h1,ot]at k;show bB (k _ (aC.refl _))
  |true=>
   rw[h1,j8]at k;erw[br]
   let RB:1<=ns.length:=by
    unfold cB at h1
    grind
   kd_p
   show(p,rfl,(_,hS),?_);erw[j0 (ws:=ns.map λx=>V.bl (cB 1 60 x)) (λZ=>∃a,Z=[a]) (none,rfl) ⋯ (λH' s'=>(_,l9 s' hS,by rw[au,au];show aD _)) (λi H' hi s'=>?_) ?_]
   .rw[au]at hi;show(_,.int ns[i],l9 s' hS,by rw[aH,aK hi];rfl)
   .ext i w' x Z' H' H2 R R0 hw ⟨a,rfl⟩ s' ⟨rfl,hy⟩ hR;let e:=hy _ (l9 s' hS);rw[aH]at e hw
    cases hi:ns[i]? with
    |none=>rw[hi]at e;cases e
    |some n=>
     rw[hi]at e hw;cases e;cases hw
     kd_p
     erw[br]
     kd_p
     show(n,rfl,hR _ _ (_,rfl) s')
   ext H' s' D hD
   kd_p
   show(D,ns.map (cB 1 60),rfl,ah.of (by rw[ar,du];rfl),?_)
   let e:(ns.map (cB 1 60)).all id=ns.all (cB 1 60):=by rw[q_];rfl
   rw[e];let s2:=s'.trans (ax (o:=.lst (ns.map λx=>V.bl (cB 1 60 x))) hD);erw[sf]
   cases h2:ns.all (cB 1 60)with
   |false=>
    grind
   |true=>
    rw[h2,j8]at k;erw[br]
    kd_p
    show(p,ns,rfl,.inr (l9 s2 hS),RB,(),λH3 s3=>k _ (s2.trans s3))
def gT(H:Hp)(c:Addr)(ch:List (Int×LE)):Prop:=∃ts Bs:Tk,H c=some (.lst (ts.map V.ref))/\ts.length=ch.length/\Bs.length=ch.length/\
 ∀(i:Nat) t B r,ts[i]?=some t->Bs[i]?=some B->ch[i]?=some r->H t=some (.tup [.int r.1,.ref B])/\H B=some (.tup (r.2.map V.int))
noncomputable def pW(ch:List (Int×LE)):Bool:=(ch.zip (ch.drop 1)).all λp=>dk p.1.2 p.2.2
noncomputable def gn(slip:Int)(ch:List (Int×LE)):Bool:=!(decide (ch=[])) && ((ch.all λr=>cB 1 400 r.1) && (gC (ch.map (·.1)) && ((ch.all λr=>eO slip r.2) && pW ch)))
def xQ(K:W.Frag):Sp:=λvs H Q _=>∃(slip:Int) (c:Addr) (ch:List (Int×LE)),vs=[.int slip,.ref c]/\gT H c ch/\ch.length<=400/\(∀r∈ch,r.2.length<64)/\∀H',aC H H'->Q (.bl (gn slip ch)) H'
abbrev xR:Stmt:=bj 36
abbrev Nq:List Str:=["slip","chain","days","boats"]
def Nr:bc Nq ["slip","chain"] (aW xR):=bh
def Nt{f:Addr}{fd:FuncData}(F:aY K "judged" "judged" xR f fd)(T:bC mg)(oC:ba P w K mg base "is_day" 1 ["number"] (gH 1 400))(oB:ba P w K mg base "rises" 1 ["numbers"] (tP K))(AJ:ba P w K mg base "is_boat" 2 ["slip","timbers"] (xO K))(oz:ba P w K mg base "same" 2 ["one","other"] (tM K)):aN P w K mg base aU 3 f fd ["slip","chain"] (xQ K):=by
 show F.ok Nr (λvs H Q E h=>?_) (λaP A outer s H vs Q E hr h=>?_)
 .let(slip,c,ch,rfl,_):=h;rfl
 .let(slip,c,ch,rfl,(ts,Bs,hc,lt,lB,Wl),lc,hsz,k):=h;unfold gn at k
  let row:∀i,i<ch.length->∃t B r,ts[i]?=some t/\Bs[i]?=some B/\ch[i]?=some r/\H t=some (.tup [.int r.1,.ref B])/\H B=some (.tup (r.2.map V.int)):=λi hi=>by
   let(t,e1):=jt lt hi;let(B,e2):=jt lB hi;let(r,e3):=jt (xs:=ch) rfl hi;show(t,B,r,e1,e2,e3,Wl i t B r e1 e2 e3)
  show(_,(aG (qL 2 (cX ["day","timbers"] []) (cU (K:=K) rfl (pv 1)) (by ext _ _ _ _ _;show(fJ (K:=K) (n:=2) rfl rfl (by show c9 (qG 0) (c9 (qG 1) fE)))) (by ext _ _ _ _ _;show cD) (by ext _ _ _ _ _;show(pv 0)))
   (aG (qL 3 (cX ["day","timbers"] []) (cU (K:=K) rfl (pv 1)) (by ext _ _ _ _ _;show(fJ (K:=K) (n:=2) rfl rfl (by show c9 (qG 0) (c9 (qG 1) fE)))) (by ext _ _ _ _ _;show cD) (by ext _ _ _ _ _;show(pv 1)))
   (aG (bx ((hU (qE eG (qN K T (pv 1)) ay) (hU (fu (eh (cg (iC (K:=K) rfl rfl) (by rfl) T.z_all iA (ab (dU rfl (cX ["day"] []) (cU (K:=K) rfl (pv 2)) (by ext _ _ _ _ _;show(qG 0)) (by ext _ _ _ _ _;show cD) (by ext _ _ _ _ _;show(pC oC (ab (pv 0) ak)))) ak)))) (iT (fu (eh (pC oB (ab (pv 2) ak)))))))).pt (aA (aQ fQ)) bD)
   (aG (bx (fu (eh (cg (iC (K:=K) rfl rfl) (by rfl) T.z_all iA (ab (dU rfl (cX ["boat"] [(0,"slip",)]) (cU (K:=K) rfl (pv 3)) (by ext _ _ _ _ _;show(qG 0)) (by ext _ _ _ _ _;show cD) (by ext _ _ _ _ _;show(pC AJ (ab (pv 1) (ab (pv 0) ak))))) ak)))) (aA (aQ fQ)) bD)
   (aA (aQ (cg (iC (K:=K) rfl rfl) (by rfl) T.z_all iA (ab (dU rfl (cX ["ahead","behind"] []) (Dq (K:=K) rfl (by rfl) T.z_zip (ab (pv 3) (ab (rP (vP (K:=K) rfl) (pv 3) (oW ay) rO) ak))) (by ext _ _ _ _ _;show(fJ (K:=K) (n:=2) rfl rfl (by show c9 (qG 0) (c9 (qG 1) fE)))) (by ext _ _ _ _ _;show cD) (by ext _ _ _ _ _;show(pC oz (ab (pv 0) (ab (pv 1) ak))))) ak)))))))),?_)
  kd_p
  show(c,rfl,(_,ah.of hc),?_);erw[j0 (ws:=ch.map λr=>V.int r.1) (λZ=>∃a b,Z=[a,b]) (none,none,rfl) (by rw[au];lia) (λH' s'=>(_,ah.of (s' _ _ hc),by rw[au,au];lia)) (λi H' hi s'=>?_) ?_]
  .rw[au]at hi;let(t,B,r,e1,_):=row i hi;show(_,.ref t,ah.of (s' _ _ hc),by rw[aH,e1];rfl)
  .ext i w' x Z' H' H2 R R0 hw ⟨a,b,rfl⟩ s' ⟨rfl,hy⟩ hR
   let hi:i<ch.length:=by
    rcases fq i ch.length with h|h
    .show h
    .rw[gp (by rw[au];show h)]at hw;cases hw
   let(t,B,r,e1,e2,e3,g1,g2):=row i hi;let e:=hy _ (ah.of (s' _ _ hc));rw[aH,e1]at e;cases e;rw[aH,e3]at hw;cases hw;erw[iV (az.of (s' _ _ g1)) rfl]
   kd_p
   erw[br]
   kd_p
   show hR _ _ (_,_,rfl) s'
  ext H1 s1 D hD;let s2:=s1.trans (ax (o:=.lst (ch.map λr=>V.int r.1)) hD)
  let RG:aa H1 D (.lst (ch.map λr=>V.int r.1)) D=some (.lst ((ch.map (·.1)).map V.int)):=by rw[ar,du];rfl
  generalize aa H1 D (.lst (ch.map λr=>V.int r.1))=H2 at s2 RG⊢;clear s1 hD
  kd_p
  show(c,rfl,(_,ah.of (s2 _ _ hc)),?_);erw[j0 (ws:=Bs.map V.ref) (λZ=>∃a b,Z=[a,b]) (none,none,rfl) (by rw[au];lia) (λH' s'=>(_,ah.of (s' _ _ (s2 _ _ hc)),by rw[au,au];lia)) (λi H' hi s'=>?_) ?_]
  .rw[au,lB]at hi;let(t,B,r,e1,_):=row i hi;show(_,.ref t,ah.of (s' _ _ (s2 _ _ hc)),by rw[aH,e1];rfl)
  .ext i w' x Z' H' H3 R R0 hw ⟨a,b,rfl⟩ s' ⟨rfl,hy⟩ hR
   let hi:i<ch.length:=by
    rcases fq i ch.length with h|h
    .show h
    .rw[gp (by rw[au];lia)]at hw;cases hw
   let(t,B,r,e1,e2,e3,g1,g2):=row i hi;let e:=hy _ (ah.of (s' _ _ (s2 _ _ hc)));rw[aH,e1]at e;cases e;rw[aH,e2]at hw;cases hw;erw[iV (az.of (s' _ _ (s2 _ _ g1))) rfl]
   kd_p
   erw[br]
   kd_p
   show hR _ _ (_,_,rfl) s'
  ext H1 s1 G hG;let s3:=s2.trans (s1.trans (ax (o:=.lst (Bs.map V.ref)) hG));let RT:=(s1.trans (ax (o:=.lst (Bs.map V.ref)) hG)) _ _ RG;let hG3:aa H1 G (.lst (Bs.map V.ref)) G=some (.lst (Bs.map V.ref)):=ar;generalize aa H1 G (.lst (Bs.map V.ref))=H3 at s3 hG3 RT⊢;clear s1 hG s2 RG;let hc3:=s3 _ _ hc
  kd_p
  rw[au,lt]
  let e0:decide (V.int (ch.length:Int)=V.int 0)=decide (ch=[]):=by
   apply decide_eq_decide.mpr;constructor
   .ext h;injection h with h;show Rg.mp ()
   .ext rfl;rfl
  rw[e0]
  cases h0:decide (ch=[])with
  |true=>
   rw[h0]at k;show br (br (jh (di (k _ s3))))
  |false=>
   rw[h0,Bool.not_false,j8]at k;let SQ:ch≠[]:=ux h0;let RB:1<=ch.length:=Ri.mpr SQ;erw[bB]
   kd_p
   show(D,rfl,(_,ah.of RT),?_);erw[j0 (ws:=ch.map λr=>V.bl (cB 1 400 r.1)) (λZ=>∃a,Z=[a]) (none,rfl) (by rw[au];lia) (λH' s'=>(_,ah.of (s' _ _ RT),by rw[au,au,au];show aD _)) (λi H' hi s'=>?_) ?_]
   .rw[au]at hi;let(r,e3):=jt (xs:=ch) rfl hi;show(_,.int r.1,ah.of (s' _ _ RT),by rw[aH,aH,e3];rfl)
   .ext i w' x Z' H' H4 R R0 hw ⟨a,rfl⟩ s' ⟨rfl,hy⟩ hR;let e:=hy _ (ah.of (s' _ _ RT));rw[aH]at hw;rw[aH,aH]at e
    cases hi:ch[i]? with
    |none=>rw[hi]at e;cases e
    |some r=>
     rw[hi]at e hw;cases e;cases hw
     kd_p
     erw[br]
     kd_p
     show(r.1,rfl,hR _ _ (_,rfl) s')
   ext H1 s1 E hE
   kd_p
   show(E,ch.map λr=>cB 1 400 r.1,rfl,ah.of (by rw[ar,du];rfl),?_)
   let ea:(ch.map λr=>cB 1 400 r.1).all id=ch.all λr=>cB 1 400 r.1:=by rw[q_];rfl
   rw[ea];let s4:=s1.trans (ax (o:=.lst (ch.map λr=>V.bl (cB 1 400 r.1))) hE);generalize aa H1 E (.lst (ch.map λr=>V.bl (cB 1 400 r.1)))=H4 at s4⊢;clear s1 hE;let s04:=s3.trans s4
   kd_p
   cases hd:ch.all λr=>cB 1 400 r.1 with
   |false=>
    rw[hd,ot]at k;show br (br (jh (di (k _ s04))))
   |true=>
    rw[hd,j8]at k;erw[bB]
    kd_p
    show(D,ch.map (·.1),rfl,.inl (ah.of (s4 _ _ RT)),by rw[au];show RB,by rw[au];lia,λH5 s5=>?_);let Wc:=s04.trans s5
    kd_p
    cases hri:gC (ch.map (·.1))with
    |false=>
     rw[hri,ot]at k;show br (jh (di (k _ Wc)))
    |true=>
     rw[hri,j8]at k;erw[bB];let VX:=(s4.trans s5) _ _ hG3
     kd_p
     show(G,rfl,(_,ah.of VX),?_);erw[j0 (ws:=ch.map λr=>V.bl (eO slip r.2)) (λZ=>∃a,Z=[a,some (.int slip)]) (none,rfl) (by rw[au];lia) (λH' s'=>(_,ah.of (s' _ _ VX),by rw[au,au];lia)) (λi H' hi s'=>?_) ?_]
     .rw[au]at hi;let(t,B,r,e1,e2,_):=row i hi;show(_,.ref B,ah.of (s' _ _ VX),by rw[aH,e2];rfl)
     .ext i w' x Z' H' H6 R R0 hw ⟨a,rfl⟩ s' ⟨rfl,hy⟩ hR
      let hi:i<ch.length:=by
       rcases fq i ch.length with h|h
       .show h
       .rw[gp (by rw[au];lia)]at hw;cases hw
      let(t,B,r,e1,e2,e3,g1,g2):=row i hi;let e:=hy _ (ah.of (s' _ _ VX));rw[aH,e2]at e;cases e;rw[aH,e3]at hw;cases hw
      kd_p
      erw[br]
      kd_p
      show(slip,B,r.2,rfl,az.of (s' _ _ (Wc _ _ g2)),hsz r (dr e3),λH7 s7=>hR _ _ (_,rfl) (s'.trans s7))
     ext H1 s1 E2 hE2
     kd_p
     show(E2,ch.map λr=>eO slip r.2,rfl,ah.of (by rw[ar,du];rfl),?_)
     let eb:(ch.map λr=>eO slip r.2).all id=ch.all λr=>eO slip r.2:=by rw[q_];rfl
     rw[eb];let s6:=s1.trans (ax (o:=.lst (ch.map λr=>V.bl (eO slip r.2))) hE2);generalize aa H1 E2 (.lst (ch.map λr=>V.bl (eO slip r.2)))=H6 at s6⊢;let s06:=Wc.trans s6;let hG6:=s6 _ _ VX;clear s1 hE2
     kd_p
     cases Zc:ch.all λr=>eO slip r.2 with
     |false=>
      rw[Zc,ot]at k;show br (jh (di (k _ s06)))
     |true=>
      rw[Zc,j8]at k;erw[bB]
      kd_p
      ext G2 hG2;rw[Fm (by rw[au];lia)];let s7:=ax (o:=.lst ((Bs.map V.ref).drop 1)) hG2;let UY:aa H6 G2 (.lst ((Bs.map V.ref).drop 1)) G2=some (.lst ((Bs.map V.ref).drop 1)):=ar;generalize aa H6 G2 (.lst ((Bs.map V.ref).drop 1))=H7 at s7 UY⊢;let Zg:=s7 _ _ hG6;let Zx:=s06.trans s7
      kd_p
      show(G,G2,rfl,.inl (_,_,ah.of Zg,ah.of UY,?_))
      let lz:((ch.zip (ch.drop 1)).map λp=>V.bl (dk p.1.2 p.2.2)).length=ch.length - 1:=by rw[au,List.length_zip,qQ];lia
      erw[j0 (ws:=(ch.zip (ch.drop 1)).map λp=>V.bl (dk p.1.2 p.2.2)) (λZ=>∃a b,Z=[a,b]) (none,none,rfl) () (λH' s'=>(_,_,ah.of (s' _ _ Zg),ah.of (s' _ _ UY),.inr (by rw[qQ,au];lia))) (λi H' hi s'=>?_) ?_]
      .rw[lz]at hi;let(t,B,r,_,e2,_):=row i ();let(t',B',r',_,Yy,_):=row (i+1) ();show(_,_,.ref B,.ref B',ah.of (s' _ _ Zg),ah.of (s' _ _ UY),by rw[aH,e2];rfl,by rw[uy,qX 1 i,aH,Yy];rfl)
      .ext i w' x Z' H' H8 R R0 hw ⟨a,b,rfl⟩ s' ⟨T',u,v,rfl,hn,rfl,q⟩ hR
       let hi:i<ch.length - 1:=by
        rcases fq i (ch.length - 1)with h|h
        .show h
        .rw[gp (by rw[lz];show h)]at hw;cases hw
       let(t,B,r,_,e2,e3,_,g2):=row i ();let(t',B',r',_,Yy,Yx,_,g2'):=row (i+1) ();let(q1,q2):=q _ _ (ah.of (s' _ _ Zg)) (ah.of (s' _ _ UY));rw[aH,e2]at q1;rw[uy,qX 1 i,aH,Yy]at q2;cases q1;cases q2
       let ez:(ch.zip (ch.drop 1))[i]?=some (r,r',):=by
        rw[List.getElem?_zip_eq_some];show(e3,by rw[uy,qX 1 i];show Yx)
       rw[aH,ez]at hw;cases hw;let sn:=ax (o:=.tup [.ref B,.ref B']) hn;erw[iV (az.of ar) rfl]
       kd_p
       erw[br]
       kd_p
       show(B,B',r.2,r'.2,rfl,.inr (az.of (sn _ _ (s' _ _ (Zx _ _ g2)))),.inr (az.of (sn _ _ (s' _ _ (Zx _ _ g2')))),hsz r (dr e3),hsz r' (dr Yx),λH9 s9=>hR _ _ (_,_,rfl) ((s'.trans sn).trans s9))
      ext H1 s1 E3 hE3
      kd_p
      show(E3,(ch.zip (ch.drop 1)).map λp=>dk p.1.2 p.2.2,rfl,ah.of (by rw[ar,du];rfl),?_)
      let ep:((ch.zip (ch.drop 1)).map λp=>dk p.1.2 p.2.2).all id=pW ch:=by rw[q_];rfl
      rw[ep];show k _ (Zx.trans (s1.trans (ax hE3)))
def tQ(n:Nat):(List.replicate n true).all id=true:=by
 grind
def tR{p:Addr}{xs:LT}{te:TE}{fr:St}{H1:Hp}{Fin:LT->Hp->Prop}(hp:H1 p=some (.tup xs))(hl:xs.length<=100)
  (step:∀x H' (R:VK),x∈xs->aC H1 H'->(∀H3,aC H1 H3->R (.bl true) H3)->te (some x::fr) H' R) (fin:∀H',aC H1 H'->Fin ((List.replicate xs.length true).map V.bl) H'):jf (jM K p) (dB 0) gP te Fin (none::fr) H1:=by
 let lw:((List.replicate xs.length true).map V.bl).length=xs.length:=∅
 show j0 (ws:=(List.replicate xs.length true).map V.bl) (λZ=>∃x,Z=x::fr) (none,rfl) () (λH' s'=>(_,az.of (s' _ _ hp),())) (λi H' hi s'=>(_,_,az.of (s' _ _ hp),aK ())) ?_ fin;ext i wv x Z' H' H2 R R0 hw ⟨x0,rfl⟩ s' ⟨rfl,hy⟩ hR;let ex:=hy _ (az.of (s' _ _ hp))
 let ew:wv=.bl true:=by
  rw[aH,List.getElem?_replicate]at hw;split at hw
  .cases hw;rfl
  .cases hw
 subst ew;erw[gz,k_,br];show step x _ _ (dr ex) s' λH3 s3=>hR _ _ (_,rfl) s3
def pX:Sp:=λvs H Q _=>∃x:Int,vs=[.int x]/\Q (.bl true) H
abbrev xS:Stmt:=bj 44
def Nu:bc ["thing"] ["thing"] (aW xS):=bh
def Nv{f:Addr}{fd:FuncData}(F:aY K "is_number" "is_number" xS f fd)(T:bC mg):aN P w K mg base aU 1 f fd ["thing"] pX:=by
 show F.ok Nu (λvs H Q E h=>?_) (λaP A outer s H vs Q E hr h=>?_)
 .let(x,rfl,_):=h;rfl
 .let(x,rfl,k):=h;show(_,(aA (aQ (gw (cg (sj (K:=K) rfl) (by rfl) T.z_isinstance r_ (ab (pv 0) (ab (rq (v:=.ty "int") (by rfl) T.z_int n9 rfl) ak))) (iq (BU (cg (sj (K:=K) rfl) (by rfl) T.z_isinstance r_ (ab (pv 0) (ab (rq (v:=.ty "bool") (by rfl) T.z_bool IW rfl) ak)))))))),?_)
  let kn:pq K H (.int x) "int":=(.int x,by decide)
  kd_p
  erw[br]
  kd_p
  show k
def tT:Sp:=λvs H Q _=>∃(p:Addr) (ns:LE),vs=[.ref p]/\H p=some (.tup (ns.map V.int))/\ns.length<=100/\∀H',aC H H'->Q (.bl true) H'
abbrev xT:Stmt:=bj 45
def Nx:bc ["thing"] ["thing"] (aW xT):=bh
def Ny{f:Addr}{fd:FuncData}(F:aY K "are_numbers" "are_numbers" xT f fd)(T:bC mg)(kH:ba P w K mg base "is_number" 1 ["thing"] pX):aN P w K mg base aU 2 f fd ["thing"] tT:=by
 show F.ok Nx (λvs H Q E h=>?_) (λaP A outer s H vs Q E hr h=>?_)
 .let(p,ns,rfl,_):=h;rfl
 .let(p,ns,rfl,hp,hl,k):=h;show(_,(aA (aQ (gw (cg (sj (K:=K) rfl) (by rfl) T.z_isinstance r_ (ab (pv 0) (ab (rq (v:=.ty "tuple") (by rfl) T.z_tuple vJ rfl) ak))) (iq (cg (iC (K:=K) rfl rfl) (by rfl) T.z_all iA (ab (dU rfl (cX ["one"] []) (dO (K:=K) rfl (pv 0)) (by ext _ _ _ _ _;show(qG 0)) (by ext _ _ _ _ _;show cD) (by ext _ _ _ _ _;show(pC kH (ab (pv 0) ak)))) ak)))))),?_)
  let kn:pq K H (.ref p) "tuple":=(.tup hp,by decide)
  kd_p
  erw[br]
  kd_p
  show(p,rfl,(_,az.of hp),?_);show tR hp ⋯ (λx H' R hx s' q=>?_) λH1 s1 D hD=>?_
  .let(y,_,rfl):=Ag.mp hx
   kd_p
   show(y,rfl,q _ s')
  .kd_p
   show(D,_,rfl,ah.of ar,?_);rw[tQ];show k _ (s1.trans (ax hD))
def tU(K:W.Frag):Sp:=λvs H Q _=>∃(p:Addr) (ns:LE),vs=[.ref p]/\eV K H p (ns.map V.int)/\ns.length<64/\ns.Nodup/\∀H',aC H H'->Q (.bl true) H'
abbrev xU:Stmt:=bj 46
def Nz:bc ["numbers"] ["numbers"] (aW xU):=bh
def NA{f:Addr}{fd:FuncData}(F:aY K "are_unlike" "are_unlike" xU f fd)(T:bC mg):aN P w K mg base aU 1 f fd ["numbers"] (tU K):=by
 show F.ok Nz (λvs H Q E h=>?_) (λaP A outer s H vs Q E hr h=>?_)
 .let(p,ns,rfl,_):=h;rfl
 .let(p,ns,rfl,hp,hl,nd,k):=h;show(_,(aA (aQ (qC eG (cg (pE (w:=w) rfl) (by rfl) T.z_len kY (ab (eI (jj (K:=K) (w:=w) rfl rfl rfl) (by rfl) T.z_set jg (ab (pv 0) ak)) ak)) (qN K T (pv 0))))),?_)
  kd_p
  show jk hp () λa ks ha Wg mem=>?_;let s1:=ax (o:=cq w a ks) ha
  kd_p
  erw[pF ar];rw[jW Wg mem]
  kd_p
  erw[L0 (hp.same s1)]
  kd_p
  rw[au,<-jW nd λ_=>Iff.rfl,cY rfl];show k _ s1
def xV:Sp:=λvs H Q _=>∃(p:Addr) (ns:LE),vs=[.ref p]/\H p=some (.tup (ns.map V.int))/\1<=ns.length/\ns.length<=100/\(∀x∈ns,1<=x/\x<=60)/\∀H',aC H H'->Q (.bl true) H'
abbrev xW:Stmt:=bj 47
def NB:bc ["thing"] ["thing"] (aW xW):=bh
def NC{f:Addr}{fd:FuncData}(F:aY K "are_timbers" "are_timbers" xW f fd)(T:bC mg)(oE:ba P w K mg base "are_numbers" 2 ["thing"] tT)(kG:ba P w K mg base "is_timber" 1 ["number"] (gH 1 60)):aN P w K mg base aU 3 f fd ["thing"] xV:=by
 show F.ok NB (λvs H Q E h=>?_) (λaP A outer s H vs Q E hr h=>?_)
 .let(p,ns,rfl,_):=h;rfl
 .let(p,ns,rfl,hp,l1,hl,hm,k):=h;show(_,(aA (aQ (gw (pC oE (ab (pv 0) ak)) (gw (qC dI (qN K T (pv 0)) ay) (iq (cg (iC (K:=K) rfl rfl) (by rfl) T.z_all iA (ab (dU rfl (cX ["one"] []) (dO (K:=K) rfl (pv 0)) (by ext _ _ _ _ _;show(qG 0)) (by ext _ _ _ _ _;show cD) (by ext _ _ _ _ _;show(pC kG (ab (pv 0) ak)))) ak))))))),?_)
  kd_p
  show(p,ns,rfl,hp,hl,λH1 s1=>?_);let SO:=s1 _ _ hp
  kd_p
  erw[br]
  kd_p
  rw[au,cY (show(0:Int)<(ns.length:Int) by lia)];erw[br]
  kd_p
  show(p,rfl,(_,az.of SO),?_);show tR SO (by rw[au];show hl) (λx H' R hx s' q=>?_) λH2 s2 D hD=>?_
  .let(y,hy,rfl):=Ag.mp hx
   kd_p
   show(y,rfl,?_);rw[lC (hm y hy).1 (hm y hy).2];show q _ s'
  .kd_p
   show(D,_,rfl,ah.of ar,?_);rw[tQ];show k _ (s1.trans (s2.trans (ax hD)))
def tV:Sp:=λvs H Q _=>∃d p:Int,vs=[.int d,.int p]/\Q (.int (10*d+p)) H
abbrev xX:Stmt:=bj 25
def ND:bc ["day","place"] ["day","place"] (aW xX):=bh
def NF{f:Addr}{fd:FuncData}(F:aY K "name_of" "name_of" xX f fd):aN P w K mg base aU 1 f fd ["day","place"] tV:=by
 show F.ok ND (λvs H Q E h=>?_) (λaP A outer s H vs Q E hr h=>?_)
 .let(d,p,rfl,_):=h;rfl
 .let(d,p,rfl,k):=h;show(_,(aA (aQ (bg cT (bg fH ay (pv 0)) (pv 1)))),?_)
  kd_p
  show k
abbrev xY:Stmt:=bj 26
def NG:bc ["number"] ["number"] (aW xY):=bh
def NH{f:Addr}{fd:FuncData}(F:aY K "is_name" "is_name" xY f fd){t1 t2:Tok}(hLD:mg "LAST_DAY"=some (.int 400 t1))(WH:mg "MOST_BOATS"=some (.int 8 t2))(mL:ba P w K mg base "name_of" 1 ["day","place"] tV):aN P w K mg base aU 2 f fd ["number"] (gH 10 4007):=by
 show F.ok NG (λvs H Q E h=>?_) (λaP A outer s H vs Q E hr h=>?_)
 .let(x,rfl,_):=h;rfl
 .let(x,rfl,k):=h;show(_,(aA (aQ (mT gM gM (pC mL (ab ay (ab ay ak))) (pv 0) (pC mL (ab (fz (v:=.int 400) (by rfl) hLD (_,rfl)) (ab (bg mQ (fz (v:=.int 8) (by rfl) WH (_,rfl)) ay) ak)))))),?_);erw[jh];show pU (lo:=10) (x:=x) (hi:=4007) (λ_ q=>?_) (λ_ q=>dW rfl q) (λ_ q=>?_) k
  .kd_p
   show(1,0,rfl,q)
  .kd_p
   show(400,7,rfl,q)
def xZ:Sp:=λvs H Q _=>∃(p:Addr) (ns:LE),vs=[.ref p]/\H p=some (.tup (ns.map V.int))/\ns.length<=8/\(∀x∈ns,10<=x/\x<=4007)/\ns.Nodup/\∀H',aC H H'->Q (.bl true) H'
abbrev x_:Stmt:=bj 48
def NI:bc ["thing"] ["thing"] (aW x_):=bh
def NJ{f:Addr}{fd:FuncData}(F:aY K "are_names" "are_names" x_ f fd)(T:bC mg){t2:Tok}(WH:mg "MOST_BOATS"=some (.int 8 t2))(oE:ba P w K mg base "are_numbers" 2 ["thing"] tT)(AK:ba P w K mg base "is_name" 2 ["number"] (gH 10 4007))(oF:ba P w K mg base "are_unlike" 1 ["numbers"] (tU K)):aN P w K mg base aU 3 f fd ["thing"] xZ:=by
 show F.ok NI (λvs H Q E h=>?_) (λaP A outer s H vs Q E hr h=>?_)
 .let(p,ns,rfl,_):=h;rfl
 .let(p,ns,rfl,hp,hl,hm,nd,k):=h
  show(_,(aG (bx ((hU (fu (eh (pC oE (ab (pv 0) ak)))) (iT (qE dI (qN K T (pv 0)) (fz (v:=.int 8) (by rfl) WH (_,rfl)))))).pt (aA (aQ fQ)) bD)
   (aA (aQ (gw (cg (iC (K:=K) rfl rfl) (by rfl) T.z_all iA (ab (dU rfl (cX ["one"] []) (dO (K:=K) rfl (pv 0)) (by ext _ _ _ _ _;show(qG 0)) (by ext _ _ _ _ _;show cD) (by ext _ _ _ _ _;show(pC AK (ab (pv 0) ak)))) ak)) (iq (pC oF (ab (pv 0) ak))))))),?_)
  kd_p
  show(p,ns,rfl,hp,(),λH1 s1=>?_);let SO:=s1 _ _ hp
  kd_p
  erw[bB]
  kd_p
  rw[au,cW (show ¬(ns.length:Int) >8 by lia)];erw[bB]
  kd_p
  show(p,rfl,(_,az.of SO),?_);show tR SO (by rw[au];lia) (λx H' R hx s' q=>?_) λH2 s2 D hD=>?_
  .let(y,hy,rfl):=Ag.mp hx
   kd_p
   show(y,rfl,?_);rw[lC (hm y hy).1 (hm y hy).2];show q _ s'
  .let s3:=s2.trans (ax (o:=.lst ((List.replicate (ns.map V.int).length true).map V.bl)) hD)
   kd_p
   show(D,_,rfl,ah.of ar,?_);rw[tQ]
   kd_p
   erw[br]
   kd_p
   show(p,ns,rfl,.inr (az.of (s3 _ _ SO)),(),nd,λH4 s4=>k _ (s1.trans (s3.trans s4)))
def j4(H:Hp)(p:Addr)(ag:List LE):Prop:=∃ts:Tk,H p=some (.tup (ts.map V.ref))/\jX H ts ag
def j4.same{H H':Hp}{p:Addr}{ag:List LE}(s:aC H H')(h:j4 H p ag):j4 H' p ag:=by
 let(ts,h1,h2):=h;show(ts,s _ _ h1,h2.same s)
def Fo{te:TE}{φ:Int->V}{p:Addr}{ts:Tk}{ag:List LE}{H1:Hp}{fr:St}{Fin:LT->Hp->Prop}(hp:H1 p=some (.tup (ts.map V.ref)))(SE:jX H1 ts ag)(hl:ag.flatten.length<1000)(he:∀z∈ag.flatten,∀x (R:VK),R (φ z) H1->te (x::some (.int z)::fr) H1 R)(fin:Fin (ag.flatten.map φ) H1):
  n8 (jM K p) (dB 0) gP (mP K (eT 0)) (dB 1) gP te Fin (none::none::fr) H1:=by
 let lt:ts.length=ag.length:=SE.1;erw[vD (λi ys Z' H'=>(∃x y,Z'=x::y::fr)/\H'=H1/\ys=((ag.take i).flatten).map φ) ag.length ((none,none,rfl),rfl,rfl) ?_]
 .ext ys Z' H' ⟨_,rfl,rfl⟩;rw[ku (aD _)];show((_,az.of hp,by rw[au];lia),fin)
 .ext i ys Z' H' hi ⟨⟨x,y,rfl⟩,rfl,rfl⟩
  let Vv:i<ts.length:=()
  let e1:ts[i]?=some ts[i]:=aK Vv;let e2:ag[i]?=some ag[i]:=aK hi;let ht:=SE.2 i _ _ e1 e2;show((_,.ref ts[i],az.of hp,by rw[aH,e1];rfl),?_);ext x' G ⟨rfl,hy⟩;let ex:=hy _ (az.of hp);rw[aH,e1]at ex;cases ex
  let et:ag.take (i+1)=ag.take i++[ag[i]]:=by rw[il,e2];rfl
  let lf:((ag.take i).flatten).length+ag[i].length<=ag.flatten.length:=by
   have:ag.flatten=(ag.take (i+1)).flatten++(ag.drop (i+1)).flatten:=by rw[<-kz,qK]
   grind
  erw[gz,k_,br]
  kd_p
  show(ts[i],rfl,(_,az.of ht),?_);erw[vC (λj ys Z' H'=>(∃y,Z'=some (.ref ts[i])::y::fr)/\H'=G/\ys=((ag.take i).flatten++ag[i].take j).map φ) ag[i].length ((_,rfl),rfl,by rw[AE,jD]) ?_]
  .ext ys Z' H' ⟨⟨y,rfl⟩,rfl,rfl⟩;show((_,az.of ht,by rw[au];show aD _),?_);show cu hi ((_,_,rfl),rfl,?_)
   grind
  .ext j ys Z' H' hj ⟨⟨y,rfl⟩,rfl,rfl⟩;let f1:ag[i][j]?=some ag[i][j]:=aK hj;show((_,.int ag[i][j],az.of ht,by rw[aH,f1];rfl),cM (show _<1000 by rw[au,c6,d_];lia) (by decide),?_);ext x' G' ⟨rfl,hy⟩;let ex:=hy _ (az.of ht);rw[aH,f1]at ex;cases ex;erw[gz,k_,br,he _ (Rf.mpr (_,cG hi,cG hj)) _ _];show cu hj ((_,rfl),rfl,?_);rw[il,f1]
   grind
def Fp{p:Addr}{ts:Tk}{ag:List LE}{H1:Hp}{fr:St}{Fin:LT->Hp->Prop}(hp:H1 p=some (.tup (ts.map V.ref)))(SE:jX H1 ts ag)(hl:ag.flatten.length<1000)(fin:Fin (ag.flatten.map V.int) H1):
  n8 (jM K p) (dB 0) gP (mP K (eT 0)) (dB 1) gP (eT 1) Fin (none::none::fr) H1:=Fo hp SE hl (λ_ _ _ _ q=>dW rfl q) fin
structure i6(slip:Int)(ag:List LE):Prop where
 l:ag.length<=8
 e:∀s∈ag,1<=s.length/\(s.length:Int)<=slip/\∀x∈s,1<=x/\x<=60
 nd:ag.flatten.Nodup
 fl:ag.flatten.length<64
def y6:Sp:=λvs H Q _=>∃(slip:Int) (p:Addr) (ag:List LE),vs=[.int slip,.ref p]/\j4 H p ag/\slip<=12/\i6 slip ag/\∀H',aC H H'->Q (.bl true) H'
abbrev y7:Stmt:=bj 49
def NK:bc ["slip","thing"] ["slip","thing"] (aW y7):=bh
def NL{f:Addr}{fd:FuncData}(F:aY K "are_sets" "are_sets" y7 f fd)(T:bC mg){t2:Tok}(WH:mg "MOST_BOATS"=some (.int 8 t2))(AL:ba P w K mg base "are_timbers" 3 ["thing"] xV)(oF:ba P w K mg base "are_unlike" 1 ["numbers"] (tU K)):aN P w K mg base aU 4 f fd ["slip","thing"] y6:=by
 show F.ok NK (λvs H Q E h=>?_) (λaP A outer s H vs Q E hr h=>?_)
 .let(slip,p,ag,rfl,_):=h;rfl
 .let(slip,p,ag,rfl,(ts,hp,SE),z,ok,k):=h
  show(_,(aG (bx ((hU (fu (eh (cg (sj (K:=K) rfl) (by rfl) T.z_isinstance r_ (ab (pv 1) (ab (rq (v:=.ty "tuple") (by rfl) T.z_tuple vJ rfl) ak))))) (iT (qE dI (qN K T (pv 1)) (fz (v:=.int 8) (by rfl) WH (_,rfl)))))).pt (aA (aQ fQ)) bD)
   (aG (bx (fu (eh (cg (iC (K:=K) rfl rfl) (by rfl) T.z_all iA (ab (dU rfl (cX ["timbers"] [(0,"slip",)]) (dO (K:=K) rfl (pv 1)) (by ext _ _ _ _ _;show(qG 0)) (by ext _ _ _ _ _;show cD) (by ext _ _ _ _ _;show(gw (pC AL (ab (pv 0) ak)) (iq (qC gM (qN K T (pv 0)) (pv 1)))))) ak)))) (aA (aQ fQ)) bD)
   (aA (aQ (pC oF (ab (pj rfl (cX ["timbers","timber"] []) (dO (K:=K) rfl (pv 1)) (by ext _ _ _ _ _;show(qG 0)) (by ext _ _ _ _ _;show cD) (by ext _ _ _ _ _;show(pv 1)) (by ext _ _ _ _ _;show(dO (K:=K) rfl (pv 0))) (by ext _ _ _ _ _;show(qG 1)) (by ext _ _ _ _ _;show cD)) ak)))))),?_)
  let kn:pq K H (.ref p) "tuple":=(.tup hp,by decide)
  let lt:ts.length=ag.length:=SE.1;let l8:=ok.l
  kd_p
  erw[bB]
  kd_p
  rw[au,cW (show ¬(ts.length:Int) >8 by lia)];erw[bB]
  kd_p
  show(p,rfl,(_,az.of hp),?_);show tR hp (by rw[au];lia) (λx H' R hx s' q=>?_) λH2 s2 D hD=>?_
  .let(t,ht,rfl):=Ag.mp hx;let(i,hi,rfl):=Re.mp ht;let e2:ag[i]?=some (ag[i]'()):=aK ();let Y5:=s' _ _ (SE.2 i _ _ (aK hi) e2);let(o1,o2,o3):=ok.e _ (dr e2)
   kd_p
   show(_,_,rfl,Y5,o1,(),o3,λH3 s3=>?_);let jd9:=s3 _ _ Y5
   kd_p
   erw[br]
   kd_p
   rw[au,cY o2];show q _ (s'.trans s3)
  .let s3:=s2.trans (ax (o:=.lst ((List.replicate (ts.map V.ref).length true).map V.bl)) hD);let Wm:=s3 _ _ hp
   kd_p
   show(D,_,rfl,ah.of ar,?_);rw[tQ];generalize aa H2 D (.lst ((List.replicate (ts.map V.ref).length true).map V.bl))=H3 at s3 Wm⊢
   kd_p
   erw[bB]
   kd_p
   show(p,rfl,(_,az.of Wm),?_);show Fp Wm (SE.same s3) (by have:=ok.fl;lia) λD2 RG=>?_;let s4:=ax (o:=.lst (ag.flatten.map V.int)) RG
   kd_p
   show(D2,_,rfl,.inl (ah.of ar),ok.fl,ok.nd,λH5 s5=>k _ (s3.trans (s4.trans s5)))
def y8:Sp:=λvs H Q _=>∃(s x:Int) (p:Addr),vs=[.int s,.ref p]/\H p=some (.tup [.int x])/\1<=x/\x<=60/\Q (.bl true) H
abbrev ya:Stmt:=bj 50
def NM:bc ["slip","asked"] ["slip","asked"] (aW ya):=bh
def NN{f:Addr}{fd:FuncData}(F:aY K "fell_is_sound" "fell_is_sound" ya f fd)(T:bC mg){tk:Tok}(Yn:mg "MOST_TIMBERS"=some (.int 60 tk))(kH:ba P w K mg base "is_number" 1 ["thing"] pX):aN P w K mg base aU 2 f fd ["slip","asked"] y8:=by
 show F.ok NM (λvs H Q E h=>?_) (λaP A outer s H vs Q E hr h=>?_)
 .let(_,_,_,rfl,_):=h;rfl
 .let(sl,x,p,rfl,hp,h1,h2,k):=h;show(_,(aA (aQ (gw (qC eG (qN K T (pv 1)) ay) (gw (pC kH (ab (qT K (pv 1) ay) ak)) (iq (mT gM gM ay (qT K (pv 1) ay) (fz (v:=.int 60) (by rfl) Yn (_,rfl)))))))),?_)
  kd_p
  erw[br]
  kd_p
  show(x,rfl,?_)
  kd_p
  erw[br]
  kd_p
  rw[cY h1];erw[br]
  kd_p
  rw[cY h2];show k
def yc:Sp:=λvs H Q _=>∃(s x:Int) (p:Addr),vs=[.int s,.ref p]/\H p=some (.tup [.int x])/\1<=x/\x<=60/\Q (.bl true) H
abbrev yd:Stmt:=bj 54
def NO:bc ["slip","asked"] ["slip","asked"] (aW yd):=bh
def NP{f:Addr}{fd:FuncData}(F:aY K "clear_is_sound" "clear_is_sound" yd f fd)(T:bC mg)(kH:ba P w K mg base "is_number" 1 ["thing"] pX)(kG:ba P w K mg base "is_timber" 1 ["number"] (gH 1 60)):aN P w K mg base aU 2 f fd ["slip","asked"] yc:=by
 show F.ok NO (λvs H Q E h=>?_) (λaP A outer s H vs Q E hr h=>?_)
 .let(_,_,_,rfl,_):=h;rfl
 .let(sl,x,p,rfl,hp,h1,h2,k):=h;show(_,(aA (aQ (gw (qC eG (qN K T (pv 1)) ay) (gw (pC kH (ab (qT K (pv 1) ay) ak)) (iq (pC kG (ab (qT K (pv 1) ay) ak))))))),?_)
  kd_p
  erw[br]
  kd_p
  show(x,rfl,?_)
  kd_p
  erw[br]
  kd_p
  show(x,rfl,?_);rw[lC h1 h2];show k
def ye:Sp:=λvs H Q _=>∃(s:Int) (p a b:Addr) (ns:LE) (ag:List LE),vs=[.int s,.ref p]/\H p=some (.tup [.ref a,.ref b])/\H a=some (.tup (ns.map V.int))/\j4 H b ag/\s<=12/\ns.length<=8/\(∀x∈ns,10<=x/\x<=4007)/\ns.Nodup/\i6 s ag/\1<=ns.length+ag.length/\∀H',aC H H'->Q (.bl true) H'
abbrev yf:Stmt:=bj 51
def NQ:bc ["slip","asked"] ["slip","asked"] (aW yf):=bh
def NR{f:Addr}{fd:FuncData}(F:aY K "refit_is_sound" "refit_is_sound" yf f fd)(T:bC mg)(AM:ba P w K mg base "are_names" 3 ["thing"] xZ)(AN:ba P w K mg base "are_sets" 4 ["slip","thing"] y6):aN P w K mg base aU 5 f fd ["slip","asked"] ye:=by
 show F.ok NQ (λvs H Q E h=>?_) (λaP A outer s H vs Q E hr h=>?_)
 .let(_,_,_,_,_,_,rfl,_):=h;rfl
 .let(sl,p,a,b,ns,ag,rfl,hp,ha,hb,z,l8,hm,nd,ok,l1,k):=h
  show(_,(aG (bx ((hU (qE jO (qN K T (pv 1)) ay) (hU (fu (eh (pC AM (ab (qT K (pv 1) ay) ak)))) (iT (fu (eh (pC AN (ab (pv 0) (ab (qT K (pv 1) ay) ak))))))))).pt (aA (aQ fQ)) bD)
   (aA (aQ (GV (qC dI (qN K T (qT K (pv 1) ay)) ay) (iq (qC dI (qN K T (qT K (pv 1) ay)) ay)))))),?_)
  kd_p
  erw[bB]
  kd_p
  show(a,ns,rfl,ha,l8,hm,nd,λH1 s1=>?_);let SO:=s1 _ _ hp
  kd_p
  erw[bB]
  kd_p
  show(sl,b,ag,rfl,hb.same s1,z,ok,λH2 s2=>?_);let s12:=s1.trans s2;let Tc:=s12 _ _ hp;let Ur:=s12 _ _ ha;let(ts,Tx,SE):=hb.same s12
  kd_p
  erw[bB]
  kd_p
  show kW (λ_=>k _ s12) (λzz=>?_)
  replace zz:¬(0:Int)<(ns.map V.int).length:=λq=>zz (cY q)
  rw[au]at zz
  kd_p
  rw[au,SE.1,cY (show(0:Int)<(ag.length:Int) by lia)];show k _ s12
inductive fc where
 |fell (n:Int)
 |refit (ns:LE) (ag:List LE)
 |clear (t:Int)
def fT(H:Hp)(p:Addr):fc->Prop
 |.fell n=>H p=some (.tup [.str "fell",.int n])
 |.refit ns ag=>∃a b,H p=some (.tup [.str "refit",.ref a,.ref b])/\H a=some (.tup (ns.map V.int))/\j4 H b ag
 |.clear t=>H p=some (.tup [.str "clear",.int t])
def fc.ok(slip:Int):fc->Prop
 |.fell n=>1<=n/\n<=60
 |.refit ns ag=>slip<=12/\ns.length<=8/\(∀x∈ns,10<=x/\x<=4007)/\ns.Nodup/\i6 slip ag/\1<=ns.length+ag.length
 |.clear t=>1<=t/\t<=60
def fT.same{H H':Hp}{p:Addr}{x:fc}(s:aC H H')(h:fT H p x):fT H' p x:=by
 cases x with
 |fell n=>show s _ _ h
 |refit ns ag=>obtain⟨a,b,h1,h2,h3⟩:=h;show(a,b,s _ _ h1,s _ _ h2,h3.same s)
 |clear t=>show s _ _ h
noncomputable def pY(f1 f2 f3 f4 f5:Addr):List (Str×Addr):=[("fell",f1,),("refit",f2,),("storm",f3,),("find",f3,),("lend",f4,),("pay",f4,),("clear",f5,)]
section
variable{f1 f2 f3 f4 f5:Addr}
def Fq:PyProof.Rows.KTD.datumAt ("fell":Str) (pY f1 f2 f3 f4 f5)=some f1:=by kernel_rfl
def Fs:PyProof.Rows.KTD.datumAt ("refit":Str) (pY f1 f2 f3 f4 f5)=some f2:=by kernel_rfl
def Fu:PyProof.Rows.KTD.datumAt ("clear":Str) (pY f1 f2 f3 f4 f5)=some f5:=by kernel_rfl
end
def yg(v:V)(us:LT):fR (v::us) (some 1) none=us:=by
 let e1:HT.sIx (v::us).length 0 (some (1:Int))=1:=(HT.sIx_nat (v::us).length 0 1).trans (AA ⋯);let e2:HT.sIx (v::us).length (v::us).length none=(v::us).length:=HT.sIx_none _ _;unfold fR
 grind
def yh(v:V)(us:LT){hi:Option Int}:¬(HT.sIx (v::us).length 0 (some (1:Int))=0/\HT.sIx (v::us).length (v::us).length hi=(v::us).length):=by
 let e1:HT.sIx (v::us).length 0 (some (1:Int))=1:=(HT.sIx_nat (v::us).length 0 1).trans (AA ⋯);lia
def pZ{b:Bool}{A B:Prop}(h:b=false)(q:B):if b=true then A else B:=by rw[aO ⋯];show q
def yi:Sp:=λvs H Q _=>∃(s:Int) (p:Addr) (x:fc),vs=[.int s,.ref p]/\fT H p x/\x.ok s/\∀H',aC H H'->Q (.bl true) H'
abbrev yj:Stmt:=bj 56
def NS:bc ["slip","fact","is_sound"] ["slip","fact"] (aW yj):=bh
def NT{f:Addr}{fd:FuncData}(F:aY K "sound" "sound" yj f fd)(T:bC mg){aS f1 f2 f3 f4 f5:Addr}(hS:mg "SOUND"=some (.ref aS))(tS:k7 K aS (pY f1 f2 f3 f4 f5))(c1:k9 P w K mg base f1 5 ["slip","asked"] y8)(c2:k9 P w K mg base f2 5 ["slip","asked"] ye)(c5:k9 P w K mg base f5 5 ["slip","asked"] yc):aN P w K mg base aU 6 f fd ["slip","fact"] yi:=by
 show F.ok NS (λvs H Q E h=>?_) (λaP A outer s H vs Q E hr h=>?_)
 .let(_,p,_,rfl,_):=h;rfl
 .let(sl,p,x,rfl,hx,ok,k):=h
  show(_,(aG (bx ((hU (qE eG (qN K T (pv 1)) ay) (iT (iS (LO (K:=K) rfl (qT K (pv 1) ay) (fz (v:=.ref aS) (by rfl) hS rfl)))))).pt (aA (aQ fQ)) bD)
   (aG (qV 2 (EK (K:=K) rfl (fz (v:=.ref aS) (by rfl) hS rfl) (qT K (pv 1) ay) (λ_ _=>rfl)))
   (aA (aQ (EL (k:=5) (rfl,rfl,rfl,rfl,rfl) (hr.mono ()) (pv 2) (ab (pv 0) (ab (rP (Em (K:=K) rfl) (pv 1) (oW ay) rO) ak))))))),?_)
  cases x with
  |fell n=>
   let hp:H p=some (.tup [.str "fell",.int n]):=hx
   kd_p
   erw[pZ (cW λz=>absurd (V.int.inj z) ⋯)]
   kd_p
   show(aS,_,_,rfl,tS,rfl,?_)
   kd_p
   rw[Fq];erw[bB]
   kd_p
   show(aS,_,_,_,rfl,tS,rfl,Fq,?_)
   kd_p
   show(f1,_,_,rfl,c1,?_)
   kd_p
   show wN (az.of hp) (yh _ _) λq hq=>?_;rw[yg];let s1:=ax (o:=.tup [.int n]) hq
   kd_p
   show(sl,n,q,rfl,ar,ok.1,ok.2,k _ s1)
  |clear n=>
   let hp:H p=some (.tup [.str "clear",.int n]):=hx
   kd_p
   erw[pZ (cW λz=>absurd (V.int.inj z) ⋯)]
   kd_p
   show(aS,_,_,rfl,tS,rfl,?_)
   kd_p
   rw[Fu];erw[bB]
   kd_p
   show(aS,_,_,_,rfl,tS,rfl,Fu,?_)
   kd_p
   show(f5,_,_,rfl,c5,?_)
   kd_p
   show wN (az.of hp) (yh _ _) λq hq=>?_;rw[yg];let s1:=ax (o:=.tup [.int n]) hq
   kd_p
   show(sl,n,q,rfl,ar,ok.1,ok.2,k _ s1)
  |refit ns ag=>
   let(a,b,hp,ha,hb):=hx;let(o1,o2,o3,o4,o5,o6):=ok
   kd_p
   erw[pZ (cW λz=>absurd (V.int.inj z) ⋯)]
   kd_p
   show(aS,_,_,rfl,tS,rfl,?_)
   kd_p
   rw[Fs];erw[bB]
   kd_p
   show(aS,_,_,_,rfl,tS,rfl,Fs,?_)
   kd_p
   show(f2,_,_,rfl,c2,?_)
   kd_p
   show wN (az.of hp) (yh _ _) λq hq=>?_;rw[yg];let s1:=ax (o:=.tup [.ref a,.ref b]) hq
   kd_p
   show(sl,q,a,b,ns,ag,rfl,ar,s1 _ _ ha,hb.same s1,o1,o2,o3,o4,o5,o6,λH' s'=>k _ (s1.trans s'))
structure fK(K:W.Frag)(C:Addr):Prop where
 c:dR K C
 n1:dD K C "most"
 n2:dD K C "day"
 n3:dD K C "lines"
 n4:dD K C "chains"
 n5:dD K C "ends"
 n6:dD K C "debts"
structure nN(K:W.Frag)(C:Addr):Prop where
 c:dR K C
 n1:dD K C "shares"
 n2:dD K C "by_name"
 n3:dD K C "by_timber"
 n4:dD K C "coins"
 n5:dD K C "settled"
structure Bt where
 nm:Int
 ch:List (Int×LE)
 dn:Option Int
noncomputable def Bt.now(b:Bt):LE:=(b.ch.getLast?.map (·.2)).getD []
structure YA where
 (y dx dl dc de db ddx dn dt:Addr)
noncomputable def nO:List Bt->Int->Option Int
 |[],_=>none
 |b::r,t=>if b.dn=none/\t∈b.now then some b.nm else nO r t
def jw(aL:Addr)(H:Hp)(pp:Addr):Option Int->Prop
 |none=>pp=aL
 |some nm=>H pp=some (.tup [.str "boat",.int nm])
noncomputable def bY(f:Nat->Addr)(n:Nat):Tm:=(List.range n).map λi:Nat=>(.inl ((i:Int)+1),.ref (f i),)
def jx(aL:Addr)(H:Hp)(l:Addr)(o:Option Int)(k:Nat):Prop:=∃ws tp d pp,H l=some (.lst (ws++[.ref tp]))/\ws.length<=k/\H tp=some (.tup [.int d,.ref pp])/\jw aL H pp o
noncomputable def cL(g:Int->Addr)(bs:List Bt):Tm:=bs.map λb=>(.inl b.nm,.ref (g b.nm),)
noncomputable def Bt.end(b:Bt):V:=match b.dn with|none=>.non|some d=>.int d
noncomputable def bV(bs:List Bt):Tm:=bs.map λb=>(.inl b.nm,b.end,)
def cV{H:Hp}{d:Addr}{kvs:Tm}{k:aF}(r:Rd H d (.dK kvs)):eN H d (kV k) (aM kvs k):=.inl (kvs,k,r,rfl,rfl)
def NU(d r:Addr)(H H':Hp):Prop:=∀b u,b≠d->b≠r->H b=some u->H' b=some u
def Fv{x b:Addr}{H H':Hp}(s:bS x H H')(nb:b≠x)(h:H' b=none):H b=none:=by
 cases z:H b with
 |none=>rfl
 |some o=>rw[s b o nb z]at h;cases h
def ZK(l:Tm):Prop:=∀p∈l,p.2=V.int 0
def ZK.val{l:Tm}(h:ZK l)(k:aF):(aM l k).getD (.int 0)=.int 0:=by
 cases e:aM l k with
 |none=>rfl
 |some v=>
  unfold aM at e;let(p,hp,rfl):=Rh.mp e;show h p (List.mem_of_find?_eq_some hp)
def ZK.put{l:Tm}(h:ZK l)(k:aF):ZK (bu l k (.int 0)):=by
 ext p hp;unfold bu at hp;split at hp
 .let(q,hq,rfl):=Ag.mp hp;split
  .rfl
  .show h q hq
 .rcases ui.mp hp with z|z
  .show h p z
  .grind
def ZK.drop{l:Tm}(h:ZK l)(k:aF):ZK (iX l k):=λp hp=>h p (Ah.mp hp).1
def NV{dn dt:Addr}{c:Int}:bG "shares" (.int 1) (dF dn dt c)=dF dn dt c:=by kernel_rfl
def NW{dn dt x:Addr}{c:Int}:bG "by_name" (.ref x) (dF dn dt c)=dF x dt c:=by kernel_rfl
def NX{dn dt x:Addr}{c:Int}:bG "by_timber" (.ref x) (dF dn dt c)=dF dn x c:=by kernel_rfl
def NY{dn dt:Addr}{c:Int}:bG "settled" (.int 0) (dF dn dt c)=dF dn dt c:=by kernel_rfl
def yk{H H2:Hp}{d:Addr}{kvs:Tm}{o:Obj}(e:H d=some (.dK kvs))(s:aC (aa H d (.frz o (.dK kvs))) H2):aC H (aa H2 d (.dK kvs)):=λb u z=>by
 by_cases hb:b=d
 .subst hb;rw[e]at z;rw[ar];show z
 .rw[aB hb];show s _ _ (by rw[aB hb];show z)
def NZ{d:Addr}{o:Obj}{l:Tm}{H1:Hp}{D:Addr}{Fin:Hp->Prop}(hz:ZK l)(ll:l.length<900)(nd:(l.map (·.1)).Nodup)(e:H1 d=some (.frz o (.dK l)))(hD:H1 D=none)(fin:∀H',aC H1 H'->H' D=some (.dK l)->Fin H'):
  nK D (tK d o l) (mM K 2 (kM (dB 0) (kM (dB 1) oO))) (eT 0) (iu (rI jN λi j=>.int (i*j)) (eT 2) (eT 1)) Fin [none,none,some (.int 1)] (aa H1 D (.dK [])):=by
 erw[EV (λi Z' H'=>(∃x y,Z'=[x,y,some (.int 1)])/\aC H1 H'/\H' D=some (.dK (l.take i))) l.length ((none,none,rfl),ax hD,ar) ?_]
 .ext Z' H6 ⟨_,s6,e6⟩;rw[fk]at e6;show((s6 _ _ e,aD _),fin _ s6 e6)
 .ext i Z' H6 hi ⟨⟨x,y,rfl⟩,s6,e6⟩;show((s6 _ _ e,hi),?_);ext x' G ⟨T,k,v,ek,rfl,hT,rfl⟩;let hv:=hz _ (dr ek);cases hv;let sT:=ax (o:=.tup [kV k,.int 0]) hT;erw[iV (az.of ar) rfl];let e7:=sT _ _ e6;generalize aa H6 T (.tup [kV k,.int 0])=H7 at sT e7⊢
  w_on
  let nk:aM (l.take i) k=none:=by
   unfold aM;rw[Option.map_eq_none_iff,List.find?_eq_none];ext p hp;rw[gY];ext z;let(j,hj,ej):=Gz hp;rw[d_]at hj
   let hji:j<i:=()
   let e1:l[j]?=some p:=⋯
   have:=(Rc.mp nd) j i ⋯ ⋯ hji
   grind
  show(_,k,e7,rfl,cA ⋯,cu hi ((_,_,rfl),λb u z=>?_,?_))
  .rw[aB (bq z hD)];show sT _ _ (s6 _ _ z)
  .rw[ar,ml _ nk,il,ek];rfl
def Fw{Z:St}{Ha:Hp}{db ddx dn dt:Addr}{c:Int}{fl:Str}{d:Addr}{l:Tm}{nm:Str}{R:VK}(Z_:Z[0]?=some (some (.ref db)))(ZZ:(Z[1]?).join=some (.int 1))(hc:dR K CD)(hn:dD K CD fl)(hf:(dF dn dt c).lookup fl=some (.ref d))(e:Ha db=some (.ins CD ddx (dF dn dt c)))(ed:Ha d=some (.dK l))(hz:ZK l)(ll:l.length<900)(nd:(l.map (·.1)).Nodup)
  (k:∀D H',aC Ha H'->Ha D=none->H' D=some (.dK l)->R (.ref D) H'):
  wO (wV 2 [(1,nm,)] (x9 (rK K (eT 0) fl)) (mM K 2 (kM (dB 0) (kM (dB 1) oO))) (eT 0) (iu (rI jN λi j=>.int (i*j)) (eT 2) (eT 1))) Z Ha R:=by
 show pQ ed λo=>?_
 let ZJ:db≠d:=bp e ed nofun
 erw[EU,Mi];show tD (dW Z_ (tF (by rw[aB ZJ];show e) hf hc hn ?_));show(d,o,l,rfl,rfl,ar,λp hp=>?_)
 let np:d≠p:=λz=>by rw[<-z,ar]at hp;cases hp
 let e2:aa (aa Ha d (.frz o (.dK l))) p (nM p d) d=some (.frz o (.dK l)):=by rw[aB np,ar]
 show(p,d,o,l,rfl,ar,e2,λD hD=>?_)
 let nD:D≠d:=λz=>by rw[z,e2]at hD;cases hD
 let s1:aC (aa Ha d (.frz o (.dK l))) (aa (aa Ha d (.frz o (.dK l))) p (nM p d)):=ax hp
 let es:eZ 2 [(1,nm,)] Z=[none,none,some (.int 1)]:=by
  unfold eZ;simp[ZZ]
 rw[es]
 show NZ hz ll nd e2 hD λH' s' eD=>(s' _ _ e2,?_)
 let ss:=yk ed (s1.trans s');show k D _ ss ?_ (by rw[aB nD];show eD)
 cases q:Ha D with
 |none=>rfl
 |some u=>
  have:=(s1 _ _ (show aa Ha d (.frz o (.dK l)) D=some u by rw[aB nD];show q))
  rw[this]at hD;cases hD
def yl(CD:Addr):Sp:=λvs H Q _=>∃(db ddx dn dt:Addr) (c:Int) (l1 l2:Tm),vs=[.ref db,.int 1]/\H db=some (.ins CD ddx (dF dn dt c))/\H dn=some (.dK l1)/\H dt=some (.dK l2)/\dn≠dt/\ZK l1/\ZK l2/\l1.length<900/\l2.length<900/\(l1.map (·.1)).Nodup/\(l2.map (·.1)).Nodup/\
 ∀Tp Th H',H Tp=none->H Th=none->Tp≠Th->H' db=some (.ins CD ddx (dF Tp Th c))->H' Tp=some (.dK l1)->H' Th=some (.dK l2)->bS db H H'->Q .non H'
abbrev ym:Stmt:=eU (bj 41) 10
def N_:bc ["self","many"] ["self","many"] (aW ym):=bh
def O0{f:Addr}{fd:FuncData}(F:aY K "make_smaller" "Debts.make_smaller" ym f fd)(D:nN K CD):aN P w K mg base aU 1 f fd ["self","many"] (yl CD):=by
 let(hc,n1,n2,n3,n4,n5):=D;show F.ok N_ (λvs H Q E h=>?_) (λaP A outer s H vs Q E hr h=>?_)
 .let(_,_,_,_,_,_,_,rfl,_):=h;rfl
 .let(db,ddx,dn,dt,c,l1,l2,rfl,e,en,et,ne,z1,z2,ZS,Y1,nd1,Wg,k):=h
  show(_,(aG (gh (K:=K) rfl (pv 0) (bg fH (pv 1) (bU (K:=K) rfl (pv 0))) rfl)
   (aG (gh (K:=K) rfl (pv 0) (nJ (wW rfl (cX ["name","owed"] [(1,"many",)]) (F6 (K:=K) rfl (bU (K:=K) rfl (pv 0))) (by ext _ _ _ _ _;show(fJ (K:=K) (n:=2) rfl rfl (by show c9 (qG 0) (c9 (qG 1) fE)))) (by ext _ _ _ _ _;show(pv 0)) (by ext _ _ _ _ _;show(bg fH (pv 2) (pv 1))))) rfl)
   (aG (gh (K:=K) rfl (pv 0) (nJ (wW rfl (cX ["timber","owed"] [(1,"many",)]) (F6 (K:=K) rfl (bU (K:=K) rfl (pv 0))) (by ext _ _ _ _ _;show(fJ (K:=K) (n:=2) rfl rfl (by show c9 (qG 0) (c9 (qG 1) fE)))) (by ext _ _ _ _ _;show(pv 0)) (by ext _ _ _ _ _;show(bg fH (pv 2) (pv 1))))) rfl)
   (aA (gh (K:=K) rfl (pv 0) (bg fH (pv 1) (bU (K:=K) rfl (pv 0))) rfl))))),?_)
  w_on
  rw[show((1:Int)*1)=1 from rfl,NV];let b0:bS db H (aa H db (.ins CD ddx (dF dn dt c))):=fS;let e0:aa H db (.ins CD ddx (dF dn dt c)) db=some (.ins CD ddx (dF dn dt c)):=ar
  let n1':=bp en e nofun
  let n2':=bp et e nofun
  let en0:=b0 _ _ n1' en;let et0:=b0 _ _ n2' et;let f0:∀D,aa H db (.ins CD ddx (dF dn dt c)) D=none->H D=none:=λD hD=>Fv b0 (λz=>by rw[z,e0]at hD;cases hD) hD;generalize aa H db (.ins CD ddx (dF dn dt c))=H0 at b0 e0 en0 et0 f0⊢;show Fw rfl rfl hc n2 xk e0 en0 z1 ZS nd1 λD H1 s1 fD eD=>?_;let e1:=s1 _ _ e0;let ZO:D≠db:=Ne.symm (bq e0 fD);let YO:dt≠db:=n2'
  w_on
  rw[NW];let b1:bS db H (aa H1 db (.ins CD ddx (dF D dt c))):=(b0.trans s1.but).trans fS;let e2:aa H1 db (.ins CD ddx (dF D dt c)) db=some (.ins CD ddx (dF D dt c)):=ar
  let Zj:aa H1 db (.ins CD ddx (dF D dt c)) dt=some (.dK l2):=by rw[aB YO];show s1 _ _ et0
  let eD2:aa H1 db (.ins CD ddx (dF D dt c)) D=some (.dK l1):=by rw[aB ZO];show eD
  let f2:∀D',aa H1 db (.ins CD ddx (dF D dt c)) D'=none->H D'=none:=λD' hD=>Fv b1 (λz=>by rw[z,e2]at hD;cases hD) hD;generalize aa H1 db (.ins CD ddx (dF D dt c))=H2 at b1 e2 Zj eD2 f2⊢
  w_on
  show Fw rfl rfl hc n3 xl e2 Zj z2 Y1 Wg λD3 H3 s3 fD3 eD3=>?_;let e3:=s3 _ _ e2
  w_on
  rw[NX];let nD3:D3≠db:=Ne.symm (bq e2 fD3);let b3:bS db H (aa H3 db (.ins CD ddx (dF D D3 c))):=(b1.trans s3.but).trans fS;let e4:aa H3 db (.ins CD ddx (dF D D3 c)) db=some (.ins CD ddx (dF D D3 c)):=ar
  let eD4:aa H3 db (.ins CD ddx (dF D D3 c)) D=some (.dK l1):=by rw[aB ZO];show s3 _ _ eD2
  let eD5:aa H3 db (.ins CD ddx (dF D D3 c)) D3=some (.dK l2):=by rw[aB nD3];show eD3
  generalize aa H3 db (.ins CD ddx (dF D D3 c))=H4 at b3 e4 eD4 eD5⊢
  w_on
  rw[show((1:Int)*0)=0 from rfl,NY];show k D D3 _ (f0 D fD) (f2 D3 fD3) (bq eD2 fD3) ar (by rw[aB ZO];show eD4) (by rw[aB nD3];show eD5) (b3.trans fS)
def KD(R:Int->Prop)(l:Tm):Prop:=ZK l/\(l.map (·.1)).Nodup/\∀p∈l,∃t,p.1=.inl t/\R t
def KD.put{R:Int->Prop}{l:Tm}{t:Int}(h:KD R l)(ht:R t):KD R (bu l (.inl t) (.int 0)):=by
 show(h.1.put _,?_,λp hp=>?_)
 .cases e:aM l (.inl t)with
  |none=>
   rw[ml _ e,bO,Gi];show(h.2.1,∅,λa ha b hb z=>?_);let hb:b=.inl t:=Ra.mp hb;show EE e ⋯
  |some v=>
   unfold bu;rw[jY,e,bf (show(some v).isSome=true from rfl),du]
   have:((λx:aF×V=>x.1)∘λkv:aF×V=>if kv.1=.inl t then(kv.1,V.int 0,)else kv)=λkv:aF×V=>kv.1:=by
    grind
   rw[this];show h.2.1
 .unfold bu at hp;split at hp
  .let(q,hq,rfl):=Ag.mp hp;let(t',e,r):=h.2.2 q hq
   grind
  .rcases ui.mp hp with z|z
   .show h.2.2 p z
   .grind
def KD.drop{R:Int->Prop}{l:Tm}(h:KD R l)(k:aF):KD R (iX l k):=by
 show(h.1.drop k,?_,λp hp=>h.2.2 p (Ah.mp hp).1);unfold iX;show h.2.1.sublist (List.Sublist.map _ Aq)
def KD.len{R:Int->Prop}{l:Tm}{ns:LE}(h:KD R l)(hn:∀t,R t->t∈ns):l.length<=ns.length:=by
 let e:∀p∈l,∃t∈ns,p.1=.inl t:=λp hp=>let(t,e,r):=h.2.2 p hp;(t,hn t r,e)
 have:(l.map (·.1)).length<=(ns.map Sum.inl:List aF).length:=by
  show List.Nodup.length_le_of_subset h.2.1 λk hk=>?_
  grind
 rwa[au,au]at this
def yn(CD:Addr):Sp:=λvs H Q _=>∃(x dx:Addr),vs=[.ref x]/\H x=some (.ins CD dx [])/\∀dn dt H',H' x=some (.ins CD dx (dF dn dt 0))->H dn=none->H dt=none->H' dn=some (.dK [])->H' dt=some (.dK [])->dn≠dt->bS x H H'->Q .non H'
abbrev yo:Stmt:=eU (bj 41) 0
def O1:bc ["self"] ["self"] (aW yo):=bh
def O2{f:Addr}{fd:FuncData}(F:aY K "__init__" "Debts.__init__" yo f fd)(D:nN K CD):aN P w K mg base aU 1 f fd ["self"] (yn CD):=by
 let(hc,n1,n2,n3,n4,n5):=D;show F.ok O1 (λvs H Q E h=>?_) (λaP A outer s H vs Q E hr h=>?_)
 .let(_,_,rfl,_):=h;rfl
 .let(x,dx,rfl,e0,k):=h
  show(_,(aG (gh (K:=K) rfl (pv 0) ay rfl)
   (aG (gh (K:=K) rfl (pv 0) mr rfl)
   (aG (gh (K:=K) rfl (pv 0) mr rfl)
   (aG (gh (K:=K) rfl (pv 0) ay rfl)
   (aA (gh (K:=K) rfl (pv 0) ay rfl)))))),?_)
  w_on
  ext dn hn;let b1:bS x H (aa H x (.ins CD dx (bG "shares" (.int 1) []))):=fS;let e1:=ax (o:=.dK []) hn _ _ (ar (H:=H) (a:=x) (o:=.ins CD dx (bG "shares" (.int 1) [])));let b2:=b1.trans (ax (o:=.dK []) hn).but;let d2:aa (aa H x (.ins CD dx (bG "shares" (.int 1) []))) dn (.dK []) dn=some (.dK []):=ar
  let nx:dn≠x:=λz=>by rw[z,ar]at hn;cases hn
  let hn0:H dn=none:=by rw[aB nx]at hn;show hn
  generalize aa (aa H x (.ins CD dx (bG "shares" (.int 1) []))) dn (.dK [])=H2 at e1 b2 d2⊢
  w_on
  ext dt ht;let b3:=b2.trans (fS (o:=.ins CD dx (bG "by_name" (.ref dn) (bG "shares" (.int 1) []))))
  let d3:aa H2 x (.ins CD dx (bG "by_name" (.ref dn) (bG "shares" (.int 1) []))) dn=some (.dK []):=by rw[aB nx];show d2
  let e3:aa H2 x (.ins CD dx (bG "by_name" (.ref dn) (bG "shares" (.int 1) []))) x=some (.ins CD dx (bG "by_name" (.ref dn) (bG "shares" (.int 1) []))):=ar;generalize aa H2 x (.ins CD dx (bG "by_name" (.ref dn) (bG "shares" (.int 1) [])))=H3 at b3 d3 e3 ht⊢;let e4:=ax (o:=.dK []) ht _ _ e3;let d4:=ax (o:=.dK []) ht _ _ d3;let b4:=b3.trans (ax (o:=.dK []) ht).but;let t4:aa H3 dt (.dK []) dt=some (.dK []):=ar
  let nt:dt≠x:=λz=>by rw[z,e3]at ht;cases ht
  let ht0:H dt=none:=by
   cases z:H dt with
   |none=>rfl
   |some o=>rw[b3 dt o nt z]at ht;cases ht
  generalize aa H3 dt (.dK [])=H4 at e4 d4 b4 t4⊢
  w_on
  rw[uO,uO,MH];show k dn dt _ ar hn0 ht0 (by rw[aB nx];show d4) (by rw[aB nt];show t4) (bq d3 ht) (b4.trans fS)
def yp(CD:Addr):Sp:=λvs H Q _=>∃(R1 R2:Int->Prop) (db ddx dn dt p:Addr) (c nm:Int) (l1 l2:Tm) (ns:LE),vs=[.ref db,.int nm,.ref p]/\H db=some (.ins CD ddx (dF dn dt c))/\H dn=some (.dK l1)/\H dt=some (.dK l2)/\dn≠dt/\KD R1 l1/\KD R2 l2/\l1.length<900/\(∀l,KD R2 l->l.length<900)/\H p=some (.lst (ns.map V.int))/\1<=ns.length/\ns.length<64/\(∀t∈ns,R2 t)/\
 ∀Tp Th XM H',H Tp=none->H Th=none->Tp≠Th->H' db=some (.ins CD ddx (dF Tp Th c))->H' Tp=some (.dK (iX l1 (.inl nm)))->H' Th=some (.dK XM)->KD R2 XM->bS db H H'->Q .non H'
abbrev yq:Stmt:=eU (bj 41) 11
def O3:bc ["self","name","timbers","many","each","timber"] ["self","name","timbers"] (aW yq):=bh
def O4{f:Addr}{fd:FuncData}(F:aY K "part" "Debts.part" yq f fd)(D:nN K CD)(T:bC mg)(oA:ba P w K mg base "divisor" 1 ["one","other"] tO)(AO:b_ P w K mg base CD "make_smaller" 1 ["self","many"] (yl CD)):aN P w K mg base aU 2 f fd ["self","name","timbers"] (yp CD):=by
 let(hc,n1,n2,n3,n4,n5):=D;show F.ok O3 (λvs H Q E h=>?_) (λaP A outer s H vs Q E hr h=>?_)
 .let(_,_,_,_,_,_,_,_,_,_,_,_,rfl,_):=h;rfl
 .let(R1,R2,db,ddx,dn,dt,p,c,nm,l1,l2,ns,rfl,e,en,et,ne,z1,z2,ZS,Y1,hp,h1,Xh,hR,k):=h
  show(_,(aG (qV 3 (qN K T (pv 2)))
   (aG (eB (pM AO (pv 0) (ab (bg oT (pv 3) (pC oA (ab (lj (cw hr.units) (bU (K:=K) rfl (pv 0)) (pv 1) ay (rfl,rfl,rfl,rfl)) (ab (pv 3) ak)))) ak)))
   (dN (qV 4 (bg oT (ED (bU (K:=K) rfl (pv 0)) (pv 1) ay (rfl,rfl,rfl,rfl)) (pv 3)))
   (aA (dC dH rfl (cU (K:=K) rfl (pv 2)) (qG 5) (aA (gE (cw hr.units) (bU (K:=K) rfl (pv 0)) (pv 5) (bg cT (lj (cw hr.units) (bU (K:=K) rfl (pv 0)) (pv 5) ay (rfl,rfl,rfl,rfl)) (pv 4)) rfl))))))),?_)
  w_on
  show(dn,rfl,i5 (.of en),?_)
  w_on
  show(_,cV (k:=.inl nm) (.of en),?_);rw[z1.1.val]
  w_on
  let hl:(ns.map V.int).length=ns.length:=au _;show(0,(ns.map V.int).length,rfl,?_);rw[Nat.gcd_zero_left,hl]
  let hlz:((ns.length:Nat):Int)≠0:=()
  erw[pz (show rE _ _ from((),()))];rw[Int.ediv_self hlz]
  w_on
  show(db,ddx,dn,dt,c,l1,l2,rfl,e,en,et,ne,z1.1,z2.1,ZS,Y1 _ z2,z1.2.1,z2.2.1,λTp Th H1 fn ft ZL e1 Xj et1 b1=>?_);let SO:=b1 _ _ (bp hp e nofun) hp
  let nnb:Tp≠db:=bp Xj e1 nofun
  let YO:Th≠db:=bp et1 e1 nofun
  let np:p≠Tp:=bp SO Xj nofun
  let npt:p≠Th:=bp SO et1 nofun
  w_on
  erw[e_ (λZ' H'=>Z'=[some (.ref db),some (.int nm),some (.ref p),some (.int ns.length),some (.int 0),none]/\H' Tp=some (.dK (iX l1 (.inl nm)))/\∀b u,b≠Tp->H1 b=some u->H' b=some u) (λMM RR Bk Ct mi ri=>?_)]
  .w_on
   erw[tD,dW rfl,tF e1 xk hc n2];show(Tp,rfl,i5 (.of Xj),?_);erw[dW rfl,di];show(l1,.inl nm,Xj,rfl,λv hv=>?_,λhv=>?_)
   .have:=z1.1.val (.inl nm);rw[hv]at this;cases(show v=V.int 0 from this)
    w_on
    rw[Int.zero_ediv];show(rfl,ar,λb u nb z=>by rw[aB nb];show z)
   .w_on
    rw[Int.zero_ediv];have:iX l1 (.inl nm)=l1:=List.filter_eq_self.mpr λq hq=>cY λz=>EE hv (by rw[<-z];show Ag.mpr (q,hq,rfl));show(rfl,by rw[this];show Xj,λb u _ z=>z)
  ext _ H2 ⟨rfl,en2,b2⟩;let Tc:=b2 _ _ np SO;let e2:=b2 _ _ (Ne.symm nnb) e1;let Zj:=b2 _ _ (Ne.symm ZL) et1
  w_on
  show(p,rfl,(_,ah.of Tc),?_);erw[dP (λi Z' H'=>(∃y,Z'=[some (.ref db),some (.int nm),some (.ref p),some (.int ns.length),some (.int 0),y])/\(∃l,H' Th=some (.dK l)/\KD R2 l)/\∀b u,b≠Th->H2 b=some u->H' b=some u) ns.length ((none,rfl),(l2,Zj,z2),λb u _ z=>z) ?_]
  .ext Z' H' ⟨_,⟨l,el,zl⟩,b3⟩;show((_,ah.of (b3 _ _ npt Tc),by rw[au];show aD _),?_)
   w_on
   show k Tp Th l H' fn ft ZL (b3 _ _ (Ne.symm YO) e2) (b3 _ _ ZL en2) el zl λb u nb z=>by
    let z1:=b1 _ _ nb z;show b3 _ _ (λy=>by rw[y]at z;rw[ft]at z;cases z) (b2 _ _ (λy=>by rw[y]at z;rw[fn]at z;cases z) z1)
  .ext MM RR Bk mi ri i Z' H' hi ⟨⟨y,rfl⟩,⟨l,el,zl⟩,b3⟩;let U4:ns[i]?=some ns[i]:=aK hi;let Wm:=b3 _ _ npt Tc;let e3:=b3 _ _ (Ne.symm YO) e2;show((_,.int ns[i],ah.of Wm,by rw[aH,U4];rfl),?_);ext x' G ⟨rfl,hy⟩;let ex:=hy _ (ah.of Wm);rw[aH,U4]at ex;cases ex
   w_on
   show(Th,rfl,i5 (.of el),?_)
   w_on
   show(_,cV (k:=.inl ns[i]) (.of el),?_);rw[zl.1.val]
   w_on
   rw[show((0:Int)+0)=0 from rfl];show(Th,_,rfl,.inl (l,.inl ns[i],el,rfl,cA (by have:=Y1 l zl;lia),rfl),mi ((_,rfl),(_,ar,zl.put (hR _ (cG hi))),λb u nb z=>by rw[aB nb];show b3 _ _ nb z))
def yr(CD:Addr):Sp:=λvs H Q _=>∃(R1 R2:Int->Prop) (db ddx dn dt t:Addr) (c0:Int) (l1 l2:Tm) (nm:Int) (ns:LE),vs=[.ref db,.int nm,.ref t]/\H db=some (.ins CD ddx (dF dn dt c0))/\H dn=some (.dK l1)/\H dt=some (.dK l2)/\H t=some (.tup (ns.map V.int))/\dn≠dt/\KD R1 l1/\KD R2 l2/\l1.length<900/\R1 nm/\
 ∀H' l1' XM,H' dn=some (.dK l1')->KD R1 l1'->H' dt=some (.dK XM)->KD R2 XM->NU dn dt H H'->Q .non H'
abbrev yt:Stmt:=eU (bj 41) 12
def Fx:bc ["self","name","timbers","owed","timber"] ["self","name","timbers"] (aW yt):=bh
def O5{f:Addr}{fd:FuncData}(F:aY K "take_over" "Debts.take_over" yt f fd)(D:nN K CD):aN P w K mg base aU 1 f fd ["self","name","timbers"] (yr CD):=by
 let(hc,n1,n2,n3,n4,n5):=D;show F.ok Fx (λvs H Q E h=>?_) (λaP A outer s H vs Q E hr h=>?_)
 .let(_,_,_,_,_,_,_,_,_,_,_,_,rfl,_):=h;rfl
 .let(R1,R2,db,ddx,dn,dt,t,c0,l1,l2,nm,ns,rfl,e,en,et,ht,nd,z1,z2,ll,hR,k):=h
  show(_,(aG (qV 3 (lj (cw hr.units) (bU (K:=K) rfl (pv 0)) (pv 1) ay (rfl,rfl,rfl,rfl)))
   (aG (dC dH rfl (dO (K:=K) rfl (pv 2)) (qG 4) (aA (G_ (i:=3) Fx.nd rfl (Or.inl rfl) (ED (bU (K:=K) rfl (pv 0)) (pv 4) ay (rfl,rfl,rfl,rfl)) Hb)))
   (aA (gE (cw hr.units) (bU (K:=K) rfl (pv 0)) (pv 1) (pv 3) rfl)))),?_)
  let nbd:db≠dt:=bp e et nofun
  let Xz:t≠dt:=bp ht et nofun
  w_on
  show(dn,rfl,i5 (.of en),?_)
  w_on
  show(_,cV (k:=.inl nm) (.of en),?_);rw[z1.1.val]
  w_on
  show(t,rfl,(_,az.of ht),?_);erw[dP (λi Z' H'=>(∃y,Z'=[some (.ref db),some (.int nm),some (.ref t),some (.int 0),y])/\(∃l,H' dt=some (.dK l)/\KD R2 l)/\∀b u,b≠dt->H b=some u->H' b=some u) ns.length ((none,rfl),(l2,et,z2),λb u _ z=>z) ?_]
  .ext Z' H' ⟨⟨y,rfl⟩,⟨l,el,zl⟩,b3⟩;show((_,az.of (b3 _ _ Xz ht),by rw[au];show aD _),?_);let e3:=b3 _ _ nbd e;let en3:=b3 _ _ nd en
   w_on
   show(dn,_,rfl,.inl (l1,.inl nm,en3,rfl,cA (),rfl),k _ _ _ ar (z1.put hR) (by rw[aB (Ne.symm nd)];show el) zl λb u m1 m2 z=>by rw[aB m1];show b3 _ _ m2 z)
  .ext MM RR Bk mi ri i Z' H' hi ⟨⟨y,rfl⟩,⟨l,el,zl⟩,b3⟩;let e1:ns[i]?=some ns[i]:=aK hi;let Y7:=b3 _ _ Xz ht;let e3:=b3 _ _ nbd e;show((_,.int ns[i],az.of Y7,by rw[aH,e1];rfl),?_);ext x' G ⟨rfl,hy⟩;let ex:=hy _ (az.of Y7);rw[aH,e1]at ex;cases ex
   w_on
   erw[tD,dW rfl,tF e3 xl hc n3];show(dt,rfl,i5 (.of el),?_);erw[dW rfl,di];let zz:[some (V.ref db),some (V.int nm),some (V.ref t),some (V.int (0+0)),some (V.int ns[i])]=[some (V.ref db),some (V.int nm),some (V.ref t),some (V.int 0),some (V.int ns[i])]:=rfl;show(l,.inl ns[i],el,rfl,λv hv=>?_,λ_=>?_)
   .have:=zl.1.val (.inl ns[i]);rw[hv]at this;cases(show v=V.int 0 from this);show(0,0,rfl,rfl,mi ((some (.int ns[i]),zz),(_,ar,zl.drop _),λb u nb z=>by rw[aB nb];show b3 _ _ nb z))
   .show(0,0,rfl,rfl,mi ((some (.int ns[i]),zz),(l,el,zl),b3))
section
def iG(H:Hp)(d:Addr)(R:Int->Prop):Prop:=∃l,H d=some (.dK l)/\KD R l
def iG.mono{H:Hp}{d:Addr}{R R':Int->Prop}(h:iG H d R)(k:∀t,R t->R' t):iG H d R':=let(l,a,z,n,m):=h;(l,a,z,n,λp hp=>let(t,e,y):=m p hp;(t,e,k t y))
def iG.keep{H H':Hp}{d:Addr}{R:Int->Prop}(h:iG H d R)(k:∀l,H d=some (.dK l)->H' d=some (.dK l)):iG H' d R:=let(l,a,b):=h;(l,k l a,b)
structure YardR(CY CD aL:Addr)(H:Hp)(a:YA)(f:Nat->Addr)(g:Int->Addr)(most day:Int)(n:Nat)(pl:Nat->Option Int)(bs:List Bt)(k:Nat):Prop where
 y:H a.y=some (.ins CY a.dx (yF most day a.dl a.dc a.de a.db))
 l:Rd H a.dl (.dK (bY f n))
 c:H a.dc=some (.dK (cL g bs))
 e:Rd H a.de (.dK (bV bs))
 b:H a.db=some (.ins CD a.ddx (dF a.dn a.dt 0))
 nm:iG H a.dn (λt=>t∈bs.map (·.nm))
 tm:iG H a.dt (λt=>1<=t/\t<=60)
 ln:∀i,i<n->jx aL H (f i) (pl i) k
 ch:∀b∈bs,gT H (g b.nm) b.ch/\b.ch≠[]/\b.ch.length<=400
 n60:n<=60
 b8:bs.length<64
 nd:(bs.map (·.nm)).Nodup
structure lE(CY CD aL:Addr)(H:Hp)(a:YA)(f:Nat->Addr)(g:Int->Addr)(most day:Int)(n:Nat)(pl:Nat->Option Int)(bs:List Bt)(k:Nat):Prop extends YardR CY CD aL H a f g most day n pl bs k where
 w:H a.dl=some (.dK (bY f n))
 we:H a.de=some (.dK (bV bs))
 dd:[a.dl,a.dc,a.de,a.dn,a.dt].Nodup
 fi:∀i j,i<n->j<n->f i=f j->i=j
 gi:∀b∈bs,∀b'∈bs,g b.nm=g b'.nm->b.nm=b'.nm
 fg:∀i,i<n->∀b∈bs,f i≠g b.nm
def tW(a:YA)(f:Nat->Addr)(g:Int->Addr)(n:Nat)(bs:List Bt)(b:Addr):Prop:=
 b=a.y\/b=a.dl\/b=a.dc\/b=a.de\/b=a.db\/b=a.dn\/b=a.dt\/(∃i,i<n/\b=f i)\/∃x∈bs,b=g x.nm
def bK(F F':Addr->Prop)(H H':Hp):Prop:=(∀b u,¬F b->H b=some u->H' b=some u)/\∀b,F' b->F b\/H b=none
def bK.refl{F:Addr->Prop}{H:Hp}:bK F F H H:=(λ_ _ _ z=>z,λ_ z=>.inl z)
def bK.same{F:Addr->Prop}{H H':Hp}(s:aC H H'):bK F F H H':=(λ_ _ _ z=>s _ _ z,λ_ z=>.inl z)
def bK.trans{F F1 F2:Addr->Prop}{H H1 H2:Hp}(p:bK F F1 H H1)(q:bK F1 F2 H1 H2):bK F F2 H H2:=by
 show(λb u n z=>?_,λb z=>?_)
 .let h1:=p.1 b u n z;show q.1 b u (λy=>?_) h1
  rcases p.2 b y with w|w
  .grind
  .grind
 .rcases q.2 b z with w|w
  .show p.2 b w
  .by_cases n:F b
   .grind
   .right
    cases h:H b with
    |none=>rfl
    |some u=>rw[p.1 b u n h]at w;cases w
def bK.not{F F':Addr->Prop}{H H':Hp}(p:bK F F' H H'){b:Addr}{u:HO}(n:¬F b)(e:H b=some u):¬F' b:=λz=>by
 rcases p.2 b z with w|w
 .grind
 .grind
variable{CY CD aL:Addr}{H H':Hp}{a:YA}{f f':Nat->Addr}{g:Int->Addr}{most day d2:Int}{n:Nat}{pl:Nat->Option Int}{bs:List Bt}{k:Nat}
def tX:(bY f n).length=n:=by unfold bY;rw[au,gL]
def Fy:bY f (n+1)=bY f n++[(.inl ((n:Int)+1),.ref (f n),)]:=by unfold bY;rw[oq,bO];rfl
def O6{i:Nat}(h:i<n):(bY f n)[i]?=some (.inl ((i:Int)+1),.ref (f i),):=by unfold bY;rw[aH,Ap h];rfl
def tY{t:Int}(h:t<1\/(n:Int)<t):aM (bY f n) (.inl t)=none:=by
 unfold aM bY
 grind
def yu{i:Nat}(h:i<n):aM (bY f n) (.inl ((i:Int)+1))=some (.ref (f i)):=by
 induction n with
 |zero=>lia
 |succ n ih=>
  rw[Fy,sW _ _ _ _ (tY (.inr ()))]
  grind
def O7(h:∀i,i<n->f i=f' i):bY f n=bY f' n:=by
 unfold bY;show ij λi hi=>?_
 grind
def O8(l:Addr):bu (bY f n) (.inl ((n:Int)+1)) (.ref l)=bY (λi=>if i=n then l else f i) (n+1):=by
 rw[ml _ (tY (.inr ())),Fy,O7 (f:=λi=>if i=n then l else f i) (f':=f) (λi hi=>aO ()),bf rfl]
def Rd.same{u:HO}{b:Addr}(s:aC H H')(r:Rd H b u):Rd H' b u:=by
 rcases r with r|⟨o,r⟩
 .show .inl (s _ _ r)
 .show .inr (o,s _ _ r)
def gT.keep{c:Addr}{ch:List (Int×LE)}(h:gT H c ch)(l:∀xs,H c=some (.lst xs)->H' c=some (.lst xs))(t:∀b xs,H b=some (.tup xs)->H' b=some (.tup xs)):gT H' c ch:=by
 let(ts,Bs,h1,h2,h3,h4):=h;show(ts,Bs,l _ h1,h2,h3,λi x B r e1 e2 e3=>(t _ _ (h4 i x B r e1 e2 e3).1,t _ _ (h4 i x B r e1 e2 e3).2))
def jw.keep{pp:Addr}{o:Option Int}(h:jw aL H pp o)(t:∀b xs,H b=some (.tup xs)->H' b=some (.tup xs)):jw aL H' pp o:=by
 cases o with
 |none=>show h
 |some nm=>show t _ _ h
def jx.keep{l:Addr}{o:Option Int}{m:Nat}(h:jx aL H l o m)(k:∀xs,H l=some (.lst xs)->H' l=some (.lst xs))(t:∀b xs,H b=some (.tup xs)->H' b=some (.tup xs)):jx aL H' l o m:=by
 let(ws,tp,d,pp,h1,h2,h3,h4):=h;show(ws,tp,d,pp,k _ h1,h2,t _ _ h3,h4.keep t)
def YardR.same(s:aC H H')(h:YardR CY CD aL H a f g most day n pl bs k):YardR CY CD aL H' a f g most day n pl bs k:=
 (s _ _ h.y,Rd.same s h.l,s _ _ h.c,Rd.same s h.e,s _ _ h.b,h.nm.keep λ_ z=>s _ _ z,h.tm.keep λ_ z=>s _ _ z,λi hi=>(h.ln i hi).keep (λ_ z=>s _ _ z) λ_ _ z=>s _ _ z,λb hb=>((h.ch b hb).1.keep (λ_ z=>s _ _ z) λ_ _ z=>s _ _ z,(h.ch b hb).2),h.n60,h.b8,h.nd)
def lE.same(s:aC H H')(h:lE CY CD aL H a f g most day n pl bs k):lE CY CD aL H' a f g most day n pl bs k:=(h.toYardR.same s,s _ _ h.w,s _ _ h.we,h.dd,h.fi,h.gi,h.fg)
def nP{α:Bt->V}{bs:List Bt}{b:Bt}(nd:(bs.map (·.nm)).Nodup)(hb:b∈bs):aM (bs.map λb=>((.inl b.nm:aF),α b,)) (.inl b.nm)=some (α b):=by
 induction bs with
 |nil=>cases hb
 |cons x r ih=>
  rw[cQ,fV]at nd;unfold aM;rw[cQ,mI];by_cases e:x.nm=b.nm
  .let ex:x=b:=by
    rcases cb.mp hb with z|z
    .show z.symm
    .show absurd (e▸Ag.mpr (b,z,rfl)) nd.1
   subst ex;simp
  .let RW:b∈r:=by
    rcases cb.mp hb with z|z
    .show absurd (by rw[z]) e
    .show z
   have:=ih nd.2 RW;unfold aM at this;simp only[kB]at this⊢;rw[show(decide ((Sum.inl x.nm:aF)=Sum.inl b.nm))=false from cW λz=>e (by injection z)];show this
def tZ{α:Bt->V}{bs:List Bt}{nm:Int}(h:nm∉bs.map (·.nm)):aM (bs.map λb=>((.inl b.nm:aF),α b,)) (.inl nm)=none:=by
 unfold aM
 grind
end
structure YP where
 (a:YA) (f:Nat->Addr) (g:Int->Addr) (most day:Int) (n:Nat) (pl:Nat->Option Int) (bs:List Bt) (k:Nat)
abbrev YR(CY CD aL:Addr)(H:Hp)(S:YP):Prop:=YardR CY CD aL H S.a S.f S.g S.most S.day S.n S.pl S.bs S.k
abbrev YT(CY CD aL:Addr)(H:Hp)(S:YP):Prop:=lE CY CD aL H S.a S.f S.g S.most S.day S.n S.pl S.bs S.k
abbrev Ft(S:YP):Addr->Prop:=tW S.a S.f S.g S.n S.bs
abbrev YP.nms(S:YP):LE:=S.bs.map (·.nm)
noncomputable def Bt.up(b:Bt):Bool:=decide (b.dn=none)
noncomputable def YP.afl(S:YP):LE:=(S.bs.filter Bt.up).map (·.nm)
def Bt.up_iff{b:Bt}:b.up=true↔b.dn=none:=gY
def i7{S:YP}{t:Int}:t∈S.afl↔∃b∈S.bs,b.dn=none/\b.nm=t:=by
 unfold YP.afl;rw[Ag];show(λ(b,hb,e)=>(b,(Ah.mp hb).1,Bt.up_iff.mp (Ah.mp hb).2,e),λ(b,hb,d,e)=>(b,Ah.mpr (hb,Bt.up_iff.mpr d),e))
def O9(t:Int)(n:Nat):(∃i:Nat,i<n/\t=(i:Int)+1)\/(t<1\/(n:Int)<t):=by
 by_cases h:t<1\/(n:Int)<t
 .show .inr h
 .show .inl ((t - 1).toNat,(),())
def atI_last{xs:LT}{v:V}(h:xs.getLast?=some v):gN xs (-1)=some v:=by
 let hl:xs≠[]:=λz=>by rw[z]at h;cases h
 let h1:0<xs.length:=Ri.mpr hl;unfold gN iU;rw[aO (by decide),bf ()]
 change xs[(-1+(xs.length:Int)).toNat]?=some v
 rw[show(-1+(xs.length:Int)).toNat=xs.length - 1 by lia,<-Gk];show h
def gT.last{H:Hp}{c:Addr}{ch:List (Int×LE)}(h:gT H c ch)(ne:ch≠[]):∃(ts:Tk) (t B:Addr) (r:Int×LE),H c=some (.lst (ts.map V.ref))/\(ts.map V.ref).getLast?=some (.ref t)/\ch.getLast?=some r/\H t=some (.tup [.int r.1,.ref B])/\H B=some (.tup (r.2.map V.int)):=by
 let(ts,Bs,h1,h2,h3,h4):=h;let hl:0<ch.length:=Ri.mpr ne;let e1:ts[ts.length - 1]?=some (ts[ts.length - 1]'()):=aK ();let e2:Bs[ts.length - 1]?=some (Bs[ts.length - 1]'()):=aK ();let e3:ch[ts.length - 1]?=some (ch[ts.length - 1]'()):=aK ();let(q1,q2):=h4 _ _ _ _ e1 e2 e3;show(ts,_,_,_,h1,?_,?_,q1,q2)
 .rw[List.getLast?_map,Gk,e1];rfl
 .rw[Gk,show ch.length - 1=ts.length - 1 by lia];show e3
def t_{b:Bt}{r:Int×LE}(h:b.ch.getLast?=some r):b.now=r.2:=by unfold Bt.now;rw[h];rfl
def lE.frzE{H:Hp}{S:YP}{o:Obj}(h:YT CY CD aL H S):YR CY CD aL (aa H S.a.de (.frz o (.dK (bV S.bs)))) S:=by
 let u:∀b v,b≠S.a.de->H b=some v->aa H S.a.de (.frz o (.dK (bV S.bs))) b=some v:=λb v n z=>by rw[aB n];show z
 let dd:=h.dd;simp only[fV,cb,fO,bF,Av]at dd;let((_,d1,_),(d2,_),(d3,d4,_),_):=dd;let tk:∀b xs,H b=some (.tup xs)->aa H S.a.de (.frz o (.dK (bV S.bs))) b=some (.tup xs):=λb xs z=>u _ _ (bp z h.we nofun) z;show(u _ _ (bp h.y h.we nofun) h.y,.inl (u _ _ d1 h.w),u _ _ d2 h.c,.inr (o,ar),u _ _ (bp h.b h.we nofun) h.b,h.nm.keep λ_ z=>u _ _ (Ne.symm d3) z,h.tm.keep λ_ z=>u _ _ (Ne.symm d4) z,λi hi=>(h.ln i hi).keep (λxs z=>u _ _ (bp z h.we nofun) z) tk,λb hb=>((h.ch b hb).1.keep (λxs z=>u _ _ (bp z h.we nofun) z) tk,(h.ch b hb).2),h.n60,h.b8,h.nd)
def lE.frzL{H:Hp}{S:YP}{o:Obj}(h:YT CY CD aL H S):YR CY CD aL (aa H S.a.dl (.frz o (.dK (bY S.f S.n)))) S:=by
 let u:∀b v,b≠S.a.dl->H b=some v->aa H S.a.dl (.frz o (.dK (bY S.f S.n))) b=some v:=λb v n z=>by rw[aB n];show z
 let dd:=h.dd;simp only[fV,cb,fO,bF,Av]at dd;let((d0,d1,d2,d3,_),_):=dd;let tk:∀b xs,H b=some (.tup xs)->aa H S.a.dl (.frz o (.dK (bY S.f S.n))) b=some (.tup xs):=λb xs z=>u _ _ (bp z h.w nofun) z;show(u _ _ (bp h.y h.w nofun) h.y,.inr (o,ar),u _ _ (Ne.symm d0) h.c,.inl (u _ _ (Ne.symm d1) h.we),u _ _ (bp h.b h.w nofun) h.b,h.nm.keep λ_ z=>u _ _ (Ne.symm d2) z,h.tm.keep λ_ z=>u _ _ (Ne.symm d3) z,λi hi=>(h.ln i hi).keep (λxs z=>u _ _ (bp z h.w nofun) z) tk,λb hb=>((h.ch b hb).1.keep (λxs z=>u _ _ (bp z h.w nofun) z) tk,(h.ch b hb).2),h.n60,h.b8,h.nd)
def yw(CY CD aL:Addr):Sp:=λvs H Q _=>∃S,vs=[.ref S.a.y]/\YR CY CD aL H S/\Q (.int S.n) H
abbrev yx:Stmt:=eU (bj 71) 10
def Oa:bc ["self"] ["self"] (aW yx):=bh
def Ob{f:Addr}{fd:FuncData}(F:aY K "felled" "Yard.felled" yx f fd)(Y:fK K CY)(T:bC mg):aN P w K mg base aU 1 f fd ["self"] (yw CY CD aL):=by
 let(hc,n1,n2,n3,n4,n5,n6):=Y;show F.ok Oa (λvs H Q E h=>?_) (λaP A outer s H vs Q E hr h=>?_)
 .let(_,rfl,_):=h;rfl
 .let(S,rfl,h,k):=h;show(_,(aA (aQ (cg ET (by rfl) T.z_len kY (ab (bU (K:=K) rfl (pv 0)) ak)))),?_);let hy:=h.y;let hl:=h.l
  w_on
  rw[tX];show k
def p_(CY CD aL:Addr):Sp:=λvs H Q _=>∃S t,vs=[.ref S.a.y,.int t]/\YR CY CD aL H S/\(∀i:Nat,i<S.n->t=(i:Int)+1->∀pp,jw aL H pp (S.pl i)->Q (.ref pp) H)/\((t<1\/(S.n:Int)<t)->Q .non H)
abbrev yy:Stmt:=eU (bj 71) 3
def Oc:bc ["self","timber"] ["self","timber"] (aW yy):=bh
def Od{f:Addr}{fd:FuncData}(F:aY K "lies" "Yard.lies" yy f fd)(Y:fK K CY):aN P w K mg base aU 1 f fd ["self","timber"] (p_ CY CD aL):=by
 let(hc,n1,n2,n3,n4,n5,n6):=Y;show F.ok Oc (λvs H Q E h=>?_) (λaP A outer s H vs Q E hr h=>?_)
 .let(_,_,rfl,_):=h;rfl
 .let(S,t,rfl,h,k1,k2):=h
  show(_,(aG (bx (iS (pK (cw hr.units) (pv 1) (bU (K:=K) rfl (pv 0)))) (aA (aQ rn)) bD)
   (aA (aQ (qT K (qI K (qD hr.units (bU (K:=K) rfl (pv 0)) (pv 1)) (oR oU ay)) ay)))),?_)
  let hy:=h.y
  w_on
  show(S.a.dl,_,rfl,cV (k:=.inl t) h.l,?_)
  w_on
  rcases O9 t S.n with⟨i,hi,rfl⟩|ho
  .rw[yu hi];erw[bB]
   w_on
   let(ws,tp,d,pp,h1,h2,h3,h4):=h.ln i hi;show(S.a.dl,.ref (S.f i),rfl,by rw[<-yu hi];show cV (k:=.inl ((i:Int)+1)) h.l,?_)
   w_on
   erw[iB (ah.of h1) (atI_last (v:=.ref tp) ∅)]
   w_on
   show k1 i hi rfl pp h4
  .rw[tY ho];erw[br]
   w_on
   show k2 ho
def lF{bs:List Bt}(nd:(bs.map (·.nm)).Nodup){b c:Bt}(hb:b∈bs)(hc:c∈bs)(e:b.nm=c.nm):b=c:=by
 induction bs with
 |nil=>cases hb
 |cons x r ih=>
  rw[cQ,fV]at nd
  rcases cb.mp hb with rfl|h1<;>rcases cb.mp hc with rfl|h2
  .rfl
  .show absurd (e▸Ag.mpr (c,h2,rfl)) nd.1
  .show absurd (e▸Ag.mpr (b,h1,rfl)) nd.1
  .show ih nd.2 h1 h2
def Fz{S:YP}{b:Bt}(nd:S.nms.Nodup)(hb:b∈S.bs):aM (bV S.bs) (.inl b.nm)=some b.end:=nP (α:=Bt.end) nd hb
def yz(CY CD aL:Addr):Sp:=λvs H Q _=>∃S nm,vs=[.ref S.a.y,.int nm]/\YR CY CD aL H S/\Q (.bl (decide (nm∈S.afl))) H
abbrev yA:Stmt:=eU (bj 71) 5
def Oe:bc ["self","name"] ["self","name"] (aW yA):=bh
def Of{f:Addr}{fd:FuncData}(F:aY K "is_afloat" "Yard.is_afloat" yA f fd)(Y:fK K CY):aN P w K mg base aU 1 f fd ["self","name"] (yz CY CD aL):=by
 let(hc,n1,n2,n3,n4,n5,n6):=Y;show F.ok Oe (λvs H Q E h=>?_) (λaP A outer s H vs Q E hr h=>?_)
 .let(_,_,rfl,_):=h;rfl
 .let(S,nm,rfl,h,k):=h;show(_,(aA (aQ (gw (uP (s_ (cw hr.units) (pv 1) (bU (K:=K) rfl (pv 0)))) (iq (uP (BL (qD hr.units (bU (K:=K) rfl (pv 0)) (pv 1)))))))),?_);let hy:=h.y
  w_on
  show(S.a.de,_,rfl,cV (k:=.inl nm) h.e,?_);by_cases hn:nm∈S.nms
  .let(b,hb,rfl):=Ag.mp hn;let hv:=Fz h.nd hb;rw[hv]
   w_on
   erw[br]
   w_on
   show(S.a.de,b.end,rfl,by rw[<-hv];show cV (k:=.inl b.nm) h.e,?_)
   w_on
   let e:decide (b.nm∈S.afl)=decide (b.end=V.non):=by
    show decide_eq_decide.mpr (λz=>?_,λz=>i7.mpr (b,hb,?_,rfl))
    .let(c,RV,d,e):=i7.mp z;rw[lF h.nd hb RV e.symm];unfold Bt.end;rw[d]
    .unfold Bt.end at z;split at z
     .done
     .cases z
   rw[e]at k;show k
  .rw[show aM (bV S.bs) (.inl nm)=none from tZ hn]
   w_on
   erw[bB];rw[cW (λz=>by obtain⟨c,RV,_,e⟩:=i7.mp z;show hn (Ag.mpr (c,RV,e)))]at k;show k
def ki(CY CD aL:Addr):Sp:=λvs H Q _=>∃S b,vs=[.ref S.a.y,.int b.nm]/\YR CY CD aL H S/\b∈S.bs/\b.dn=none/\∀l H',aC H H'->H l=none->H' l=some (.lst (b.now.map V.int))->Q (.ref l) H'
abbrev yB:Stmt:=eU (bj 71) 15
def Og:bc ["self","name"] ["self","name"] (aW yB):=bh
def Oh{f:Addr}{fd:FuncData}(F:aY K "boat" "Yard.boat" yB f fd)(Y:fK K CY)(T:bC mg)(AQ:b_ P w K mg base CY "is_afloat" 1 ["self","name"] (yz CY CD aL)):aN P w K mg base aU 2 f fd ["self","name"] (ki CY CD aL):=by
 let(hc,n1,n2,n3,n4,n5,n6):=Y;show F.ok Og (λvs H Q E h=>?_) (λaP A outer s H vs Q E hr h=>?_)
 .let(_,_,rfl,_):=h;rfl
 .let(S,b,rfl,h,hb,hdn,k):=h
  show(_,(aG (bx (fu (eh (pM AQ (pv 0) (ab (pv 1) ak)))) (aA fI) bD)
   (aA (aQ (qZ K T (qT K (qI K (qD hr.units (bU (K:=K) rfl (pv 0)) (pv 1)) (oR oU ay)) ay))))),?_)
  let hy:=h.y;let hv:aM (cL S.g S.bs) (.inl b.nm)=some (.ref (S.g b.nm)):=nP (α:=λb=>.ref (S.g b.nm)) h.nd hb;let(hch,SQ,_):=h.ch b hb;let(ts,t,B,r,e1,e2,e3,e4,e5):=hch.last SQ
  w_on
  show(S,b.nm,rfl,h,?_);rw[cY (i7.mpr (b,hb,hdn,rfl))]
  w_on
  erw[bB]
  w_on
  show(S.a.dc,.ref (S.g b.nm),rfl,by rw[<-hv];show cV (k:=.inl b.nm) (.of h.c),?_)
  w_on
  erw[iB (ah.of e1) (atI_last e2)]
  w_on
  show nz (.inr (az.of e5)) λl hl=>?_;erw[k l _ (ax hl) hl];rw[ar,t_ e3]
def u0(CY CD aL:Addr):Sp:=λvs H Q _=>∃S b,vs=[.ref S.a.y,.int b.nm]/\YR CY CD aL H S/\b∈S.bs/\∀l H',aC H H'->H l=none->gT H' l b.ch->Q (.ref l) H'
abbrev yC:Stmt:=eU (bj 71) 20
def Oi:bc ["self","name"] ["self","name"] (aW yC):=bh
def Oj{f:Addr}{fd:FuncData}(F:aY K "chain" "Yard.chain" yC f fd)(Y:fK K CY)(T:bC mg):aN P w K mg base aU 1 f fd ["self","name"] (u0 CY CD aL):=by
 let(hc,n1,n2,n3,n4,n5,n6):=Y;show F.ok Oi (λvs H Q E h=>?_) (λaP A outer s H vs Q E hr h=>?_)
 .let(_,_,rfl,_):=h;rfl
 .let(S,b,rfl,h,hb,k):=h
  show(_,(aG (bx (iS (pK (cw hr.units) (pv 1) (bU (K:=K) rfl (pv 0)))) (aA fI) bD)
   (aA (aQ (qZ K T (qD hr.units (bU (K:=K) rfl (pv 0)) (pv 1)))))),?_)
  let hy:=h.y;let hv:aM (cL S.g S.bs) (.inl b.nm)=some (.ref (S.g b.nm)):=nP (α:=λb=>.ref (S.g b.nm)) h.nd hb;let((ts,Bs,e1,e2,e3,e4),SQ,_):=h.ch b hb
  w_on
  show(S.a.dc,_,rfl,cV (k:=.inl b.nm) (.of h.c),?_);rw[hv]
  w_on
  erw[bB]
  w_on
  show(S.a.dc,.ref (S.g b.nm),rfl,by rw[<-hv];show cV (k:=.inl b.nm) (.of h.c),?_)
  w_on
  ext l hl;let s1:=ax (o:=.lst (ts.map V.ref)) hl;show k l _ s1 hl (ts,Bs,ar,e2,e3,λi t B r q1 q2 q3=>(s1 _ _ (e4 i t B r q1 q2 q3).1,s1 _ _ (e4 i t B r q1 q2 q3).2))
def q8(CY CD aL:Addr):Sp:=λvs H Q _=>∃S,vs=[.ref S.a.y]/\YT CY CD aL H S/\∀l H' (rs:LE),aC H H'->H l=none->H' l=some (.lst (rs.map V.int))->rs.Perm S.afl->rs.Pairwise (· <= ·)->Q (.ref l) H'
abbrev yD:Stmt:=eU (bj 71) 14
def Ol:bc ["self"] ["self"] (aW yD):=bh
def Om{f:Addr}{fd:FuncData}(F:aY K "boats" "Yard.boats" yD f fd)(Y:fK K CY)(T:bC mg):aN P w K mg base aU 1 f fd ["self"] (q8 CY CD aL):=by
 let(hc,n1,n2,n3,n4,n5,n6):=Y;show F.ok Ol (λvs H Q E h=>?_) (λaP A outer s H vs Q E hr h=>?_)
 .let(_,rfl,_):=h;rfl
 .let(S,rfl,h,k):=h;show(_,(aA (aQ (cg (La (K:=K) rfl) (by rfl) T.z_sorted m7 (ab (nJ (dU rfl (cX ["name"] [(0,"self",)]) (pP (K:=K) rfl (bU (K:=K) rfl (pv 0))) (by ext _ _ _ _ _;show(qG 0)) (by ext _ _ _ _ _;show(gQ (iS (BL (qD hr.units (bU (K:=K) rfl (pv 1)) (pv 0)))))) (by ext _ _ _ _ _;show(pv 0)))) ak)))),?_)
  w_on
  show pQ h.we λo=>?_;let h1:=h.frzE (o:=o);let eo:aa H S.a.de (.frz o (.dK (bV S.bs))) S.a.de=some (.frz o (.dK (bV S.bs))):=ar;let ts:∀H2,aC (aa H S.a.de (.frz o (.dK (bV S.bs)))) H2->aC H (aa H2 S.a.de (.dK (bV S.bs))):=λH2 s2=>yk h.we s2;generalize aa H S.a.de (.frz o (.dK (bV S.bs)))=H1 at h1 eo ts⊢;let hy:=h1.y;let b8:=h.b8;let le:(bV S.bs).length=S.bs.length:=au _
  w_on
  show(S.a.de,o,_,rfl,eo,?_);erw[gG (λi ys Z' H'=>H'=H1/\ys=(((S.bs.take i).filter Bt.up).map (·.nm)).map V.int/\∃v,Z'=[v,some (.ref S.a.y)]) S.bs.length (rfl,rfl,(_,rfl)) ?_]
  .ext ys Z' H2 ⟨rfl,rfl,_⟩;rw[fk];show((eo,by rw[le];show aD _),λD hD=>?_);let s3:=ax (o:=.lst (S.afl.map V.int)) hD;show(s3 _ _ eo,?_)
   w_on
   let nd:D≠S.a.de:=(bq eo hD).symm
   let la:S.afl.length<64:=by unfold YP.afl;rw[au];show iM (fW _ _) b8
   show Lb (ns:=S.afl) (ah.of (by rw[aB nd];show ar)) la λl rs hl pm so=>?_;let s4:=ts _ s3;show k l _ rs (s4.trans (ax hl)) (s4.free hl) ar pm so
  .ext MM mi i ys Z' H2 hi ⟨rfl,rfl,v,rfl⟩
   let lf:(((S.bs.take i).filter Bt.up).map (·.nm)).length<=S.bs.length:=by rw[au];show cf (fW _ _) (by rw[d_];lia)
   show((eo,by rw[le];show hi),vk (by rw[au];lia),?_);ext x H3 ⟨rfl,k',v',e',rfl⟩;let eb:S.bs[i]?=some S.bs[i]:=aK hi;let hb:=cG hi;generalize S.bs[i]=b at eb hb
   let e'':(bV S.bs)[i]?=some (.inl b.nm,b.end,):=by unfold bV;rw[aH,eb];rfl
   rw[e'']at e';cases e';let hv:=Fz h.nd hb
   let et:S.bs.take (i+1)=S.bs.take i++[b]:=by rw[il,eb];rfl
   w_on
   show(S.a.de,b.end,rfl,by rw[<-hv];show cV (k:=.inl b.nm) h1.e,?_)
   w_on
   by_cases q:b.dn=none
   .let e1:b.end=.non:=by unfold Bt.end;rw[q]
    rw[e1];erw[br]
    w_on
    show cu hi<|mi (rfl,?_,(_,rfl))
    rw[et,iN];simp[Bt.up,q];rfl
   .let e1:∃d,b.end=.int d:=by
     unfold Bt.end
     cases z:b.dn with
     |none=>show absurd z q
     |some d=>show(d,rfl)
    let(d,e1):=e1;rw[e1];erw[bB]
    show cu hi<|mi (rfl,?_,(_,rfl))
    rw[et,iN];simp[Bt.up,q]
noncomputable def jy(pl:Nat->Option Int)(n:Nat):LE:=((List.range n).filter λi=>decide (pl i=none)).map λi:Nat=>(i:Int)+1
def FA(pl:Nat->Option Int)(n:Nat):jy pl (n+1)=jy pl n++(if pl n=none then[(n:Int)+1]else[]):=by
 unfold jy;rw[oq,iN,bO,j7]
 grind
def FB(pl:Nat->Option Int)(n:Nat):(jy pl n).length<=n:=by
 unfold jy
 grind
def On{pl:Nat->Option Int}{n:Nat}{x:Int}:x∈jy pl n↔∃i:Nat,i<n/\x=(i:Int)+1/\pl i=none:=by
 unfold jy
 grind
noncomputable def yE:Option Int->jo
 |none=>.w true
 |some nm=>.boat nm
def jw.at{H:Hp}{pp:Addr}{o:Option Int}(wL:∀H,az K H aL [.str (i_ true)])(h:jw aL H pp o):gF K H (.ref pp) (yE o):=by
 cases o with
 |none=>cases(show pp=aL from h);show wL _
 |some nm=>show az.of h
def my(S:YP)(x:Int):Prop:=∃i:Nat,i<S.n/\x=(i:Int)+1/\S.pl i=none
def yG(CY CD aL:Addr):Sp:=λvs H Q _=>∃S,vs=[.ref S.a.y,.ref aL]/\YT CY CD aL H S/\∀l H' (rs:LE),aC H H'->H l=none->H' l=some (.lst (rs.map V.int))->eJ rs (my S)->Q (.ref l) H'
abbrev yH:Stmt:=eU (bj 71) 11
def Oo:bc ["self","place"] ["self","place"] (aW yH):=bh
def Oq{f:Addr}{fd:FuncData}(F:aY K "lying" "Yard.lying" yH f fd)(Y:fK K CY)(wL:∀H,az K H aL [.str (i_ true)])(hJ:ba P w K mg base "rising" 1 ["timbers"] (jq K))(kI:b_ P w K mg base CY "lies" 1 ["self","timber"] (p_ CY CD aL)):aN P w K mg base aU 2 f fd ["self","place"] (yG CY CD aL):=by
 let(hc,n1,n2,n3,n4,n5,n6):=Y;show F.ok Oo (λvs H Q E h=>?_) (λaP A outer s H vs Q E hr h=>?_)
 .let(_,rfl,_):=h;rfl
 .let(S,rfl,h,k):=h;show(_,(aA (aQ (pC hJ (ab (nJ (dU rfl (cX ["timber"] [(0,"self",),(1,"place",)]) (pP (K:=K) rfl (bU (K:=K) rfl (pv 0))) (by ext _ _ _ _ _;show(qG 0)) (by ext _ _ _ _ _;show(gQ (qE (EW (K:=K) rfl hr.units) (pM kI (pv 1) (ab (pv 0) ak)) (pv 2)))) (by ext _ _ _ _ _;show(pv 0)))) ak)))),?_)
  w_on
  show pQ h.w λo=>?_;let h1:=h.frzL (o:=o);let eo:aa H S.a.dl (.frz o (.dK (bY S.f S.n))) S.a.dl=some (.frz o (.dK (bY S.f S.n))):=ar;let ts:∀H2,aC (aa H S.a.dl (.frz o (.dK (bY S.f S.n)))) H2->aC H (aa H2 S.a.dl (.dK (bY S.f S.n))):=λH2 s2=>yk h.w s2;generalize aa H S.a.dl (.frz o (.dK (bY S.f S.n)))=H1 at h1 eo ts⊢;let hy:=h1.y;let n60:=h.n60
  w_on
  show(S.a.dl,o,_,rfl,eo,?_);erw[gG (λi ys Z' H'=>H'=H1/\ys=((jy S.pl i).map V.int)/\∃v,Z'=[v,some (.ref S.a.y),some (.ref aL)]) S.n (rfl,rfl,(_,rfl)) ?_]
  .ext ys Z' H2 ⟨rfl,rfl,_⟩;show((eo,by rw[tX];show aD _),λD hD=>?_);let s3:=ax (o:=.lst ((jy S.pl S.n).map V.int)) hD;show(s3 _ _ eo,?_)
   w_on
   let nd:D≠S.a.dl:=(bq eo hD).symm;let ll:=FB S.pl S.n;show(D,jy S.pl S.n,rfl,.inl (ah.of (by rw[aB nd];show ar)),(),λl H4 rs s4 fl e4 r4=>?_);let s5:=ts _ s3;show k l _ rs (s5.trans s4) (s5.free fl) e4 (r4.1,λx=>(r4.2 x).trans On)
  .ext MM mi i ys Z' H2 hi ⟨rfl,rfl,v,rfl⟩;let ll:=FB S.pl i;show((eo,by rw[tX];show hi),vk (by rw[au];lia),?_);ext x H3 ⟨rfl,k',v',e',rfl⟩;rw[O6 hi]at e';cases e'
   w_on
   show(S,_,rfl,h1,λj hj e pp hp=>?_,λz=>absurd z ())
   obtain rfl:j=i:=()
   w_on
   let z1:=hp.at wL;let z2:gF K H3 (.ref aL) (.w true):=wL _;erw[pR z1 z2]
   w_on
   cases hpl:S.pl j with
   |none=>
    erw[br]
    w_on
    show cu hi<|mi (rfl,?_,(_,rfl))
    rw[FA,bf hpl,bO];rfl
   |some nm=>
    erw[bB]
    show cu hi<|mi (rfl,?_,(_,rfl))
    rw[FA,aO (by rw[hpl];show λz=>by cases z),jD]
def yI(CY CD aL:Addr):Sp:=λvs H Q _=>∃S,vs=[.ref S.a.y]/\YT CY CD aL H S/\∀l H' (rs:LE),aC H H'->H l=none->H' l=some (.lst (rs.map V.int))->eJ rs (my S)->Q (.ref l) H'
abbrev yJ:Stmt:=eU (bj 71) 12
def Os:bc ["self"] ["self"] (aW yJ):=bh
def Ot{f:Addr}{fd:FuncData}(F:aY K "loose" "Yard.loose" yJ f fd)(hL:mg "LOOSE"=some (.ref aL))(AR:b_ P w K mg base CY "lying" 2 ["self","place"] (yG CY CD aL)):aN P w K mg base aU 3 f fd ["self"] (yI CY CD aL):=by
 show F.ok Os (λvs H Q E h=>?_) (λaP A outer s H vs Q E hr h=>?_)
 .let(_,rfl,_):=h;rfl
 .let(S,rfl,h,k):=h;show(_,(aA (aQ (pM AR (pv 0) (ab (fz (v:=.ref aL) (by rfl) hL rfl) ak)))),?_);let hy:=h.y
  w_on
  show(S,rfl,h,k)
noncomputable def jz(S:YP)(i:Nat)(o:Option Int)(f':Nat->Addr):YP:={S with f:=f',n:=max S.n (i+1),pl:=λj=>if j=i then o else S.pl j,k:=S.k+1}
def jx.mono{H:Hp}{l:Addr}{o:Option Int}{k m:Nat}(h:jx aL H l o k)(le:k<=m):jx aL H l o m:=by
 let(ws,tp,d,pp,h1,h2,h3):=h;show(ws,tp,d,pp,h1,cf h2 le,h3)
def Ou{H:Hp}{S:YP}{i:Nat}{o:Option Int}(h:YT CY CD aL H S)(hi:i<S.n)(e:S.pl i=o):YT CY CD aL H (jz S i o S.f):=by
 let en:max S.n (i+1)=S.n:=()
 show((h.y,?_,h.c,h.e,h.b,h.nm,h.tm,λj hj=>?_,h.ch,?_,h.b8,h.nd),?_,h.we,h.dd,?_,h.gi,?_)
 .change Rd H S.a.dl (.dK (bY S.f (max S.n (i+1))));rw[en];show h.l
 .let SS:j<S.n:=by have:j<max S.n (i+1):=hj;lia
  change jx aL H (S.f j) (if j=i then o else S.pl j) (S.k+1)
  split
  .rename_i z;subst z;rw[<-e];show(h.ln j SS).mono ()
  .show(h.ln j SS).mono ()
 .change max S.n (i+1)<=60;rw[en];show h.n60
 .change H S.a.dl=some (.dK (bY S.f (max S.n (i+1))));rw[en];show h.w
 .change ∀a b,a<max S.n (i+1)->b<max S.n (i+1)->_;rw[en];show h.fi
 .change ∀a,a<max S.n (i+1)->_;rw[en];show h.fg
def u3{S:YP}{i:Nat}{o:Option Int}(hi:i<S.n):Ft (jz S i o S.f)=Ft S:=by
 let en:max S.n (i+1)=S.n:=()
 change tW S.a S.f S.g (max S.n (i+1)) S.bs=_
 rw[en]
def Ov{H:Hp}{S:YP}{i:Nat}{o:Option Int}{t pp:Addr}{d:Int}{xs:LT}(h:YT CY CD aL H S)(hi:i<S.n)(hx:H (S.f i)=some (.lst xs))(lx:xs.length<=S.k+1)(ht:H t=some (.tup [.int d,.ref pp]))(hp:jw aL H pp o):YT CY CD aL (aa H (S.f i) (.lst (xs++[.ref t]))) (jz S i o S.f):=by
 let en:max S.n (i+1)=S.n:=()
 let u:∀b v,b≠S.f i->H b=some v->aa H (S.f i) (.lst (xs++[.ref t])) b=some v:=λb v n z=>by rw[aB n];show z
 let tk:∀b ys,H b=some (.tup ys)->aa H (S.f i) (.lst (xs++[.ref t])) b=some (.tup ys):=λb ys z=>u _ _ (bp z hx nofun) z;let q:∀{b:Addr} {v:HO},H b=some v->v≠ .lst xs->aa H (S.f i) (.lst (xs++[.ref t])) b=some v:=λz n=>u _ _ (λy=>by rw[y,hx]at z;show n (cH z).symm) z
 let w1:=q h.w nofun
 let w2:=q h.we nofun
 show((q h.y nofun,.inl ?_,q h.c nofun,.inl w2,q h.b nofun,h.nm.keep λ_ z=>q z nofun,h.tm.keep λ_ z=>q z nofun,λj hj=>?_,λb hb=>((h.ch b hb).1.keep (λys z=>u _ _ (Ne.symm (h.fg i hi b hb)) z) tk,(h.ch b hb).2),?_,h.b8,h.nd),?_,w2,h.dd,?_,h.gi,?_)
 .change _=some (HO.dK (bY S.f (max S.n (i+1))));rw[en];show w1
 .let SS:j<S.n:=by have:j<max S.n (i+1):=hj;lia
  change jx aL _ (S.f j) (if j=i then o else S.pl j) (S.k+1)
  split
  .rename_i z;subst z;show(xs,t,d,pp,ar,lx,tk _ _ ht,hp.keep tk)
  .rename_i z;show((h.ln j SS).mono ()).keep (λys y=>u _ _ (λc=>z (h.fi j i SS hi c)) y) tk
 .change max S.n (i+1)<=60;rw[en];show h.n60
 .change _=some (HO.dK (bY S.f (max S.n (i+1))));rw[en];show w1
 .change ∀a b,a<max S.n (i+1)->b<max S.n (i+1)->_;rw[en];show h.fi
 .change ∀a,a<max S.n (i+1)->_;rw[en];show h.fg
def Ow{H:Hp}{S:YP}{t pp l:Addr}{d:Int}(h:YT CY CD aL H S)(n60:S.n<60)(hl:H l=some (.lst []))(fl:¬Ft S l)(ht:H t=some (.tup [.int d,.ref pp]))(hp:jw aL H pp none):
  YT CY CD aL (aa (aa H S.a.dl (.dK (bY (λi=>if i=S.n then l else S.f i) (S.n+1)))) l (.lst [.ref t])) (jz S S.n none (λi=>if i=S.n then l else S.f i)):=by
 let en:max S.n (S.n+1)=S.n+1:=()
 let nl:l≠S.a.dl:=bp hl h.w nofun
 let dd:=h.dd;simp only[fV,cb,fO,bF,Av]at dd;let((d0,d1,d2,d3,_),_):=dd
 let u:∀b v,b≠l->b≠S.a.dl->H b=some v->aa (aa H S.a.dl (.dK (bY (λi=>if i=S.n then l else S.f i) (S.n+1)))) l (.lst [.ref t]) b=some v:=λb v n1 n2 z=>by rw[aB n1,aB n2];show z
 let q:∀{b:Addr} {v:HO},H b=some v->v≠ .lst []->b≠S.a.dl->aa (aa H S.a.dl (.dK (bY (λi=>if i=S.n then l else S.f i) (S.n+1)))) l (.lst [.ref t]) b=some v:=λz n n2=>u _ _ (λy=>by rw[y,hl]at z;show n (cH z).symm) n2 z
 let tk:∀b ys,H b=some (.tup ys)->aa (aa H S.a.dl (.dK (bY (λi=>if i=S.n then l else S.f i) (S.n+1)))) l (.lst [.ref t]) b=some (.tup ys):=λb ys z=>q z nofun (bp z h.w nofun)
 let w1:aa (aa H S.a.dl (.dK (bY (λi=>if i=S.n then l else S.f i) (S.n+1)))) l (.lst [.ref t]) S.a.dl=some (.dK (bY (λi=>if i=S.n then l else S.f i) (max S.n (S.n+1)))):=by rw[aB (Ne.symm nl),ar,en]
 let w2:=q h.we nofun (Ne.symm d1)
 let fl1:∀i,i<S.n->S.f i≠l:=λi hi z=>fl (.inr (.inr (.inr (.inr (.inr (.inr (.inr (.inl (i,hi,z.symm)))))))));let fl2:∀b∈S.bs,S.g b.nm≠l:=λb hb z=>fl (.inr (.inr (.inr (.inr (.inr (.inr (.inr (.inr (b,hb,z.symm)))))))));let lk:∀{b:Addr} {ys:LT},b≠l->H b=some (.lst ys)->aa (aa H S.a.dl (.dK (bY (λi=>if i=S.n then l else S.f i) (S.n+1)))) l (.lst [.ref t]) b=some (.lst ys):=λn z=>u _ _ n (bp z h.w nofun) z;show((q h.y nofun (bp h.y h.w nofun),.inl w1,q h.c nofun (Ne.symm d0),.inl w2,q h.b nofun (bp h.b h.w nofun),h.nm.keep λ_ z=>q z nofun (Ne.symm d2),h.tm.keep λ_ z=>q z nofun (Ne.symm d3),λj hj=>?_,λb hb=>((h.ch b hb).1.keep (λys z=>lk (fl2 b hb) z) tk,(h.ch b hb).2),?_,h.b8,h.nd),w1,w2,h.dd,?_,h.gi,?_)
 .let SS:j<S.n+1:=by have:j<max S.n (S.n+1):=hj;lia
  change jx aL _ (if j=S.n then l else S.f j) (if j=S.n then none else S.pl j) (S.k+1)
  by_cases z:j=S.n
  .rw[bf z,bf z];show([],t,d,pp,ar,cm _,tk _ _ ht,hp.keep tk)
  .rw[aO z,aO z];show((h.ln j ()).mono ()).keep (λys y=>lk (fl1 j ()) y) tk
 .change max S.n (S.n+1)<=60;lia
 .ext i j hi hj e
  let Rt:i<S.n+1:=by have:i<max S.n (S.n+1):=hi;lia
  let SS:j<S.n+1:=by have:j<max S.n (S.n+1):=hj;lia
  let e':(if i=S.n then l else S.f i)=(if j=S.n then l else S.f j):=e;by_cases zi:i=S.n<;>by_cases zj:j=S.n
  .lia
  .rw[bf zi,aO zj]at e';show absurd e'.symm (fl1 j ())
  .rw[aO zi,bf zj]at e';show absurd e' (fl1 i ())
  .rw[aO zi,aO zj]at e';show h.fi i j () () e'
 .ext i hi b hb
  let Rt:i<S.n+1:=by have:i<max S.n (S.n+1):=hi;lia
  change(if i=S.n then l else S.f i)≠S.g b.nm
  by_cases zi:i=S.n
  .rw[bf zi];show Ne.symm (fl2 b hb)
  .rw[aO zi];show h.fg i () b hb
def Ox{a b:Option Int}(h:yE a=yE b):a=b:=by
 cases a<;>cases b<;>first|rfl|(cases h;rfl)|cases h
def FC{S:YP}{i:Nat}(hi:i<S.n):Ft S (S.f i):=.inr (.inr (.inr (.inr (.inr (.inr (.inr (.inl (i,hi,rfl))))))))
def FD{S:YP}{b:Bt}(hb:b∈S.bs):Ft S (S.g b.nm):=.inr (.inr (.inr (.inr (.inr (.inr (.inr (.inr (b,hb,rfl))))))))
def Oy{H:Hp}{a b:Addr}{o u:HO}(n:a≠b):aa (aa H a o) b u=aa (aa H b u) a o:=by
 funext c
 by_cases h1:c=b
 .subst h1;rw[ar,aB (Ne.symm n),ar]
 .rw[aB h1];by_cases h2:c=a
  .subst h2;rw[ar,ar]
  .rw[aB h2,aB h2,aB h1]
def u4{H:Hp}{S:YP}{b:Addr}(h:YT CY CD aL H S)(z:Ft S b):∃o,H b=some o:=by
 rcases z with rfl|rfl|rfl|rfl|rfl|rfl|rfl|⟨i,hi,rfl⟩|⟨x,hx,rfl⟩
 .show(_,h.y)
 .show(_,h.w)
 .show(_,h.c)
 .show(_,h.we)
 .show(_,h.b)
 .let(l,e,_):=h.nm;show(_,e)
 .let(l,e,_):=h.tm;show(_,e)
 .let(_,_,_,_,e,_):=h.ln i hi;show(_,e)
 .let(_,_,e,_):=(h.ch x hx).1;show(_,e)
def qb(CY CD aL:Addr):Sp:=λvs H Q _=>∃(S:YP) (i:Nat) (pp:Addr) (o:Option Int),vs=[.ref S.a.y,.int ((i:Int)+1),.ref pp]/\YT CY CD aL H S/\jw aL H pp o/\(i<S.n\/(i=S.n/\o=none/\S.n<60))/\S.k<9000/\
 ∀f' H',YT CY CD aL H' (jz S i o f')->bK (Ft S) (Ft (jz S i o f')) H H'->(i<S.n->f'=S.f)->Q .non H'
abbrev yK:Stmt:=eU (bj 71) 4
def Oz:bc ["self","timber","place"] ["self","timber","place"] (aW yK):=bh
def OA{f:Addr}{fd:FuncData}(F:aY K "move" "Yard.move" yK f fd)(Y:fK K CY)(wL:∀H,az K H aL [.str (i_ true)])(kI:b_ P w K mg base CY "lies" 1 ["self","timber"] (p_ CY CD aL)):aN P w K mg base aU 2 f fd ["self","timber","place"] (qb CY CD aL):=by
 let(hc,n1,n2,n3,n4,n5,n6):=Y;show F.ok Oz (λvs H Q E h=>?_) (λaP A outer s H vs Q E hr h=>?_)
 .let(_,_,_,_,rfl,_):=h;rfl
 .let(S,i,pp,o,rfl,h,hp,hi,hk,k):=h;show(_,(aA (bx (qE (EX (K:=K) rfl hr.units) (pM kI (pv 0) (ab (pv 1) ak)) (pv 2)) (aA (eB (pH (K:=K) rfl (Mb (bU (K:=K) rfl (pv 0)) (pv 1) (dS ak) (rfl,rfl,rfl,rfl)) (ab (cp (ab (bU (K:=K) rfl (pv 0)) (ab (pv 2) ak))) ak)))) bD)),?_);let hy:=h.y;let TX:=h.w
  kd_p
  show(S,_,rfl,h.toYardR,λj hj e p0 W5=>?_,λje1=>?_)
  .obtain rfl:i=j:=()
   kd_p
   erw[pR (W5.at wL) (hp.at wL)]
   kd_p
   by_cases z:S.pl i=o
   .rw[z,cY rfl];erw[bB]
    kd_p
    show k S.f _ (Ou h hj z) (by rw[u3 hj];show bK.refl) λ_=>rfl
   .rw[cW (λy=>z (Ox y))];erw[br];let(ws,tp,d,p1,e1,e2,e3,e4):=h.ln i hj
    kd_p
    erw[EZ]
    kd_p
    show(S.a.dl,rfl,i5 (.of TX),?_)
    kd_p
    show(cm _,λD hD=>?_);let s1:=ax (o:=.lst []) hD;let h1:=h.same s1;let U4:=s1 _ _ e1;let SO:=hp.keep λb xs y=>s1 b _ y;generalize aa H D (.lst [])=H1 at s1 h1 U4 SO⊢;let Vc:=h1.y;show(_,.inl ((i:Int)+1),h1.w,rfl,.inr (_,yu hj,?_));show(.inl (rfl,_,ah.of U4),?_)
    kd_p
    show(by change 2<=sizeLine;decide,λt ht=>?_);let s2:=ax (o:=.tup [.int S.day,.ref pp]) ht;let h2:=h1.same s2
    kd_p
    erw[md (s2 _ _ U4) (cM (show _<10000 by rw[c6,Am];lia) (by decide))]
    kd_p
    show k S.f _ (Ov h2 hj (s2 _ _ U4) (by rw[c6,Am];lia) ar (SO.keep λb xs y=>s2 b _ y)) ?_ λ_=>rfl;rw[u3 hj];show(bK.same (s1.trans s2)).trans (λb u n y=>by rw[aB (show b≠S.f i from λc=>n (by rw[c];show FC hj))];show y,λb y=>.inl y)
  .obtain⟨rfl,rfl,n60⟩:i=S.n/\o=none/\S.n<60:=by
    rcases hi with z|z
    .lia
    .show z
   kd_p
   erw[pR (a:=.non) trivial (hp.at wL)]
   kd_p
   erw[br]
   kd_p
   erw[EZ]
   kd_p
   show(S.a.dl,rfl,i5 (.of TX),?_)
   kd_p
   show(cm _,λl hl=>?_);let s1:=ax (o:=.lst []) hl;let h1:=h.same s1;let el:aa H l (.lst []) l=some (.lst []):=ar;generalize aa H l (.lst [])=H1 at s1 h1 el⊢
   let fl:¬Ft S l:=λz=>by
    let(o',e'):=u4 h z;rw[hl]at e';cases e'
   let nl:l≠S.a.dl:=bp el h1.w nofun
   show(_,.inl ((S.n:Int)+1),h1.w,rfl,.inl (tY (.inr ()),iM (show _<=60 by rw[tX];lia) (by decide),?_));rw[O8];let UG:aa H1 S.a.dl (.dK (bY (λi=>if i=S.n then l else S.f i) (S.n+1))) S.a.y=_:=(aB (bp h1.y h1.w nofun)).trans h1.y
   let U3:aa H1 S.a.dl (.dK (bY (λi=>if i=S.n then l else S.f i) (S.n+1))) l=some (.lst []):=by rw[aB nl];show el
   show(.inl (rfl,_,ah.of U3),?_)
   kd_p
   show(by change 2<=sizeLine;decide,λt ht=>?_);let ntl:t≠l:=(bq U3 ht).symm;let Xz:t≠S.a.dl:=(bq ar ht).symm
   let TU:H1 t=none:=by rw[aB Xz]at ht;show ht
   let s2:=ax (o:=.tup [.int S.day,.ref pp]) TU
   kd_p
   erw[md (by rw[aB (Ne.symm ntl)];show U3) (cA (by decide))]
   kd_p
   let e3:aa (aa (aa H1 S.a.dl (.dK (bY (λi=>if i=S.n then l else S.f i) (S.n+1)))) t (.tup [.int S.day,.ref pp])) l (.lst ([]++[.ref t]))=aa (aa (aa H1 t (.tup [.int S.day,.ref pp])) S.a.dl (.dK (bY (λi=>if i=S.n then l else S.f i) (S.n+1)))) l (.lst [.ref t]):=by
    rw[Oy (Ne.symm Xz)];rfl
   rw[e3];show k _ _ (Ow (h1.same s2) n60 (s2 _ _ el) fl ar ((hp.keep λb xs y=>s1 b _ y).keep λb xs y=>s2 b _ y)) ?_ λz=>absurd z (mK _);show(λb u n y=>?_,λb y=>?_)
   .rw[aB (bq y hl),aB (λc=>n (.inr (.inl c)))];show s2 _ _ (s1 _ _ y)
   .rcases y with y|y|y|y|y|y|y|⟨i,hi,y⟩|y
    .show .inl (.inl y)
    .show .inl (.inr (.inl y))
    .show .inl (.inr (.inr (.inl y)))
    .show .inl (.inr (.inr (.inr (.inl y))))
    .show .inl (.inr (.inr (.inr (.inr (.inl y)))))
    .show .inl (.inr (.inr (.inr (.inr (.inr (.inl y))))))
    .show .inl (.inr (.inr (.inr (.inr (.inr (.inr (.inl y)))))))
    .let y':b=if i=S.n then l else S.f i:=y
     by_cases z:i=S.n
     .rw[bf z]at y';right;rw[y'];show hl
     .rw[aO z]at y';let Rt:i<max S.n (S.n+1):=hi;left;rw[y'];show FC ()
    .show .inl (.inr (.inr (.inr (.inr (.inr (.inr (.inr (.inr y))))))))
def mz{a:YA}(h:[a.dl,a.dc,a.de,a.dn,a.dt].Nodup):a.dl≠a.dc/\a.dl≠a.de/\a.dl≠a.dn/\a.dl≠a.dt/\a.dc≠a.de/\a.dc≠a.dn/\a.dc≠a.dt/\a.de≠a.dn/\a.de≠a.dt/\a.dn≠a.dt:=by
 grind
noncomputable def nQ(S:YP)(dn dt:Addr):YP:={S with a:={S.a with dn:=dn,dt:=dt}}
def lE.owe{H H':Hp}{S:YP}{dn dt:Addr}(h:YT CY CD aL H S)(e:H' S.a.db=some (.ins CD S.a.ddx (dF dn dt 0)))(n1:iG H' dn (λt=>t∈S.nms))(n2:iG H' dt (λt=>1<=t/\t<=60))(u:∀b v,b≠S.a.db->b≠S.a.dn->b≠S.a.dt->H b=some v->H' b=some v)
  (dd:[S.a.dl,S.a.dc,S.a.de,dn,dt].Nodup) (yb:S.a.y≠S.a.db):YT CY CD aL H' (nQ S dn dt):=by
 let(_,_,d2,d3,_,d5,d6,d7,d8,_):=mz h.dd;let(l1,m1,_):=h.nm;let(l2,m2,_):=h.tm;let k:∀{b v},H b=some v->v≠ .ins CD S.a.ddx (dF S.a.dn S.a.dt 0)->v≠ .dK l1->v≠ .dK l2->H' b=some v:=λz a b c=>u _ _ (λy=>by rw[y,h.b]at z;show a (cH z).symm) (λy=>by rw[y,m1]at z;show b (cH z).symm) (λy=>by rw[y,m2]at z;show c (cH z).symm) z;let kd:∀{b:Addr} {kvs:Tm},H b=some (.dK kvs)->b≠S.a.dn->b≠S.a.dt->H' b=some (.dK kvs):=λz a b=>u _ _ (bp z h.b nofun) a b z
 let tk:∀b ys,H b=some (.tup ys)->H' b=some (.tup ys):=λb ys z=>k z nofun nofun nofun
 let lk:∀{b:Addr} {ys:LT},H b=some (.lst ys)->H' b=some (.lst ys):=λz=>k z nofun nofun nofun
 let w1:=kd h.w d2 d3;let w2:=kd h.we d7 d8;show((u _ _ yb (bp h.y m1 nofun) (bp h.y m2 nofun) h.y,.inl w1,kd h.c d5 d6,.inl w2,e,n1,n2,λj hj=>(h.ln j hj).keep (λys z=>lk z) tk,λb hb=>((h.ch b hb).1.keep (λys z=>lk z) tk,(h.ch b hb).2),h.n60,h.b8,h.nd),w1,w2,dd,h.fi,h.gi,h.fg)
noncomputable def dQ(nm:Int)(e:Int×LE)(c:Bt):Bt:=if c.nm=nm then{c with ch:=c.ch++[e]}else c
def j5(nm:Int)(e:Int×LE)(c:Bt):(dQ nm e c).nm=c.nm:=by unfold dQ;split<;>rfl
def OB(nm:Int)(e:Int×LE)(c:Bt):(dQ nm e c).dn=c.dn:=by unfold dQ;split<;>rfl
def OC(nm:Int)(e:Int×LE)(c:Bt):(dQ nm e c).end=c.end:=by unfold Bt.end;rw[OB]
def gT.snoc{H:Hp}{c t B:Addr}{ch:List (Int×LE)}{d:Int}{rs:LE}{ts:Tk}(h:gT H c ch)(e:H c=some (.lst (ts.map V.ref)))(ht:H t=some (.tup [.int d,.ref B]))(hB:H B=some (.tup (rs.map V.int))):gT (aa H c (.lst (ts.map V.ref++[.ref t]))) c (ch++[(d,rs,)]):=by
 let(Zr,Bs,h1,h2,h3,h4):=h
 let et:Zr.map V.ref=ts.map V.ref:=⋯
 let tk:∀{b:Addr} {xs:LT},H b=some (.tup xs)->aa H c (.lst (ts.map V.ref++[.ref t])) b=some (.tup xs):=λz=>by rw[aB (bp z e nofun)];show z
 show(Zr++[t],Bs++[B],by rw[ar,bO,et];rfl,by rw[c6,c6,h2];rfl,by rw[c6,c6,h3];rfl,λi x y r e1 e2 e3=>?_)
 grind
noncomputable def nR(S:YP)(nm:Int)(rs:LE):YP:={S with bs:=S.bs.map (dQ nm (S.day,rs,))}
def OD{H:Hp}{S:YP}{b:Bt}{t B:Addr}{rs:LE}{ts:Tk}(h:YT CY CD aL H S)(hb:b∈S.bs)(e:H (S.g b.nm)=some (.lst (ts.map V.ref)))(l4:b.ch.length<400)(ht:H t=some (.tup [.int S.day,.ref B]))(hB:H B=some (.tup (rs.map V.int))):
  YT CY CD aL (aa H (S.g b.nm) (.lst (ts.map V.ref++[.ref t]))) (nR S b.nm rs):=by
 let u:∀x v,x≠S.g b.nm->H x=some v->aa H (S.g b.nm) (.lst (ts.map V.ref++[.ref t])) x=some v:=λx v n z=>by rw[aB n];show z
 let q:∀{x:Addr} {v:HO},H x=some v->v≠ .lst (ts.map V.ref)->aa H (S.g b.nm) (.lst (ts.map V.ref++[.ref t])) x=some v:=λz n=>u _ _ (λy=>by rw[y,e]at z;show n (cH z).symm) z
 let tk:∀x ys,H x=some (.tup ys)->aa H (S.g b.nm) (.lst (ts.map V.ref++[.ref t])) x=some (.tup ys):=λx ys z=>q z nofun
 let en:(S.bs.map (dQ b.nm (S.day,rs,))).map (·.nm)=S.bs.map (·.nm):=by rw[du];show ij λc _=>j5 _ _ c
 let ec:cL S.g (S.bs.map (dQ b.nm (S.day,rs,)))=cL S.g S.bs:=by unfold cL;rw[du];show ij λc _=>by change(_,V.ref (S.g (dQ _ _ c).nm),)=_;rw[j5]
 let ee:bV (S.bs.map (dQ b.nm (S.day,rs,)))=bV S.bs:=by unfold bV;rw[du];show ij λc _=>by change((Sum.inl (dQ _ _ c).nm:aF),(dQ _ _ c).end,)=_;rw[j5,OC]
 let w2:aa H (S.g b.nm) (.lst (ts.map V.ref++[.ref t])) S.a.de=some (.dK (bV (S.bs.map (dQ b.nm (S.day,rs,))))):=by rw[ee];show q h.we nofun
 let mem:∀c'∈S.bs.map (dQ b.nm (S.day,rs,)),∃c∈S.bs,c'=dQ b.nm (S.day,rs,) c:=λc' hc=>by obtain⟨c,h1,h2⟩:=Ag.mp hc;show(c,h1,h2.symm)
 show((q h.y nofun,.inl (q h.w nofun),by change _=some (HO.dK (cL S.g (S.bs.map (dQ b.nm (S.day,rs,)))));rw[ec];show q h.c nofun,.inl w2,q h.b nofun,by change iG _ _ (λt=>t∈(S.bs.map (dQ b.nm (S.day,rs,))).map (·.nm));rw[en];show h.nm.keep λ_ z=>q z nofun,h.tm.keep λ_ z=>q z nofun,λj hj=>(h.ln j hj).keep (λys z=>u _ _ (h.fg j hj b hb) z) tk,λc' RV=>?_,h.n60,?_,?_),q h.w nofun,w2,h.dd,h.fi,λc1 h1 c2 h2 z=>?_,λi hi c1 h1=>?_)
 .let(c,hc,rfl):=mem c' RV;rw[j5];by_cases z:c.nm=b.nm
  .let hcb:c.ch=b.ch:=by
    have:=lF h.nd hc hb z;rw[this]
   unfold dQ;rw[bf z];show(?_,∅,by change(c.ch++[_]).length<=400;rw[c6,hcb];simp;lia)
   change gT _ (S.g c.nm) (c.ch++[_])
   rw[z,hcb];show((h.ch b hb).1).snoc e ht hB
  .unfold dQ;rw[aO z];show((h.ch c hc).1.keep (λys y=>u _ _ (λc3=>z (h.gi c hc b hb c3)) y) tk,(h.ch c hc).2)
 .change(S.bs.map _).length<64;rw[au];show h.b8
 .change((S.bs.map _).map _).Nodup;rw[en];show h.nd
 .let(c,hc,rfl):=mem c1 h1;let(c',RV,rfl):=mem c2 h2;rw[j5,j5]at z⊢;show h.gi c hc c' RV z
 .let(c,hc,rfl):=mem c1 h1;rw[j5];show h.fg i hi c hc
def nT{H:Hp}{S:YP}{b:Addr}{xs:LT}(h:YT CY CD aL H S)(e:H b=some (.tup xs)):¬Ft S b:=λz=>by
 rcases z with rfl|rfl|rfl|rfl|rfl|rfl|rfl|⟨i,hi,rfl⟩|⟨x,hx,rfl⟩
 .rw[h.y]at e;cases e
 .rw[h.w]at e;cases e
 .rw[h.c]at e;cases e
 .rw[h.we]at e;cases e
 .rw[h.b]at e;cases e
 .let(_,e',_):=h.nm;rw[e']at e;cases e
 .let(_,e',_):=h.tm;rw[e']at e;cases e
 .let(_,_,_,_,e',_):=h.ln i hi;rw[e']at e;cases e
 .let(_,_,e',_):=(h.ch x hx).1;rw[e']at e;cases e
noncomputable def nU(S:YP)(nm:Int)(l:Addr)(rs:LE):YP:={S with g:=λz=>if z=nm then l else S.g z,bs:=S.bs++[(nm,[(S.day,rs,)],none)]}
def OE{H Hf:Hp}{S:YP}{nm:Int}{l t B:Addr}{rs:LE}(h:YT CY CD aL H S)(hn:nm∉S.nms)(h8:S.bs.length<63)(hl:H l=none)(u:∀b v,b≠S.a.dc->b≠S.a.de->H b=some v->Hf b=some v)
  (ec:Hf S.a.dc=some (.dK (bu (cL S.g S.bs) (.inl nm) (.ref l)))) (ee:Hf S.a.de=some (.dK (bu (bV S.bs) (.inl nm) .non))) (el:Hf l=some (.lst [.ref t])) (ht:Hf t=some (.tup [.int S.day,.ref B])) (hB:Hf B=some (.tup (rs.map V.int))):YT CY CD aL Hf (nU S nm l rs):=by
 let(d0,d1,_,_,d4,d5,d6,d7,d8,d9):=mz h.dd;let gm:∀b∈S.bs,(if b.nm=nm then l else S.g b.nm)=S.g b.nm:=λb hb=>aO (show ¬b.nm=nm from λz=>hn (z▸Ag.mpr (b,hb,rfl)))
 let e1:bu (cL S.g S.bs) (.inl nm) (.ref l)=cL (λz=>if z=nm then l else S.g z) (S.bs++[(nm,[(S.day,rs,)],none)]):=by
  unfold cL;rw[ml _ (tZ (α:=λb=>.ref (S.g b.nm)) hn),bO]
  congr 1
  .show ij λb hb=>by change _=((.inl b.nm:aF),V.ref (if b.nm=nm then l else S.g b.nm),);rw[gm b hb]
  .grind
 let e2:bu (bV S.bs) (.inl nm) .non=bV (S.bs++[(nm,[(S.day,rs,)],none)]):=by
  unfold bV;rw[ml _ (tZ (α:=Bt.end) hn),bO];rfl
 rw[e1]at ec;rw[e2]at ee;let tk:∀b xs,H b=some (.tup xs)->Hf b=some (.tup xs):=λb xs z=>u _ _ (bp z h.c nofun) (bp z h.we nofun) z;let lk:∀{b:Addr} {xs:LT},H b=some (.lst xs)->Hf b=some (.lst xs):=λz=>u _ _ (bp z h.c nofun) (bp z h.we nofun) z
 let no:∀{b:Addr} {o:HO},H b=some o->b≠l:=λz y=>by rw[y,hl]at z;cases z
 let gl:∀b∈S.bs,S.g b.nm≠l:=λb hb=>by obtain⟨_,_,e',_⟩:=(h.ch b hb).1;show no e'
 show((u _ _ (bp h.y h.c nofun) (bp h.y h.we nofun) h.y,.inl (u _ _ d0 d1 h.w),ec,.inl ee,u _ _ (bp h.b h.c nofun) (bp h.b h.we nofun) h.b,(h.nm.keep λ_ z=>u _ _ (Ne.symm d5) (Ne.symm d7) z).mono λt ht=>by change t∈(S.bs++[_]).map Bt.nm;rw[bO];show fX _ ht,h.tm.keep λ_ z=>u _ _ (Ne.symm d6) (Ne.symm d8) z,λj hj=>(h.ln j hj).keep (λys z=>lk z) tk,λc hc=>?_,h.n60,?_,?_),u _ _ d0 d1 h.w,ee,h.dd,h.fi,λc1 h1 c2 h2 z=>?_,λi hi c1 h1=>?_)
 .rcases ui.mp hc with q|q
  .change gT Hf (if c.nm=nm then l else S.g c.nm) c.ch/\_
   rw[gm c q];show((h.ch c q).1.keep (λys z=>lk z) tk,(h.ch c q).2)
  .cases Ra.mp q
   change gT Hf (if nm=nm then l else _) _/\_
   rw[bf rfl];show(([t],[B],el,rfl,rfl,λi x y r e1 e2 e3=>?_),nofun,by change 1<=400;lia)
   grind
 .change(S.bs++[_]).length<64;rw[c6];show Nat.succ_lt_succ h8
 .change((S.bs++[_]).map _).Nodup
  rw[bO,Gi];show(h.nd,∅,λx hx y hy z=>hn ⋯)
 .let z':(if c1.nm=nm then l else S.g c1.nm)=(if c2.nm=nm then l else S.g c2.nm):=z
  rcases ui.mp h1 with q1|q1<;>rcases ui.mp h2 with q2|q2
  .rw[gm c1 q1,gm c2 q2]at z';show h.gi c1 q1 c2 q2 z'
  .grind
  .grind
  .grind
 .change S.f i≠(if c1.nm=nm then l else S.g c1.nm)
  rcases ui.mp h1 with q1|q1
  .rw[gm c1 q1];show h.fg i hi c1 q1
  .cases Ra.mp q1;rw[bf rfl];let(_,_,_,_,e',_):=h.ln i hi
   grind
def OF{H Hf:Hp}{S:YP}{nm:Int}{l:Addr}{rs:LE}(hn:nm∉S.nms)(hl:H l=none)(u:∀b v,b≠S.a.dc->b≠S.a.de->H b=some v->Hf b=some v):bK (Ft S) (Ft (nU S nm l rs)) H Hf:=by
 show(λb v n z=>u b v (λc=>n (.inr (.inr (.inl c)))) (λc=>n (.inr (.inr (.inr (.inl c))))) z,λb y=>?_)
 rcases y with y|y|y|y|y|y|y|y|⟨x,hx,y⟩
 .show .inl (.inl y)
 .show .inl (.inr (.inl y))
 .show .inl (.inr (.inr (.inl y)))
 .show .inl (.inr (.inr (.inr (.inl y))))
 .show .inl (.inr (.inr (.inr (.inr (.inl y)))))
 .show .inl (.inr (.inr (.inr (.inr (.inr (.inl y))))))
 .show .inl (.inr (.inr (.inr (.inr (.inr (.inr (.inl y)))))))
 .show .inl (.inr (.inr (.inr (.inr (.inr (.inr (.inr (.inl y))))))))
 .let y':b=if x.nm=nm then l else S.g x.nm:=y
  by_cases c:x.nm=nm
  .grind
  .rw[aO c]at y';left
   rcases ui.mp hx with q|q
   .rw[y'];show FD q
   .grind
noncomputable def fe(S:YP)(o:Option Int)(l:LE):YP:={S with pl:=λi=>if(i:Int)+1∈l then o else S.pl i,k:=S.k+l.length}
def FE{S:YP}{o:Option Int}:fe S o []=S:=by
 unfold fe;simp
def FG{S:YP}{o:Option Int}{l:LE}{i:Nat}(hi:i<S.n):jz (fe S o l) i o S.f=fe S o (l++[(i:Int)+1]):=by
 unfold jz fe
 grind
noncomputable def kl(S:YP)(b:Bt)(rs:LE):YP:=if b.now=rs then S else nR S b.nm rs
def yL(K:W.Frag)(CY CD aL:Addr):Sp:=λvs H Q _=>∃(S:YP) (nm:Int) (t:Addr) (ns:LE),vs=[.ref S.a.y,.int nm,.ref t]/\YT CY CD aL H S/\eV K H t (ns.map V.int)/\ns.length<64/\(∀y∈ns,1<=y/\y<=S.n)/\S.k<8900/\
 ((nm∉S.nms/\S.bs.length<63/\∀l H' rs,eJ rs (λy=>y∈ns)->YT CY CD aL H' (fe (nU S nm l rs) (some nm) rs)->bK (Ft S) (Ft (nU S nm l rs)) H H'->Q .non H')\/
 ∃b∈S.bs,b.nm=nm/\b.ch.length<400/\∀H' rs,eJ rs (λy=>y∈ns)->YT CY CD aL H' (fe (kl S b rs) (some nm) rs)->bK (Ft S) (Ft S) H H'->Q .non H')
def FH{S:YP}{nm:Int}{rs:LE}:Ft (nR S nm rs)=Ft S:=by
 funext b
 let q:(∃x∈S.bs.map (dQ nm (S.day,rs,)),b=S.g x.nm)=∃x∈S.bs,b=S.g x.nm:=propext (λ(x,hx,e)=>by obtain⟨c,hc,rfl⟩:=Ag.mp hx;show(c,hc,by rw[j5]at e;show e),λ(x,hx,e)=>(_,Ag.mpr (x,hx,rfl),by rw[j5];show e));unfold Ft tW
 change(_\/_\/_\/_\/_\/_\/_\/_\/∃x∈S.bs.map (dQ nm (S.day,rs,)),b=S.g x.nm)=_
 rw[q];rfl
def OG{S:YP}{b:Bt}{rs:LE}:Ft (kl S b rs)=Ft S:=by
 unfold kl;split
 .rfl
 .show FH
abbrev yM:Stmt:=eU (bj 71) 6
def OH:bc ["self","name","timbers","boat","chain","timber"] ["self","name","timbers"] (aW yM):=bh
def OI{f:Addr}{fd:FuncData}(F:aY K "launch" "Yard.launch" yM f fd)(Y:fK K CY)(T:bC mg)(hJ:ba P w K mg base "rising" 1 ["timbers"] (jq K))(kJ:b_ P w K mg base CY "move" 2 ["self","timber","place"] (qb CY CD aL))(AS:b_ P w K mg base CD "take_over" 1 ["self","name","timbers"] (yr CD)):aN P w K mg base aU 3 f fd ["self","name","timbers"] (yL K CY CD aL):=by
 let(hc,n1,n2,n3,n4,n5,n6):=Y;show F.ok OH (λvs H Q E h=>?_) (λaP A outer s H vs Q E hr h=>?_)
 .let(_,_,_,_,rfl,_):=h;rfl
 .let(S,nm,t,ns,rfl,h,ht,XJ,hm,hk,kk):=h
  show(_,(aG (qV 3 (qU K T (pC hJ (ab (pv 2) ak))))
   (dN (bx (iS (pK (cw hr.units) (pv 1) (bU (K:=K) rfl (pv 0)))) (aG (gE (cw hr.units) (bU (K:=K) rfl (pv 0)) (pv 1) (dS ak) rfl)
   (aA (gE (cw hr.units) (bU (K:=K) rfl (pv 0)) (pv 1) rn rfl))) bD)
   (aG (qV 4 (qD hr.units (bU (K:=K) rfl (pv 0)) (pv 1)))
   (dN (bx ((hU (qE (w_ hr.units) (pv 4) (dS ak)) (iT (qE (Mc hr.units) (qT K (qI K (pv 4) (oR oU ay)) ay) (pv 3))))).pt (aA (eB (pH (K:=K) rfl (pv 4) (ab (cp (ab (bU (K:=K) rfl (pv 0)) (ab (pv 3) ak))) ak)))) bD)
   (aG (dC dH rfl (dO (K:=K) rfl (pv 3)) (qG 5) (aA (eB (pM kJ (pv 0) (ab (pv 5) (ab (cp (ab aT (ab (pv 1) ak))) ak))))))
   (aA (eB (pM AS (bU (K:=K) rfl (pv 0)) (ab (pv 1) (ab (pv 3) ak)))))))))),?_)
  let hy:=h.y
  w_on
  show(t,ns,rfl,ht,XJ,λl0 H1 rs s1 _ X8 hR=>?_);let h1:=h.same s1
  w_on
  show iW (ah.of X8) λB hB0=>?_;let s2:=ax (o:=.tup (rs.map V.int)) hB0;let h2:=h1.same s2;let hB:aa H1 B (.tup (rs.map V.int)) B=some (.tup (rs.map V.int)):=ar;generalize aa H1 B (.tup (rs.map V.int))=H2 at s2 h2 hB⊢;let s12:=s1.trans s2;let UG:=h2.y
  let es:aM (cL S.g S.bs) (.inl nm)=none↔nm∉S.nms:=by
   constructor
   .ext z c;let(b,hb,rfl):=Ag.mp c;rw[show aM (cL S.g S.bs) (.inl b.nm)=some (.ref (S.g b.nm))from nP (α:=λb=>.ref (S.g b.nm)) h.nd hb]at z;cases z
   .show tZ (α:=λb=>.ref (S.g b.nm))
  w_on
  erw[e_ (λZ' H'=>Z'=[some (.ref S.a.y),some (.int nm),some (.ref t),some (.ref B),none,none]/\H' B=some (.tup (rs.map V.int))/\H' S.a.y=some (.ins CY S.a.dx (yF S.most S.day S.a.dl S.a.dc S.a.de S.a.db))/\((nm∈S.nms/\H'=H2)\/(nm∉S.nms/\∃l,H2 l=none/\(∀b v,b≠S.a.dc->b≠S.a.de->H2 b=some v->H' b=some v)/\H' S.a.dc=some (.dK (bu (cL S.g S.bs) (.inl nm) (.ref l)))/\H' S.a.de=some (.dK (bu (bV S.bs) (.inl nm) .non))/\H' l=some (.lst [])))) (λMM RR Bk Ct mi ri=>?_)]
  .w_on
   show(S.a.dc,_,rfl,cV (k:=.inl nm) (.of h2.c),?_);by_cases hn:nm∈S.nms
   .obtain⟨o,eo⟩:∃o,aM (cL S.g S.bs) (.inl nm)=some o:=by
     cases e:aM (cL S.g S.bs) (.inl nm)with
     |none=>show absurd hn (es.mp e)
     |some o=>show(o,rfl)
    rw[eo]
    w_on
    erw[bB]
    w_on
    show(rfl,hB,UG,.inl (hn,rfl))
   .rw[es.mpr hn]
    w_on
    erw[br]
    w_on
    show(cm _,λl hl=>?_);let s3:=ax (o:=.lst []) hl;let h3:=h2.same s3;let el:aa H2 l (.lst []) l=some (.lst []):=ar;generalize aa H2 l (.lst [])=H3 at s3 h3 el⊢;let XR:=h3.y;let(_,_,_,_,d4,_):=mz h.dd
    w_on
    show(S.a.dc,_,rfl,.inl (_,.inl nm,h3.c,rfl,cA (by unfold cL;rw[au];have:=h.b8;lia),rfl),?_);let hy4:aa H3 S.a.dc (.dK (bu (cL S.g S.bs) (.inl nm) (.ref l))) S.a.y=_:=(aB (bp h3.y h3.c nofun)).trans h3.y
    w_on
    show(S.a.de,_,rfl,.inl (bV S.bs,.inl nm,by rw[aB (Ne.symm d4)];show h3.we,rfl,cA (by unfold bV;rw[au];have:=h.b8;lia),rfl),?_)
    w_on
    let u:∀b v,b≠S.a.dc->b≠S.a.de->H3 b=some v->aa (aa H3 S.a.dc (.dK (bu (cL S.g S.bs) (.inl nm) (.ref l)))) S.a.de (.dK (bu (bV S.bs) (.inl nm) .non)) b=some v:=λb v q1 q2 z=>by rw[aB q2,aB q1];show z
    let q:∀{b:Addr} {v:HO},H3 b=some v->v≠ .dK (cL S.g S.bs)->v≠ .dK (bV S.bs)->aa (aa H3 S.a.dc (.dK (bu (cL S.g S.bs) (.inl nm) (.ref l)))) S.a.de (.dK (bu (bV S.bs) (.inl nm) .non)) b=some v:=λz y1 y2=>u _ _ (bp z h3.c y1) (bp z h3.we y2) z;show(rfl,q (s3 _ _ hB) nofun nofun,q h3.y nofun nofun,.inr (hn,l,hl,λb v q1 q2 z=>u b v q1 q2 (s3 _ _ z),by rw[aB d4,ar],ar,q el nofun nofun))
  .ext Z' H3 ⟨rfl,hB3,XR,cs⟩
   let vc:∃c,eN H3 S.a.dc (.int nm) (some (.ref c))/\((nm∈S.nms/\H3=H2/\c=S.g nm)\/(nm∉S.nms/\H2 c=none/\(∀b v,b≠S.a.dc->b≠S.a.de->H2 b=some v->H3 b=some v)/\H3 S.a.dc=some (.dK (bu (cL S.g S.bs) (.inl nm) (.ref c)))/\H3 S.a.de=some (.dK (bu (bV S.bs) (.inl nm) .non))/\H3 c=some (.lst []))):=by
    rcases cs with⟨hn,rfl⟩|⟨hn,l,q1,q2,q3,q4,q5⟩
    .let(b,hb,rfl):=Ag.mp hn;show(S.g b.nm,?_,.inl (hn,rfl,rfl));rw[<-show aM (cL S.g S.bs) (.inl b.nm)=some (.ref (S.g b.nm))from nP (α:=λb=>.ref (S.g b.nm)) h.nd hb];show cV (k:=.inl b.nm) (.of h2.c)
    .show(l,?_,.inr (hn,q1,q2,q3,q4,q5));rw[<-show aM (bu (cL S.g S.bs) (.inl nm) (.ref l)) (.inl nm)=some (.ref l) by rw[ml _ (es.mpr hn),sW _ _ _ _ (es.mpr hn),bf rfl]];show cV (k:=.inl nm) (.of q3)
   let(c,gc,cs):=vc
   w_on
   show(S.a.dc,_,rfl,gc,?_)
   w_on
   erw[e_ (λZ' H'=>Z'=[some (.ref S.a.y),some (.int nm),some (.ref t),some (.ref B),some (.ref c),none]/\H' B=some (.tup (rs.map V.int))/\∃S1:YP,YT CY CD aL H' S1/\S1.a=S.a/\S1.n=S.n/\S1.k=S.k/\nm∈S1.nms/\∀H9,YT CY CD aL H9 (fe S1 (some nm) rs)->bK (Ft S1) (Ft S1) H' H9->Q .non H9) (λMM RR Bk Ct mi ri=>?_)]
   .w_on
    show(cm _,λp hp=>?_);let s3:=ax (o:=.lst []) hp;let ep:aa H3 p (.lst []) p=some (.lst []):=ar
    rcases cs with⟨hn,rfl,rfl⟩|⟨hn,q1,q2,q3,q4,q5⟩
    .rcases kk with⟨hn',_⟩|⟨b,hb,rfl,l4,kk⟩
     .show absurd hn hn'
     let h5:=h2.same s3;let Ui:=s3 _ _ hB;let(ts,tl,Bl,r,e1,e2,e3,e4,e5):=(h5.ch b hb).1.last (h5.ch b hb).2.1;generalize aa H3 p (.lst [])=H5 at s3 ep h5 Ui e1 e4 e5⊢;let W2:=h5.y;erw[tI e1 ep]
     let ne:(ts.map V.ref).isEmpty=false:=by
      cases ts with
      |nil=>cases e2
      |cons _ _=>rfl
     rw[ne]
     w_on
     erw[bB]
     w_on
     erw[iB (ah.of e1) (atI_last e2)]
     w_on
     erw[Md e5 Ui];by_cases zr:r.2=rs
     .rw[cY zr]
      w_on
      erw[bB]
      w_on
      let eg:kl S b rs=S:=bf ((t_ e3).trans zr);show(rfl,Ui,S,h5,rfl,rfl,rfl,hn,λH9 y9 st=>kk H9 rs hR (by rw[eg];show y9) ((bK.same (s12.trans s3)).trans st))
     rw[cW zr]
     w_on
     erw[br]
     w_on
     show(.inl (rfl,_,ah.of e1),?_)
     w_on
     show(by change 2<=sizeLine;decide,λt1 TU=>?_);let s4:=ax (o:=.tup [.int S.day,.ref B]) TU;let e6:aa H5 t1 (.tup [.int S.day,.ref B]) t1=_:=ar;let h6:=h5.same s4;let VY:=s4 _ _ Ui;let e7:=s4 _ _ e1;generalize aa H5 t1 (.tup [.int S.day,.ref B])=H6 at s4 h6 VY e6 e7⊢
     w_on
     let lt:(ts.map V.ref).length=b.ch.length:=by
      let(Zr,Bs,z1,z2,_):=(h6.ch b hb).1;rw[e7]at z1;injection cH z1 with z1;rw[z1,au];lia
     erw[md e7 (cA (by rw[lt];lia))]
     w_on
     let gB:B≠S.g b.nm:=bp VY e7 nofun
     show(rfl,by rw[aB gB];show VY,nR S b.nm rs,OD h6 hb e7 l4 e6 VY,rfl,rfl,rfl,?_,λH9 y9 st=>kk H9 rs hR (by rw[show kl S b rs=nR S b.nm rs from aO λz=>zr ((t_ e3).symm.trans z)];show y9) ?_)
     .show Ag.mpr (_,Ag.mpr (b,hb,rfl),j5 _ _ b)
     rw[FH]at st;show((bK.same (s12.trans (s3.trans s4))).trans (λb' u' n y=>by rw[aB (show b'≠S.g b.nm from λc=>n (by rw[c];show FD hb))];show y,λb' y=>.inl y)).trans st
    .rcases kk with⟨_,h8,kk⟩|⟨b,hb,rfl,_⟩
     rotate_left
     .show absurd (Ag.mpr (b,hb,rfl)) hn
     erw[tI (s3 _ _ q5) ep];let W2:=s3 _ _ XR;let Ui:=s3 _ _ hB3;let z5:=s3 _ _ q5;generalize aa H3 p (.lst [])=H5 at s3 ep W2 Ui z5⊢;rw[show([]:LT).isEmpty=true from rfl]
     w_on
     show br (br ?_)
     w_on
     show(.inl (rfl,_,ah.of z5),?_)
     w_on
     show(by change 2<=sizeLine;decide,λt1 TU=>?_);let s4:=ax (o:=.tup [.int S.day,.ref B]) TU;let e6:aa H5 t1 (.tup [.int S.day,.ref B]) t1=_:=ar;let e7:=s4 _ _ z5;let VY:=s4 _ _ Ui;generalize aa H5 t1 (.tup [.int S.day,.ref B])=H6 at s4 e6 e7 VY⊢
     w_on
     erw[md e7 (cA (by decide))]
     w_on
     let k6:∀{b:Addr} {v:HO},H6 b=some v->v≠ .lst []->aa H6 c (.lst ([]++[.ref t1])) b=some v:=λz n=>by rw[aB (bp z e7 n)];show z
     let u:∀b v,b≠S.a.dc->b≠S.a.de->H2 b=some v->aa H6 c (.lst ([]++[.ref t1])) b=some v:=λb v z1 z2 z=>by
      rw[aB (bq z q1)];show s4 _ _ (s3 _ _ (q2 b v z1 z2 z))
     show(rfl,k6 VY nofun,nU S nm c rs,OE h2 hn h8 q1 u (k6 (s4 _ _ (s3 _ _ q3)) nofun) (k6 (s4 _ _ (s3 _ _ q4)) nofun) ar (k6 e6 nofun) (k6 VY nofun),rfl,rfl,rfl,Ag.mpr (_,cF _ (Ra.mpr rfl),rfl),λH9 y9 st=>kk c H9 rs hR y9 ((bK.same s12).trans ((OF hn q1 u).trans st)))
   .ext Z' H4 ⟨rfl,Zi,S1,h4,ea,en,ek,hnm,kk⟩;rw[<-ea];let hy4:=h4.y
    w_on
    let fB:=nT h4 Zi;let hl:=hR.le λ_ z=>z;show(B,rfl,(_,az.of Zi),?_);erw[dP (λi Z' H'=>(∃y,Z'=[some (.ref S1.a.y),some (.int nm),some (.ref t),some (.ref B),some (.ref c),y])/\YT CY CD aL H' (fe S1 (some nm) (rs.take i))/\bK (Ft S1) (Ft S1) H4 H') rs.length ((none,rfl),by rw[AE,FE];show h4,bK.refl) ?_]
    .ext Z' H5 ⟨⟨y,rfl⟩,h5,st⟩;let Ui:=st.1 _ _ fB Zi;show((_,az.of Ui,by rw[au];show aD _),?_);rw[fk]at h5;let W2:H5 S1.a.y=some (.ins CY S1.a.dx (yF S1.most S1.day S1.a.dl S1.a.dc S1.a.de S1.a.db)):=h5.y;let WE:H5 S1.a.db=some (.ins CD S1.a.ddx (dF S1.a.dn S1.a.dt 0)):=h5.b
     w_on
     let(l1,m1,z1):=h5.nm;let(l2,m2,z2):=h5.tm;show(_,_,S1.a.db,S1.a.ddx,S1.a.dn,S1.a.dt,B,0,l1,l2,nm,rs,rfl,h5.b,m1,m2,Ui,(mz h4.dd).2.2.2.2.2.2.2.2.2,z1,z2,?_,hnm,λH6 k1 k2 e1 w1 e2 w2 u6=>?_)
     .have:=z1.len (ns:=S1.nms) λt z=>z;let b8:=h4.b8;rw[show S1.nms.length=S1.bs.length from au ..]at this;lia
     w_on
     let e3:H6 S1.a.db=some (.ins CD S1.a.ddx (dF S1.a.dn S1.a.dt 0)):=u6 _ _ (bp h5.b m1 nofun) (bp h5.b m2 nofun) h5.b;show kk H6 (h5.owe e3 (k1,e1,w1) (k2,e2,w2) (λb v _ a c z=>u6 b v a c z) h4.dd (bp h5.y h5.b λz=>by injection z with _ _ z;show absurd (congrArg List.length z) (by change ¬(6=5);decide))) (st.trans (λb u n z=>u6 b u (λc=>n (.inr (.inr (.inr (.inr (.inr (.inl c))))))) (λc=>n (.inr (.inr (.inr (.inr (.inr (.inr (.inl c)))))))) z,λb z=>.inl z))
    .ext MM RR Bk mi ri i Z' H5 hi ⟨⟨y,rfl⟩,h5,st⟩;let e1:rs[i]?=some rs[i]:=aK hi;let Ui:=st.1 _ _ fB Zi;show((_,.int rs[i],az.of Ui,by rw[aH,e1];rfl),?_);let W2:H5 S1.a.y=some (.ins CY S1.a.dx (yF S1.most S1.day S1.a.dl S1.a.dc S1.a.de S1.a.db)):=h5.y;ext x' G ⟨rfl,hy⟩;let ex:=hy _ (az.of Ui);rw[aH,e1]at ex;cases ex
     obtain⟨j,hj,ej⟩:∃j:Nat,j<S1.n/\rs[i]=(j:Int)+1:=by
      have:=hm _ ((hR.2 _).mp (cG hi));show((rs[i] - 1).toNat,(),())
     w_on
     show(by change 2<=sizeLine;decide,λpp VM=>?_);let s6:=ax (o:=.tup [.str "boat",.int nm]) VM
     w_on
     show(fe S1 (some nm) (rs.take i),j,pp,some nm,by rw[ej];rfl,h5.same s6,ar,.inl hj,by change S1.k+(rs.take i).length<9000;rw[d_];lia,λf' H7 h7 U_ ef=>?_);cases ef hj;rw[show(fe S1 (some nm) (rs.take i)).f=S1.f from rfl,FG hj,<-ej,<-mF hi]at h7;rw[u3 (S:=fe S1 (some nm) (rs.take i)) hj]at U_
     w_on
     show((_,rfl),h7,st.trans ((bK.same s6).trans U_))
noncomputable def dE(nm d:Int)(c:Bt):Bt:=if c.nm=nm then{c with dn:=some d}else c
def km(nm d:Int)(c:Bt):(dE nm d c).nm=c.nm:=by unfold dE;split<;>rfl
def OJ(nm d:Int)(c:Bt):(dE nm d c).ch=c.ch:=by unfold dE;split<;>rfl
def OK{bs:List Bt}{b:Bt}{d:Int}(nd:(bs.map (·.nm)).Nodup)(hb:b∈bs):bu (bV bs) (.inl b.nm) (.int d)=bV (bs.map (dE b.nm d)):=by
 unfold bu;rw[jY,show aM (bV bs) (.inl b.nm)=some b.end from nP (α:=Bt.end) nd hb,bf (show(some b.end).isSome=true from rfl)];unfold bV;rw[du,du];show ij λc _=>?_
 change(if(Sum.inl c.nm:aF)=.inl b.nm then((Sum.inl c.nm:aF),V.int d,)else(Sum.inl c.nm,c.end,))=(Sum.inl (dE b.nm d c).nm,(dE b.nm d c).end,)
 rw[km];unfold dE;by_cases z:c.nm=b.nm
 .rw[bf (by rw[z]),bf z];rfl
 .grind
noncomputable def qd(S:YP)(nm:Int):YP:={S with bs:=S.bs.map (dE nm S.day)}
def FI{bs:List Bt}{nm d:Int}:(bs.map (dE nm d)).map (·.nm)=bs.map (·.nm):=by rw[du];show ij λc _=>km _ _ c
def OL{H:Hp}{S:YP}{nm:Int}(h:YT CY CD aL H S):YT CY CD aL (aa H S.a.de (.dK (bV (S.bs.map (dE nm S.day))))) (qd S nm):=by
 let(_,d1,_,_,d4,_,_,d7,d8,_):=mz h.dd
 let q:∀{x:Addr} {v:HO},H x=some v->v≠ .dK (bV S.bs)->aa H S.a.de (.dK (bV (S.bs.map (dE nm S.day)))) x=some v:=λz n=>by rw[aB (bp z h.we n)];show z
 let r:∀{x:Addr} {v:HO},H x=some v->x≠S.a.de->aa H S.a.de (.dK (bV (S.bs.map (dE nm S.day)))) x=some v:=λz n=>by rw[aB n];show z
 let ec:cL S.g (S.bs.map (dE nm S.day))=cL S.g S.bs:=by unfold cL;rw[du];show ij λc _=>by change(_,V.ref (S.g (dE _ _ c).nm),)=_;rw[km]
 let mem:∀c'∈S.bs.map (dE nm S.day),∃c∈S.bs,c'=dE nm S.day c:=λc' hc=>by obtain⟨c,h1,h2⟩:=Ag.mp hc;show(c,h1,h2.symm)
 show((q h.y nofun,.inl (r h.w d1),by change _=some (HO.dK (cL S.g (S.bs.map (dE nm S.day))));rw[ec];show r h.c d4,.inl ar,q h.b nofun,by change iG _ _ (λt=>t∈(S.bs.map (dE nm S.day)).map (·.nm));rw[FI];show h.nm.keep λ_ z=>r z (Ne.symm d7),h.tm.keep λ_ z=>r z (Ne.symm d8),λj hj=>(h.ln j hj).keep (λys z=>q z nofun) λ_ _ z=>q z nofun,λc' RV=>?_,h.n60,?_,?_),r h.w d1,ar,h.dd,h.fi,λc1 h1 c2 h2 z=>?_,λi hi c1 h1=>?_)
 .let(c,hc,rfl):=mem c' RV;rw[km,OJ];show((h.ch c hc).1.keep (λys z=>q z nofun) λ_ _ z=>q z nofun,(h.ch c hc).2)
 .change(S.bs.map _).length<64;rw[au];show h.b8
 .change((S.bs.map _).map _).Nodup;rw[FI];show h.nd
 .let(c,hc,rfl):=mem c1 h1;let(c',RV,rfl):=mem c2 h2;rw[km,km]at z⊢;show h.gi c hc c' RV z
 .let(c,hc,rfl):=mem c1 h1;rw[km];show h.fg i hi c hc
def OM{S:YP}{nm:Int}:Ft (qd S nm)=Ft S:=by
 funext b
 let q:(∃x∈S.bs.map (dE nm S.day),b=S.g x.nm)=∃x∈S.bs,b=S.g x.nm:=propext (λ(x,hx,e)=>by obtain⟨c,hc,rfl⟩:=Ag.mp hx;show(c,hc,by rw[km]at e;show e),λ(x,hx,e)=>(_,Ag.mpr (x,hx,rfl),by rw[km];show e));unfold Ft tW
 change(_\/_\/_\/_\/_\/_\/_\/_\/∃x∈S.bs.map (dE nm S.day),b=S.g x.nm)=_
 rw[q];rfl
def yN(CY CD aL:Addr):Sp:=λvs H Q _=>∃(S:YP) (b:Bt),vs=[.ref S.a.y,.int b.nm]/\YT CY CD aL H S/\b∈S.bs/\b.dn=none/\1<=b.now.length/\b.now.length<64/\(∀t∈b.now,1<=t/\t<=60)/\∀dn dt H',YT CY CD aL H' (qd (nQ S dn dt) b.nm)->bK (Ft S) (Ft (nQ S dn dt)) H H'->Q .non H'
abbrev yO:Stmt:=eU (bj 71) 7
def ON:bc ["self","name"] ["self","name"] (aW yO):=bh
def OO{f:Addr}{fd:FuncData}(F:aY K "sink" "Yard.sink" yO f fd)(Y:fK K CY)(fP:b_ P w K mg base CY "boat" 2 ["self","name"] (ki CY CD aL))(AU:b_ P w K mg base CD "part" 2 ["self","name","timbers"] (yp CD)):aN P w K mg base aU 3 f fd ["self","name"] (yN CY CD aL):=by
 let(hc,n1,n2,n3,n4,n5,n6):=Y;show F.ok ON (λvs H Q E h=>?_) (λaP A outer s H vs Q E hr h=>?_)
 .let(_,_,rfl,_):=h;rfl
 .let(S,b,rfl,h,hb,hd,l1,XJ,hR,kk):=h
  show(_,(aG (eB (pM AU (bU (K:=K) rfl (pv 0)) (ab (pv 1) (ab (pM fP (pv 0) (ab (pv 1) ak)) ak))))
   (aA (gE (cw hr.units) (bU (K:=K) rfl (pv 0)) (pv 1) (bU (K:=K) rfl (pv 0)) rfl))),?_)
  let hy:=h.y;let Ug:=h.b
  kd_p
  show(S,b,rfl,h.toYardR,hb,hd,λp H1 s1 _ hp=>?_);let h1:=h.same s1;let(k1,m1,z1):=h1.nm;let(k2,m2,z2):=h1.tm
  kd_p
  show(_,_,S.a.db,S.a.ddx,S.a.dn,S.a.dt,p,0,b.nm,k1,k2,b.now,rfl,h1.b,m1,m2,(mz h.dd).2.2.2.2.2.2.2.2.2,z1,z2,?_,λl hl=>?_,hp,l1,XJ,hR,λdn dt k2' H2 e1 e2 e3 e4 e5 e6 w2 u=>?_)
  .have:=z1.len (ns:=S.nms) λt z=>z;let b8:=h.b8;rw[show S.nms.length=S.bs.length from au ..]at this;lia
  .have:=hl.len (ns:=(List.range 60).map λi:Nat=>(i:Int)+1) λt z=>Ag.mpr ((t - 1).toNat,QU.mpr (),());rw[au,gL]at this;lia
  let dd:[S.a.dl,S.a.dc,S.a.de,dn,dt].Nodup:=by
   let(d0,d1,_,_,d4,_):=mz h.dd;simp only[fV,cb,fO,bF,Av,qS,and_true];show((d0,d1,bq h1.w e1,bq h1.w e2),(d4,bq h1.c e1,bq h1.c e2),(bq h1.we e1,bq h1.we e2),e3)
  let h2:=h1.owe e4 (_,e5,z1.drop _) (_,e6,w2) (λb v n _ _ z=>u b v n z) dd (bp h1.y h1.b λz=>by injection z with _ _ z;show absurd (congrArg List.length z) (by change ¬(6=5);decide));let UG:=h2.y;let hw2:=h2.we;let h3:=OL (nm:=b.nm) h2
  let fr:∀{a:Addr},H1 a=none->H a=none:=λ{a} z=>by
   cases q:H a with
   |none=>rfl
   |some o=>rw[s1 _ _ q]at z;cases z
  let st:bK (Ft S) (Ft (nQ S dn dt)) H (aa H2 S.a.de (.dK (bV (S.bs.map (dE b.nm S.day))))):=by
   show(λx v n z=>?_,λx z=>?_)
   .rw[aB (λc=>n (.inr (.inr (.inr (.inl c)))))];show u _ _ (λc=>n (.inr (.inr (.inr (.inr (.inl c)))))) (s1 _ _ z)
   .rcases z with z|z|z|z|z|z|z|z|z
    .show .inl (.inl z)
    .show .inl (.inr (.inl z))
    .show .inl (.inr (.inr (.inl z)))
    .show .inl (.inr (.inr (.inr (.inl z))))
    .show .inl (.inr (.inr (.inr (.inr (.inl z)))))
    .right;rw[z];show fr e1
    .right;rw[z];show fr e2
    .show .inl (.inr (.inr (.inr (.inr (.inr (.inr (.inr (.inl z))))))))
    .show .inl (.inr (.inr (.inr (.inr (.inr (.inr (.inr (.inr z))))))))
  kd_p
  show(S.a.de,_,rfl,.inl (bV S.bs,.inl b.nm,hw2,rfl,cA (by unfold bV;rw[au];have:=h.b8;lia),rfl),?_);rw[OK h.nd hb];show kk dn dt _ h3 st
def yP{Z:St}{H:Hp}{D:gu}{x C dx:Addr}{fs:List (Str×V)}{f:Str}{i:Nat}(hσ:Z[i]?=some (some (.ref x)))(e:H x=some (.ins C dx fs))(l:fs.length<1000)(c:dR K C)(n:dD K C f)
  (q:∀d H',H d=none->d≠x->H' x=some (.ins C dx (bG f (.ref d) fs))->H' d=some (.dK [])->bS x H H'->D.nx Z H'):rL K (eT i) wI f D Z H:=by
 ext d hd
 let nd:d≠x:=λz=>by rw[z,e]at hd;cases hd
 show(_,hσ,x,C,dx,fs,rfl,ax hd _ _ e,c,n,l,q d _ hd nd ar (by rw[aB nd];show ar) ((ax hd).but.trans fS))
def KD.nil{R:Int->Prop}:KD R []:=(λ_ h=>(bF h).elim,.nil,λ_ h=>(bF h).elim)
noncomputable def y0(a:YA)(m:Int):YP:=(a,λ_=>0,λ_=>0,m,0,0,λ_=>none,[],0)
def yQ(CY CD aL:Addr):Sp:=λvs H Q _=>∃(x dx:Addr) (m:Int),vs=[.ref x,.int m]/\H x=some (.ins CY dx [])/\1<=m/\m<=12/\∀(a:YA) H',a.y=x->YT CY CD aL H' (y0 a m)->bS x H H'->Q .non H'
abbrev yR:Stmt:=eU (bj 71) 0
def OP:bc ["self","slip"] ["self","slip"] (aW yR):=bh
def OQ{f:Addr}{fd:FuncData}(F:aY K "__init__" "Yard.__init__" yR f fd)(Y:fK K CY)(AV:ba P w K mg base "need_slip" 2 ["number"] xx)(AW:nI P w K mg base "Debts" CD 1 ["self"] (yn CD)):aN P w K mg base aU 3 f fd ["self","slip"] (yQ CY CD aL):=by
 let(hc,n1,n2,n3,n4,n5,n6):=Y;show F.ok OP (λvs H Q E h=>?_) (λaP A outer s H vs Q E hr h=>?_)
 .let(_,_,_,rfl,_):=h;rfl
 .let(x,dx,m,rfl,e0,m1,m2,k):=h
  show(_,(aG (eB (pC AV (ab (pv 1) ak)))
   (aG (gh (K:=K) rfl (pv 0) (pv 1) rfl)
   (aG (gh (K:=K) rfl (pv 0) ay rfl)
   (aG (gh (K:=K) rfl (pv 0) mr rfl)
   (aG (gh (K:=K) rfl (pv 0) mr rfl)
   (aG (gh (K:=K) rfl (pv 0) mr rfl)
   (aA (gh (K:=K) rfl (pv 0) (LX AW (hr.mono ()) (by rfl)) rfl)))))))),?_)
  kd_p
  show(m,rfl,m1,m2,?_);show kZ (tG (dW rfl (dW rfl (pN e0 (by decide) hc n1 ?_))));show kZ (tG (di (dW rfl (pN ar (cP (by kernel_rfl)) hc n2 ?_))));rw[uO];let b1:bS x H (aa H x (.ins CY dx (bG "day" (.int 0) (bG "most" (.int m) [])))):=fS;let e1:aa H x (.ins CY dx (bG "day" (.int 0) (bG "most" (.int m) []))) x=some (.ins CY dx (bG "day" (.int 0) (bG "most" (.int m) []))):=ar;generalize aa H x (.ins CY dx (bG "day" (.int 0) (bG "most" (.int m) [])))=H1 at b1 e1⊢;show kZ (yP rfl e1 (cP (by kernel_rfl)) hc n3 λdl H2 l0 nl e2 l2 b2=>?_);show kZ (yP rfl e2 (cP (by kernel_rfl)) hc n4 λdc H3 c0 nc e3 c3 b3=>?_);show kZ (yP rfl e3 (cP (by kernel_rfl)) hc n5 λde H4 d0 nd e4 d4 b4=>?_)
  kd_p
  ext db ddx hb hdx nb;let s5:=(ax (o:=.own db) hdx).trans (ax (o:=.ins CD ddx []) (show aa H4 ddx (.own db) db=none by rw[aB (Ne.symm nb)];show hb));let WE:aa (aa H4 ddx (.own db)) db (.ins CD ddx []) db=some (.ins CD ddx []):=ar;generalize aa (aa H4 ddx (.own db)) db (.ins CD ddx [])=H5 at s5 WE⊢;show(db,ddx,rfl,WE,λdn dt H6 e6 hn ht en et nnt b6=>(rfl,?_));let nx:x≠db:=bq e4 hb;let l4:=b4 _ _ nl (b3 _ _ nl l2);let c4:=b4 _ _ nc c3;let g:∀b o,H4 b=some o->H6 b=some o:=λb o z=>b6 b o (bq z hb) (s5 _ _ z);show dW rfl (pN (g _ _ e4) (cP (by kernel_rfl)) hc n6 ?_);rw[MG];let ZJ:db≠x:=Ne.symm nx;let nn:∀b,H5 b=none->b≠x:=λb z=>(bq (s5 _ _ e4) z).symm;let nlx:∀b,H5 b=none->b≠dl:=λb z=>(bq (s5 _ _ l4) z).symm
  let uu:∀b o,b≠x->H6 b=some o->aa H6 x (.ins CY dx (yF m 0 dl dc de db)) b=some o:=λb o n z=>by rw[aB n];show z
  let c3':=b4 _ _ nc c3;let o:∀{b:Addr},H4 b=some (.dK [])->∀{d:Addr},H5 d=none->b≠d:=λz _ q=>bq (s5 _ _ z) q;erw[k (x,dx,dl,dc,de,db,ddx,dn,dt) _ rfl ((ar,.of (uu _ _ nl (g _ _ l4)),uu _ _ nc (g _ _ c4),.of (uu _ _ nd (g _ _ d4)),uu _ _ ZJ e6,([],uu _ _ (nn _ hn) en,KD.nil),([],uu _ _ (nn _ ht) et,KD.nil),λi hi=>absurd hi (iO _),(λ_ hb=>(by cases hb)),cm _,(by change 0<64;decide),.nil),uu _ _ nl (g _ _ l4),uu _ _ nd (g _ _ d4),?_,(λi _ hi=>absurd hi (iO _)),(λ_ hb=>(by cases hb)),λi hi=>absurd hi (iO _))]
  .let q1:dl≠dc:=bq l2 c0;let q2:dl≠de:=bq (b3 _ _ nl l2) d0;let q3:dc≠de:=bq c3 d0
   change[dl,dc,de,dn,dt].Nodup
   grind
  .show λb o n z=>uu _ _ n (g _ _ (b4 _ _ n (b3 _ _ n (b2 _ _ n (b1 _ _ n z)))))
def yS(lo hi:Int):Sp:=λvs H Q _=>∃x:Int,vs=[.int x]/\lo<=x/\x<=hi/\Q .non H
abbrev yT:Stmt:=bj 27
def OR:bc ["number"] ["number"] (aW yT):=bh
def OS{f:Addr}{fd:FuncData}(F:aY K "need_day" "need_day" yT f fd)(oC:ba P w K mg base "is_day" 1 ["number"] (gH 1 400)):aN P w K mg base aU 2 f fd ["number"] (yS 1 400):=by
 show F.ok OR (λvs H Q E h=>?_) (λaP A outer s H vs Q E hr h=>?_)
 .let(x,rfl,_):=h;rfl
 .let(x,rfl,a,b,k):=h;show(_,(aA (bx (fu (eh (pC oC (ab (pv 0) ak)))) (aA fI) bD)),?_)
  kd_p
  show(x,rfl,?_);rw[lC a b]
  kd_p
  done
def lE.dayed{H:Hp}{S:YP}{d:Int}(h:YT CY CD aL H S):YT CY CD aL (aa H S.a.y (.ins CY S.a.dx (yF S.most d S.a.dl S.a.dc S.a.de S.a.db))) {S with day:=d}:=by
 let u:∀{b:Addr} {o:HO},H b=some o->o≠ .ins CY S.a.dx (yF S.most S.day S.a.dl S.a.dc S.a.de S.a.db)->aa H S.a.y (.ins CY S.a.dx (yF S.most d S.a.dl S.a.dc S.a.de S.a.db)) b=some o:=λz no=>by
  rw[aB (bp z h.y no)];show z
 let nb:HO.ins CD S.a.ddx (dF S.a.dn S.a.dt 0)≠ .ins CY S.a.dx (yF S.most S.day S.a.dl S.a.dc S.a.de S.a.db):=λz=>by injection z with _ _ z;cases z
 show((ar,.of (u h.w nofun),u h.c nofun,.of (u h.we nofun),u h.b nb,h.nm.keep λ_ z=>u z nofun,h.tm.keep λ_ z=>u z nofun,λi hi=>(h.ln i hi).keep (λ_ z=>u z nofun) λ_ _ z=>u z nofun,λb hb=>((h.ch b hb).1.keep (λ_ z=>u z nofun) λ_ _ z=>u z nofun,(h.ch b hb).2),h.n60,h.b8,h.nd),u h.w nofun,u h.we nofun,h.dd,h.fi,h.gi,h.fg)
noncomputable def iH(S:YP)(f':Nat->Addr)(x:Nat):YP:={S with f:=f',n:=S.n+x,k:=S.k+x}
def OT{S:YP}{f' f2:Nat->Addr}{x:Nat}(hp:∀i,S.n<=i->S.pl i=none):jz (iH S f' x) (S.n+x) none f2=iH S f2 (x+1):=by
 unfold jz iH
 let e1:max (S.n+x) (S.n+x+1)=S.n+(x+1):=()
 let e2:(λj=>if j=S.n+x then none else S.pl j)=S.pl:=by
  funext j
  by_cases z:j=S.n+x
  .rw[bf z,hp j ()]
  .rw[aO z]
 let e3:S.k+x+1=S.k+(x+1):=rfl;simp only[e1,e2,e3]
def yU(CY CD aL:Addr):Sp:=λvs H Q _=>∃(S:YP) (p:Addr) (x:Nat),vs=[.ref S.a.y,.ref p]/\YT CY CD aL H S/\H p=some (.tup [.str "fell",.int x])/\S.n+x<=60/\S.k<8900/\(∀i,S.n<=i->S.pl i=none)/\∀f' H',YT CY CD aL H' (iH S f' x)->bK (Ft S) (Ft (iH S f' x)) H H'->Q (.str "good") H'
abbrev yV:Stmt:=bj 60
def OU:bc ["yard","fact","last","timber"] ["yard","fact"] (aW yV):=bh
def OV{f:Addr}{fd:FuncData}(F:aY K "enter_fell" "enter_fell" yV f fd)(T:bC mg){tk:Tok}(Yn:mg "MOST_TIMBERS"=some (.int 60 tk))(hL:mg "LOOSE"=some (.ref aL))(uJ:b_ P w K mg base CY "felled" 1 ["self"] (yw CY CD aL))(kJ:b_ P w K mg base CY "move" 2 ["self","timber","place"] (qb CY CD aL)):aN P w K mg base aU 3 f fd ["yard","fact"] (yU CY CD aL):=by
 show F.ok OU (λvs H Q E h=>?_) (λaP A outer s H vs Q E hr h=>?_)
 .let(_,_,_,rfl,_):=h;rfl
 .let(S,p,x,rfl,h,hp,hn,hk,pn,k):=h
  show(_,(aG (qV 2 (bg cT (jm uJ (hr.mono ()) (pv 0)) (qT K (pv 1) ay)))
   (aG (bx (qE dI (pv 2) (fz (v:=.int 60) (by rfl) Yn (_,rfl))) (aA (aQ aT)) bD)
   (aG (dC dH rfl (uQ (by rfl) T.z_range (ab (bg cT (jm uJ (hr.mono ()) (pv 0)) ay) (ab (bg cT (pv 2) ay) ak))) (qG 3) (aA (eB (pM kJ (pv 0) (ab (pv 3) (ab (fz (v:=.ref aL) (by rfl) hL rfl) ak))))))
   (aA (aQ aT))))),?_)
  let hy:=h.y
  w_on
  show(S,rfl,h.toYardR,?_)
  w_on
  show kW (λz=>?_) (λz=>?_)
  .have:=cP z;lia
  .w_on
   show(S,rfl,h.toYardR,?_)
   w_on
   show(_,_,rfl,((),(),(),()),?_)
   let e:((S.n:Int)+x+1 - ((S.n:Int)+1)).toNat=x:=()
   rw[e];erw[dP (λi Z' H'=>(∃f',YT CY CD aL H' (iH S f' i)/\bK (Ft S) (Ft (iH S f' i)) H H')/\∃v,Z'=[some (.ref S.a.y),some (.ref p),some (.int ((S.n:Int)+x)),v]) x ((S.f,h,bK.refl),(_,rfl)) ?_]
   .ext Z' H' ⟨⟨f',h',st⟩,v,rfl⟩;show(aD _,?_)
    w_on
    show k f' H' h' st
   .ext MM RR Bk mi ri i Z' H' hi ⟨⟨f',h',st⟩,v,rfl⟩;show(hi,?_);let Sf:H' S.a.y=some (.ins CY S.a.dx (yF S.most S.day S.a.dl S.a.dc S.a.de S.a.db)):=h'.y;ext x' H2 ⟨rfl,rfl⟩
    w_on
    show(iH S f' i,S.n+i,aL,none,?_,h',rfl,.inr (rfl,rfl,by change S.n+i<60;lia),by change S.k+i<9000;lia,λf2 H3 h3 Xp _=>?_)
    .rw[show(((S.n+i:Nat):Int)+1)=(S.n:Int)+1+i by lia];rfl
    .rw[OT pn]at h3 Xp
     w_on
     show((f2,h3,st.trans Xp),(_,rfl))
def FJ{S:YP}{p:Addr}{bn:List Bt}{H1:Hp}{Fin:LT->Hp->Prop}(h:YR CY CD aL H1 S)(hp:H1 p=some (.tup ((bn.map (·.nm)).map V.int)))(hb:∀b∈bn,b∈S.bs/\b.dn=none)(hl:(bn.map Bt.now).flatten.length<1000)(fin:∀H',aC H1 H'->Fin ((bn.map Bt.now).flatten.map V.int) H'):
  n8 (jM K p) (dB 0) gP (oP K (lZ CY "boat" (ki CY CD aL) [] E0 (eT 2) (mV (eT 0) jd))) (dB 1) gP (eT 1) Fin [none,none,some (.ref S.a.y)] H1:=by
 erw[vD (λi ys Z' H'=>(∃x y,Z'=[x,y,some (.ref S.a.y)])/\aC H1 H'/\ys=(((bn.map Bt.now).take i).flatten).map V.int) bn.length ((none,none,rfl),aC.refl _,rfl) ?_]
 .ext ys Z' H' ⟨_,s,rfl⟩;rw[ku ⋯];show((_,az.of (s _ _ hp),by rw[au,au];show aD _),fin _ s)
 .ext i ys Z' H' hi ⟨⟨x,y,rfl⟩,s,rfl⟩;let e1:bn[i]?=some bn[i]:=aK hi;let Uc:=s _ _ hp;show((_,.int bn[i].nm,az.of Uc,by rw[aH,aH,e1];rfl),?_);let Rt:=hi;let h':=h.same s;ext x' G ⟨rfl,hy⟩;let ex:=hy _ (az.of Uc);rw[aH,aH,e1]at ex;cases ex;let Sf:=h'.y
  let et:(bn.map Bt.now).take (i+1)=(bn.map Bt.now).take i++[bn[i].now]:=by rw[il,aH,e1];rfl
  let lf:(((bn.map Bt.now).take i).flatten).length+bn[i].now.length<=(bn.map Bt.now).flatten.length:=by
   have:(bn.map Bt.now).flatten=((bn.map Bt.now).take (i+1)).flatten++((bn.map Bt.now).drop (i+1)).flatten:=by rw[<-kz,qK]
   grind
  erw[gz,k_,br]
  kd_p
  show(S,bn[i],rfl,h',(hb _ (cG hi)).1,(hb _ (cG hi)).2,λl H2 s2 _ Ro=>?_)
  kd_p
  show(l,rfl,(_,ah.of Ro),?_);erw[vC (λj ys Z' H'=>(∃y,Z'=[some (.int bn[i].nm),y,some (.ref S.a.y)])/\H'=H2/\ys=(((bn.map Bt.now).take i).flatten++bn[i].now.take j).map V.int) bn[i].now.length ((_,rfl),rfl,by rw[AE,jD]) ?_]
  .ext ys Z' H' ⟨⟨y,rfl⟩,rfl,rfl⟩;show((_,ah.of Ro,by rw[au];show aD _),?_);show cu hi ((_,_,rfl),s.trans s2,?_)
   grind
  .ext j ys Z' H' hj ⟨⟨y,rfl⟩,rfl,rfl⟩;let f1:bn[i].now[j]?=some bn[i].now[j]:=aK hj;show((_,.int bn[i].now[j],ah.of Ro,by rw[aH,f1];rfl),cM (show _<1000 by rw[au,c6,d_];lia) (by decide),?_);ext x' G' ⟨rfl,hy⟩;let ex:=hy _ (ah.of Ro);rw[aH,f1]at ex;cases ex;erw[gz,k_,br,dW rfl];show cu hj ((_,rfl),rfl,?_);rw[il,f1]
   grind
def OW{S:YP}{rs:LE}(h:eJ rs (my S))(n60:S.n<=60):rs.length<=60:=by
 have:=h.le (ns:=(List.range S.n).map λi:Nat=>(i:Int)+1) λx (i,hi,e,_)=>Ag.mpr (i,QU.mpr hi,e.symm)
 grind
def bZ{b:Bool}{A B:Prop}(p:b=true->A)(q:b=false->B):if b=true then A else B:=by
 grind
def OX{p:Addr}{ns:LE}{φ:Int->Bool}{te:TE}{fr:St}{H1:Hp}{Fin:LT->Hp->Prop}(hp:H1 p=some (.tup (ns.map V.int)))(hl:ns.length<=100)
  (step:∀x H' (R:VK),x∈ns->aC H1 H'->(∀H3,aC H1 H3->R (.bl (φ x)) H3)->te (some (.int x)::fr) H' R) (fin:∀H',aC H1 H'->Fin ((ns.map φ).map V.bl) H'):jf (jM K p) (dB 0) gP te Fin (none::fr) H1:=by
 let lw:((ns.map φ).map V.bl).length=ns.length:=∅
 let lm:(ns.map V.int).length=ns.length:=au ..;show j0 (ws:=(ns.map φ).map V.bl) (λZ=>∃x,Z=x::fr) (none,rfl) () (λH' s'=>(_,az.of (s' _ _ hp),())) (λi H' hi s'=>(_,_,az.of (s' _ _ hp),aK ())) ?_ fin;ext i wv x Z' H' H2 R R0 hw ⟨x0,rfl⟩ s' ⟨rfl,hy⟩ hR;let ex:=hy _ (az.of (s' _ _ hp));rw[aH]at ex
 cases e:ns[i]? with
 |none=>rw[e]at ex;cases ex
 |some t=>
  rw[e]at ex;cases ex;rw[aH,aH,e]at hw;cases hw;erw[gz,k_,br];show step t _ _ (dr e) s' λH3 s3=>hR _ _ (_,rfl) s3
theorem FK{S:YP}:∀{ns:LE},(∀t∈ns,t∈S.afl)->∃bn:List Bt,bn.map (·.nm)=ns/\∀b∈bn,b∈S.bs/\b.dn=none
 |[],_=>([],rfl,λ_ h=>(bF h).elim)
 |t::r,h=>by
  let(bn,e,hb):=FK (ns:=r) λx hx=>h x (.tail _ hx);let(b,h1,h2,h3):=i7.mp (h t (.head _));show(b::bn,by rw[cQ,e,h3],λc hc=>?_)
  grind
theorem yW{m:Nat}:∀{ls:List LE},(∀l∈ls,l.length<=m)->ls.flatten.length<=m*ls.length
 |[],_=>cm _
 |l::r,h=>by
  have:=yW (m:=m) (ls:=r) λx hx=>h x (.tail _ hx);have:=h l (.head _);rw[qP,c6,kC,Nat.mul_add];lia
structure u5(S:YP)(ns:LE)(ag:List LE)(bn:List Bt):Prop where
 nm:bn.map (·.nm)=ns
 m:∀b∈bn,b∈S.bs/\b.dn=none
 hat:∀t∈ag.flatten,my S t\/t∈(bn.map Bt.now).flatten
 le:S.afl.length+ag.length<=8+ns.length
def yX(CY CD aL:Addr):Sp:=λvs H Q _=>∃(S:YP) (a b:Addr) (ns:LE) (ag:List LE),vs=[.ref S.a.y,.ref a,.ref b]/\YT CY CD aL H S/\H a=some (.tup (ns.map V.int))/\j4 H b ag/\(∀x∈S.bs,x.now.length<=12)/\ns.length<=8/\ag.flatten.length<400/\ag.length<=8/\(∀(wd:Str) H',wd≠"good"->aC H H'->Q (.str wd) H')/\∀bn H',u5 S ns ag bn->aC H H'->Q (.str "good") H'
abbrev yY:Stmt:=bj 61
abbrev OY:List Str:=["yard","names","sets","afloat","at_hand"]
def OZ:bc OY ["yard","names","sets"] (aW yY):=bh
def O_{f:Addr}{fd:FuncData}(F:aY K "refit_word" "refit_word" yY f fd)(T:bC mg){t2:Tok}(WH:mg "MOST_BOATS"=some (.int 8 t2))(jG:b_ P w K mg base CY "boats" 1 ["self"] (q8 CY CD aL))(AX:b_ P w K mg base CY "loose" 3 ["self"] (yI CY CD aL))(fP:b_ P w K mg base CY "boat" 2 ["self","name"] (ki CY CD aL)):aN P w K mg base aU 4 f fd ["yard","names","sets"] (yX CY CD aL):=by
 show F.ok OZ (λvs H Q E h=>?_) (λaP A outer s H vs Q E hr h=>?_)
 .let(_,_,_,_,_,rfl,_):=h;rfl
 .let(S,a,b,ns,ag,rfl,h,ha,(ts,hb,SE),TF,l8,lg,ls,YF,k):=h
  show(_,(aG (qV 3 (jm jG (hr.mono ()) (pv 0)))
   (aG (bx (fu (eh (cg (iC (K:=K) rfl rfl) (by rfl) T.z_all iA (ab (dU rfl (cX ["name"] [(3,"afloat",)]) (dO (K:=K) rfl (pv 1)) (by ext _ _ _ _ _;show(qG 0)) (by ext _ _ _ _ _;show cD) (by ext _ _ _ _ _;show(qC (jT (K:=K) rfl) (pv 0) (pv 1)))) ak)))) (aA (aQ aT)) bD)
   (aG (qV 4 (bg kT (jm AX (hr.mono ()) (pv 0)) (pj rfl (cX ["name","timber"] [(0,"yard",)]) (dO (K:=K) rfl (pv 1)) (by ext _ _ _ _ _;show(qG 0)) (by ext _ _ _ _ _;show cD) (by ext _ _ _ _ _;show(pv 1)) (by ext _ _ _ _ _;show(cU (K:=K) rfl (pM fP (pv 2) (ab (pv 0) ak)))) (by ext _ _ _ _ _;show(qG 1)) (by ext _ _ _ _ _;show cD))))
   (aG (bx (fu (eh (cg (iC (K:=K) rfl rfl) (by rfl) T.z_all iA (ab (pj rfl (cX ["timbers","timber"] [(4,"at_hand",)]) (dO (K:=K) rfl (pv 2)) (by ext _ _ _ _ _;show(qG 0)) (by ext _ _ _ _ _;show cD) (by ext _ _ _ _ _;show(qC (jT (K:=K) rfl) (pv 1) (pv 2))) (by ext _ _ _ _ _;show(dO (K:=K) rfl (pv 0))) (by ext _ _ _ _ _;show(qG 1)) (by ext _ _ _ _ _;show cD)) ak)))) (aA (aQ aT)) bD)
   (aG (bx (qE dI (bg cT (bg mQ (qN K T (pv 3)) (qN K T (pv 1))) (qN K T (pv 2))) (fz (v:=.int 8) (by rfl) WH (_,rfl))) (aA (aQ aT)) bD)
   (aA (aQ aT))))))),?_)
  let hy:=h.y
  kd_p
  show(S,rfl,h,λl H1 rs s1 _ hl pr _=>?_);let h1:=h.same s1;let Vc:=h1.y;let Tz:=s1 _ _ ha
  kd_p
  show(a,rfl,(_,az.of Tz),?_);show OX (φ:=λt=>decide (t∈rs)) Tz () (λx H' R hx s' q=>?_) λH2 s2 D hD=>?_
  .kd_p
   erw[mh (ah.of (s' _ _ hl))]
   grind
  let s3:=s2.trans (ax (o:=.lst ((ns.map λt=>decide (t∈rs)).map V.bl)) hD)
  kd_p
  show(D,_,rfl,ah.of ar,?_);generalize aa H2 D (.lst ((ns.map λt=>decide (t∈rs)).map V.bl))=H3 at s3⊢
  kd_p
  show bZ (λz=>?_) (λz=>?_)
  .kd_p
   show YF _ _ (by decide) (s1.trans s3)
  let Sw:∀t∈ns,t∈S.afl:=λt ht=>by
   let z:(ns.map λt=>decide (t∈rs)).all id=true:=by
    grind
   show pr.mem_iff.mp (cP (Aj.mp z _ (Ag.mpr (t,ht,rfl))))
  let(bn,rfl,hm):=FK Sw
  let lf:(bn.map Bt.now).flatten.length<=12*8:=by
   have:=yW (m:=12) (ls:=bn.map Bt.now) λq hq=>by obtain⟨c,hc,rfl⟩:=Ag.mp hq;show TF c (hm c hc).1
   grind
  let h3:=h1.same s3;let XR:=h3.y
  kd_p
  show(S,rfl,h3,λl4 H4 r4 s4 _ S3 hR=>?_);let h4:=h3.same s4;let hy4:=h4.y;let VA:=s4 _ _ (s3 _ _ Tz)
  kd_p
  show(a,rfl,(_,az.of VA),?_);show FJ h4.toYardR VA hm () λH5 s5 D5 SX=>?_;let s6:=s5.trans (ax (o:=.lst ((bn.map Bt.now).flatten.map V.int)) SX);let eD:aa H5 D5 (.lst ((bn.map Bt.now).flatten.map V.int)) D5=_:=ar;generalize aa H5 D5 (.lst ((bn.map Bt.now).flatten.map V.int))=H6 at s6 eD⊢;let l60:=OW hR h.n60;show l5 (s6 _ _ S3) eD (j9 (cA ⋯)) λq hq=>?_;rw[<-bO];let s7:=s6.trans (ax (o:=.lst ((r4++(bn.map Bt.now).flatten).map V.int)) hq);let eq:aa H6 q (.lst ((r4++(bn.map Bt.now).flatten).map V.int)) q=_:=ar;generalize aa H6 q (.lst ((r4++(bn.map Bt.now).flatten).map V.int))=H7 at s7 eq⊢;let s37:=s3.trans (s4.trans s7);let Zw:=s1.trans s37
  kd_p
  show(b,rfl,(_,az.of (Zw _ _ hb)),?_);show Fo (φ:=λt=>.bl (decide (t∈r4++(bn.map Bt.now).flatten))) (Zw _ _ hb) (SE.same Zw) () (λz hz x R q9=>?_) λD8 WI=>?_
  .kd_p
   erw[mh (ah.of eq)];show q9
  rw[show ag.flatten.map (λt=>V.bl (decide (t∈r4++(bn.map Bt.now).flatten)))=(ag.flatten.map λt=>decide (t∈r4++(bn.map Bt.now).flatten)).map V.bl by rw[du];rfl]at*;generalize hbl:(ag.flatten.map λt=>decide (t∈r4++(bn.map Bt.now).flatten))=bls at*;let s9:=s37.trans (ax (o:=.lst (bls.map V.bl)) WI);let e8:aa H7 D8 (.lst (bls.map V.bl)) D8=_:=ar;generalize aa H7 D8 (.lst (bls.map V.bl))=H8 at s9 e8⊢;let s8:=s1.trans s9
  kd_p
  show(D8,_,rfl,ah.of e8,?_)
  kd_p
  show bZ (λz=>?_) (λz=>?_)
  .kd_p
   show YF _ _ (by decide) s8
  let hat:∀t∈ag.flatten,my S t\/t∈(bn.map Bt.now).flatten:=λt ht=>by
   let z:bls.all id=true:=by
    grind
   have:=cP (Aj.mp z _ (hbl▸Ag.mpr (t,ht,rfl)))
   rcases ui.mp this with y|y
   .show .inl ((hR.2 t).mp y)
   .grind
  let f1:=s8 _ _ ha;let f2:=s8 _ _ hb;let f3:=s9 _ _ hl
  kd_p
  show bZ (λz=>?_) (λz=>?_)
  .kd_p
   show YF _ _ (by decide) s8
  kd_p
  show k bn _ (rfl,hm,hat,?_) s8;let z:=ux z;let e1:=pr.length_eq;let e2:=SE.1
  grind
def nV(H:Hp)(ts:Tk)(fl:List LE):Prop:=ts.length=fl.length/\∀(i:Nat) t ns,ts[i]?=some t->fl[i]?=some ns->H t=some (.lst (ns.map V.int))
def nV.snoc{H:Hp}{ts:Tk}{fl:List LE}{t:Addr}{ns:LE}(h:nV H ts fl)(ht:H t=some (.lst (ns.map V.int))):nV H (ts++[t]) (fl++[ns]):=by
 show(by simp[h.1],λi t' p' e1 e2=>?_)
 rcases fq i ts.length with q|q
 .rw[iL q]at e1;rw[iL (by rw[<-h.1];show q)]at e2;show h.2 i t' p' e1 e2
 .rw[fj q]at e1;rw[fj (by rw[<-h.1];show q),<-h.1]at e2
  grind
def FL{p:Addr}{xs:LT}{fl:List LE}{te:TE}{fr:St}{H1:Hp}{Fin:LT->Hp->Prop}(hp:H1 p=some (.tup xs))(e:xs.length=fl.length)(l8:fl.length<=100)
  (step:∀(i:Nat) (x:V) (ns:LE) H' (R:VK),xs[i]?=some x->fl[i]?=some ns->aC H1 H'->(∀l H3,aC H' H3->H3 l=some (.lst (ns.map V.int))->R (.ref l) H3)->te (some x::fr) H' R) (fin:∀H' ts,aC H1 H'->nV H' ts fl->Fin (ts.map V.ref) H'):jf (jM K p) (dB 0) gP te Fin (none::fr) H1:=by
 erw[gG (λi ys Z' H'=>(∃x,Z'=x::fr)/\aC H1 H'/\∃ts,ys=ts.map V.ref/\nV H' ts (fl.take i)) fl.length ((none,rfl),aC.refl _,[],rfl,rfl,nofun) ?_]
 .ext ys Z' H' ⟨_,s1,ts,rfl,hl⟩;rw[ku (aD _)]at hl;show((_,az.of (s1 _ _ hp),()),fin _ _ s1 hl)
 .ext MM mi i ys Z' H' hi ⟨⟨x,rfl⟩,s1,ts,rfl,hl⟩;let e1:xs[i]?=some (xs[i]'()):=aK ();let e2:fl[i]?=some fl[i]:=aK hi;let Uc:=s1 _ _ hp;show((_,_,az.of Uc,e1),cA (by rw[au,hl.1,d_];lia),?_);ext x' G ⟨rfl,hy⟩;let ex:=hy _ (az.of Uc);rw[e1]at ex;cases ex;erw[gz,k_,br]
  show step i _ _ _ _ e1 e2 s1 λl H3 s3 S4=>cu hi<|mi ((_,rfl),s1.trans s3,ts++[l],by rw[bO];rfl,?_)
  rw[il,e2];show nV.snoc (hl.1,λi t ns z1 z2=>s3 _ _ (hl.2 i t ns z1 z2)) S4
noncomputable def i8(ns:LE)(ps:List (Nat×Nat)):Tm:=ps.foldl (λk p=>bu k (.inl (p.2:Int)) (.int (ns.getD p.1 0))) []
def P1(ns:LE)(ps:List (Nat×Nat)):∀k:Tm,(ps.foldl (λk p=>bu k (.inl (p.2:Int)) (.int (ns.getD p.1 0))) k).length<=k.length+ps.length:=by
 induction ps with
 |nil=>ext k;show aD _
 |cons p r ih=>ext k;have:=ih (bu k (.inl (p.2:Int)) (.int (ns.getD p.1 0)));have:=jZ k (.inl (p.2:Int)) (.int (ns.getD p.1 0));simp only[List.foldl_cons,kC];lia
def FM(ns:LE)(ps:List (Nat×Nat))(p:Nat×Nat):i8 ns (ps++[p])=bu (i8 ns ps) (.inl (p.2:Int)) (.int (ns.getD p.1 0)):=by
 unfold i8;rw[List.foldl_append];rfl
noncomputable def ko(day:Int)(ns:LE)(ps:List (Nat×Nat))(m:Nat):LT:=(List.range m).map λj:Nat=>(aM (i8 ns ps) (.inl (j:Int))).getD (.int (10*day+j))
def qe{day:Int}{ns:LE}{ps:List (Nat×Nat)}{m:Nat}:(ko day ns ps m).length=m:=by unfold ko;rw[au,gL]
def yZ(CY CD aL:Addr):Sp:=λvs H Q _=>∃(S:YP) (a b:Addr) (bn:List Bt) (ag:List LE),vs=[.ref S.a.y,.ref a,.ref b]/\YT CY CD aL H S/\H a=some (.tup ((bn.map (·.nm)).map V.int))/\j4 H b ag/\(∀x∈bn,x∈S.bs/\x.dn=none)/\bn.length<=8/\((bn.map Bt.now).map List.length).sum<64/\(ag.map List.length).sum<64/\ag.length<=8/\jr (bn.map Bt.now)=true/\jr ag=true/\(∀p∈gk (bn.map Bt.now) ag,p.1<bn.length)/\(gk (bn.map Bt.now) ag).length<=64/\∀l H',aC H H'->H l=none->H' l=some (.lst (ko S.day (bn.map (·.nm)) (gk (bn.map Bt.now) ag) ag.length))->Q (.ref l) H'
abbrev y_:Stmt:=bj 62
abbrev P2:List Str:=["yard","names","sets","ahead","going"]
def P3:bc P2 ["yard","names","sets"] (aW y_):=bh
def P4{f:Addr}{fd:FuncData}(F:aY K "names_behind" "names_behind" y_ f fd)(T:bC mg)(Y:fK K CY)(fP:b_ P w K mg base CY "boat" 2 ["self","name"] (ki CY CD aL))(AY:ba P w K mg base "paired" 3 ["ahead","behind"] xF)(mL:ba P w K mg base "name_of" 1 ["day","place"] tV):aN P w K mg base aU 4 f fd ["yard","names","sets"] (yZ CY CD aL):=by
 let(hc,n1,n2,n3,n4,n5,n6):=Y;show F.ok P3 (λvs H Q E h=>?_) (λaP A outer s H vs Q E hr h=>?_)
 .let(_,_,_,_,_,rfl,_):=h;rfl
 .let(S,a,b,bn,ag,rfl,h,ha,(tb,hb,UH),hm,l8,sa,sb,ls,fa,fb,pi,pl,k):=h
  show(_,(aG (qL 3 (cX ["name"] [(0,"yard",)]) (dO (K:=K) rfl (pv 1)) (by ext _ _ _ _ _;show(qG 0)) (by ext _ _ _ _ _;show cD) (by ext _ _ _ _ _;show(pM fP (pv 1) (ab (pv 0) ak))))
   (aG (qV 4 (wW rfl (cX ["at","to"] [(1,"names",)]) (cU (K:=K) rfl (pC AY (ab (pv 3) (ab (dU rfl (cX ["timbers"] []) (dO (K:=K) rfl (pv 2)) (by ext _ _ _ _ _;show(qG 0)) (by ext _ _ _ _ _;show cD) (by ext _ _ _ _ _;show(qZ K T (pv 0)))) ak)))) (by ext _ _ _ _ _;show(fJ (K:=K) (n:=2) rfl rfl (by show c9 (qG 0) (c9 (qG 1) fE)))) (by ext _ _ _ _ _;show(pv 1)) (by ext _ _ _ _ _;show(qT K (pv 2) (pv 0)))))
   (aA (aQ (dU rfl (cX ["place"] [(0,"yard",),(4,"going",)]) (oQ (by rfl) T.z_range (ab (qN K T (pv 2)) ak)) (by ext _ _ _ _ _;show(qG 0)) (by ext _ _ _ _ _;show cD) (by ext _ _ _ _ _;show(lj (cw hr.units) (pv 2) (pv 0) (pC mL (ab (bU (K:=K) rfl (pv 1)) (ab (pv 0) ak))) (rfl,rfl,rfl,rfl)))))))),?_)
  let hy:=h.y
  w_on
  show(a,rfl,(_,az.of ha),?_);show FL ha ∅ (fl:=bn.map Bt.now) (by rw[au];lia) (λi x ns H' R e1 e2 s' q=>?_) λH1 ts s1 SE D hD=>?_
  .rw[aH,aH]at e1;rw[aH]at e2
   cases e:bn[i]? with
   |none=>rw[e]at e1;cases e1
   |some c=>
    rw[e]at e1 e2;cases e1;cases e2;let Sf:=s' _ _ hy
    w_on
    show(S,c,rfl,h.toYardR.same s',(hm c (dr e)).1,(hm c (dr e)).2,λl H2 s2 _ Ro=>q l H2 s2 Ro)
  let s2:=s1.trans (ax (o:=.lst (ts.map V.ref)) hD)
  let f2:lD (aa H1 D (.lst (ts.map V.ref))) D (bn.map Bt.now):=(ts,ar,SE.1,λi t ns e1 e2=>ax hD _ _ (SE.2 i t ns e1 e2))
  generalize aa H1 D (.lst (ts.map V.ref))=H2 at s2 f2⊢;let Tx:=s2 _ _ hb
  w_on
  erw[EU]
  w_on
  show(b,rfl,(_,az.of Tx),?_);show FL (fl:=ag) Tx (by rw[au];show UH.1) () (λi x ns H' R e1 e2 s' q=>?_) λH3 us s3 hus D3 RT=>?_
  .rw[aH]at e1
   cases e:tb[i]? with
   |none=>rw[e]at e1;cases e1
   |some t=>
    rw[e]at e1;cases e1;let ht:=s' _ _ (s2 _ _ (UH.2 i t ns e e2))
    w_on
    show nz (.inr (az.of ht)) λl hl=>q l _ (ax hl) ar
  let s4:=s3.trans (ax (o:=.lst (us.map V.ref)) RT)
  let f4:lD (aa H3 D3 (.lst (us.map V.ref))) D3 ag:=(us,ar,hus.1,λi t ns e1 e2=>ax RT _ _ (hus.2 i t ns e1 e2))
  generalize aa H3 D3 (.lst (us.map V.ref))=H4 at s4 f4⊢
  w_on
  show(D,D3,bn.map Bt.now,ag,rfl,f2.same s4,f4,sa,sb,by rw[au];lia,(),fa,fb,λl H5 qs s5 _ VP XX=>?_);let SI:=s2.trans (s4.trans s5)
  w_on
  show(l,rfl,(_,ah.of VP),?_);ext D6 To;let Xc:=SI _ _ ha;generalize gk (bn.map Bt.now) ag=ps at*;erw[EV (λi Z' H'=>(∃x y,Z'=[x,y,some (.ref a)])/\aC H5 H'/\H' D6=some (.dK (i8 (bn.map (·.nm)) (ps.take i)))) ps.length ((none,none,rfl),ax To,ar) ?_]
  .ext Z' H6 ⟨_,s6,e6⟩;show((_,ah.of (s6 _ _ VP),by rw[au];show Nat.le_of_eq XX.1),?_);rw[ku (aD _)]at e6;let Xb:=s6 _ _ (SI _ _ hb);let hy6:=s6 _ _ (SI _ _ hy)
   w_on
   let el:((tb.map V.ref).length:Int).toNat=ag.length:=by rw[au];have:=UH.1;lia
   show(_,rfl,(),by rw[au];have:=UH.1;lia,?_);rw[el];show j0 (ws:=ko S.day (bn.map (·.nm)) ps ag.length) (λZ=>∃x,Z=[x,some (.ref S.a.y),some (.ref D6)]) (none,rfl) (by rw[qe];lia) (λH' _=>by rw[qe];show aD _) (λi H' hi _=>by rw[qe]at hi;show hi) ?_ λH7 s7 D7 UZ=>k _ _ (SI.trans (s6.trans (s7.trans (ax UZ)))) ((SI.trans (s6.trans s7)).free UZ) ar;ext i v x Z' H7 H8 R R0 ew ⟨y,rfl⟩ s7 ⟨rfl,rfl⟩ q;let hy7:=s7 _ _ hy6;let e7:=s7 _ _ e6
   w_on
   erw[br]
   w_on
   show(D6,rfl,i5 (.of e7),?_)
   w_on
   show(S.day,0+(i:Int),rfl,?_);show(_,cV (k:=.inl (0+(i:Int))) (.of e7),?_)
   let hi:i<ag.length:=by
    have:=(Rb.mp ew).1;rw[qe]at this;show this
   let ev:v=(aM (i8 (bn.map (·.nm)) ps) (.inl (i:Int))).getD (.int (10*S.day+i)):=by
    unfold ko at ew;rw[aH,Ap hi]at ew;show(cH ew).symm
   rw[Int.zero_add,<-ev];show q _ _ (_,rfl) s7
  .ext i Z' H6 hi ⟨⟨x,y,rfl⟩,s6,e6⟩
   let Vv:i<qs.length:=by have:=XX.1;lia
   let e1:qs[i]?=some qs[i]:=aK Vv;let e2:ps[i]?=some ps[i]:=aK hi;let hq:=s6 _ _ (XX.2 i _ _ e1 e2);let W8:=s6 _ _ VP;let ha6:=s6 _ _ Xc;show((_,.ref qs[i],ah.of W8,by rw[aH,e1];rfl),?_);ext x' G ⟨rfl,Sf⟩;let ex:=Sf _ (ah.of W8);rw[aH,e1]at ex;cases ex
   w_on
   let W4:=pi _ (cG hi);let e3:bn[ps[i].1]?=some bn[ps[i].1]:=aK W4;erw[sg (az.of ha6) (v:=.int ((bn.map (·.nm)).getD ps[i].1 0)) (jQ ?_)]
   .rw[qF,aH,aH,e3];rfl
   show(_,.inl (ps[i].2:Int),e6,rfl,cA ?_,cu hi ((_,_,rfl),?_,?_))
   .have:=P1 (bn.map (·.nm)) (ps.take i) [];rw[d_]at this;unfold i8;simp only[List.length_nil]at this;lia
   .show λc o z=>by rw[aB (bq z To)];show s6 _ _ z
   .rw[ar,il,e2]
    change _=some (HO.dK (i8 _ (ps.take i++[ps[i]])))
    rw[FM]
def FN(S:YP)(nm:Int)(ns:LE)(W:YP->Prop):Prop:=(∀y∈ns,1<=y/\y<=S.n)/\S.k<8900/\
 ((nm∉S.nms/\S.bs.length<63/\∀l rs,eJ rs (λy=>y∈ns)->W (fe (nU S nm l rs) (some nm) rs))\/∃b∈S.bs,b.nm=nm/\b.ch.length<400/\∀rs,eJ rs (λy=>y∈ns)->W (fe (kl S b rs) (some nm) rs))
structure zb(S:YP)(bn:List Bt)(ag:List LE)(nb:LE)(U W:Nat->YP->Prop):Prop where
 sa:((bn.map Bt.now).map List.length).sum<64
 sb:(ag.map List.length).sum<64
 fa:jr (bn.map Bt.now)=true
 fb:jr ag=true
 pi:∀p∈gk (bn.map Bt.now) ag,p.1<bn.length
 pl:(gk (bn.map Bt.now) ag).length<=64
 nv:ko S.day (bn.map (·.nm)) (gk (bn.map Bt.now) ag) ag.length=nb.map V.int
 tm:∀t∈(bn.map Bt.now).flatten,1<=t/\t<=S.n
 k:S.k<8800
 v0:U 0 S
 va:∀i S',U i S'->S'.a.y=S.a.y/\S'.n=S.n/\S'.k=S.k
 vn:∀(i:Nat) c S',bn[i]?=some c->c.nm∈nb->U i S'->U (i+1) S'
 vs:∀(i:Nat) c S',bn[i]?=some c->c.nm∉nb->U i S'->c∈S'.bs/\c.dn=none/\1<=c.now.length/\∀dn dt,U (i+1) (qd (nQ S' dn dt) c.nm)
 w0:∀S' ap,U bn.length S'->eJ ap (pV (bn.map Bt.now).flatten ag.flatten)->W 0 (fe S' none ap)
 wa:∀j S',W j S'->S'.a.y=S.a.y
 ws:∀(j:Nat) S' nm ns,nb[j]?=some nm->ag[j]?=some ns->W j S'->FN S' nm ns (W (j+1))
def ze(CY CD aL:Addr):Sp:=λvs H Q _=>∃(S:YP) (p a b:Addr) (ns:LE) (ag:List LE),vs=[.ref S.a.y,.ref p]/\YT CY CD aL H S/\H p=some (.tup [.str "refit",.ref a,.ref b])/\H a=some (.tup (ns.map V.int))/\j4 H b ag/\(∀x∈S.bs,x.now.length<=12)/\ns.length<=8/\ag.flatten.length<400/\ag.length<=8/\(∀(wd:Str) H',wd≠"good"->aC H H'->Q (.str wd) H')/\
 ∀bn,u5 S ns ag bn->∃nb U W,zb S bn ag nb U W/\∀S' H',W ag.length S'->YT CY CD aL H' S'->bK (Ft S) (Ft S') H H'->Q (.str "good") H'
abbrev zf:Stmt:=bj 63
abbrev P5:List Str:=["yard","fact","word","names","sets","told","behind","pulled","name","timber","timbers"]
def FO:bc P5 ["yard","fact"] (aW zf):=bh
def P6{f:Addr}{fd:FuncData}(F:aY K "enter_refit" "enter_refit" zf f fd)(T:bC mg)(hL:mg "LOOSE"=some (.ref aL))(AZ:ba P w K mg base "refit_word" 4 ["yard","names","sets"] (yX CY CD aL))(A_:ba P w K mg base "names_behind" 4 ["yard","names","sets"] (yZ CY CD aL))(fP:b_ P w K mg base CY "boat" 2 ["self","name"] (ki CY CD aL))(kJ:b_ P w K mg base CY "move" 2 ["self","timber","place"] (qb CY CD aL))(B0:b_ P w K mg base CY "sink" 3 ["self","name"] (yN CY CD aL))(B7:b_ P w K mg base CY "launch" 3 ["self","name","timbers"] (yL K CY CD aL))(Ba:ba P w K mg base "apart" 1 ["one","other"] (xu K pV)):aN P w K mg base aU 5 f fd ["yard","fact"] (ze CY CD aL):=by
 show F.ok FO (λvs H Q E h=>?_) (λaP A outer s H vs Q E hr h=>?_)
 .let(_,_,_,_,_,_,rfl,_):=h;rfl
 .let(S,p,a,b,ns,ag,rfl,h,hp,ha,hb,TF,l8,lg,ls,YF,kk):=h
  show(_,(aG (kO (pv 1) (fJ (K:=K) (n:=3) rfl rfl (by show c9 (qG 2) (c9 (qG 3) (c9 (qG 4) fE)))))
   (aG (qV 5 (pC AZ (ab (pv 0) (ab (pv 3) (ab (pv 4) ak)))))
   (aG (bx (qE jO (pv 5) aT) (aA (aQ (pv 5))) bD)
   (aG (qV 6 (pC A_ (ab (pv 0) (ab (pv 3) (ab (pv 4) ak)))))
   (aG (IL (iy:=7) rfl FO.nd rfl rfl (cX ["name","timber"] [(0,"yard",)]) (dO (K:=K) rfl (pv 3)) (by ext _ _ _ _ _;show(qG 0)) (by ext _ _ _ _ _;show cD) (by ext _ _ _ _ _;show(pv 1)) (by ext _ _ _ _ _;show(cU (K:=K) rfl (pM fP (pv 2) (ab (pv 0) ak)))) (by ext _ _ _ _ _;show(qG 1)) (by ext _ _ _ _ _;show cD) (by rfl))
   (aG (dC dH rfl (dO (K:=K) rfl (pv 3)) (qG 8) (aA (bx (qE (sk (K:=K) rfl) (pv 8) (pv 6)) (aA (eB (pM B0 (pv 0) (ab (pv 8) ak)))) bD)))
   (aG (dC dH rfl (cU (K:=K) rfl (pC Ba (ab (pv 7) (ab (pj rfl (cX ["timbers","timber"] []) (dO (K:=K) rfl (pv 4)) (by ext _ _ _ _ _;show(qG 0)) (by ext _ _ _ _ _;show cD) (by ext _ _ _ _ _;show(pv 1)) (by ext _ _ _ _ _;show(dO (K:=K) rfl (pv 0))) (by ext _ _ _ _ _;show(qG 1)) (by ext _ _ _ _ _;show cD)) ak)))) (qG 9) (aA (eB (pM kJ (pv 0) (ab (pv 9) (ab (fz (v:=.ref aL) (by rfl) hL rfl) ak))))))
   (aG (dC dH rfl (Le (K:=K) rfl (by rfl) T.z_zip (ab (pv 6) (ab (pv 4) ak))) (fJ (K:=K) (n:=2) rfl rfl (by show c9 (qG 8) (c9 (qG 10) fE))) (aA (eB (pM B7 (pv 0) (ab (pv 8) (ab (pv 10) ak))))))
   (aA (aQ aT)))))))))),?_)
  let hy:=h.y
  w_on
  show(S,a,b,ns,ag,rfl,h,ha,hb,TF,l8,lg,ls,λwd H1 hw s1=>?_,λbn H1 G s1=>?_)
  .w_on
   show bZ (λz=>?_) (λz=>?_)
   .w_on
    show YF _ _ hw s1
   .show absurd z (by simp[hw])
  let(nb,U,W,R,k):=kk bn G;obtain rfl:=G.nm
  let ZT:(bn.map Bt.now).flatten.length<64:=by rw[uv];show R.sa
  let lfb:ag.flatten.length<64:=by rw[uv];show R.sb
  let l8':bn.length<=8:=by rw[au]at l8;show l8
  w_on
  erw[bB]
  w_on
  show(S,a,b,bn,ag,rfl,h.same s1,s1 _ _ ha,hb.same s1,G.m,l8',R.sa,R.sb,ls,R.fa,R.fb,R.pi,R.pl,λl H2 s2 fl hl=>?_);rw[R.nv]at hl;let s12:=s1.trans s2;let h2:=h.same s12;let UG:=h2.y;let Ur:=s12 _ _ ha
  w_on
  show(a,rfl,(_,az.of Ur),?_);show FJ h2.toYardR Ur G.m () λH3 s3 D hD=>?_;let s13:=s12.trans (s3.trans (ax (o:=.lst ((bn.map Bt.now).flatten.map V.int)) hD));let Zv:=s3.trans (ax (o:=.lst ((bn.map Bt.now).flatten.map V.int)) hD);let eD:aa H3 D (.lst ((bn.map Bt.now).flatten.map V.int)) D=_:=ar;generalize aa H3 D (.lst ((bn.map Bt.now).flatten.map V.int))=H4 at s13 Zv eD⊢;let VA:=s13 _ _ ha;let S3:=Zv _ _ hl;let h4:=h.same s13
  let nD:¬Ft S D:=λz=>by obtain⟨o,e⟩:=u4 (h2.same s3) z;rw[hD]at e;cases e
  let nl:¬Ft S l:=λz=>by obtain⟨o,e⟩:=u4 (h.same s1) z;rw[fl]at e;cases e
  let na:=nT h4 VA;let(tb,UW,UH):=hb.same s13;let nb4:=nT h4 UW
  w_on
  show(a,rfl,(_,az.of VA),?_);erw[dP (λi Z' H'=>(∃y,Z'=[some (.ref S.a.y),some (.ref p),some (.str "refit"),some (.ref a),some (.ref b),some (.str "good"),some (.ref l),some (.ref D),y,none,none])/\∃S',U i S'/\YT CY CD aL H' S'/\bK (Ft S) (Ft S') H4 H') bn.length ((none,rfl),S,R.v0,h4,bK.refl) ?_]
  .ext Z' H' ⟨⟨y,rfl⟩,S1,v1,h,st1⟩;let(ea1,Xj,ek1):=R.va _ _ v1;show((_,az.of (st1.1 _ _ na VA),by rw[au,au];show aD _),?_);let tk:∀b xs,H4 b=some (.tup xs)->H' b=some (.tup xs):=λb xs z=>st1.1 _ _ (nT h4 z) z
   replace UH:jX H' tb ag:=(UH.1,λi t ns e1 e2=>tk _ _ (UH.2 i t ns e1 e2))
   replace eD:=st1.1 _ _ nD eD
   replace S3:=st1.1 _ _ nl S3
   replace nl:=st1.not nl (Zv _ _ hl)
   replace UW:=tk _ _ UW
   w_on
   show(b,rfl,(_,az.of UW),?_);show Fp UW UH () λD5 SX=>?_;let Uw:=ax (o:=.lst (ag.flatten.map V.int)) SX;let e5:aa H' D5 (.lst (ag.flatten.map V.int)) D5=_:=ar;generalize aa H' D5 (.lst (ag.flatten.map V.int))=H5 at Uw e5⊢
   w_on
   show(D,D5,_,_,rfl,.inl (ah.of (Uw _ _ eD)),.inl (ah.of e5),ZT,lfb,λl6 H6 ap YK f6 W8 hR=>?_);let s46:=Uw.trans YK;let h6:=h.same s46;let Xb:=YK _ _ (Uw _ _ UW);let ja1:=(UH.same Uw).same YK;let Wt:=YK _ _ (Uw _ _ S3);let lap:ap.length<64:=iM (hR.le (ns:=(bn.map Bt.now).flatten) λx z=>z.1) ZT
   let n6:¬Ft S1 l6:=λz=>by obtain⟨o,e⟩:=u4 (h.same Uw) z;rw[f6]at e;cases e
   let ZM:=nT h6 Xb
   w_on
   show(l6,rfl,(_,ah.of W8),?_);erw[dP (λi Z' H'=>(∃y y9,Z'=[some (.ref S.a.y),some (.ref p),some (.str "refit"),some (.ref a),some (.ref b),some (.str "good"),some (.ref l),some (.ref D),y,y9,none])/\YT CY CD aL H' (fe S1 none (ap.take i))/\bK (Ft S1) (Ft S1) H6 H') ap.length ((_,_,rfl),by rw[AE,FE];show h6,bK.refl) ?_]
   .ext Z' H7 ⟨⟨y,y9,rfl⟩,h7,U_⟩;show((_,ah.of (U_.1 _ _ n6 W8),by rw[au];show aD _),?_);rw[fk]at h7
    w_on
    erw[Lf]
    w_on
    show(l,b,rfl,_,_,ah.of (U_.1 _ _ nl Wt),az.of (U_.1 _ _ ZM Xb),?_)
    let lnb:nb.length=ag.length:=by
     have:=congrArg List.length R.nv;rw[qe,au]at this;show this.symm
    let ZR:=UH.1;erw[dP (λj Z' H'=>(∃y y9 Zq,Z'=[some (.ref S.a.y),some (.ref p),some (.str "refit"),some (.ref a),some (.ref b),some (.str "good"),some (.ref l),some (.ref D),y,y9,Zq])/\∃S',W j S'/\YT CY CD aL H' S'/\bK (Ft S1) (Ft S') H6 H') ag.length ((_,_,_,rfl),_,R.w0 S1 ap v1 hR,h7,U_) ?_]
    .ext Z' H8 ⟨⟨y,y9,Zq,rfl⟩,S',w',h8,Uo⟩;show((_,_,ah.of (Uo.1 _ _ nl Wt),az.of (Uo.1 _ _ ZM Xb),.inl (by rw[au];lia)),?_)
     w_on
     show k S' H8 w' h8 ((bK.same s13).trans (st1.trans ((bK.same s46).trans Uo)))
    .ext MM RR Bk mi ri j Z' H8 hj ⟨⟨y,y9,Zq,rfl⟩,S',w',h8,Uo⟩;let e1:nb[j]?=some (nb[j]'()):=aK ();let e2:tb[j]?=some (tb[j]'()):=aK ();let e3:ag[j]?=some ag[j]:=aK hj;generalize nb[j]'()=nm at e1;generalize tb[j]'()=t at e2;let ht:=ja1.2 j _ _ e2 e3;let ht8:=Uo.1 _ _ (nT h6 ht) ht;let Y8:=Uo.1 _ _ nl Wt;let hb8:=Uo.1 _ _ ZM Xb;show((_,_,.int nm,.ref t,ah.of Y8,az.of hb8,by rw[aH,e1];rfl,by rw[aH,e2];rfl),?_);ext x' G ⟨T',u',v',rfl,hn,rfl,qq⟩;let(z1,z2):=qq _ _ (ah.of Y8) (az.of hb8);rw[aH,e1]at z1;rw[aH,e2]at z2;cases z1;cases z2;let sT:=ax (o:=.tup [.int nm,.ref t]) hn;erw[iV (az.of ar) rfl];generalize aa H8 T' (.tup [.int nm,.ref t])=H9 at sT⊢;let h9:=h8.same sT;let ea:=R.wa _ _ w';let hy9:=h9.y;rw[ea]at hy9
     w_on
     let(p1,p2,p5):=R.ws j S' _ _ e1 e3 w';let XJ:ag[j].length<64:=iM (List.sublist_flatten_of_mem (cG hj)).length_le lfb;show(S',nm,t,ag[j],by rw[ea];rfl,h9,.inr (az.of (sT _ _ ht8)),XJ,p1,p2,?_)
     rcases p5 with⟨q1,q2,q3⟩|⟨c,hc,q0,q1,q3⟩
     .show .inl (q1,q2,λl' RL rs Tv y' SG=>?_)
      w_on
      show((_,_,_,rfl),_,q3 l' rs Tv,y',Uo.trans ((bK.same sT).trans SG))
     .show .inr (c,hc,q0,q1,λRL rs Tv y' SG=>?_)
      w_on
      show((_,_,_,rfl),_,q3 rs Tv,y',Uo.trans ((bK.same sT).trans ?_))
      change bK (Ft S') (Ft (kl S' c rs)) _ _
      rw[OG];show SG
   .ext MM RR Bk mi ri i Z' H7 hi ⟨⟨y,y9,rfl⟩,h7,U_⟩;let e1:ap[i]?=some ap[i]:=aK hi;let hl7:=U_.1 _ _ n6 W8;show((_,.int ap[i],ah.of hl7,by rw[aH,e1];rfl),?_);let hy7:H7 S.a.y=some (.ins CY S1.a.dx (yF S1.most S1.day S1.a.dl S1.a.dc S1.a.de S1.a.db)):=ea1▸h7.y;ext x' G ⟨rfl,Sf⟩;let ex:=Sf _ (ah.of hl7);rw[aH,e1]at ex;cases ex
    obtain⟨j,hj,ej⟩:∃j:Nat,j<S1.n/\ap[i]=(j:Int)+1:=by
     have:=R.tm _ ((hR.2 _).mp (cG hi)).1;show((ap[i] - 1).toNat,(),())
    w_on
    show(fe S1 none (ap.take i),j,aL,none,by rw[ej,<-ea1];rfl,h7,rfl,.inl hj,by change S1.k+(ap.take i).length<9000;rw[d_];have:=R.k;lia,λf' H8 h8 Uo ef=>?_);cases ef hj;rw[show(fe S1 none (ap.take i)).f=S1.f from rfl,FG hj,<-ej,<-mF hi]at h8;rw[u3 (S:=fe S1 none (ap.take i)) hj]at Uo
    w_on
    show((_,_,rfl),h8,U_.trans Uo)
  .ext MM RR Bk mi ri i Z' H' hi ⟨⟨y,rfl⟩,S1,v1,h1,st1⟩;let e1:bn[i]?=some bn[i]:=aK hi;let Xc:=st1.1 _ _ na VA;let VP:=st1.1 _ _ nl S3;let W2:H' S.a.y=some (.ins CY S1.a.dx (yF S1.most S1.day S1.a.dl S1.a.dc S1.a.de S1.a.db)):=(R.va _ _ v1).1▸h1.y;show((_,.int bn[i].nm,az.of Xc,by rw[aH,aH,e1];rfl),?_);ext x' G' ⟨rfl,hy⟩;let ex:=hy _ (az.of Xc);rw[aH,aH,e1]at ex;cases ex
   w_on
   erw[E5 (ah.of VP)];by_cases z:bn[i].nm∈nb
   .rw[cY z];show(_,rfl,bB ?_)
    w_on
    show((_,rfl),S1,R.vn i _ _ e1 z v1,h1,st1)
   .rw[cW z];show(_,rfl,br ?_)
    w_on
    let(q1,q2,q3,q4):=R.vs i _ _ e1 z v1;let mf:∀t∈bn[i].now,t∈(bn.map Bt.now).flatten:=λt ht=>Rf.mpr (_,Ag.mpr (_,cG hi,rfl),ht);show(S1,bn[i],by rw[(R.va _ _ v1).1];rfl,h1,q1,q2,q3,iM (List.sublist_flatten_of_mem (Ag.mpr (_,cG hi,rfl))).length_le ZT,λt ht=>?_,λdn dt H5 y5 Xo=>?_)
    .have:=R.tm t (mf t ht);have:=h4.n60;lia
    .w_on
     show((_,rfl),_,q4 dn dt,y5,st1.trans (by rw[OM];show Xo))
def zg(CD:Addr):Sp:=λvs H Q _=>∃(db ddx dn dt:Addr) (c:Int) (kvs:Tm) (t:Int),vs=[.ref db,.int t]/\H db=some (.ins CD ddx (dF dn dt c))/\H dt=some (.dK kvs)/\ZK kvs/\∀p H',aC H H'->H' p=some (.tup [.int 0,.int 1])->Q (.ref p) H'
abbrev zh:Stmt:=eU (bj 41) 2
def P7:bc ["self","timber"] ["self","timber"] (aW zh):=bh
def P8{f:Addr}{fd:FuncData}(F:aY K "owed_on" "Debts.owed_on" zh f fd)(D:nN K CD)(Bb:ba P w K mg base "lowest" 2 ["top","bottom"] xI):aN P w K mg base aU 3 f fd ["self","timber"] (zg CD):=by
 let(hc,n1,n2,n3,n4,n5):=D;show F.ok P7 (λvs H Q E h=>?_) (λaP A outer s H vs Q E hr h=>?_)
 .let(_,_,_,_,_,_,_,rfl,_):=h;rfl
 .let(db,ddx,dn,dt,c,kvs,t,rfl,e,et,zk,k):=h;show(_,(aA (aQ (pC Bb (ab (lj (cw hr.units) (bU (K:=K) rfl (pv 0)) (pv 1) ay (rfl,rfl,rfl,rfl)) (ab (bU (K:=K) rfl (pv 0)) ak))))),?_)
  kd_p
  show(dt,rfl,i5 (.of et),?_)
  kd_p
  show(_,cV (k:=.inl t) (.of et),?_);rw[zk.val]
  kd_p
  show(0,1,rfl,by decide,cM (show 1<2 ^ 1 by decide) (Nat.pow_le_pow_right (by decide) (by decide)),λp H' s' hp=>k p H' s' ?_);done
def zm(CY CD aL:Addr):Sp:=λvs H Q _=>∃(S:YP) (p:Addr) (t:Int),vs=[.ref S.a.y,.ref p]/\YT CY CD aL H S/\H p=some (.tup [.str "clear",.int t])/\∀(wd:Str) H',aC H H'->Q (.str wd) H'
abbrev zo:Stmt:=bj 69
def P9:bc ["yard","fact","timber"] ["yard","fact"] (aW zo):=bh
def Pa{f:Addr}{fd:FuncData}(F:aY K "enter_clear" "enter_clear" zo f fd)(Y:fK K CY){aX:Addr}(hL:mg "LOOSE"=some (.ref aL))(hX:mg "LOST"=some (.ref aX))(wL:∀H,az K H aL [.str (i_ true)])(wX:∀H,az K H aX [.str (i_ false)])(kI:b_ P w K mg base CY "lies" 1 ["self","timber"] (p_ CY CD aL))(Bc:b_ P w K mg base CD "owed_on" 3 ["self","timber"] (zg CD)):aN P w K mg base aU 5 f fd ["yard","fact"] (zm CY CD aL):=by
 let(hc,n1,n2,n3,n4,n5,n6):=Y;show F.ok P9 (λvs H Q E h=>?_) (λaP A outer s H vs Q E hr h=>?_)
 .let(_,_,_,rfl,_):=h;rfl
 .let(S,p,t,rfl,h,hp,k):=h
  show(_,(aG (qV 2 (qT K (pv 1) ay))
   (aG (bx (qE (Me (K:=K) rfl hr.units) (pM kI (pv 0) (ab (pv 2) ak)) (cp (ab (fz (v:=.ref aL) (by rfl) hL rfl) (ab (fz (v:=.ref aX) (by rfl) hX rfl) ak)))) (aA (aQ aT)) bD)
   (aG (bx (qE (Lg hr.units) (pM Bc (bU (K:=K) rfl (pv 0)) (ab (pv 2) ak)) (cp (ab ay (ab ay ak)))) (aA (aQ aT)) bD)
   (aG fI
   (aA (aQ aT)))))),?_)
  let hy:=h.y;let hb:=h.b
  kd_p
  let go:∀(x:V) (o:jo),gF K H x o->∀R:VK,(∀b H',aC H H'->R (.bl b) H')->∀q,H q=none->F4 K x (.ref q) (aa H q (.tup [.ref aL,.ref aX])) R:=λx o ho R hR q hq=>by
   let sq:=ax (o:=.tup [.ref aL,.ref aX]) hq;show(q,aL,aX,o,.w true,.w false,rfl,az.of ar,?_,wL _,wX _,hR _ _ sq)
   cases o with
   |non=>cases x<;>first|show ho.elim|show trivial
   |w b=>cases x<;>first|show ho.elim|show az.mono sq ho
   |boat nm=>cases x<;>first|show ho.elim|show az.mono sq ho
  show(S,t,rfl,h.toYardR,λi hi et pp VM=>?_,λ_=>?_)
  .let ho:∃o,gF K H (.ref pp) o:=by
    cases e:S.pl i with
    |none=>rw[e]at VM;cases VM;show(.w true,wL _)
    |some nm=>rw[e]at VM;show(.boat nm,az.of VM)
   let(o,ho):=ho
   kd_p
   show(by change 2<=sizeLine;decide,λq hq=>?_);show go _ o ho _ (λb H' s'=>?_) q hq;let h':=h.same s';let RW:=h'.b;let Sf:=h'.y;let(l2,m2,z2):=h'.tm;show(_,rfl,bZ (λ_=>?_) (λ_=>?_))
   .kd_p
    show k _ _ s'
   .kd_p
    show(S.a.db,S.a.ddx,S.a.dn,S.a.dt,0,l2,t,rfl,h'.b,m2,z2.1,λp2 H2 s2 Tc=>?_)
    kd_p
    show(by change 2<=sizeLine;decide,λq2 UL=>?_);erw[Er (ns:=[0,1]) (ms:=[0,1]) (ax UL _ _ Tc) ar]
    kd_p
    erw[br]
    kd_p
    show k _ _ (s'.trans (s2.trans (ax UL)))
  .kd_p
   show(by change 2<=sizeLine;decide,λq hq=>?_);show go .non .non trivial _ (λb H' s'=>?_) q hq;let h':=h.same s';let RW:=h'.b;let Sf:=h'.y;let(l2,m2,z2):=h'.tm;show(_,rfl,bZ (λ_=>?_) (λ_=>?_))
   .kd_p
    show k _ _ s'
   .kd_p
    show(S.a.db,S.a.ddx,S.a.dn,S.a.dt,0,l2,t,rfl,h'.b,m2,z2.1,λp2 H2 s2 Tc=>?_)
    kd_p
    show(by change 2<=sizeLine;decide,λq2 UL=>?_);erw[Er (ns:=[0,1]) (ms:=[0,1]) (ax UL _ _ Tc) ar]
    kd_p
    erw[br]
    kd_p
    show k _ _ (s'.trans (s2.trans (ax UL)))
noncomputable def qf(f1 f2 f3 f4 f5 f6 f7:Addr):List (Str×Addr):=[("fell",f1,),("refit",f2,),("storm",f3,),("find",f4,),("lend",f5,),("pay",f6,),("clear",f7,)]
section
variable{f1 f2 f3 f4 f5 f6 f7:Addr}
def Pb:PyProof.Rows.KTD.datumAt ("fell":Str) (qf f1 f2 f3 f4 f5 f6 f7)=some f1:=by kernel_rfl
def Pc:PyProof.Rows.KTD.datumAt ("refit":Str) (qf f1 f2 f3 f4 f5 f6 f7)=some f2:=by kernel_rfl
def Pd:PyProof.Rows.KTD.datumAt ("clear":Str) (qf f1 f2 f3 f4 f5 f6 f7)=some f7:=by kernel_rfl
end
abbrev i9(S:YP)(d:Int):YP:={S with day:=d}
def u7(CY CD aL:Addr)(S:YP)(H:Hp)(Q:VK):fc->Prop
 |.fell n=>∃m:Nat,n=m/\S.n+m<=60/\S.k<8900/\(∀i,S.n<=i->S.pl i=none)/\∀f' H',YT CY CD aL H' (iH S f' m)->bK (Ft S) (Ft (iH S f' m)) H H'->Q (.str "good") H'
 |.refit ns ag=>(∀x∈S.bs,x.now.length<=12)/\ag.flatten.length<400/\(∀(wd:Str) H',wd≠"good"->YT CY CD aL H' S->bK (Ft S) (Ft S) H H'->Q (.str wd) H')/\
  ∀bn,u5 S ns ag bn->∃nb U W,zb S bn ag nb U W/\∀S' H',W ag.length S'->YT CY CD aL H' S'->bK (Ft S) (Ft S') H H'->Q (.str "good") H'
 |.clear _=>∀(wd:Str) H',YT CY CD aL H' S->bK (Ft S) (Ft S) H H'->Q (.str wd) H'
def zp(CY CD aL:Addr):Sp:=λvs H Q _=>∃(S:YP) (d:Int) (p:Addr) (x:fc),vs=[.ref S.a.y,.int d,.ref p]/\YT CY CD aL H S/\fT H p x/\x.ok S.most/\1<=d/\d<=400/\S.day<d/\u7 CY CD aL (i9 S d) H Q x
abbrev zq:Stmt:=eU (bj 71) 1
def Pe:bc ["self","day","fact","entered"] ["self","day","fact"] (aW zq):=bh
def Pf{f:Addr}{fd:FuncData}(F:aY K "enter" "Yard.enter" zq f fd)(Y:fK K CY){aE f1 f2 f3 f4 f5 f6 f7:Addr}(hE:mg "ENTER"=some (.ref aE))(tE:k7 K aE (qf f1 f2 f3 f4 f5 f6 f7))(c1:k9 P w K mg base f1 9 ["yard","fact"] (yU CY CD aL))(c2:k9 P w K mg base f2 9 ["yard","fact"] (ze CY CD aL))(c7:k9 P w K mg base f7 9 ["yard","fact"] (zm CY CD aL))(Be:ba P w K mg base "need_day" 2 ["number"] (yS 1 400))(Bf:ba P w K mg base "sound" 6 ["slip","fact"] yi):aN P w K mg base aU 10 f fd ["self","day","fact"] (zp CY CD aL):=by
 let(hc,n1,n2,n3,n4,n5,n6):=Y;show F.ok Pe (λvs H Q E h=>?_) (λaP A outer s H vs Q E hr h=>?_)
 .let(_,_,_,_,rfl,_):=h;rfl
 .let(S,d,p,x,rfl,h,hx,ok,g1,g2,g3,k):=h
  show(_,(aG (eB (pC Be (ab (pv 1) ak)))
   (aG (bx (fu (eh (pC Bf (ab (bU (K:=K) rfl (pv 0)) (ab (pv 2) ak))))) (aA fI) bD)
   (aG (bx (qE gM (pv 1) (bU (K:=K) rfl (pv 0))) (aA fI) bD)
   (aG (gh (K:=K) rfl (pv 0) (pv 1) rfl)
   (aG (qV 3 (EK (K:=K) rfl (fz (v:=.ref aE) (by rfl) hE rfl) (qT K (pv 2) ay) (λ_ _=>rfl)))
   (aA (aQ (EL (k:=9) (rfl,rfl,rfl,rfl,rfl) (hr.mono ()) (pv 3) (ab (pv 0) (ab (pv 2) ak)))))))))),?_)
  let hy:=h.y
  kd_p
  show(d,rfl,g1,g2,?_)
  kd_p
  show(S.most,p,x,rfl,hx,ok,λH1 s1=>?_)
  kd_p
  erw[bB];let h1:=h.same s1;let Vc:=h1.y
  kd_p
  erw[pZ (cW ()),vL];show kZ (tG (dW rfl (dW rfl (pN Vc (by change 6<1000;decide) hc n2 ?_))));rw[MF];let h2:YT CY CD aL _ (i9 S d):=h1.dayed (d:=d)
  let b2:∀b o,b≠S.a.y->H1 b=some o->aa H1 S.a.y (.ins CY S.a.dx (yF S.most d S.a.dl S.a.dc S.a.de S.a.db)) b=some o:=λb o nb z=>by rw[aB nb];show z
  let st:bK (Ft S) (Ft S) H (aa H1 S.a.y (.ins CY S.a.dx (yF S.most d S.a.dl S.a.dc S.a.de S.a.db))):=(λb o n z=>b2 b o (λc=>n (.inl c)) (s1 _ _ z),λb z=>.inl z)
  let tk:∀{b:Addr} {xs:LT},H b=some (.tup xs)->aa H1 S.a.y (.ins CY S.a.dx (yF S.most d S.a.dl S.a.dc S.a.de S.a.db)) b=some (.tup xs):=λz=>b2 _ _ (bp (s1 _ _ z) h1.y nofun) (s1 _ _ z);generalize aa H1 S.a.y (.ins CY S.a.dx (yF S.most d S.a.dl S.a.dc S.a.de S.a.db))=H2 at h2 b2 st tk⊢
  cases x with
  |fell n=>
   let(m,rfl,k1,k2,k3,k4):=k;let p2:=tk (show H p=some (.tup [.str "fell",.int m])from hx)
   kd_p
   show(aE,_,_,_,rfl,tE,rfl,Pb,?_)
   kd_p
   show(f1,_,_,rfl,c1,?_)
   kd_p
   show(i9 S d,p,m,rfl,h2,p2,k1,k2,k3,λf' H' y' SG=>k4 f' H' y' (st.trans SG))
  |refit ns ag=>
   let(k0,k1,k2,k3):=k;let(a,b,x1,x2,tb,x3,x4):=hx;let p2:=tk x1
   kd_p
   show(aE,_,_,_,rfl,tE,rfl,Pc,?_)
   kd_p
   show(f2,_,_,rfl,c2,?_)
   kd_p
   show(i9 S d,p,a,b,ns,ag,rfl,h2,p2,tk x2,(tb,tk x3,x4.1,λi t ns e1 e2=>tk (x4.2 i t ns e1 e2)),k0,ok.2.1,k1,ok.2.2.2.2.1.l,λwd H' hw s'=>k2 wd H' hw (h2.same s') (st.trans (bK.same s')),λbn G=>?_);let(nb,U,W,R,k4):=k3 bn G;show(nb,U,W,R,λS' H' w' y' SG=>k4 S' H' w' y' (st.trans SG))
  |clear t=>
   let p2:=tk (show H p=some (.tup [.str "clear",.int t])from hx)
   kd_p
   show(aE,_,_,_,rfl,tE,rfl,Pd,?_)
   kd_p
   show(f7,_,_,rfl,c7,?_)
   kd_p
   show(i9 S d,p,t,rfl,h2,p2,λwd H' s'=>k wd H' (h2.same s') (st.trans (bK.same s')))
noncomputable def Bt.fst(b:Bt):LE:=(b.ch.head?.map (·.2)).getD []
def u9(CY CD aL:Addr):Sp:=λvs H Q _=>∃S,vs=[.ref S.a.y]/\YR CY CD aL H S/\∀l H' (rs:LE),aC H H'->H l=none->H' l=some (.lst (rs.map V.int))->rs.Perm S.nms->Q (.ref l) H'
abbrev zt:Stmt:=eU (bj 71) 17
def Pg:bc ["self"] ["self"] (aW zt):=bh
def Pi{f:Addr}{fd:FuncData}(F:aY K "names" "Yard.names" zt f fd)(Y:fK K CY)(T:bC mg):aN P w K mg base aU 1 f fd ["self"] (u9 CY CD aL):=by
 let(hc,n1,n2,n3,n4,n5,n6):=Y;show F.ok Pg (λvs H Q E h=>?_) (λaP A outer s H vs Q E hr h=>?_)
 .let(_,rfl,_):=h;rfl
 .let(S,rfl,h,k):=h;show(_,(aA (aQ (cg (wU rfl) (by rfl) T.z_sorted m7 (ab (bU (K:=K) rfl (pv 0)) ak)))),?_);let hy:=h.y
  kd_p
  show(S.a.dc,cL S.g S.bs,S.nms,rfl,.of h.c,?_,by rw[show S.nms.length=S.bs.length from au ..];show h.b8,λl rs hl pm _=>k l _ rs (ax hl) hl ar pm);unfold cL YP.nms;rw[du,du];rfl
def zu(CY CD aL:Addr):Sp:=λvs H Q _=>∃S,vs=[.ref S.a.y]/\YR CY CD aL H S/\Q (.int S.most) H
abbrev zw:Stmt:=eU (bj 71) 9
def Pj:bc ["self"] ["self"] (aW zw):=bh
def Pk{f:Addr}{fd:FuncData}(F:aY K "slip" "Yard.slip" zw f fd)(Y:fK K CY):aN P w K mg base aU 1 f fd ["self"] (zu CY CD aL):=by
 let(hc,n1,n2,n3,n4,n5,n6):=Y;show F.ok Pj (λvs H Q E h=>?_) (λaP A outer s H vs Q E hr h=>?_)
 .let(_,rfl,_):=h;rfl
 .let(S,rfl,h,k):=h;show(_,(aA (aQ (bU (K:=K) rfl (pv 0)))),?_);let hy:=h.y
  kd_p
  show k
def qg(CY CD aL:Addr):Sp:=λvs H Q _=>∃S b,vs=[.ref S.a.y,.int b.nm]/\YR CY CD aL H S/\b∈S.bs/\∀l H',aC H H'->H l=none->H' l=some (.lst (b.fst.map V.int))->Q (.ref l) H'
abbrev zx:Stmt:=eU (bj 71) 18
def Pl:bc ["self","name"] ["self","name"] (aW zx):=bh
def Pm{f:Addr}{fd:FuncData}(F:aY K "first" "Yard.first" zx f fd)(Y:fK K CY)(T:bC mg)(oG:b_ P w K mg base CY "chain" 1 ["self","name"] (u0 CY CD aL)):aN P w K mg base aU 2 f fd ["self","name"] (qg CY CD aL):=by
 let(hc,n1,n2,n3,n4,n5,n6):=Y;show F.ok Pl (λvs H Q E h=>?_) (λaP A outer s H vs Q E hr h=>?_)
 .let(_,_,rfl,_):=h;rfl
 .let(S,b,rfl,h,hb,k):=h;show(_,(aA (aQ (qZ K T (qT K (qI K (pM oG (pv 0) (ab (pv 1) ak)) ay) ay)))),?_);let hy:=h.y;let(_,SQ,_):=h.ch b hb
  kd_p
  show(S,b,rfl,h,hb,λl0 H1 s1 _ (ts,Bs,e1,e2,e3,e4)=>?_)
  cases hc:b.ch with
  |nil=>show absurd hc SQ
  |cons r rr=>
   rw[hc]at e2 e3
   cases ts with
   |nil=>show absurd e2 ∅
   |cons t tt=>
    cases Bs with
    |nil=>show absurd e3 ∅
    |cons B bb=>
     let(z1,z2):=e4 0 t B r rfl rfl ⋯
     kd_p
     erw[iB (ah.of e1) (jQ (j:=0) rfl)]
     kd_p
     show nz (.inr (az.of z2)) λl hl=>?_;erw[k l _ (s1.trans (ax hl)) (s1.free hl)];rw[ar];unfold Bt.fst
     grind
noncomputable def ua:Option Int->V
 |none=>.non
 |some n=>.int n
def lG(S:YP)(b c:Bt):Prop:=c∈S.bs/\c.dn=none/\b.fst.length<2*eL b.fst c.now
def lH(S:YP)(b:Bt):Option Int->Prop
 |none=>∀c,¬lG S b c
 |some nm=>∃c,lG S b c/\c.nm=nm
def ub(CY CD aL:Addr):Sp:=λvs H Q _=>∃S b,vs=[.ref S.a.y,.int b.nm]/\YT CY CD aL H S/\b∈S.bs/\(∀c∈S.bs,c.now.length<64)/\b.fst.length<64/\∀o H',aC H H'->lH S b o->Q (ua o) H'
abbrev zy:Stmt:=bj 6
def Pn:bc ["yard","name","first","other"] ["yard","name"] (aW zy):=bh
def Po{f:Addr}{fd:FuncData}(F:aY K "gathered" "gathered" zy f fd)(T:bC mg)(jH:b_ P w K mg base CY "first" 2 ["self","name"] (qg CY CD aL))(jG:b_ P w K mg base CY "boats" 1 ["self"] (q8 CY CD aL))(fP:b_ P w K mg base CY "boat" 2 ["self","name"] (ki CY CD aL))(oy:ba P w K mg base "many_common" 1 ["one","other"] (tN K)):aN P w K mg base aU 3 f fd ["yard","name"] (ub CY CD aL):=by
 show F.ok Pn (λvs H Q E h=>?_) (λaP A outer s H vs Q E hr h=>?_)
 .let(_,_,rfl,_):=h;rfl
 .let(S,b,rfl,h,hb,Xh,Uk,k):=h
  show(_,(aG (qV 2 (pM jH (pv 0) (ab (pv 1) ak)))
   (aG (dC dH rfl (cU (K:=K) rfl (jm jG (hr.mono ()) (pv 0))) (qG 3) (aA (bx (qE dI (bg fH ay (pC oy (ab (pv 2) (ab (pM fP (pv 0) (ab (pv 3) ak)) ak)))) (qN K T (pv 2))) (aA (aQ (pv 3))) bD)))
   (aA (aQ rn)))),?_)
  let hy:=h.y
  w_on
  show(S,b,rfl,h.toYardR,hb,λl H1 s1 _ hl=>?_);let h1:=h.same s1;let Vc:=h1.y
  w_on
  show(S,rfl,h1,λl2 H2 rs s2 _ Ro pm _=>?_);let s12:=s1.trans s2;let Vt:=s2 _ _ hl
  w_on
  show(l2,rfl,(_,ah.of Ro),?_);let bo:∀t∈rs,∃c∈S.bs,c.dn=none/\c.nm=t:=λt ht=>i7.mp (pm.mem_iff.mp ht);erw[dP (λi Z' H'=>(∃v,Z'=[some (.ref S.a.y),some (.int b.nm),some (.ref l),v])/\aC H2 H'/\∀c,lG S b c->c.nm∉rs.take i) rs.length ((none,rfl),aC.refl _,λ_ _=>bF) ?_]
  .ext Z' H3 ⟨⟨v,rfl⟩,s3,no⟩;show((_,ah.of (s3 _ _ Ro),by rw[au];show aD _),?_)
   w_on
   show k none _ (s12.trans s3) λc hc=>no c hc ?_;rw[fk];show pm.mem_iff.mpr (i7.mpr (c,hc.1,hc.2.1,rfl))
  .ext MM RR Bk mi ri i Z' H3 hi ⟨⟨v,rfl⟩,s3,no⟩;let e1:rs[i]?=some rs[i]:=aK hi;let S4:=s3 _ _ Ro;show((_,.int rs[i],ah.of S4,by rw[aH,e1];rfl),?_);let h3:=(h1.same s2).same s3;let XR:=h3.y;let hf3:=s3 _ _ Vt;ext x' G ⟨rfl,Sf⟩;let ex:=Sf _ (ah.of S4);rw[aH,e1]at ex;cases ex;let(c,hc,hd,ec):=bo _ (cG hi)
   w_on
   show(S,c,by rw[ec];rfl,h3.toYardR,hc,hd,λl4 H4 s4 _ S3=>?_)
   w_on
   show(l,l4,_,_,rfl,.inl (ah.of (s4 _ _ hf3)),.inl (ah.of S3),Uk,Xh c hc,λH5 s5=>?_);let Uw:=s4.trans s5;let hf5:=Uw _ _ hf3
   w_on
   show bZ (λz=>?_) (λz=>?_)
   .w_on
    show k (some rs[i]) _ (s12.trans (s3.trans Uw)) (c,(hc,hd,?_),ec);let z:=cP z;rw[au]at z;lia
   .w_on
    let z:=ux z;rw[au]at z;show((_,rfl),s3.trans Uw,λc' RV hm=>?_);rw[mF hi]at hm
    rcases ui.mp hm with q|q
    .show no c' RV q
    .have:=lF h.nd RV.1 hc ((Ra.mp q).trans ec.symm);subst this;have:=RV.2.2;lia
def mB(H:Hp)(ts:Tk)(ps:List (Int×Int)):Prop:=ts.length=ps.length/\∀(i:Nat) t p,ts[i]?=some t->ps[i]?=some p->H t=some (.tup [.int p.1,.int p.2])
def mB.snoc{H:Hp}{ts:Tk}{ps:List (Int×Int)}{t:Addr}{p:Int×Int}(h:mB H ts ps)(ht:H t=some (.tup [.int p.1,.int p.2])):mB H (ts++[t]) (ps++[p]):=by
 show(by simp[h.1],λi t' p' e1 e2=>?_)
 rcases fq i ts.length with q|q
 .rw[iL q]at e1;rw[iL (by rw[<-h.1];show q)]at e2;show h.2 i t' p' e1 e2
 .rw[fj q]at e1;rw[fj (by rw[<-h.1];show q),<-h.1]at e2
  grind
def FP(S:YP)(ps:List (Int×Int)):Prop:=(ps.map (·.1)).Nodup/\∀p∈ps,∃b∈S.bs,b.nm=p.1/\lH S b (some p.2)/\p.2≠p.1
def zA(CY CD aL:Addr):Sp:=λvs H Q _=>∃S,vs=[.ref S.a.y]/\YT CY CD aL H S/\(∀c∈S.bs,c.now.length<64)/\(∀c∈S.bs,c.fst.length<64)/\∀l H' ts ps,aC H H'->H l=none->H' l=some (.lst (ts.map V.ref))->mB H' ts ps->FP S ps->Q (.ref l) H'
abbrev zB:Stmt:=bj 7
def Pp:bc ["yard","told","name","other"] ["yard"] (aW zB):=bh
def Pq{f:Addr}{fd:FuncData}(F:aY K "quarrels" "quarrels" zB f fd)(T:bC mg)(oH:b_ P w K mg base CY "names" 1 ["self"] (u9 CY CD aL))(lU:ba P w K mg base "gathered" 3 ["yard","name"] (ub CY CD aL)):aN P w K mg base aU 4 f fd ["yard"] (zA CY CD aL):=by
 show F.ok Pp (λvs H Q E h=>?_) (λaP A outer s H vs Q E hr h=>?_)
 .let(_,rfl,_):=h;rfl
 .let(S,rfl,h,Xh,Uk,k):=h
  show(_,(aG (qV 1 (dS ak))
   (aG (dC dH rfl (cU (K:=K) rfl (jm oH (hr.mono ()) (pv 0))) (qG 2) (aG (qV 3 (pC lU (ab (pv 0) (ab (pv 2) ak))))
   (aA (bx ((jb (iS (BM (pv 3))) (kL (qE jO (pv 3) (pv 2))))).pt (aA (eB (pH (K:=K) rfl (pv 1) (ab (cp (ab (pv 2) (ab (pv 3) ak))) ak)))) bD))))
   (aA (aQ (pv 1))))),?_)
  let hy:=h.y
  w_on
  show(cm _,λD hD=>?_);let s1:=ax (o:=.lst []) hD;let eD:aa H D (.lst []) D=some (.lst []):=ar;generalize aa H D (.lst [])=H1 at s1 eD⊢;let h1:=h.same s1;let Vc:=h1.y
  w_on
  show(S,rfl,h1.toYardR,λl H2 rs s2 fl hl pm=>?_)
  let nl:l≠D:=λz=>by rw[z,eD]at fl;cases fl
  let s12:=s1.trans s2;let hn:rs.Nodup:=pm.nodup_iff.mpr h.nd
  let b8:rs.length<64:=by rw[pm.length_eq,show S.nms.length=S.bs.length from au ..];show h.b8
  w_on
  show(l,rfl,(_,ah.of hl),?_);erw[dP (λi Z' H'=>(∃v v2,Z'=[some (.ref S.a.y),some (.ref D),v,v2])/\(∀b o,b≠D->H2 b=some o->H' b=some o)/\∃ts ps,H' D=some (.lst (ts.map V.ref))/\mB H' ts ps/\ps.length<=i/\FP S ps/\∀p∈ps,p.1∈rs.take i) rs.length ((none,none,rfl),λ_ _ _ z=>z,[],[],s2 _ _ eD,(rfl,nofun),aD _,(.nil,λ_ h=>(bF h).elim),λ_ h=>(bF h).elim) ?_]
  .ext Z' H3 ⟨⟨v,v2,rfl⟩,s3,ts,ps,e3,tp,lp,qp,_⟩;show((_,ah.of (s3 _ _ nl hl),by rw[au];show aD _),?_)
   w_on
   show k D _ ts ps (λb o z=>s3 b o (bq z hD) (s12 _ _ z)) hD e3 tp qp
  .ext MM RR Bk mi ri i Z' H3 hi ⟨⟨v,v2,rfl⟩,s3,ts,ps,e3,tp,lp,qp,hm⟩;let e1:rs[i]?=some rs[i]:=aK hi;let S4:=s3 _ _ nl hl;show((_,.int rs[i],ah.of S4,by rw[aH,e1];rfl),?_);let s03:aC H H3:=λb o z=>s3 b o (bq z hD) (s12 _ _ z);let h3:=h.same s03;ext x' G ⟨rfl,Sf⟩;let ex:=Sf _ (ah.of S4);rw[aH,e1]at ex;cases ex;let(b,hb,eb):=Ag.mp (pm.mem_iff.mp (cG hi))
   let ni:∀p∈ps,p.1≠rs[i]:=λp hp z=>by
    have:=hm p hp;rw[z]at this;let(j,hj,ej):=Re.mp this;rw[oi]at ej;rw[d_]at hj;show(Rc.mp hn) j i () hi () ej
   let mt:∀p∈ps,p.1∈rs.take (i+1):=λp hp=>by rw[mF hi];show fX _ (hm p hp)
   w_on
   show(S,b,by rw[<-eb];rfl,h3,hb,Xh,Uk b hb,λo H4 s4 go=>?_);let e4:=s4 _ _ e3
   let YH:mB H4 ts ps:=(tp.1,λi t p z1 z2=>s4 _ _ (tp.2 i t p z1 z2))
   cases o with
   |none=>
    w_on
    erw[bB]
    w_on
    erw[bB]
    w_on
    show((_,_,rfl),λb o n z=>s4 _ _ (s3 b o n z),ts,ps,e4,YH,(),qp,mt)
   |some m=>
    w_on
    erw[br]
    w_on
    show bZ (λz=>?_) (λz=>?_)
    .let nm:m≠rs[i]:=λq=>by rw[q]at z;simp at z;show z rfl
     w_on
     show(.inl (rfl,_,ah.of e4),?_)
     w_on
     show(by change 2<=sizeLine;decide,λt ht=>?_);let s5:=ax (o:=.tup [.int rs[i],.int m]) ht;let et:aa H4 t (.tup [.int rs[i],.int m]) t=some (.tup [.int rs[i],.int m]):=ar;let e5:=s5 _ _ e4
     let YG:mB (aa H4 t (.tup [.int rs[i],.int m])) ts ps:=(YH.1,λi t p z1 z2=>s5 _ _ (YH.2 i t p z1 z2))
     w_on
     erw[md e5 (cA (by rw[au,tp.1];lia))]
     w_on
     show((_,_,rfl),λb o n z=>by rw[aB n];show s5 _ _ (s4 _ _ (s3 b o n z)),ts++[t],ps++[(rs[i],m,)],by rw[ar,bO];rfl,?_,by rw[c6];simp;lia,(?_,λp hp=>?_),λp hp=>?_)
     .have:=YG.snoc (p:=(rs[i],m,)) et;show(this.1,λi t p z1 z2=>by rw[aB (bp (this.2 i t p z1 z2) e5 nofun)];show this.2 i t p z1 z2)
     .rw[bO,Gi];show(qp.1,∅,λa ha b' RW z=>?_);let(p,hp,rfl):=Ag.mp ha;cases Ra.mp RW;show ni p hp z
     .rcases ui.mp hp with q|q
      .show qp.2 p q
      .cases Ra.mp q;show(b,hb,eb,go,nm)
     .rcases ui.mp hp with q|q
      .show mt p q
      .cases Ra.mp q;rw[mF hi];show cF _ (Ra.mpr rfl)
    .w_on
     show((_,_,rfl),λb o n z=>s4 _ _ (s3 b o n z),ts,ps,e4,YH,(),qp,mt)
section
def qh{ns:LE}(h:ns.Nodup):dy ns=ns.length:=(jW h λ_=>Iff.rfl).symm
theorem FQ:∀{fl:List LE},fl.flatten.Nodup->(fl.map dy).sum=(fl.map List.length).sum
 |[],_=>rfl
 |a::r,h=>by
  rw[qP]at h;let h':=Gi.mp h;rw[cQ,cQ,AH,AH,qh h'.1,FQ h'.2.1]
def FR{fl:List LE}(nd:fl.flatten.Nodup)(ne:∀ns∈fl,ns≠[]):jr fl=true:=by
 unfold jr;rw[qh nd,FQ nd,uv,cY rfl,uF]
 grind
theorem zC{α:Type}{p q:α->Bool}:∀l:List α,(∀x∈l,p x=true->q x=false)->(l.filter p).length+(l.filter q).length<=l.length
 |[],_=>∅
 |x::l,h=>by
  let ih:=zC l λy hy=>h y (gW _ hy)
  grind
def Pr{x y z:LE}(dis:∀t∈x,t∉y)(h1:dk x z=true)(h2:dk y z=true):False:=by
 unfold dk at h1 h2;rw[gq,gY,gY]at h1 h2;rw[wz x z]at h1;rw[wz y z]at h2;have:=zC (p:=λt=>decide (t∈x)) (q:=λt=>decide (t∈y)) (iE z) (λt _ ht=>by simpa using dis t (by simpa using ht));unfold eL dy at*;lia
def zD{fl:List LE}(nd:fl.flatten.Nodup){i j:Nat}(hi:i<fl.length)(hj:j<fl.length)(hij:i≠j):∀t∈fl.getD i [],t∉fl.getD j []:=by
 let pw:=(List.pairwise_flatten.mp nd).2;let pg:=Rc.mp pw
 grind
def qj{a b:List LE}{p:Nat×Nat}:p∈gk a b↔p.1<a.length/\p.2<b.length/\dk (a.getD p.1 []) (b.getD p.2 [])=true:=by
 unfold gk kg ju
 grind
def Pt{a b:List LE}(nd:b.flatten.Nodup){i j j':Nat}(h:(i,j,)∈gk a b)(h':(i,j',)∈gk a b):j=j':=by
 let(_,x2,x3):=qj.mp h;let(_,y2,y3):=qj.mp h';by_cases e:j=j'
 .show e
 .rw[KS]at x3 y3;show(Pr (zD nd x2 y2 e) x3 y3).elim
theorem FS(a b:List LE):∀i:Nat,(kg a b i).length<=i*b.length
 |0=>by unfold kg;simp
 |i+1=>by
  have:=FS a b i
  let h2:(ju a b i b.length).length<=b.length:=by
   unfold ju
   grind
  rw[Fi,c6,Nat.add_mul];lia
def Pu{a b:List LE}(ha:a.length<=8)(hb:b.length<=8):(gk a b).length<=64:=
 cf (FS a b a.length) (Nat.mul_le_mul ha hb)
def Pw(ns:LE)(ps:List (Nat×Nat))(j:Nat):(∃i,(i,j,)∈ps/\aM (i8 ns ps) (.inl (j:Int))=some (.int (ns.getD i 0)))\/((∀i,(i,j,)∉ps)/\aM (i8 ns ps) (.inl (j:Int))=none):=by
 suffices ∀qs:List (Nat×Nat),(∃i,(i,j,)∈qs.reverse/\aM (i8 ns qs.reverse) (.inl (j:Int))=some (.int (ns.getD i 0)))\/((∀i,(i,j,)∉qs.reverse)/\aM (i8 ns qs.reverse) (.inl (j:Int))=none) by
  have:=this ps.reverse;rwa[List.reverse_reverse]at this
 ext qs
 induction qs with
 |nil=>show .inr (λi h=>(bF h).elim,rfl)
 |cons p r ih=>
  rw[List.reverse_cons,FM,sY]
  grind
def Px(day:Int)(ns:LE)(ps:List (Nat×Nat))(m:Nat):∃nb:LE,ko day ns ps m=nb.map V.int/\nb.length=m/\∀(j:Nat) x,nb[j]?=some x->(∃i,(i,j,)∈ps/\x=ns.getD i 0)\/((∀i,(i,j,)∉ps)/\x=10*day+j):=by
 let ex:∀j:Nat,∃x:Int,(aM (i8 ns ps) (.inl (j:Int))).getD (.int (10*day+j))=.int x/\((∃i,(i,j,)∈ps/\x=ns.getD i 0)\/((∀i,(i,j,)∉ps)/\x=10*day+j)):=λj=>by
  rcases Pw ns ps j with⟨i,h1,h2⟩|⟨h1,h2⟩
  .show(_,by rw[h2];rfl,.inl (i,h1,rfl))
  .show(_,by rw[h2];rfl,.inr (h1,rfl))
 show((List.range m).map λj=>(ex j).choose,?_,by rw[au,gL],λj x e=>?_)
 .unfold ko;rw[du];show ij λj _=>(ex j).choose_spec.1
 .rw[aH]at e
  let hj:j<m:=by
   rcases fq j m with q|q
   .show q
   .rw[gp (by rw[gL];show q)]at e;cases e
  rw[Ap hj]at e;cases e;show(ex j).choose_spec.2
def Py{bn:List Bt}{ag:List LE}{day:Int}(nn:(bn.map (·.nm)).Nodup)(fa:(bn.map Bt.now).flatten.Nodup)(fb:ag.flatten.Nodup)(old:∀b∈bn,b.nm<10*day):
  ∃nb:LE,ko day (bn.map (·.nm)) (gk (bn.map Bt.now) ag) ag.length=nb.map V.int/\nb.length=ag.length/\nb.Nodup/\∀(j:Nat) x ns,nb[j]?=some x->ag[j]?=some ns->(∃b∈bn,b.nm=x/\dk b.now ns=true)\/x=10*day+j:=by
 let(nb,h1,h2,h3):=Px day (bn.map (·.nm)) (gk (bn.map Bt.now) ag) ag.length
 let lt:∀i j,(i,j,)∈gk (bn.map Bt.now) ag->i<bn.length:=λi j h=>by
  have:=(qj.mp h).1;rwa[au]at this
 let gd:∀{i} (hi:i<bn.length),(bn.map (·.nm)).getD i 0=(bn[i]).nm:=λ{i} hi=>by
  rw[qF,aH,aK hi];rfl
 show(nb,h1,h2,Rc.mpr λj j' hj SS l e=>?_,λj x ns e1 e2=>?_)
 .rcases h3 j _ (aK hj)with⟨i,p1,p2⟩|⟨p1,p2⟩<;>rcases h3 j' _ (aK SS)with⟨i',q1,q2⟩|⟨q1,q2⟩
  .rw[p2,q2,gd (lt _ _ p1),gd (lt _ _ q1)]at e;let hi:=lt _ _ p1;let Rt:=lt _ _ q1
   have:i=i':=by
    rcases oh i i' with z|z|z
    .show absurd e ((Rc.mp (Gh.mp nn)) i i' hi Rt z)
    .show z
    .show absurd e.symm ((Rc.mp (Gh.mp nn)) i' i Rt hi z)
   subst this;have:=Pt fb p1 q1;lia
  .rw[p2,q2,gd (lt _ _ p1)]at e;have:=old _ (cG (lt _ _ p1));lia
  .rw[p2,q2,gd (lt _ _ q1)]at e;have:=old _ (cG (lt _ _ q1));lia
  .rw[p2,q2]at e;lia
 .rcases h3 j x e1 with⟨i,p1,p2⟩|⟨_,p2⟩
  .left;let hi:=lt _ _ p1;let(_,_,y3):=qj.mp p1;show(bn[i],cG hi,by rw[p2,gd hi],?_);rw[qF,aH,aK hi,qF,e2]at y3;show y3
  .show .inr p2
end
section
def FT{slip:Int}{x y:Int×LE}{r:List (Int×LE)}(h1:cB 1 400 x.1=true)(h2:x.1<y.1)(h3:eO slip x.2=true)(h4:dk x.2 y.2=true)(h:gn slip (y::r)=true):gn slip (x::y::r)=true:=by
 unfold gn pW gC at*;simp only[cQ,List.drop_succ_cons,List.drop_zero,List.zip_cons_cons,qW,gq,kB]at h⊢
 grind
def FU{slip:Int}{x y:Int×LE}{r:List (Int×LE)}(h:gn slip (x::y::r)=true):cB 1 400 x.1=true/\x.1<y.1/\eO slip x.2=true/\dk x.2 y.2=true/\gn slip (y::r)=true:=by
 unfold gn pW gC at*;simp only[cQ,List.drop_succ_cons,List.drop_zero,List.zip_cons_cons,qW,gq,kB]at h⊢
 grind
def FV{slip:Int}{x:Int×LE}(h1:cB 1 400 x.1=true)(h3:eO slip x.2=true):gn slip [x]=true:=by
 unfold gn pW gC;simp[h1,h3]
def mC{slip:Int}{ch:List (Int×LE)}(h:gn slip ch=true):∀r∈ch,cB 1 400 r.1=true/\eO slip r.2=true:=λr hr=>by
 unfold gn at h
 grind
theorem FW{slip:Int}{y:Int×LE}:∀{ch:List (Int×LE)},gn slip ch=true->(∀r∈ch,r.1<y.1)->(∀r,ch.getLast?=some r->dk r.2 y.2=true)->cB 1 400 y.1=true->eO slip y.2=true->gn slip (ch++[y])=true
 |[],h,_,_,_,_=>by unfold gn at h;simp at h
 |[x],h,h1,h2,h3,h4=>FT (mC h x (.head _)).1 (h1 x (.head _)) (mC h x (.head _)).2 (h2 x rfl) (FV h3 h4)
 |x::z::r,h,h1,h2,h3,h4=>by
  let(a1,a2,a3,a4,a5):=FU h;show FT a1 a2 a3 a4 (FW (ch:=z::r) a5 (λr' hr=>h1 r' (.tail _ hr)) (λr' hr=>h2 r' ⋯) h3 h4)
def Pz{slip:Int}{ns:LE}(h1:1<=ns.length)(h2:(ns.length:Int)<=slip)(h3:∀t∈ns,1<=t/\t<=60)(h4:ns.Pairwise (· < ·)):eO slip ns=true:=by
 unfold eO;rw[lC () h2,wD.mpr h4,j8,uF,Aj];show λt ht=>lC (h3 t ht).1 (h3 t ht).2
def uc{slip:Int}{ns:LE}(h:eO slip ns=true):1<=ns.length/\(ns.length:Int)<=slip/\(∀t∈ns,1<=t/\t<=60)/\ns.Pairwise (· < ·):=by
 unfold eO at h;simp only[gq,Aj]at h;let(h1,h2,h3):=h;unfold cB at h1 h2;simp only[gq,kB]at h1 h2;show((),h1.2,h2,wD.mp h3)
structure fL(slip day:Int)(q:Nat)(b:Bt):Prop where
 g:gn slip b.ch=true
 d:∀r∈b.ch,r.1<=day
 f:∃r rr,b.ch=r::rr/\10*r.1<=b.nm/\b.nm<10*r.1+8
 l:b.ch.length<=q
def fL.now{slip day:Int}{q:Nat}{b:Bt}(h:fL slip day q b):∃r∈b.ch,b.ch.getLast?=some r/\b.now=r.2:=by
 let(r,rr,e,_):=h.f
 cases z:b.ch.getLast? with
 |none=>rw[e]at z;simp at z
 |some x=>show(x,List.mem_of_getLast? z,rfl,by unfold Bt.now;rw[z];rfl)
def fL.boat{slip day:Int}{q:Nat}{b:Bt}(h:fL slip day q b):eO slip b.now=true:=by
 let(r,hr,_,e):=h.now;rw[e];show(mC h.g r hr).2
def fL.mono{slip day day':Int}{q q':Nat}{b:Bt}(h:fL slip day q b)(le:day<=day')(lq:q<=q'):fL slip day' q' b:=(h.g,λr hr=>Int.le_trans (h.d r hr) le,h.f,cf h.l lq)
def fL.down{slip day:Int}{q:Nat}{b:Bt}{o:Option Int}(h:fL slip day q b):fL slip day q {b with dn:=o}:=⟨h.g,h.d,h.f,h.l⟩
def fL.name{slip day:Int}{q:Nat}{b:Bt}(h:fL slip day q b):10<=b.nm/\b.nm<10*day+8/\b.nm<=4007:=by
 let(r,rr,e,h1,h2):=h.f
 let hr:r∈b.ch:=by rw[e];show .head _
 have:=h.d r hr;let g:=(mC h.g r hr).1;unfold cB at g;simp only[gq,kB]at g;lia
structure Inv(S:YP)(dd:Int)(q:Nat):Prop where
 n:S.n=60
 pl:∀i:Nat,i<60->S.pl i=nO S.bs ((i:Int)+1)
 dj:∀b∈S.bs,b.dn=none->∀c∈S.bs,c.dn=none->∀t,t∈b.now->t∈c.now->b.nm=c.nm
 bt:∀b∈S.bs,fL S.most dd q b
 a8:S.afl.length<=8
 dw:(S.bs.filter λb=>!b.up).length<=3*q
 k:S.k<=60+120*q
 td:∀b∈S.bs,b.nm / 10=dd->b.dn=none
 m:1<=S.most/\S.most<=12
 nd:S.nms.Nodup
theorem zE{α:Type}(p:α->Bool):∀l:List α,l.length=(l.filter p).length+(l.filter λx=>!p x).length
 |[]=>rfl
 |x::r=>by
  have:=zE p r
  grind
def Inv.len{S:YP}{dd:Int}{q:Nat}(h:Inv S dd q):S.bs.length<=8+3*q:=by
 have:=zE Bt.up S.bs;let h8:=h.a8;unfold YP.afl at h8;rw[au]at h8;have:=h.dw;lia
def Inv.now{S:YP}{dd:Int}{q:Nat}(h:Inv S dd q){b:Bt}(hb:b∈S.bs):1<=b.now.length/\(b.now.length:Int)<=S.most/\b.now.length<=12/\(∀t∈b.now,1<=t/\t<=60)/\b.now.Pairwise (· < ·):=by
 let(h1,h2,h3,h4):=uc (h.bt b hb).boat;have:=h.m;show(h1,h2,(),h3,h4)
end
section
def qm{bs:List Bt}{t:Int}:nO bs t=none↔∀b∈bs,b.dn=none->t∉b.now:=by
 induction bs with
 |nil=>show(λ_ _ hb=>(by cases hb),λ_=>rfl)
 |cons c r ih=>
  unfold nO
  grind
def zF{bs:List Bt}{t:Int}{b:Bt}(dj:∀b∈bs,b.dn=none->∀c∈bs,c.dn=none->∀t,t∈b.now->t∈c.now->b.nm=c.nm)(hb:b∈bs)(hd:b.dn=none)(ht:t∈b.now):nO bs t=some b.nm:=by
 induction bs with
 |nil=>cases hb
 |cons c r ih=>
  unfold nO
  grind
def Inv.loose{S:YP}{dd:Int}{q:Nat}(h:Inv S dd q){t:Int}:my S t↔(1<=t/\t<=60)/\∀b∈S.bs,b.dn=none->t∉b.now:=by
 constructor
 .ext⟨i,hi,rfl,e⟩;rw[h.n]at hi;rw[h.pl i hi]at e;show((),qm.mp e)
 .ext⟨⟨h1,h2⟩,q⟩;show((t - 1).toNat,by rw[h.n];lia,(),?_);rw[h.pl _ (),show(((t - 1).toNat:Nat):Int)+1=t by lia];show qm.mpr q
noncomputable def iI(ks:LE)(d:Int)(c:Bt):Bt:=if c.nm∈ks then{c with dn:=some d}else c
def qo(ks:LE)(d:Int)(c:Bt):(iI ks d c).nm=c.nm:=by unfold iI;split<;>rfl
def nX{ks:LE}{d:Int}{c:Bt}(h:c.nm∉ks):iI ks d c=c:=aO h
def PB(ks:LE)(nm d:Int)(c:Bt):dE nm d (iI ks d c)=iI (ks++[nm]) d c:=by
 unfold dE;rw[qo];unfold iI
 grind
noncomputable def ff(bn:List Bt)(nb:LE)(i:Nat):LE:=((bn.take i).map (·.nm)).filter λt=>!decide (t∈nb)
def PD{bn:List Bt}{nb:LE}{i:Nat}{c:Bt}(e:bn[i]?=some c)(h:c.nm∈nb):ff bn nb (i+1)=ff bn nb i:=by
 unfold ff;rw[il,e,Option.toList_some,bO,iN];simp[h]
def PF{bn:List Bt}{nb:LE}{i:Nat}{c:Bt}(e:bn[i]?=some c)(h:c.nm∉nb):ff bn nb (i+1)=ff bn nb i++[c.nm]:=by
 unfold ff;rw[il,e,Option.toList_some,bO,iN];simp[h]
def qr{bn:List Bt}{nb:LE}{i:Nat}{t:Int}:t∈ff bn nb i↔(∃b∈bn.take i,b.nm=t)/\t∉nb:=by
 unfold ff;rw[Ah,Ag];simp
structure UU(S:YP)(bn:List Bt)(nb:LE)(i:Nat)(S':YP):Prop where
 y:S'.a.y=S.a.y
 n:S'.n=S.n
 k:S'.k=S.k
 mo:S'.most=S.most
 da:S'.day=S.day
 pl:S'.pl=S.pl
 bs:S'.bs=S.bs.map (iI (ff bn nb i) S.day)
def UU.zero(S:YP)(bn:List Bt)(nb:LE):UU S bn nb 0 S:=by
 show(rfl,rfl,rfl,rfl,rfl,rfl,?_);rw[show S.bs.map (iI (ff bn nb 0) S.day)=S.bs.map id from ij λc _=>nX (by unfold ff;simp),List.map_id]
def UU.keep{S S':YP}{bn:List Bt}{nb:LE}{i:Nat}{c:Bt}(h:UU S bn nb i S')(e:bn[i]?=some c)(hc:c.nm∈nb):UU S bn nb (i+1) S':=(h.y,h.n,h.k,h.mo,h.da,h.pl,by rw[PD e hc];show h.bs)
def UU.sink{S S':YP}{bn:List Bt}{nb:LE}{i:Nat}{c:Bt}{dn dt:Addr}(h:UU S bn nb i S')(e:bn[i]?=some c)(hc:c.nm∉nb):UU S bn nb (i+1) (qd (nQ S' dn dt) c.nm):=by
 show(h.y,h.n,h.k,h.mo,h.da,h.pl,?_)
 change S'.bs.map (dE c.nm S'.day)=_
 rw[h.bs,h.da,du,PF e hc];show ij λx _=>PB _ _ _ _
def UU.there{S S':YP}{bn:List Bt}{nb:LE}{i:Nat}{c:Bt}(h:UU S bn nb i S')(e:bn[i]?=some c)(nn:(bn.map (·.nm)).Nodup)(hc:c∈S.bs):c∈S'.bs:=by
 rw[h.bs];show Ag.mpr (c,hc,nX λz=>?_);let((b,hb,eb),_):=qr.mp z;let(j,hj,ej):=Re.mp hb;rw[oi]at ej;rw[d_]at hj;let(hi,ei):=Rb.mp e;erw[(Rc.mp (Gh.mp nn)) j i () hi ()];rw[ej,ei,eb]
end
section
abbrev B1(S:YP)(bn:List Bt)(nb:LE):List Bt:=S.bs.map (iI (ff bn nb bn.length) S.day)
structure WW(S:YP)(bn:List Bt)(ag:List LE)(nb:LE)(q:Nat)(j:Nat)(S':YP):Prop where
 y:S'.a.y=S.a.y
 n:S'.n=S.n
 mo:S'.most=S.most
 da:S'.day=S.day
 k:S'.k<=S.k+60+(ag.take j).flatten.length
 len:S'.bs.length<=S.bs.length+j
 mem:∀c∈S'.bs,(∃(i:Nat) (ns:LE),i<j/\nb[i]?=some c.nm/\ag[i]?=some ns/\c.dn=none/\eJ c.now (λy=>y∈ns)/\fL S.most S.day (q+1) c)\/(c∈B1 S bn nb/\c.nm∉nb.take j)
 nw:∀(i:Nat) x,i<j->nb[i]?=some x->x∈S'.nms
 ol:∀c∈B1 S bn nb,c.nm∉nb.take j->c∈S'.bs
 p1:∀(m:Nat) x ns (i:Nat),m<j->nb[m]?=some x->ag[m]?=some ns->(i:Int)+1∈ns->S'.pl i=some x
 p2:∀i:Nat,(i:Int)+1∉ (ag.take j).flatten->S'.pl i=if(i:Int)+1∈(bn.map Bt.now).flatten/\(i:Int)+1∉ag.flatten then none else S.pl i
structure fU(S:YP)(dd:Int)(q:Nat)(ag:List LE)(bn:List Bt):Prop where
 I:Inv S dd q
 d1:dd<S.day
 d2:1<=S.day/\S.day<=400
 q15:q<15
 m:∀b∈bn,b∈S.bs/\b.dn=none
 nn:(bn.map (·.nm)).Nodup
 b3:bn.length<=3
 s8:ag.length<=8
 fs:ag.flatten.Nodup
 so:∀ns∈ag,1<=ns.length/\(ns.length:Int)<=S.most/\∀t∈ns,1<=t/\t<=60
 hat:∀t∈ag.flatten,my S t\/t∈(bn.map Bt.now).flatten
 le:S.afl.length+ag.length<=8+bn.length
def fU.pul{S:YP}{dd:Int}{q:Nat}{ag:List LE}{bn:List Bt}(h:fU S dd q ag bn){t:Int}(ht:t∈(bn.map Bt.now).flatten):∃b∈bn,t∈b.now:=by
 grind
def fU.fa{S:YP}{dd:Int}{q:Nat}{ag:List LE}{bn:List Bt}(h:fU S dd q ag bn):(bn.map Bt.now).flatten.Nodup:=by
 rw[List.Nodup,List.pairwise_flatten];show(λl hl=>?_,?_)
 .let(b,hb,rfl):=Ag.mp hl
  show(h.I.now (h.m b hb).1).2.2.2.2.imp λz e=>()
 .rw[Gh];show(Gh.mp h.nn).imp_of_mem λ{a b} ha hb ne x hx y hy e=>?_;subst e;show ne (h.I.dj a (h.m a ha).1 (h.m a ha).2 b (h.m b hb).1 (h.m b hb).2 x hx hy)
def fU.l60{S:YP}{dd:Int}{q:Nat}{ag:List LE}{bn:List Bt}(h:fU S dd q ag bn):(bn.map Bt.now).flatten.length<=36/\ag.flatten.length<=60:=by
 show(?_,?_)
 .have:=yW (m:=12) (ls:=bn.map Bt.now) λl hl=>by
   let(b,hb,rfl):=Ag.mp hl;show(h.I.now (h.m b hb).1).2.2.1
  have:=h.b3;rw[au]at*;lia
 .have:=gg (ns:=(List.range 60).map λi:Nat=>(i:Int)+1) h.fs λt ht=>by
   let(l,hl,h2):=Rf.mp ht;have:=(h.so l hl).2.2 t h2;show Ag.mpr ((t - 1).toNat,QU.mpr (),())
  rwa[au,gL]at this
def WW.zero{S S':YP}{dd:Int}{q:Nat}{ag:List LE}{bn:List Bt}{nb ap:LE}(h:fU S dd q ag bn)(u:UU S bn nb bn.length S')(ha:eJ ap (pV (bn.map Bt.now).flatten ag.flatten)):WW S bn ag nb q 0 (fe S' none ap):=by
 let la:ap.length<=60:=by have:=ha.le (ns:=(bn.map Bt.now).flatten) λy z=>z.1;have:=h.l60;lia
 show(u.y,u.n,u.mo,u.da,?_,?_,λc hc=>.inr (?_,∅),λi x hi=>absurd hi (iO _),λc hc _=>?_,λm x ns i hm=>absurd hm (iO _),λi _=>?_)
 .change S'.k+ap.length<=_;rw[u.k];simp;lia
 .change S'.bs.length<=_;rw[u.bs,au];show aD _
 .have:c∈S'.bs:=hc;rw[u.bs]at this;show this
 .change c∈S'.bs;rw[u.bs];show hc
 .change(if(i:Int)+1∈ap then none else S'.pl i)=_
  rw[u.pl];by_cases z:(i:Int)+1∈ap
  .let z':(i:Int)+1∈(bn.map Bt.now).flatten/\(i:Int)+1∉ag.flatten:=(ha.2 _).mp z;rw[bf z,bf z']
  .let z':¬((i:Int)+1∈(bn.map Bt.now).flatten/\(i:Int)+1∉ag.flatten):=λy=>z ((ha.2 _).mpr y);rw[aO z,aO z']
def gU{α:Type}{l:List α}{j:Nat}{x:α}(e:l[j]?=some x):l.take (j+1)=l.take j++[x]:=by rw[il,e];rfl
def PH{ag:List LE}{j m:Nat}{ns:LE}{t:Int}(e:ag[m]?=some ns)(l:m<j)(ht:t∈ns):t∈(ag.take j).flatten:=by
 show Rf.mpr (ns,?_,ht);erw[dr (i:=m)];rw[List.getElem?_take_of_lt l,e]
def WW.next{S S' S2:YP}{q j:Nat}{ag:List LE}{bn:List Bt}{nb ns rs:LE}{nm:Int}(h:WW S bn ag nb q j S')(fs:ag.flatten.Nodup)(e1:nb[j]?=some nm)(e2:ag[j]?=some ns)(hr:eJ rs (λy=>y∈ns))
  (y:S2.a.y=S'.a.y) (n:S2.n=S'.n) (mo:S2.most=S'.most) (da:S2.day=S'.day) (k:S2.k=S'.k+rs.length) (pl:∀i:Nat,S2.pl i=if(i:Int)+1∈rs then some nm else S'.pl i)
  (m1:∀c∈S2.bs,(c.nm=nm/\c.dn=none/\eJ c.now (λy=>y∈ns)/\fL S.most S.day (q+1) c)\/(c∈S'.bs/\c.nm≠nm)) (m2:∀c∈S'.bs,c.nm≠nm->c∈S2.bs) (m3:nm∈S2.nms) (m4:S2.bs.length<=S'.bs.length+1):WW S bn ag nb q (j+1) S2:=by
 let t1:=gU e1;let t2:=gU e2;show(y.trans h.y,n.trans h.n,mo.trans h.mo,da.trans h.da,?_,?_,λc hc=>?_,λi x hi ex=>?_,λc hc hn=>?_,λm x Tj i hm f1 f2 f3=>?_,λi hi=>?_)
 .have:=h.k;have:=hr.le (ns:=ns) λ_ z=>z;rw[k,t2,kz,c6,List.flatten_singleton];lia
 .have:=h.len;lia
 .rcases m1 c hc with⟨a1,a2,a3,a4⟩|⟨a1,a2⟩
  .show .inl (j,ns,Ax _,by rw[a1];show e1,e2,a2,a3,a4)
  .rcases h.mem c a1 with⟨i,Tj,b1,b2⟩|⟨b1,b2⟩
   .show .inl (i,Tj,Nat.lt_succ_of_lt b1,b2)
   .show .inr (b1,λz=>?_);rw[t1]at z
    rcases ui.mp z with z|z
    .show b2 z
    .show a2 (Ra.mp z)
 .by_cases z:x=nm
  .rw[z];show m3
  .let Rt:i<j:=by
    rcases fq i j with w|w
    .show w
    .have:i=j:=()
     rw[this,e1]at ex;show absurd (cH ex).symm z
   let(c,hc,rfl):=Ag.mp (h.nw i x Rt ex);show Ag.mpr (c,m2 c hc z,rfl)
 .rw[t1]at hn;show m2 c (h.ol c hc λz=>hn (fX _ z)) λz=>hn (cF _ (Ra.mpr z))
 .rw[pl];by_cases w:m=j
  .subst w;rw[e1]at f1;rw[e2]at f2;cases f1;cases f2;rw[bf ((hr.2 _).mpr f3)]
  .let Sn:m<j:=()
   rw[aO λz=>?_]
   .show h.p1 m x Tj i Sn f1 f2 f3
   .let(g1,g2):=Rb.mp f2;let(g3,g4):=Rb.mp e2;erw[zD fs g1 g3 w ((i:Int)+1) ?_]
    .rw[show ag.getD m []=ag[m] by simp[g1],g2];show f3
    .rw[show ag.getD j []=ag[j] by simp[g3],g4];show(hr.2 _).mp z
 .rw[pl,aO λz=>hi (PH e2 (Ax _) ((hr.2 _).mp z))];show h.p2 i λz=>hi ?_;rw[t2,kz];show fX _ z
end
section
def nY(S:YP)(bn:List Bt)(ag:List LE)(nb:LE):Prop:=nb.Nodup/\nb.length=ag.length/\∀(j:Nat) x ns,nb[j]?=some x->ag[j]?=some ns->(∃b∈bn,b.nm=x/\dk b.now ns=true)\/x=10*S.day+j
def zG{l:LE}(h:l.Nodup){i j:Nat}{x:Int}(e1:l[i]?=some x)(e2:l[j]?=some x):i=j:=by
 let(h1,g1):=Rb.mp e1;let(h2,g2):=Rb.mp e2
 rcases oh i j with z|z|z
 .show absurd (g1.trans g2.symm) ((Rc.mp h) i j h1 h2 z)
 .show z
 .show absurd (g2.trans g1.symm) ((Rc.mp h) j i h2 h1 z)
def PJ{l:LE}(h:l.Nodup){j:Nat}{x:Int}(e:l[j]?=some x):x∉l.take j:=λz=>by
 let(i,hi,ei):=Re.mp z;rw[d_]at hi;rw[oi]at ei;have:=zG h (Rb.mpr ((),ei)) e;lia
def FX{d:Int}(h:1<=d/\d<=400):cB 1 400 d=true:=lC h.1 h.2
def WW.ws{S S':YP}{dd:Int}{q j:Nat}{ag:List LE}{bn:List Bt}{nb ns:LE}{nm:Int}(h:fU S dd q ag bn)(RZ:nY S bn ag nb)(w:WW S bn ag nb q j S')(e1:nb[j]?=some nm)(e2:ag[j]?=some ns):FN S' nm ns (WW S bn ag nb q (j+1)):=by
 let(s1,s2,s3):=h.so ns (dr e2);let(l1,l2):=h.l60;let hj:j<ag.length:=(Rb.mp e2).1;let s8:=h.s8;let q15:=h.q15;let nt:=PJ RZ.1 e1
 let nn:∀i,i<j->nb[i]?≠some nm:=λi hi z=>by have:=zG RZ.1 z e1;lia
 let bo:∀rs,eJ rs (λy=>y∈ns)->eO S.most rs=true:=λrs hr=>by
  show Pz ?_ ?_ (λt ht=>s3 t ((hr.2 t).mp ht)) hr.1
  .cases ns with
   |nil=>simp at s1
   |cons t r=>show List.length_pos_of_mem ((hr.2 t).mpr (.head _))
  .have:=hr.le (ns:=ns) λ_ z=>z;lia
 show(λt ht=>?_,?_,?_)
 .rw[w.n,h.I.n];show s3 t ht
 .have:=w.k;have:=h.I.k
  have:(ag.take j).flatten.length<=ag.flatten.length:=by
   have:ag.flatten=(ag.take j).flatten++(ag.drop j).flatten:=by rw[<-kz,qK]
   rw[this,c6];lia
  lia
 by_cases ex:∃b∈bn,b.nm=nm/\dk b.now ns=true
 .let(b,hb,rfl,lk):=ex;let(hS,hd):=h.m b hb;let bk:=h.I.bt b hS;let ZX:b.nm∈nb:=dr e1;let e0:iI (ff bn nb bn.length) S.day b=b:=nX λz=>(qr.mp z).2 ZX;let TZ:b∈B1 S bn nb:=Ag.mpr (b,hS,e0);let RW:=w.ol b TZ nt
  let uq:∀c∈S'.bs,c.nm=b.nm->c=b:=λc hc z=>by
   rcases w.mem c hc with⟨i,_,a1,a2,_⟩|⟨a1,_⟩
   .rw[z]at a2;show absurd a2 (nn i a1)
   .let(c0,h0,rfl):=Ag.mp a1;rw[qo]at z;rw[lF h.I.nd h0 hS z];show e0
  show .inr (b,RW,rfl,by have:=bk.l;lia,λrs hr=>?_);by_cases z:b.now=rs
  .rw[show kl S' b rs=S' from bf z];show w.next h.fs e1 e2 hr rfl rfl rfl rfl rfl (λi=>rfl) (λc hc=>?_) (λc hc _=>hc) (Ag.mpr (b,RW,rfl)) (kE _);by_cases y:c.nm=b.nm
   .rw[uq c hc y];show .inl (rfl,hd,by rw[z];show hr,bk.mono (by have:=h.d1;lia) (kE _))
   .show .inr (hc,y)
  .rw[show kl S' b rs=nR S' b.nm rs from aO z];show w.next h.fs e1 e2 hr rfl rfl rfl rfl rfl (λi=>rfl) (λc hc=>?_) (λc hc y=>?_) (Ag.mpr (_,Ag.mpr (b,RW,rfl),j5 _ _ b)) (by change(S'.bs.map _).length<=_;rw[au];show kE _)
   .let(c0,WB,rfl):=Ag.mp (show c∈S'.bs.map (dQ b.nm (S'.day,rs,))from hc);by_cases y:c0.nm=b.nm
    .rw[uq c0 WB y];let eg:dQ b.nm (S'.day,rs,) b={b with ch:=b.ch++[(S'.day,rs,)]}:=bf rfl;rw[eg]
     let en:Bt.now {b with ch:=b.ch++[(S'.day,rs,)]}=rs:=by unfold Bt.now;simp
     show .inl (rfl,hd,by rw[en];show hr,?_,λr Tv=>?_,?_,?_)
     .rw[w.da];show FW bk.g (λr Tv=>?_) (λr Tv=>?_) (FX h.d2) (bo rs hr)
      .have:=bk.d r Tv;have:=h.d1
       change r.1<S.day
       lia
      .rw[<-t_ Tv,KR (λ_=>Iff.rfl) hr.2];show lk
     .rcases ui.mp Tv with x|x
      .have:=bk.d r x;have:=h.d1;lia
      .rw[Ra.mp x]
       change S'.day<=S.day
       rw[w.da];show Int.le_refl _
     .let(r,rr,f1,f2):=bk.f;show(r,rr++[(S'.day,rs,)],by change b.ch++_=_;rw[f1];rfl,f2)
     .change(b.ch++[_]).length<=q+1
      rw[c6];have:=bk.l;simp;lia
    .let eg:dQ b.nm (S'.day,rs,) c0=c0:=aO y;rw[eg];show .inr (WB,y)
   .show Ag.mpr (c,hc,aO y)
 .let en:nm=10*S.day+j:=(RZ.2.2 j nm ns e1 e2).resolve_left ex
  let fr:nm∉S'.nms:=λz=>by
   let(c,hc,ec):=Ag.mp z
   rcases w.mem c hc with⟨i,_,a1,a2,_⟩|⟨a1,_⟩
   .rw[ec]at a2;show absurd a2 (nn i a1)
   .let(c0,h0,rfl):=Ag.mp a1;rw[qo]at ec;have:=(h.I.bt c0 h0).name;have:=h.d1;lia
  show .inl (fr,?_,λl rs hr=>?_)
  .have:=w.len;have:=h.I.len;lia
  .show w.next h.fs e1 e2 hr rfl rfl rfl rfl rfl (λi=>rfl) (λc hc=>?_) (λc hc _=>fX _ hc) (Ag.mpr (_,cF _ (Ra.mpr rfl),rfl)) (by change(S'.bs++[_]).length<=_;rw[c6];show aD _)
   rcases ui.mp (show c∈S'.bs++[_]from hc)with z|z
   .show .inr (z,λy=>fr (Ag.mpr (c,z,y)))
   .rw[Ra.mp z];show .inl (rfl,rfl,hr,FV (by change cB 1 400 S'.day=true;rw[w.da];show FX h.d2) (bo rs hr),λr Tv=>?_,(_,_,rfl,?_,?_),?_)
    .rw[Ra.mp Tv]
     change S'.day<=S.day
     rw[w.da];show Int.le_refl _
    .change 10*S'.day<=nm
     rw[w.da];lia
    .change nm<10*S'.day+8
     rw[w.da];lia
    .change 1<=q+1
     lia
end
section
def PK{S:YP}{dd:Int}{q:Nat}{ag:List LE}{bn:List Bt}(h:fU S dd q ag bn):∃nb,nY S bn ag nb/\zb S bn ag nb (UU S bn nb) (WW S bn ag nb q):=by
 let(nb,h1,h2,h3,h4):=Py (day:=S.day) h.nn h.fa h.fs λb hb=>by
  have:=(h.I.bt b (h.m b hb).1).name;have:=h.d1;lia
 let RZ:nY S bn ag nb:=(h3,h2,h4)
 let(l1,l2):=h.l60;show(nb,RZ,?_)
 show{
  sa:=by rw[<-uv];lia
  sb:=by rw[<-uv];lia
  fa:=FR h.fa λns Tw e=>by
   let(b,hb,rfl):=Ag.mp Tw;have:=(h.I.now (h.m b hb).1).1;rw[e]at this;simp at this
  fb:=FR h.fs λns Tw e=>by
   have:=(h.so ns Tw).1;rw[e]at this;simp at this
  pi:=λp hp=>by
   have:=(qj.mp hp).1;rwa[au]at this
  pl:=Pu (by rw[au];have:=h.b3;lia) h.s8
  nv:=h1
  tm:=λt ht=>by
   let(b,hb,z):=h.pul ht;rw[h.I.n];show(h.I.now (h.m b hb).1).2.2.2.1 t z
  k:=by
   have:=h.I.k;have:=h.q15;lia
  v0:=UU.zero S bn nb
  va:=λi S' u=>(u.y,u.n,u.k)
  vn:=λi c S' e hc u=>u.keep e hc
  vs:=λi c S' e hc u=>by
   let hm:=h.m c (dr e);show(u.there e h.nn hm.1,hm.2,(h.I.now hm.1).1,λdn dt=>u.sink e hc)
  w0:=λS' ap u ha=>WW.zero h u ha
  wa:=λj S' w=>w.y
  ws:=λj S' nm ns e1 e2 w=>w.ws h RZ e1 e2}
section
variable{S S':YP}{dd:Int}{q:Nat}{ag:List LE}{bn:List Bt}{nb:LE}
def qt{c:Bt}(hc:c∈B1 S bn nb)(hd:c.dn=none):c∈S.bs/\c.nm∉ff bn nb bn.length:=by
 let(c0,h0,rfl):=Ag.mp hc;by_cases z:c0.nm∈ff bn nb bn.length
 .unfold iI at hd
  grind
 .rw[nX z]
  grind
def fU.rest(h:fU S dd q ag bn){c:Bt}(hc:c∈B1 S bn nb)(hd:c.dn=none)(hn:c.nm∉nb){t:Int}(ht:t∈c.now):t∉ (bn.map Bt.now).flatten/\t∉ag.flatten:=by
 let(h0,z):=qt hc hd
 let np:t∉ (bn.map Bt.now).flatten:=λy=>by
  let(b,hb,y):=h.pul y;let e:=h.I.dj c h0 hd b (h.m b hb).1 (h.m b hb).2 t ht y;show z (qr.mpr ((b,by rw[fk];show hb,e.symm),hn))
 show(np,λy=>?_)
 rcases h.hat t y with y|y
 .show(h.I.loose.mp y).2 c h0 hd ht
 .grind
def WW.all(w:WW S bn ag nb q ag.length S')(RZ:nY S bn ag nb){c:Bt}(hc:c∈S'.bs):(∃(i:Nat) (ns:LE),nb[i]?=some c.nm/\ag[i]?=some ns/\c.dn=none/\eJ c.now (λy=>y∈ns)/\fL S.most S.day (q+1) c)\/(c∈B1 S bn nb/\c.nm∉nb):=by
 rcases w.mem c hc with⟨i,ns,_,z⟩|⟨z1,z2⟩
 .show .inl (i,ns,z)
 .rw[<-RZ.2.1,fk]at z2;show .inr (z1,z2)
def ud{i:Nat}{ns:LE}{t:Int}(e:ag[i]?=some ns)(ht:t∈ns):t∈ag.flatten:=Rf.mpr (ns,dr e,ht)
def WW.dj(h:fU S dd q ag bn)(RZ:nY S bn ag nb)(w:WW S bn ag nb q ag.length S'):∀b∈S'.bs,b.dn=none->∀c∈S'.bs,c.dn=none->∀t,t∈b.now->t∈c.now->b.nm=c.nm:=by
 ext b hb hd c hc VS t tb tc
 rcases w.all RZ hb with⟨i,ns,a1,a2,_,a4,_⟩|⟨a1,a2⟩<;>rcases w.all RZ hc with⟨i',Tj,b1,b2,_,b4,_⟩|⟨b1,b2⟩
 .have:i=i':=by
   by_cases e:i=i'
   .show e
   .let(g1,g2):=Rb.mp a2;let(g3,g4):=Rb.mp b2;show absurd ?_ (zD h.fs g1 g3 e t ?_)
    .rw[show ag.getD i' []=ag[i'] by simp[g3],g4];show(b4.2 t).mp tc
    .rw[show ag.getD i []=ag[i] by simp[g1],g2];show(a4.2 t).mp tb
  grind
 .show absurd (ud a2 ((a4.2 t).mp tb)) (h.rest b1 VS b2 tc).2
 .show absurd (ud b2 ((b4.2 t).mp tc)) (h.rest a1 hd a2 tb).2
 .show h.I.dj b (qt a1 hd).1 hd c (qt b1 VS).1 VS t tb tc
def WW.inv(h:fU S dd q ag bn)(RZ:nY S bn ag nb)(w:WW S bn ag nb q ag.length S')(nd:S'.nms.Nodup):Inv S' S.day (q+1):=by
 let dj:=w.dj h RZ;let(l1,l2):=h.l60;show(w.n.trans h.I.n,λi hi=>?_,dj,λc hc=>?_,?_,?_,?_,λc hc z=>?_,?_,nd)
 .by_cases z:(i:Int)+1∈ag.flatten
  .let(ns,Tw,ht):=Rf.mp z;let(m,hm,em):=Re.mp Tw
   let e2:ag[m]?=some ns:=by rw[aK hm,em]
   let e1:nb[m]?=some (nb[m]'(by rw[RZ.2.1];show hm)):=aK _;rw[w.p1 m _ ns i hm e1 e2 ht];let(c,hc,ec):=Ag.mp (w.nw m _ hm e1)
   rcases w.all RZ hc with⟨i',Tj,a1,a2,a3,a4,_⟩|⟨_,a2⟩
   .rw[ec]at a1;have:=zG RZ.1 a1 e1;subst this;rw[e2]at a2;cases a2;rw[zF dj hc a3 ((a4.2 _).mpr ht),ec]
   .show absurd (cG _) (by rw[ec]at a2;show a2)
  .rw[w.p2 i (by rw[fk];show z)];by_cases y:(i:Int)+1∈(bn.map Bt.now).flatten/\(i:Int)+1∉ag.flatten
   .rw[bf y];show(qm.mpr λc hc hd ht=>?_).symm
    rcases w.all RZ hc with⟨_,ns,_,a2,_,a4,_⟩|⟨a1,a2⟩
    .show z (ud a2 ((a4.2 _).mp ht))
    .show(h.rest a1 hd a2 ht).1 y.1
   .rw[aO y,h.I.pl i hi];let np:(i:Int)+1∉ (bn.map Bt.now).flatten:=λx=>y (x,z);by_cases ex:∃c∈S.bs,c.dn=none/\(i:Int)+1∈c.now
    .let(c,hc,hd,ht):=ex;rw[zF h.I.dj hc hd ht];let nbn:∀b∈bn,b.nm≠c.nm:=λb hb e=>np (Rf.mpr (_,Ag.mpr (b,hb,rfl),by rw[lF h.I.nd (h.m b hb).1 hc e];show ht))
     let ns:c.nm∉ff bn nb bn.length:=λx=>by
      let((b,hb,e),_):=qr.mp x;show nbn b (Ao hb) e
     let TZ:c∈B1 S bn nb:=Ag.mpr (c,hc,nX ns)
     let nin:c.nm∉nb:=λx=>by
      let(j,hj,ej):=Re.mp x
      let SS:j<ag.length:=by rw[<-RZ.2.1];show hj
      rcases RZ.2.2 j c.nm _ (Rb.mpr (hj,ej)) (aK SS)with⟨b,hb,e,_⟩|e
      .show nbn b hb e
      .have:=(h.I.bt c hc).name;have:=h.d1;lia
     let RV:=w.ol c TZ λx=>nin (Ao x);rw[zF dj RV hd ht]
    .rw[qm.mpr λc hc hd ht=>ex (c,hc,hd,ht)];show(qm.mpr λc hc hd ht=>?_).symm
     rcases w.all RZ hc with⟨_,ns,_,a2,_,a4,_⟩|⟨a1,a2⟩
     .show z (ud a2 ((a4.2 _).mp ht))
     .show ex (c,(qt a1 hd).1,hd,ht)
 .rw[w.mo]
  rcases w.all RZ hc with⟨_,_,_,_,_,_,a5⟩|⟨a1,_⟩
  .show a5
  .let(c0,h0,rfl):=Ag.mp a1;have:=(h.I.bt c0 h0).mono (day':=S.day) (q':=q+1) (by have:=h.d1;lia) (kE _);unfold iI;split
   .show this.down
   .show this
 .let n1:S'.afl.Nodup:=nd.sublist ((Aq).map _)
  let n2:=gg (ns:=nb++S.afl.filter λt=>!decide (t∈bn.map (·.nm))) n1 λx hx=>by
   let(c,hc,hd,rfl):=i7.mp hx
   rcases w.all RZ hc with⟨_,_,a1,_⟩|⟨a1,a2⟩
   .show fX _ (dr a1)
   .let(g1,g2):=qt a1 hd;show cF _ (Ah.mpr (i7.mpr (c,g1,hd,rfl),?_));rw[Bool.not_eq_true',decide_eq_false_iff_not];ext y;let(b,hb,e):=Ag.mp y;show g2 (qr.mpr ((b,by rw[fk];show hb,e),a2))
  let n3:=zE (λt=>decide (t∈bn.map (·.nm))) S.afl
  let n4:=gg (ns:=S.afl.filter λt=>decide (t∈bn.map (·.nm))) h.nn λx hx=>by
   let(b,hb,rfl):=Ag.mp hx;show Ah.mpr (i7.mpr (b,(h.m b hb).1,(h.m b hb).2,rfl),by simpa using hx)
  rw[c6,RZ.2.1]at n2;rw[au]at n4;have:=h.le;lia
 .let n1:((S'.bs.filter λb=>!b.up).map (·.nm)).Nodup:=nd.sublist ((Aq).map _)
  let n2:=gg (ns:=(S.bs.filter λb=>!b.up).map (·.nm)++ff bn nb bn.length) n1 λx hx=>by
   let(c,hc,rfl):=Ag.mp hx;let(hc,hu):=Ah.mp hc
   rcases w.all RZ hc with⟨_,_,_,_,a3,_⟩|⟨a1,_⟩
   .rw[Bt.up_iff.mpr a3]at hu;cases hu
   .let(c0,h0,rfl):=Ag.mp a1;rw[qo];by_cases z:c0.nm∈ff bn nb bn.length
    .show cF _ z
    .rw[nX z]at hu;show fX _ (Ag.mpr (c0,Ah.mpr (h0,hu),rfl))
  let n3:(ff bn nb bn.length).length<=3:=by
   unfold ff;erw[cf (fW _ _)];rw[au,d_];have:=h.b3;lia
  rw[c6,au,au]at n2;have:=h.I.dw;lia
 .have:=w.k;have:=h.I.k;rw[fk]at*;lia
 .rcases w.all RZ hc with⟨_,_,_,_,a3,_⟩|⟨a1,_⟩
  .show a3
  .let(c0,h0,rfl):=Ag.mp a1;rw[qo]at z;have:=(h.I.bt c0 h0).name;have:=h.d1;lia
 .rw[w.mo];show h.I.m
end
end
section
variable{S:YP}{dd:Int}{q:Nat}
def fL.fst_boat{slip day:Int}{q:Nat}{b:Bt}(h:fL slip day q b):eO slip b.fst=true:=by
 let(r,rr,e,_):=h.f
 have:b.fst=r.2:=by unfold Bt.fst;rw[e];rfl
 rw[this];show(mC h.g r ⋯).2
def Inv.fst(h:Inv S dd q){b:Bt}(hb:b∈S.bs):1<=b.fst.length/\b.fst.length<=12/\b.fst.Nodup:=by
 let(h1,h2,_,h4):=uc (h.bt b hb).fst_boat;have:=h.m;show(h1,(),h4.imp λz e=>())
def FY(h:Inv S dd q){b c c':Bt}(hb:b∈S.bs)(r:lG S b c)(r':lG S b c'):c=c':=by
 let(a1,a2,a3):=r;let(b1,b2,b3):=r';by_cases e:c.nm=c'.nm
 .show lF h.nd a1 b1 e
 .have:=zC (p:=λt=>decide (t∈c.now)) (q:=λt=>decide (t∈c'.now)) (iE b.fst) λt _ ht=>by
   let ht:t∈c.now:=by simpa using ht
   simpa using λz=>e (h.dj c a1 a2 c' b1 b2 t ht z)
  let hl:(iE b.fst).length<=b.fst.length:=by
   have:=qh (h.fst hb).2.2;unfold dy at this;lia
  unfold eL at a3 b3;lia
def FZ{xs ys:LE}(h:xs.Nodup):(xs.filter λt=>decide (t∈ys)).length=eL xs ys:=pJ (h.filter _) λx=>by
 grind
def qu(h:Inv S dd q){b:Bt}(hb:b∈S.bs){o o':Option Int}(g:lH S b o)(g':lH S b o'):o=o':=by
 cases o with
 |none=>
  cases o' with
  |none=>rfl
  |some m=>obtain⟨c,r,_⟩:=g';show absurd r (g c)
 |some n=>
  let(c,r,e):=g
  cases o' with
  |none=>show absurd r (g' c)
  |some m=>
   let(c',r',e'):=g';rw[<-e,<-e',FY h hb r r']
def PL(h:Inv S dd q){b:Bt}(hb:b∈S.bs)(e:b.nm / 10=dd):lG S b b:=by
 show(hb,h.td b hb e,?_);let bk:=h.bt b hb;let(r,rr,er,f1,f2):=bk.f
 let h1:r.1=dd:=()
 let e2:rr=[]:=by
  cases rr with
  |nil=>rfl
  |cons y ys=>
   let g:=bk.g;rw[er]at g;have:=(FU g).2.1;have:=bk.d y (by rw[er];show .tail _ (.head _));lia
 subst e2
 let n1:b.now=r.2:=by unfold Bt.now;rw[er];rfl
 let n2:b.fst=r.2:=by unfold Bt.fst;rw[er];rfl
 let(g1,_,g3):=h.fst hb;rw[n1,<-n2,KQ,qh g3];lia
end
def zH(CY CD aL:Addr):Sp:=λvs H Q _=>∃S b c,vs=[.ref S.a.y,.int b.nm,.int c.nm]/\YT CY CD aL H S/\b∈S.bs/\c∈S.bs/\c.dn=none/\b.fst.length<64/\∀H',aC H H'->Q (.int ((b.fst.filter λt=>decide (t∈c.now)).length:Nat)) H'
abbrev zI:Stmt:=bj 95
abbrev PM:List Str:=["_law_yard","_law_name","_law_other"]
def PN:bc PM ["_law_yard","_law_name","_law_other"] (aW zI):=bh
def PP{f:Addr}{fd:FuncData}(F:aY K "_law_share" "_law_share" zI f fd)(T:bC mg)(jH:b_ P w K mg base CY "first" 2 ["self","name"] (qg CY CD aL))(fP:b_ P w K mg base CY "boat" 2 ["self","name"] (ki CY CD aL)):aN P w K mg base aU 3 f fd ["_law_yard","_law_name","_law_other"] (zH CY CD aL):=by
 show F.ok PN (λvs H Q E h=>?_) (λaP A outer s H vs Q E hr h=>?_)
 .let(_,_,_,rfl,_):=h;rfl
 .let(S,b,c,rfl,h,hb,hc,hd,Uk,k):=h;show(_,(aA (aQ (qN K T (dU rfl (cX ["_law_timber"] [(0,"_law_yard",),(2,"_law_other",)]) (cU (K:=K) rfl (pM jH (pv 0) (ab (pv 1) ak))) (by ext _ _ _ _ _;show(qG 0)) (by ext _ _ _ _ _;show(gQ (qE (jT (K:=K) rfl) (pv 0) (pM fP (pv 1) (ab (pv 2) ak))))) (by ext _ _ _ _ _;show(pv 0)))))),?_);let hy:=h.y
  w_on
  show(S,b,rfl,h.toYardR,hb,λl H1 s1 _ hl=>?_)
  w_on
  show(l,rfl,(_,ah.of hl),?_);erw[gG (λi ys Z' H'=>(∃v,Z'=[v,some (.ref S.a.y),some (.int c.nm)])/\aC H1 H'/\ys=((b.fst.take i).filter λt=>decide (t∈c.now)).map V.int) b.fst.length ((none,rfl),aC.refl _,rfl) ?_]
  .ext ys Z' H2 ⟨_,s2,rfl⟩;show((_,ah.of (s2 _ _ hl),by rw[au];show aD _),λD hD=>?_);rw[fk];let s3:=ax (o:=.lst ((b.fst.filter λt=>decide (t∈c.now)).map V.int)) hD;let e3:aa H2 D (.lst ((b.fst.filter λt=>decide (t∈c.now)).map V.int)) D=_:=ar
   w_on
   rw[au];show k _ (s1.trans (s2.trans s3))
  .ext MM mi i ys Z' H2 hi ⟨⟨v,rfl⟩,s2,rfl⟩;let e1:b.fst[i]?=some b.fst[i]:=aK hi;let Ro:=s2 _ _ hl;let lf:((b.fst.take i).filter λt=>decide (t∈c.now)).length<=b.fst.length:=cf (fW _ _) ⋯;show((_,.int b.fst[i],ah.of Ro,by rw[aH,e1];rfl),cA ⋯,?_);let h2:=h.same (s1.trans s2);let UG:=h2.y;ext x' G ⟨rfl,Sf⟩;let ex:=Sf _ (ah.of Ro);rw[aH,e1]at ex;cases ex;erw[gz]
   w_on
   show(S,c,rfl,h2.toYardR,hc,hd,λl3 H3 s3 _ S4=>?_);erw[mh (ah.of S4)]
   w_on
   let et:b.fst.take (i+1)=b.fst.take i++[b.fst[i]]:=mF hi;show bZ (λz=>?_) (λz=>?_)
   .w_on
    show cu hi<|mi ((_,rfl),s2.trans s3,?_)
    grind
   .w_on
    show cu hi<|mi ((_,rfl),s2.trans s3,?_)
    grind
noncomputable def dY(S:YP)(b:Bt)(t:Int):Bool:=S.bs.any λc=>c.up && (decide (c.nm=t) && decide (b.fst.length<2*eL b.fst c.now))
def zJ{S:YP}{b:Bt}{t:Int}:dY S b t=true↔∃c,lG S b c/\c.nm=t:=by
 unfold dY;rw[List.any_eq_true];constructor
 .ext⟨c,hc,z⟩;rw[gq,gq,gY,gY]at z;show(c,(hc,Bt.up_iff.mp z.1,z.2.2),z.2.1)
 .ext⟨c,⟨hc,hd,z⟩,e⟩;show(c,hc,?_);rw[gq,gq,gY,gY];show(Bt.up_iff.mpr hd,e,z)
def PQ{S:YP}{b c:Bt}(nd:S.nms.Nodup)(hc:c∈S.bs)(hd:c.dn=none):dY S b c.nm=decide (b.fst.length<2*eL b.fst c.now):=by
 apply Bool.eq_iff_iff.mpr;rw[zJ,gY];constructor
 .ext⟨c',r,e⟩;rw[lF nd r.1 hc e]at r;show r.2.2
 .ext z;show(c,(hc,hd,z),rfl)
def PR{S:YP}{dd:Int}{q:Nat}(I:Inv S dd q){b:Bt}(hb:b∈S.bs){bs:LE}(pm:bs.Perm S.afl):(bs.filter (dY S b)=[]/\lH S b none)\/∃x,bs.filter (dY S b)=[x]/\lH S b (some x):=by
 let nd:(bs.filter (dY S b)).Nodup:=(pm.nodup_iff.mpr (I.nd.sublist ((Aq).map _))).filter _;let al:∀x∈bs.filter (dY S b),∃c,lG S b c/\c.nm=x:=λx hx=>zJ.mp (Ah.mp hx).2
 cases e:bs.filter (dY S b)with
 |nil=>
  show .inl (rfl,λc r=>?_);have:c.nm∈bs.filter (dY S b):=Ah.mpr (pm.mem_iff.mpr (i7.mpr (c,r.1,r.2.1,rfl)),zJ.mpr (c,r,rfl))
  grind
 |cons x l=>
  rw[e]at nd al;let(c,r,ec):=al x (.head _)
  cases l with
  |nil=>show .inr (x,rfl,c,r,ec)
  |cons y l'=>
   let(c',r',ec'):=al y (.tail _ (.head _));have:=FY I hb r r'
   grind
def zK(CY CD aL:Addr):Sp:=λvs H Q _=>∃S dd q,vs=[.ref S.a.y,.int dd]/\YT CY CD aL H S/\Inv S dd q/\q<=400/\∀H',aC H H'->Q (.bl true) H'
abbrev zL:Stmt:=bj 96
abbrev PU:List Str:=["_law_yard","_law_day","_law_name","_law_first","_law_rich","_law_told","_law_other"]
def PV:bc PU ["_law_yard","_law_day"] (aW zL):=bh
def PX{f:Addr}{fd:FuncData}(F:aY K "_law_walked" "_law_walked" zL f fd)(T:bC mg)(oH:b_ P w K mg base CY "names" 1 ["self"] (u9 CY CD aL))(jH:b_ P w K mg base CY "first" 2 ["self","name"] (qg CY CD aL))(jG:b_ P w K mg base CY "boats" 1 ["self"] (q8 CY CD aL))(uK:ba P w K mg base "_law_share" 3 ["_law_yard","_law_name","_law_other"] (zH CY CD aL))(lU:ba P w K mg base "gathered" 3 ["yard","name"] (ub CY CD aL))(Bg:ba P w K mg base "judged" 3 ["slip","chain"] (xQ K))(Bh:b_ P w K mg base CY "slip" 1 ["self"] (zu CY CD aL))(oG:b_ P w K mg base CY "chain" 1 ["self","name"] (u0 CY CD aL))(Bj:ba P w K mg base "quarrels" 4 ["yard"] (zA CY CD aL)):aN P w K mg base aU 5 f fd ["_law_yard","_law_day"] (zK CY CD aL):=by
 show F.ok PV (λvs H Q E h=>?_) (λaP A outer s H vs Q E hr h=>?_)
 .let(_,_,_,rfl,_):=h;rfl
 .let(S,dd,q,rfl,h,I,q4,k):=h
  show(_,(aG (dC dH rfl (cU (K:=K) rfl (jm oH (hr.mono ()) (pv 0))) (qG 2) (aG (qV 3 (pM jH (pv 0) (ab (pv 2) ak)))
   (aG (qL 4 (cX ["_law_other"] [(0,"_law_yard",),(2,"_law_name",),(3,"_law_first",)]) (cU (K:=K) rfl (jm jG (hr.mono ()) (pv 0))) (by ext _ _ _ _ _;show(qG 0)) (by ext _ _ _ _ _;show(gQ (qE dI (bg fH ay (pC uK (ab (pv 1) (ab (pv 2) (ab (pv 0) ak))))) (qN K T (pv 3))))) (by ext _ _ _ _ _;show(pv 0)))
   (aG (bx ((hU (qE dI (qN K T (pv 4)) ay) (iT (qE jO (pC lU (ab (pv 0) (ab (pv 2) ak))) (qI K (bg kT (pv 4) (dS (ab rn ak))) ay))))).pt (aA (aQ fQ)) bD)
   (aG (bx ((jb (qE eG (bg oT (pv 2) ay) (pv 1)) (kL (qE jO (pC lU (ab (pv 0) (ab (pv 2) ak))) (pv 2))))).pt (aA (aQ fQ)) bD)
   (aA (bx (fu (eh (pC Bg (ab (jm Bh (hr.mono ()) (pv 0)) (ab (pM oG (pv 0) (ab (pv 2) ak)) ak))))) (aA (aQ fQ)) bD)))))))
   (aG (qV 5 (pC Bj (ab (pv 0) ak)))
   (aG (bx (qE jO (cg (pE (w:=w) rfl) (by rfl) T.z_len kY (ab (eI (jj (K:=K) (w:=w) rfl rfl rfl) (by rfl) T.z_set jg (ab (dU rfl (cX ["_law_name","_law_other"] []) (cU (K:=K) rfl (pv 5)) (by ext _ _ _ _ _;show(fJ (K:=K) (n:=2) rfl rfl (by show c9 (qG 0) (c9 (qG 1) fE)))) (by ext _ _ _ _ _;show cD) (by ext _ _ _ _ _;show(pv 0))) ak)) ak)) (qN K T (pv 5))) (aA (aQ fQ)) bD)
   (aG (dC dH rfl (cU (K:=K) rfl (pv 5)) (fJ (K:=K) (n:=2) rfl rfl (by show c9 (qG 2) (c9 (qG 6) fE))) (aG (bx ((hU (qE jO (pC lU (ab (pv 0) (ab (pv 2) ak))) (pv 6)) (iT (qE eG (pv 2) (pv 6))))).pt (aA (aQ fQ)) bD)
   (aA (bx ((jb (qE (jT (K:=K) rfl) (pv 2) (jm jG (hr.mono ()) (pv 0))) (kL (qE dI (bg fH ay (pC uK (ab (pv 0) (ab (pv 2) (ab (pv 2) ak))))) (qN K T (pM jH (pv 0) (ab (pv 2) ak))))))).pt (aA (aQ fQ)) bD))))
   (aA (aQ fQ)))))),?_)
  let hy:=h.y
  w_on
  show(S,rfl,h.toYardR,λl H1 rs s1 _ hl pm=>?_)
  w_on
  show(l,rfl,(_,ah.of hl),?_);let al:∀t∈rs,∃b∈S.bs,b.nm=t:=λt ht=>Ag.mp (pm.mem_iff.mp ht)
  let YZ:∀c∈S.bs,c.now.length<64:=λc hc=>by have:=(I.now hc).2.2.1;lia
  let Uk:∀c∈S.bs,c.fst.length<64:=λc hc=>by have:=(I.fst hc).2.1;lia
  erw[dP (λi Z' H'=>(∃v2 v3 v4,Z'=[some (.ref S.a.y),some (.int dd),v2,v3,v4,none,none])/\aC H1 H') rs.length ((_,_,_,rfl),aC.refl _) ?_]
  .ext Z' H2 ⟨⟨v2,v3,v4,rfl⟩,s2⟩;show((_,ah.of (s2 _ _ hl),by rw[au];show aD _),?_);let h2:=(h.same s1).same s2;let UG:=h2.y
   w_on
   show(S,rfl,h2,YZ,Uk,λlq H3 ts ps s3 _ X5 tp qp=>?_)
   let lp:ps.length<64:=by
    have:=gg (ns:=S.nms) qp.1 λx hx=>by
     let(p,hp,rfl):=Ag.mp hx;let(b,hb,e,_):=qp.2 p hp;show Ag.mpr (b,hb,e)
    rw[au,show S.nms.length=S.bs.length from au ..]at this;have:=h.b8;lia
   w_on
   show(lq,rfl,(_,ah.of X5),?_);erw[gG (λi ys Z' H'=>(∃v w,Z'=[v,w])/\H'=H3/\ys=((ps.take i).map (·.1)).map V.int) ps.length ((none,none,rfl),rfl,rfl) ?_]
   .ext ys Z' H4 ⟨_,rfl,rfl⟩;show((_,ah.of X5,by rw[au,tp.1];show aD _),λD hD=>?_);rw[fk];let s4:=ax (o:=.lst ((ps.map (·.1)).map V.int)) hD;let e4:aa H4 D (.lst ((ps.map (·.1)).map V.int)) D=_:=ar
    w_on
    show jk (.inl (ah.of e4)) (by rw[au];lia) λa ks ha Wg mem=>?_;let s5:=ax (o:=cq w a ks) ha;let Vs:=s5 _ _ (s4 _ _ X5);let YG:∀(i:Nat) t p,ts[i]?=some t->ps[i]?=some p->_:=λi t p z1 z2=>s5 _ _ (s4 _ _ (tp.2 i t p z1 z2));let Wc:=s1.trans (s2.trans (s3.trans (s4.trans s5)))
    w_on
    erw[pF ar];rw[jW Wg mem,qh qp.1,au];generalize aa (aa H4 D (.lst ((ps.map (·.1)).map V.int))) a (cq w a ks)=H5 at Wc Vs YG⊢
    w_on
    show bZ (λz=>absurd z (by simp[tp.1])) (λ_=>?_)
    w_on
    show(lq,rfl,(_,ah.of Vs),?_);erw[dP (λi Z' H'=>(∃v2 v6,Z'=[some (.ref S.a.y),some (.int dd),v2,v3,v4,some (.ref lq),v6])/\aC H5 H') ps.length ((_,_,rfl),aC.refl _) ?_]
    .ext Z' H6 ⟨⟨v2,v6,rfl⟩,s6⟩;show((_,ah.of (s6 _ _ Vs),by rw[au,tp.1];show aD _),?_)
     w_on
     show k _ (Wc.trans s6)
    .ext MM RR Bk mi ri i Z' H6 hi ⟨⟨v2,v6,rfl⟩,s6⟩;let e1:ts[i]?=some (ts[i]'(by rw[tp.1];show hi)):=aK _;let e2:ps[i]?=some ps[i]:=aK hi;let hp:=cG hi;generalize ts[i]'(by rw[tp.1];show hi)=t at e1;generalize ps[i]=p at e2 hp;let ht:=s6 _ _ (YG i t _ e1 e2);let X4:=s6 _ _ Vs;show((_,.ref t,ah.of X4,by rw[aH,e1];rfl),?_);ext x' G ⟨rfl,Sf⟩;let ex:=Sf _ (ah.of X4);rw[aH,e1]at ex;cases ex;let(b,hb,eb,go,ne):=qp.2 p hp;let h6:=h.same (Wc.trans s6);let hy6:=h6.y;erw[iV (az.of ht) rfl]
     w_on
     show(S,b,by rw[eb];rfl,h6,hb,YZ,Uk b hb,λo H7 s7 go'=>?_);rw[qu I hb go' go];let h7:=h6.same s7;let hy7:=h7.y
     w_on
     show bZ (λz=>absurd z (by simp[ua])) (λ_=>?_)
     w_on
     show bZ (λz=>absurd (V.int.inj (cP z)).symm ne) (λ_=>?_)
     w_on
     show(S,rfl,h7,λlb H8 bs s8 _ W6 Xv _=>?_);let h8:=h7.same s8;let hy8:=h8.y;let Xq:=s6.trans (s7.trans s8);erw[mh (ah.of W6)];show(_,rfl,bZ (λz=>?_) (λz=>?_))
     .let(c,hc,hd,ec):=i7.mp (Xv.mem_iff.mp (cP z));have:=lF I.nd hc hb (ec.trans eb.symm);subst this
      w_on
      show(S,c,c,by rw[ec];rfl,h8,hc,hc,hd,Uk c hc,λH9 s9=>?_);rw[FZ (I.fst hc).2.2];let h9:=h8.same s9;let hy9:=h9.y
      w_on
      show(S,c,by rw[ec];rfl,h9.toYardR,hc,λl0 HA sA _ hA=>?_)
      w_on
      rw[au,cW (show ¬((c.fst.length:Int)<2*(eL c.fst c.now:Int))from λz2=>?_)]
      .erw[bB]
       w_on
       show((_,_,rfl),Xq.trans (s9.trans sA))
      .have:=qu I hb go (show lH S c (some c.nm)from(c,(hc,hd,()),rfl));show ne ((cH this).trans ec)
     .w_on
      erw[bB]
      w_on
      show((_,_,rfl),Xq)
   .ext MM mi i ys Z' H4 hi ⟨⟨v,w',rfl⟩,rfl,rfl⟩;let e1:ts[i]?=some (ts[i]'(by rw[tp.1];show hi)):=aK _;let e2:ps[i]?=some ps[i]:=aK hi;generalize ts[i]'(by rw[tp.1];show hi)=t at e1;let ht:=tp.2 i t _ e1 e2;show((_,.ref t,ah.of X5,by rw[aH,e1];rfl),cA (by rw[au,au,d_];lia),?_);ext x' G ⟨rfl,Sf⟩;let ex:=Sf _ (ah.of X5);rw[aH,e1]at ex;cases ex;erw[iV (az.of ht) rfl]
    w_on
    erw[br]
    w_on
    show cu hi<|mi ((_,_,rfl),rfl,?_)
    rw[gU e2,bO,bO];rfl
  .ext MM RR Bk mi ri i Z' H2 hi ⟨⟨v2,v3,v4,rfl⟩,s2⟩;let e1:rs[i]?=some rs[i]:=aK hi;let Ro:=s2 _ _ hl;show((_,.int rs[i],ah.of Ro,by rw[aH,e1];rfl),?_);let h2:=(h.same s1).same s2;let UG:=h2.y;ext x' G ⟨rfl,Sf⟩;let ex:=Sf _ (ah.of Ro);rw[aH,e1]at ex;cases ex;let(b,hb,eb):=al _ (cG hi);rw[<-eb]
   w_on
   show(S,b,rfl,h2.toYardR,hb,λlf H3 s3 _ hlf=>?_);let h3:=h2.same s3;let XR:=h3.y
   w_on
   show(S,rfl,h3,λlb H4 bs s4 _ W6 Xv _=>?_);let h4:=h3.same s4;let jb5:=s4 _ _ hlf
   w_on
   show(lb,rfl,(_,ah.of W6),?_)
   let b64:bs.length<64:=by rw[Xv.length_eq];have:=I.a8;lia
   let es:eZ [Str.ofString "_law_other"].length [(0,Str.ofString "_law_yard",),(2,Str.ofString "_law_name",),(3,Str.ofString "_law_first",)] (([some (V.ref S.a.y),some (V.int dd),v2,v3,v4,none,none].set 2 (some (V.int b.nm))).set 3 (some (V.ref lf)))=[none,some (.ref S.a.y),some (.int b.nm),some (.ref lf)]:=rfl;rw[es];erw[gG (λi ys Z' H'=>(∃v,Z'=[v,some (.ref S.a.y),some (.int b.nm),some (.ref lf)])/\aC H4 H'/\ys=((bs.take i).filter (dY S b)).map V.int) bs.length ((none,rfl),aC.refl _,rfl) ?_]
   .ext ys Z' H5 ⟨_,s5,rfl⟩;show((_,ah.of (s5 _ _ W6),by rw[au];show aD _),λD hD=>?_);rw[fk];let s6:=ax (o:=.lst ((bs.filter (dY S b)).map V.int)) hD;let e6:aa H5 D (.lst ((bs.filter (dY S b)).map V.int)) D=some (.lst ((bs.filter (dY S b)).map V.int)):=ar;generalize aa H5 D (.lst ((bs.filter (dY S b)).map V.int))=H6 at s6 e6⊢;let h6:=(h4.same s5).same s6;let hy6:=h6.y;let rl:=PR I hb Xv
    let ll:((bs.filter (dY S b)).length:Int)<=1:=by
     rcases rl with⟨z,_⟩|⟨x,z,_⟩<;>rw[z]<;>simp
    w_on
    rw[au,cW (show ¬((1:Int)<((bs.filter (dY S b)).length:Int)) by lia)];erw[bB]
    w_on
    show(S,b,rfl,h6,hb,YZ,Uk b hb,λo H7 s7 go=>?_);let h7:=h6.same s7;let hy7:=h7.y
    let ho:((bs.filter (dY S b)).map V.int++[.non])[0]?=some (ua o):=by
     rcases rl with⟨z,g⟩|⟨x,z,g⟩
     .rw[qu I hb go g,z];rfl
     .rw[qu I hb go g,z];rfl
    let e7:=s7 _ _ e6
    w_on
    show(by change 1<=sizeLine;decide,λp hp=>?_);let s8:=ax (o:=.lst [.non]) hp;let e8:=s8 _ _ e7;let ep:aa H7 p (.lst [.non]) p=some (.lst [.non]):=ar;generalize aa H7 p (.lst [.non])=H8 at s8 e8 ep⊢;show l5 e8 ep (j9 (cA (by rw[au];simp;lia))) λp2 Tc=>?_;let s9:=ax (o:=.lst ((bs.filter (dY S b)).map V.int++[.non])) Tc;let e9:aa H8 p2 (.lst ((bs.filter (dY S b)).map V.int++[.non])) p2=some (.lst ((bs.filter (dY S b)).map V.int++[.non])):=ar;generalize aa H8 p2 (.lst ((bs.filter (dY S b)).map V.int++[.non]))=H9 at s9 e9⊢;let h9:=(h7.same s8).same s9;let hy9:=h9.y;let s69:=s7.trans (s8.trans s9)
    w_on
    erw[iB (ah.of e9) (jQ (j:=0) ho)];show(by cases o<;>rfl,?_);rw[cY rfl];show(_,rfl,bB ?_)
    w_on
    let s19:aC H1 H9:=s2.trans (s3.trans (s4.trans (s5.trans (s6.trans s69))));show bZ (λz=>?_) (λz=>?_)
    .let z:=V.int.inj (cP z)
     w_on
     show(S,b,rfl,h9,hb,YZ,Uk b hb,λo' HX sX go'=>?_);let hX:=h9.same sX;let hyX:=hX.y;let s1X:=s19.trans sX;rw[qu I hb go' (show lH S b (some b.nm)from(b,PL I hb z,rfl))]
     w_on
     show bZ (λz2=>absurd z2 (by simp[ua])) (λ_=>?_)
     w_on
     show(S,rfl,hX.toYardR,?_)
     w_on
     show(S,b,rfl,hX.toYardR,hb,λlc HC sC _ hC=>?_)
     w_on
     show(S.most,lc,b.ch,rfl,hC,by have:=(I.bt b hb).l;lia,λr Tv=>?_,λHE sE=>?_)
     .have:=(uc (mC (I.bt b hb).g r Tv).2).2.1;have:=I.m;lia
     .rw[(I.bt b hb).g]
      w_on
      erw[bB]
      w_on
      show((_,_,_,rfl),s1X.trans (sC.trans sE))
    .w_on
     erw[bB]
     w_on
     show(S,rfl,h9.toYardR,?_)
     w_on
     show(S,b,rfl,h9.toYardR,hb,λlc HC sC _ hC=>?_)
     w_on
     show(S.most,lc,b.ch,rfl,hC,by have:=(I.bt b hb).l;lia,λr Tv=>?_,λHE sE=>?_)
     .have:=(uc (mC (I.bt b hb).g r Tv).2).2.1;have:=I.m;lia
     .rw[(I.bt b hb).g]
      w_on
      erw[bB]
      w_on
      show((_,_,_,rfl),s19.trans (sC.trans sE))
   .ext MM mi j ys Z' H5 hj ⟨⟨v,rfl⟩,s5,rfl⟩;let e5:bs[j]?=some bs[j]:=aK hj;let X7:=s5 _ _ W6;let lfl:((bs.take j).filter (dY S b)).length<=bs.length:=cf (fW _ _) (by rw[d_];lia);show((_,.int bs[j],ah.of X7,by rw[aH,e5];rfl),cA (by rw[au];lia),?_);let h5:=h4.same s5;let W2:=h5.y;let jb4:=s5 _ _ jb5;ext x' G ⟨rfl,Sf⟩;let ex:=Sf _ (ah.of X7);rw[aH,e5]at ex;cases ex;let(c,hc,hd,ec):=i7.mp (Xv.mem_iff.mp (cG hj));erw[gz]
    w_on
    show(S,b,c,by rw[ec];rfl,h5,hb,hc,hd,Uk b hb,λH6 s6=>?_);let je4:=s6 _ _ jb4;rw[FZ (I.fst hb).2.2]
    w_on
    let er:dY S b bs[j]=decide (b.fst.length<2*eL b.fst c.now):=by rw[<-ec];show PQ I.nd hc hd
    let et:bs.take (j+1)=bs.take j++[bs[j]]:=mF hj;show bZ (λz=>?_) (λz=>?_)
    .w_on
     show cu hj<|mi ((_,rfl),s5.trans s6,?_)
     let z:=cP z;rw[au]at z;rw[et,iN,bO];simp only[j7,mJ,er];rw[cY (show b.fst.length<2*eL b.fst c.now by lia)];rfl
    .w_on
     show cu hj<|mi ((_,rfl),s5.trans s6,?_)
     let z:=ux z;rw[au]at z;rw[et,iN,bO];simp only[j7,mJ,er];rw[cW (show ¬b.fst.length<2*eL b.fst c.now by lia)];simp
section
variable{S:YP}{dd:Int}{q:Nat}{CY CD aL:Addr}
def Inv.pass(h:Inv S dd q){d:Int}(hd:dd<d):Inv (i9 S d) d q:=
 (h.n,h.pl,h.dj,λb hb=>(h.bt b hb).mono () (aD _),h.a8,h.dw,h.k,λb hb e=>by have:=(h.bt b hb).name;lia,h.m,h.nd)
def Inv.day(h:Inv S dd q)(d:Int):Inv (i9 S d) dd q:=(h.n,h.pl,h.dj,h.bt,h.a8,h.dw,h.k,h.td,h.m,h.nd)
def fU.of(h:Inv S dd q){ns:LE}{ag:List LE}{bn:List Bt}(d1:dd<S.day)(d2:1<=S.day/\S.day<=400)(q15:q<15)(G:u5 S ns ag bn)(ok:fc.ok S.most (.refit ns ag))(l3:ns.length<=3):fU S dd q ag bn:=by
 let(o1,o2,o3,o4,o5,o6):=ok;let e:=G.nm;show(h,d1,d2,q15,G.m,by rw[e];show o4,?_,o5.l,o5.nd,λns Tw=>o5.e ns Tw,G.hat,?_)
 .grind
 .have:=G.le
  grind
def PY{H:Hp}{Q:VK}{d:Int}{ns:LE}{ag:List LE}(h:Inv S dd q)(d1:dd<d)(d2:1<=d/\d<=400)(q15:q<15)(ok:fc.ok S.most (.refit ns ag))(l3:ns.length<=3)
  (k:∀S' q' (wd:Str) H',Inv S' d q'->q'<=q+1->S'.a.y=S.a.y->S'.day=d->S'.most=S.most->YT CY CD aL H' S'->bK (Ft S) (Ft S') H H'->Q (.str wd) H'):u7 CY CD aL (i9 S d) H Q (.refit ns ag):=by
 show(λx hx=>(h.now hx).2.2.1,?_,λwd H' _ y st=>k _ q wd H' (h.pass d1) (kE _) rfl rfl rfl y st,λbn G=>?_)
 .have:=ok.2.2.2.2.1.fl;lia
 .let P:fU (i9 S d) dd q ag bn:=fU.of (h.day d) d1 d2 q15 G ok l3;let(nb,RZ,R):=PK P;show(nb,_,_,R,λS' H' w y st=>k S' (q+1) "good" H' (w.inv P RZ y.nd) (aD _) w.y w.da w.mo y st)
def PZ{H:Hp}{Q:VK}{d t:Int}(h:Inv S dd q)(d1:dd<d)
  (k:∀S' q' (wd:Str) H',Inv S' d q'->q'<=q+1->S'.a.y=S.a.y->S'.day=d->S'.most=S.most->YT CY CD aL H' S'->bK (Ft S) (Ft S') H H'->Q (.str wd) H'):u7 CY CD aL (i9 S d) H Q (.clear t):=
 λwd H' y st=>k _ q wd H' (h.pass d1) (kE _) rfl rfl rfl y st
def inv_start{a:YA}{m:Int}(hm:1<=m/\m<=12)(f':Nat->Addr):Inv (iH (i9 (y0 a m) 1) f' 60) 1 0:=
 (rfl,λ_ _=>rfl,λ_ hb=>(bF hb).elim,λ_ hb=>(bF hb).elim,cm _,cm _,aD _,λ_ hb=>(bF hb).elim,hm,.nil)
end
def zM:Sp:=λvs H Q _=>∃(b:Addr) (ag:List LE),vs=[.ref b]/\j4 H b ag/\ag.flatten.length<400/\ag.length<400/\∀l H',aC H H'->H' l=some (.lst (ag.flatten.map V.int))->Q (.ref l) H'
abbrev zN:Stmt:=bj 84
def P_:bc ["_law_rows","_law_found","_law_row"] ["_law_rows"] (aW zN):=bh
def P'{f:Addr}{fd:FuncData}(F:aY K "_law_flat" "_law_flat" zN f fd)(T:bC mg):aN P w K mg base aU 1 f fd ["_law_rows"] zM:=by
 show F.ok P_ (λvs H Q E h=>?_) (λaP A outer s H vs Q E hr h=>?_)
 .let(_,_,rfl,_):=h;rfl
 .let(b,ag,rfl,(ts,hb,SE),lf,ls,k):=h
  show(_,(aG (qV 1 (dS ak))
   (aG (dC dH rfl (dO (K:=K) rfl (pv 0)) (qG 2) (aA (qV 1 (bg kT (pv 1) (qZ K T (pv 2))))))
   (aA (aQ (pv 1))))),?_)
  w_on
  show(cm _,λD hD=>?_);let s1:=ax (o:=.lst []) hD;let eD:aa H D (.lst []) D=some (.lst []):=ar;generalize aa H D (.lst [])=H1 at s1 eD⊢;let TZ:=s1 _ _ hb;let ZQ:=SE.1
  w_on
  show(b,rfl,(_,az.of TZ),?_);erw[dP (λi Z' H'=>(∃v D',Z'=[some (.ref b),some (.ref D'),v]/\H' D'=some (.lst ((ag.take i).flatten.map V.int)))/\aC H1 H') ag.length ((_,D,rfl,eD),aC.refl _) ?_]
  .ext Z' H2 ⟨⟨v,D',rfl,e2⟩,s2⟩;show((_,az.of (s2 _ _ TZ),by rw[au,ZQ];show aD _),?_);rw[fk]at e2
   w_on
   show k _ _ (s1.trans s2) e2
  .ext MM RR Bk mi ri i Z' H2 hi ⟨⟨v,D',rfl,e2⟩,s2⟩;let e1:ts[i]?=some (ts[i]'()):=aK _;let e3:ag[i]?=some ag[i]:=aK hi;generalize ts[i]'()=t at e1;let ht:=s2 _ _ (s1 _ _ (SE.2 i t _ e1 e3));let Tx:=s2 _ _ TZ;show((_,.ref t,az.of Tx,by rw[aH,e1];rfl),?_);ext x' G ⟨rfl,Sf⟩;let ex:=Sf _ (az.of Tx);rw[aH,e1]at ex;cases ex
   let et:(ag.take (i+1)).flatten=(ag.take i).flatten++ag[i]:=by rw[gU e3,kz];simp
   let lt:(ag.take (i+1)).flatten.length<=ag.flatten.length:=by
    have:ag.flatten=(ag.take (i+1)).flatten++(ag.drop (i+1)).flatten:=by rw[<-kz,qK]
    rw[this,c6];lia
   rw[et,c6]at lt
   w_on
   show nz (.inr (az.of ht)) λl hl=>?_;let s3:=ax (o:=.lst (ag[i].map V.int)) hl;let e4:aa G l (.lst (ag[i].map V.int)) l=some (.lst (ag[i].map V.int)):=ar;show l5 (s3 _ _ e2) e4 (j9 (cA (by rw[au,au];lia))) λp hp=>?_;rw[<-bO,<-et]
   w_on
   show((_,p,rfl,ar),s2.trans (s3.trans (ax hp)))
section
structure BA where
 (m pp pl bo dn ch ln on lo:Addr)
noncomputable def bk(slip day:Int)(n:Nat)(x:BA):Tm:=[(.inr "slip",.int slip,),(.inr "day",.int day,),(.inr "many",.int n,),(.inr "lent",.int 0,),(.inr "paid",.ref x.pp,),(.inr "lost",.ref x.pl,),(.inr "boats",.ref x.bo,),(.inr "down",.ref x.dn,),(.inr "chains",.ref x.ch,),(.inr "lines",.ref x.ln,),(.inr "on",.ref x.on,),(.inr "loads",.ref x.lo,)]
def eY(H:Hp)(d:Addr)(bs:List (Int×LE)):Prop:=∃g:Int->Addr,H d=some (.dK (bs.map λp=>(.inl p.1,.ref (g p.1),)))/\∀p∈bs,H (g p.1)=some (.tup (p.2.map V.int))
section
variable{slip day d:Int}{Rj:Nat}{x:BA}
def zO:aM (bk slip day Rj x) (.inr "slip")=some (.int slip):=by kernel_rfl
def F_:aM (bk slip day Rj x) (.inr "day")=some (.int day):=by kernel_rfl
def qv:aM (bk slip day Rj x) (.inr "many")=some (.int Rj):=by kernel_rfl
def Q0:aM (bk slip day Rj x) (.inr "lost")=some (.ref x.pl):=by kernel_rfl
def ia:aM (bk slip day Rj x) (.inr "boats")=some (.ref x.bo):=by kernel_rfl
def Q3:aM (bk slip day Rj x) (.inr "down")=some (.ref x.dn):=by kernel_rfl
def zP:aM (bk slip day Rj x) (.inr "chains")=some (.ref x.ch):=by kernel_rfl
def G0:aM (bk slip day Rj x) (.inr "lines")=some (.ref x.ln):=by kernel_rfl
def G1:aM (bk slip day Rj x) (.inr "on")=some (.ref x.on):=by kernel_rfl
def G3:aM (bk slip day Rj x) (.inr "loads")=some (.ref x.lo):=by kernel_rfl
def Q4:bu (bk slip day Rj x) (.inr "day") (.int d)=bk slip d Rj x:=by kernel_rfl
def Q5{k:Nat}:bu (bk slip day Rj x) (.inr "many") (.int k)=bk slip day k x:=by kernel_rfl
def Q6{b:Addr}:bu (bk slip day Rj x) (.inr "boats") (.ref b)=bk slip day Rj {x with bo:=b}:=by kernel_rfl
def Q7{b:Addr}:bu (bk slip day Rj x) (.inr "on") (.ref b)=bk slip day Rj {x with on:=b}:=by kernel_rfl
def ue:(bk slip day Rj x).length<sizeLine:=by change 12<sizeLine;decide
end
end
structure ic(H:Hp)(x:BA)(slip day:Int)(Rj:Nat)(bs:List (Int×LE)):Prop where
 m:H x.m=some (.dK (bk slip day Rj x))
 pl:H x.pl=some (.lst [])
 bo:eY H x.bo bs
 nb:(bs.map (·.1)).Nodup
 b64:bs.length<64
def ic.same{H H':Hp}{x:BA}{slip day:Int}{Rj:Nat}{bs:List (Int×LE)}(h:ic H x slip day Rj bs)(s:aC H H'):ic H' x slip day Rj bs:=
 (s _ _ h.m,s _ _ h.pl,let(g,a,b):=h.bo;(g,s _ _ a,λp hp=>s _ _ (b p hp)),h.nb,h.b64)
def cy{H:Hp}{x:BA}{slip day:Int}{Rj:Nat}{key:Str}{v:V}{R:V->Prop}(h:H x.m=some (.dK (bk slip day Rj x)))(e:aM (bk slip day Rj x) (.inr key)=some v)(q:R v):∃a v',V.ref x.m=.ref a/\eN H a (.str key) (some v')/\R v':=(x.m,v,rfl,by rw[<-e];show cV (k:=.inr key) (.of h),q)
theorem qw{α:Int->V}{t:Int}:∀{bs:List (Int×LE)},t∈bs.map (·.1)->aM (bs.map λp=>((.inl p.1:aF),α p.1,)) (.inl t)=some (α t)
 |[],h=>(bF h).elim
 |c::r,h=>by
  unfold aM;rw[cQ,mI];by_cases e:c.1=t
  .subst e;simp
  .have:decide ((Sum.inl c.1:aF)=.inl t)=false:=cW λz=>e (Sum.inl.inj z);simp only[this]
   rcases cb.mp h with z|z
   .show absurd z.symm e
   .show qw (bs:=r) z
def nZ(H:Hp)(p:Addr):Option Int->Prop
 |none=>H p=some (.tup [.str "loose"])
 |some nm=>H p=some (.tup [.str "boat",.int nm])
def G4(bs:List (Int×LE))(t:Int):Option Int->Prop
 |none=>∀p∈bs,t∉p.2
 |some nm=>∃p∈bs,p.1=nm/\t∈p.2
def qx:Sp:=λvs H Q _=>∃(x:BA) (slip day:Int) (Rj:Nat) (bs:List (Int×LE)) (t:Int),vs=[.ref x.m,.int t]/\ic H x slip day Rj bs/\∀q o H',aC H H'->H q=none->nZ H' q o->G4 bs t o->Q (.ref q) H'
abbrev zQ:Stmt:=bj 81
def Q8:bc ["_law_m","_law_timber","_law_name"] ["_law_m","_law_timber"] (aW zQ):=bh
def Q9{f:Addr}{fd:FuncData}(F:aY K "_law_place" "_law_place" zQ f fd)(T:bC mg):aN P w K mg base aU 1 f fd ["_law_m","_law_timber"] qx:=by
 show F.ok Q8 (λvs H Q E h=>?_) (λaP A outer s H vs Q E hr h=>?_)
 .let(_,_,_,_,_,_,rfl,_):=h;rfl
 .let(x,slip,day,Rj,bs,t,rfl,h,k):=h
  show(_,(aG (bx (qE (jT (K:=K) rfl) (pv 1) (qD hr.units (pv 0) aT)) (aA (aQ (cp (ab aT ak)))) bD)
   (aG (dC dH rfl (cU (K:=K) rfl (cg (wU rfl) (by rfl) T.z_sorted m7 (ab (qD hr.units (pv 0) aT) ak))) (qG 2) (aA (bx (qE (jT (K:=K) rfl) (pv 1) (qD hr.units (qD hr.units (pv 0) aT) (pv 2))) (aA (aQ (cp (ab aT (ab (pv 2) ak))))) bD)))
   (aA (aQ (cp (ab aT ak)))))),?_)
  w_on
  erw[cy h.m Q0,mh (ns:=[]) (ah.of h.pl)]
  w_on
  erw[pZ (cW ∅)]
  w_on
  erw[cy h.m ia]
  w_on
  let(g,Zc,hg):=h.bo;show ER (ns:=bs.map (·.1)) (.of Zc) (by rw[du,du];rfl) (by rw[au];show h.b64) λl rs hl pm _=>?_;let s1:=ax (o:=.lst (rs.map V.int)) hl;let e1:aa H l (.lst (rs.map V.int)) l=some (.lst (rs.map V.int)):=ar;generalize aa H l (.lst (rs.map V.int))=H1 at s1 e1⊢;let h1:=h.same s1;show(l,rfl,(_,ah.of e1),?_);erw[dP (λi Z' H'=>(∃v,Z'=[some (.ref x.m),some (.int t),v])/\H'=H1/\∀p∈bs,p.1∈rs.take i->t∉p.2) rs.length ((none,rfl),rfl,λ_ _ z=>by simp at z) ?_]
  .ext Z' H' ⟨⟨v,rfl⟩,rfl,no⟩;show((_,ah.of e1,by rw[au];show aD _),?_)
   w_on
   show(by change 1<=sizeLine;decide,λq hq=>k q none _ (s1.trans (ax hq)) (s1.free hq) ar λp hp=>no p hp ?_)
   grind
  .ext MM RR Bk mi ri i Z' H' hi ⟨⟨v,rfl⟩,rfl,no⟩;let e2:rs[i]?=some rs[i]:=aK hi;show((_,.int rs[i],ah.of e1,by rw[aH,e2];rfl),?_);ext x' G ⟨rfl,Sf⟩;let ex:=Sf _ (ah.of e1);rw[aH,e2]at ex;cases ex;let(p,hp,ep):=Ag.mp (pm.mem_iff.mp (cG hi));let(g1,jc7,W_):=h1.bo
   w_on
   erw[cy h1.m ia]
   w_on
   let hv:aM (bs.map λp=>((.inl p.1:aF),V.ref (g1 p.1),)) (.inl rs[i])=some (.ref (g1 rs[i])):=qw (α:=λt=>.ref (g1 t)) (Ag.mpr (p,hp,ep));show(x.bo,.ref (g1 rs[i]),rfl,by rw[<-hv];show cV (k:=.inl rs[i]) (.of jc7),?_);erw[Ei (ns:=p.2) (.inr (az.of ⋯))];show(_,rfl,bZ (λz=>?_) (λz=>?_))
   .w_on
    show(by change 2<=sizeLine;decide,λq hq=>ri (k q (some rs[i]) _ (s1.trans (ax hq)) (s1.free hq) ar (p,hp,ep,cP z)))
   .w_on
    show((_,rfl),rfl,λp' Uc hm=>?_);rw[mF hi]at hm
    rcases ui.mp hm with y|y
    .grind
    .let e3:p'.1=p.1:=(Ra.mp y).trans ep.symm
     have:p'=p:=by
      let(a,ha,ea):=Re.mp Uc;let(c,hc,ec):=Re.mp hp;let nd:=Rc.mp (Gh.mp h.nb)
      grind
     grind
noncomputable def dZ(bs:List (Int×LE))(t:Int):Bool:=!(bs.any λp=>decide (t∈p.2))
def Qa{bs:List (Int×LE)}{t:Int}{o:Option Int}(h:G4 bs t o):dZ bs t=decide (o=none):=by
 unfold dZ
 cases o with
 |none=>
  rw[cY rfl,Bool.not_eq_true',List.any_eq_false];ext p hp;rw[gY];show h p hp
 |some nm=>
  let(p,hp,_,ht):=h
  grind
noncomputable def uf:Option Int->jo
 |none=>.w true
 |some nm=>.boat nm
noncomputable def dG(n:Nat):LE:=(List.range n).map λi:Nat=>(i:Int)+1
def Qb(n:Nat):dG (n+1)=dG n++[(n:Int)+1]:=by unfold dG;rw[oq,bO];rfl
def n_:Sp:=λvs H Q _=>∃(x:BA) (slip day:Int) (Rj:Nat) (bs:List (Int×LE)),vs=[.ref x.m]/\ic H x slip day Rj bs/\Rj<=60/\∀l H',aC H H'->H' l=some (.lst (((dG Rj).filter (dZ bs)).map V.int))->Q (.ref l) H'
abbrev zR:Stmt:=bj 82
def Qc:bc ["_law_m"] ["_law_m"] (aW zR):=bh
def Qd{f:Addr}{fd:FuncData}(F:aY K "_law_loose" "_law_loose" zR f fd)(T:bC mg)(jI:ba P w K mg base "_law_place" 1 ["_law_m","_law_timber"] qx):aN P w K mg base aU 2 f fd ["_law_m"] n_:=by
 show F.ok Qc (λvs H Q E h=>?_) (λaP A outer s H vs Q E hr h=>?_)
 .let(_,_,_,_,_,rfl,_):=h;rfl
 .let(x,slip,day,Rj,bs,rfl,h,h6,k):=h;show(_,(aA (aQ (dU rfl (cX ["_law_timber"] [(0,"_law_m",)]) (uQ (by rfl) T.z_range (ab ay (ab (bg cT (qD hr.units (pv 0) aT) ay) ak))) (by ext _ _ _ _ _;show(qG 0)) (by ext _ _ _ _ _;show(gQ (qE (EW (K:=K) rfl hr.units) (pC jI (ab (pv 1) (ab (pv 0) ak))) (cp (ab aT ak))))) (by ext _ _ _ _ _;show(pv 0))))),?_)
  w_on
  erw[cy h.m qv]
  w_on
  show(_,_,rfl,((),(),(),()),?_);rw[show((Rj:Int)+1 - 1).toNat=Rj by lia];erw[gG (λi ys Z' H'=>aC H H'/\ys=((dG i).filter (dZ bs)).map V.int/\∃v,Z'=[v,some (.ref x.m)]) Rj (aC.refl _,rfl,(_,rfl)) ?_]
  .ext ys Z' H2 ⟨s2,rfl,_⟩;show(aD _,λD hD=>k D _ (s2.trans (ax hD)) ar)
  .ext MM mi i ys Z' H2 hi ⟨s2,rfl,v,rfl⟩;let lf:((dG i).filter (dZ bs)).length<=i:=cf (fW _ _) (by unfold dG;rw[au,gL];show aD _);show(hi,vk (by rw[au];lia),?_);ext y H3 ⟨rfl,rfl⟩
   w_on
   show(x,slip,day,Rj,bs,_,rfl,h.same s2,λq o H4 s4 _ e4 ps=>?_)
   w_on
   show(by change 1<=sizeLine;decide,λp hp=>?_);let s5:=ax (o:=.tup [.str "loose"]) hp;let e5:aa H4 p (.tup [.str "loose"]) p=some (.tup [.str "loose"]):=ar
   let pa:gF K (aa H4 p (.tup [.str "loose"])) (.ref q) (uf o):=by
    cases o with
    |none=>show az.of (s5 _ _ e4)
    |some nm=>show az.of (s5 _ _ e4)
   erw[pR (b:=.w true) pa (az.of e5)]
   let ev:(false ^^ decide (uf o=.w true))=dZ bs ((1:Int)+i):=by
    rw[Qa ps]
    cases o with
    |none=>rfl
    |some nm=>rfl
   rw[ev]
   let et:(dG (i+1)).filter (dZ bs)=(dG i).filter (dZ bs)++[(1:Int)+i].filter (dZ bs):=by rw[Qb,iN,show(1:Int)+i=(i:Int)+1 by lia]
   show(_,rfl,bZ (λz=>?_) (λz=>?_))
   .w_on
    show cu hi<|mi ((s2.trans s4).trans s5,?_,(_,rfl))
    rw[et,bO];simp[z]
   .w_on
    show cu hi<|mi ((s2.trans s4).trans s5,?_,(_,rfl))
    rw[et,bO];simp[z]
section
structure fh(slip:Int)(bs:List (Int×LE)):Prop where
 nb:(bs.map (·.1)).Nodup
 so:∀p∈bs,10<=p.1/\p.1<=4007/\1<=p.2.length/\(p.2.length:Int)<=slip/\p.2.Nodup/\∀t∈p.2,1<=t/\t<=60
 ap:∀p∈bs,∀q∈bs,∀t,t∈p.2->t∈q.2->p.1=q.1
variable{slip:Int}{bs:List (Int×LE)}
def fh.b64(h:fh slip bs):bs.length<64:=by
 let hd:∀p∈bs,p.2.headD 0∈p.2:=λp hp=>by
  have:=(h.so p hp).2.2.1
  cases e:p.2 with
  |nil=>rw[e]at this;cases this
  |cons x r=>show gK ..
 let nd:(bs.map λp=>p.2.headD 0).Nodup:=by
  show Gh.mpr ((Gh.mp h.nb).imp_of_mem λ{a b} ha hb n e=>n (h.ap a ha b hb _ (hd a ha) ?_));rw[e];show hd b hb
 have:=gg nd (ns:=gR 1 60) λt ht=>by
  let(p,hp,rfl):=Ag.mp ht;have:=(h.so p hp).2.2.2.2.2 _ (hd p hp);show wj.mpr ()
 rw[au,ny]at this;lia
def fh.filter(h:fh slip bs)(f:Int×LE->Bool):fh slip (bs.filter f):=
 ((List.filter_sublist.map _).nodup h.nb,λp hp=>h.so p (Ah.mp hp).1,λp hp q hq=>h.ap p (Ah.mp hp).1 q (Ah.mp hq).1)
noncomputable def gI(bs:List (Int×LE))(nm:Int)(s:LE):List (Int×LE):=if nm∈bs.map (·.1)then bs.map (λp=>if p.1=nm then(nm,s,)else p)else bs++[(nm,s,)]
def lI{nm:Int}{s:LE}{q:Int×LE}(h:q∈gI bs nm s):q=(nm,s,)\/(q∈bs/\q.1≠nm):=by
 unfold gI at h
 grind
def Qe{nm:Int}{s:LE}:(gI bs nm s).map (·.1)=if nm∈bs.map (·.1)then bs.map (·.1)else bs.map (·.1)++[nm]:=by
 unfold gI;split
 .rw[du];show ij λp _=>?_
  grind
 .grind
def fh.put{nm:Int}{s:LE}(h:fh slip bs)(hn:10<=nm/\nm<=4007)(hs:1<=s.length/\(s.length:Int)<=slip/\s.Nodup/\∀t∈s,1<=t/\t<=60)(ap:∀p∈bs,∀t∈s,t∈p.2->p.1=nm):fh slip (gI bs nm s):=by
 show(?_,λp hp=>?_,λp hp q hq t h1 h2=>?_)
 .rw[Qe];split
  .show h.nb
  .rename_i n;show LG h.nb n
 .rcases lI hp with rfl|⟨z,_⟩
  .show(hn.1,hn.2,hs)
  .show h.so p z
 .rcases lI hp with rfl|⟨z,n⟩<;>rcases lI hq with rfl|⟨z',n'⟩
  .rfl
  .show absurd (ap q z' t h1 h2) n'
  .show absurd (ap p z t h2 h1) n
  .show h.ap p z q z' t h1 h2
def Qf{g:Int->Addr}{nm:Int}{s:LE}{a:Addr}:bu (bs.map λp=>((.inl p.1:aF),V.ref (g p.1),)) (.inl nm) (.ref a)=(gI bs nm s).map λp=>(.inl p.1,.ref ((λt=>if t=nm then a else g t) p.1),):=by
 let an:((bs.map λp=>((.inl p.1:aF),V.ref (g p.1),)).any λkv=>decide (kv.1=.inl nm))=decide (nm∈bs.map (·.1)):=by
  rw[Bool.eq_iff_iff,List.any_eq_true,gY];constructor
  .grind
  .ext z;let(p,hp,e):=Ag.mp z;show(_,Ag.mpr (p,hp,rfl),cY ⋯)
 unfold bu gI;rw[an];by_cases z:nm∈bs.map (·.1)
 .rw[cY z,bf rfl,bf z,du,du];show ij λp _=>?_
  grind
 .rw[cW z,aO nofun,aO z,bO]
  congr 1
  .show ij λp hp=>?_
   grind
  .simp
def eY.put{H:Hp}{d a:Addr}{nm:Int}{s:LE}(h:eY H d bs)(ha:H a=some (.tup (s.map V.int))):∃l,H d=some (.dK l)/\l.length=bs.length/\eY (aa H d (.dK (bu l (.inl nm) (.ref a)))) d (gI bs nm s):=by
 let(g,h1,h2):=h;show(_,h1,by rw[au],λt=>if t=nm then a else g t,by rw[Qf (s:=s)];show ar,λp hp=>?_)
 rcases lI hp with rfl|⟨z,n⟩
 .simp only[kF];rw[aB (bp ha h1 nofun)];show ha
 .simp only[aO n];rw[aB (bp (h2 p z) h1 nofun)];show h2 p z
def eY.keep{H H':Hp}{d:Addr}(h:eY H d bs)(k:∀l,H d=some (.dK l)->H' d=some (.dK l))(t:∀b xs,H b=some (.tup xs)->H' b=some (.tup xs)):eY H' d bs:=let(g,a,b):=h;(g,k _ a,λp hp=>t _ _ (b p hp))
def lJ(H:Hp)(B:Addr->Prop)(n:Nat)(v:V):Prop:=∃(a:Addr) (vs:Tk),v=.ref a/\B a/\H a=some (.lst (vs.map V.ref))/\vs≠[]/\vs.length<=n/\∀r∈vs,∃(d:Int) (b:Addr) (ns:LE),H r=some (.tup [.int d,.ref b])/\H b=some (.tup (ns.map V.int))
def lK(H:Hp)(B:Addr->Prop)(n:Nat)(v:V):Prop:=∃(a:Addr) (vs:Tk),v=.ref a/\B a/\H a=some (.lst (vs.map V.ref))/\vs.length<=n/\∀r∈vs,∃(d:Int) (b:Addr) (o:Option Int),H r=some (.tup [.int d,.ref b])/\nZ H b o
def nZ.keep{H H':Hp}{b:Addr}{o:Option Int}(h:nZ H b o)(t:∀b xs,H b=some (.tup xs)->H' b=some (.tup xs)):nZ H' b o:=by
 cases o<;>exact t _ _ h
section
variable{H H':Hp}{B B':Addr->Prop}{n n':Nat}{v:V}
def lJ.keep(h:lJ H B n v)(k:∀b xs,B b->H b=some (.lst xs)->H' b=some (.lst xs))(t:∀b xs,H b=some (.tup xs)->H' b=some (.tup xs))(hB:∀b,B b->B' b)(hn:n<=n'):lJ H' B' n' v:=
 let(a,vs,e,b,h1,h2,h3,h4):=h;(a,vs,e,hB _ b,k _ _ b h1,h2,(),λr hr=>let(d,c,ns,z1,z2):=h4 r hr;(d,c,ns,t _ _ z1,t _ _ z2))
def lK.keep(h:lK H B n v)(k:∀b xs,B b->H b=some (.lst xs)->H' b=some (.lst xs))(t:∀b xs,H b=some (.tup xs)->H' b=some (.tup xs))(hB:∀b,B b->B' b)(hn:n<=n'):lK H' B' n' v:=
 let(a,vs,e,b,h1,h3,h4):=h;(a,vs,e,hB _ b,k _ _ b h1,(),λr hr=>let(d,c,o,z1,z2):=h4 r hr;(d,c,o,t _ _ z1,z2.keep t))
end
structure bz(H:Hp)(B:Addr->Prop)(x:BA)(slip day:Int)(Rj:Nat)(bs:List (Int×LE))(cs:LE)(n:Nat):Prop where
 m:H x.m=some (.dK (bk slip day Rj x))
 pl:H x.pl=some (.lst [])
 bo:eY H x.bo bs
 dn:∃l,H x.dn=some (.dK l)/\l.length<=n
 ch:∃l,H x.ch=some (.dK l)/\l.length<=n/\(∀k v,aM l k=some v->lJ H B n v)/\∀c∈cs,aM l (.inl c)≠none
 ln:∃l,H x.ln=some (.dK l)/\l.length<=n/\∀k v,aM l k=some v->lK H B n v
 on:H x.on=some (.dK [])
 lo:H x.lo=some (.dK [])
 dd:[x.m,x.bo,x.dn,x.ch,x.ln,x.on,x.lo].Nodup
 fb:∀b∈[x.m,x.pl,x.bo,x.dn,x.ch,x.ln,x.on,x.lo],B b
 al:∀b,B b->∃o,H b=some o
 ok:fh slip bs
section
variable{H H':Hp}{B B':Addr->Prop}{x:BA}{day:Int}{Rj:Nat}{cs T6:LE}{n n':Nat}
def bz.keep(h:bz H B x slip day Rj bs cs n)(k:∀b o,B b->H b=some o->H' b=some o)(t:∀b xs,H b=some (.tup xs)->H' b=some (.tup xs))(hB:∀b,B b->B' b)(hA:∀b,B' b->B b\/∃o,H' b=some o)(hn:n<=n')(hc:∀c∈T6,c∈cs):bz H' B' x slip day Rj bs T6 n':=by
 let f:∀b∈[x.m,x.pl,x.bo,x.dn,x.ch,x.ln,x.on,x.lo],∀o,H b=some o->H' b=some o:=λb hb o=>k b o (h.fb b hb);let(d,d1,d2):=h.dn;let(c,c1,c2,c3,c4):=h.ch;let(l,l1,l2,l3):=h.ln;show(f _ ∅ _ h.m,f _ ∅ _ h.pl,h.bo.keep (λ_=>f _ ∅ _) t,(d,f _ ∅ _ d1,()),(c,f _ ∅ _ c1,(),λa v e=>(c3 a v e).keep (λb xs hb=>k b _ hb) t hB hn,λa ha=>c4 a (hc a ha)),(l,f _ ∅ _ l1,(),λa v e=>(l3 a v e).keep (λb xs hb=>k b _ hb) t hB hn),f _ ∅ _ h.on,f _ ∅ _ h.lo,h.dd,λb hb=>hB b (h.fb b hb),λb hb=>(hA b hb).elim (λz=>let(o,e):=h.al b z;(o,k b o z e)) id,h.ok)
def bz.same(h:bz H B x slip day Rj bs cs n)(s:aC H H'):bz H' B x slip day Rj bs cs n:=h.keep (λ_ _ _ z=>s _ _ z) (λ_ _ z=>s _ _ z) (λ_ z=>z) (λ_=>.inl) (aD _) λ_ z=>z
def bz.more(h:bz H B x slip day Rj bs cs n)(hn:n<=n'):bz H B x slip day Rj bs cs n':=h.keep (λ_ _ _ z=>z) (λ_ _ z=>z) (λ_ z=>z) (λ_=>.inl) hn λ_ z=>z
def bz.new{p:Addr}{o:HO}(h:bz H B x slip day Rj bs cs n)(hp:H p=none):bz (aa H p o) (λb=>B b\/b=p) x slip day Rj bs cs n:=h.keep (λ_ _ _ z=>ax hp _ _ z) (λ_ _ z=>ax hp _ _ z) (λ_=>.inl) (λb z=>z.imp id λe=>(o,by rw[e];show ar)) (aD _) λ_ z=>z
def bz.nin{p:Addr}(h:bz H B x slip day Rj bs cs n)(hp:H p=none):¬B p:=λz=>by obtain⟨o,e⟩:=h.al p z;rw[hp]at e;cases e
def bz.r(h:bz H B x slip day Rj bs cs n):ic H x slip day Rj bs:=(h.m,h.pl,h.bo,h.ok.nb,h.ok.b64)
end
structure Wr(H H':Hp)(a:Addr)(l':Tm):Prop where
 at_:H' a=some (.dK l')
 ne:∀b o,b≠a->H b=some o->H' b=some o
 kd:∀b o,H b=some o->(∀l,o≠ .dK l)->H' b=some o
def Wr.of{H:Hp}{a:Addr}{l l':Tm}(e:H a=some (.dK l)):Wr H (aa H a (.dK l')) a l':=
 (ar,λb o n z=>by rw[aB n];show z,λb o z n=>by rw[aB (bp z e λy=>n l y)];show z)
section
variable{H H':Hp}{B:Addr->Prop}{x:BA}{day:Int}{Rj:Nat}{cs:LE}{n:Nat}{l:Tm}
def Wr.al{a:Addr}(w:Wr H H' a l)(h:∀b,B b->∃o,H b=some o):∀b,B b->∃o,H' b=some o:=λb hb=>by
 by_cases z:b=a
 .show(_,z▸w.at_)
 .let(o,e):=h b hb;show(o,w.ne _ _ z e)
def lJ.wr{v:V}{a:Addr}{m:Nat}(w:Wr H H' a l)(hn:n<=m)(h:lJ H B n v):lJ H' B m v:=h.keep (λb xs _ z=>w.kd _ _ z nofun) (λb xs z=>w.kd _ _ z nofun) (λ_ z=>z) hn
def lK.wr{v:V}{a:Addr}{m:Nat}(w:Wr H H' a l)(hn:n<=m)(h:lK H B n v):lK H' B m v:=h.keep (λb xs _ z=>w.kd _ _ z nofun) (λb xs z=>w.kd _ _ z nofun) (λ_ z=>z) hn
def eY.wr{a d:Addr}(w:Wr H H' a l)(n:d≠a)(h:eY H d bs):eY H' d bs:=h.keep (λ_ z=>w.ne _ _ n z) λb xs z=>w.kd _ _ z nofun
def bz.wm{x':BA}{d2:Int}{m2:Nat}{bs':List (Int×LE)}(h:bz H B x slip day Rj bs cs n)(w:Wr H H' x.m (bk slip d2 m2 x'))(e:x'={x with bo:=x'.bo,on:=x'.on})(hb:eY H' x'.bo bs')(ho:H' x'.on=some (.dK []))(dd:[x.m,x'.bo,x.dn,x.ch,x.ln,x'.on,x.lo].Nodup)(b1:B x'.bo)(b2:B x'.on)(ok:fh slip bs'):bz H' B x' slip d2 m2 bs' cs n:=by
 rw[e]at w hb ho⊢;let(d,d1,d2):=h.dn;let(c,c1,c2,c3,c4):=h.ch;let(l,l1,l2,l3):=h.ln;let q:=h.dd;simp only[fV,cb,bF,cS,fO]at q;show(w.at_,w.kd _ _ h.pl nofun,hb,(d,w.ne _ _ (Ne.symm q.1.2.1) d1,d2),(c,w.ne _ _ (Ne.symm q.1.2.2.1) c1,c2,λk v z=>(c3 k v z).wr w (aD _),c4),(l,w.ne _ _ (Ne.symm q.1.2.2.2.1) l1,l2,λk v z=>(l3 k v z).wr w (aD _)),ho,w.ne _ _ (Ne.symm q.1.2.2.2.2.2) h.lo,dd,?_,w.al h.al,ok);ext b hb;simp only[cb,bF,cS]at hb
 rcases hb with rfl|rfl|rfl|rfl|rfl|rfl|rfl|rfl
 .show h.fb _ ∅
 .show h.fb _ ∅
 .show b1
 .show h.fb _ ∅
 .show h.fb _ ∅
 .show h.fb _ ∅
 .show b2
 .show h.fb _ ∅
def bz.setm{d2:Int}{m2:Nat}(h:bz H B x slip day Rj bs cs n):bz (aa H x.m (.dK (bk slip d2 m2 x))) B x slip d2 m2 bs cs n:=by
 let w:Wr H _ x.m (bk slip d2 m2 x):=Wr.of h.m;let q:=h.dd;simp only[fV,cb,bF,cS,fO]at q;show h.wm w rfl (h.bo.wr w (Ne.symm q.1.1)) (w.ne _ _ (Ne.symm q.1.2.2.2.2.1) h.on) h.dd (h.fb _ ∅) (h.fb _ ∅) h.ok
def bz.put{a:Addr}(h:bz H B x slip day Rj bs cs n)(w:Wr H H' a l)(ha:a∈[x.bo,x.dn,x.ch,x.ln]){bs':List (Int×LE)}{T6:LE}{m:Nat}(hn:n<=m)
  (p1:if a=x.bo then eY H' x.bo bs'/\fh slip bs' else bs'=bs) (p2:a=x.dn->l.length<=m)
  (p3:if a=x.ch then l.length<=m/\(∀k v,aM l k=some v->lJ H' B m v)/\∀c∈T6,aM l (.inl c)≠none else T6=cs) (p4:a=x.ln->l.length<=m/\∀k v,aM l k=some v->lK H' B m v):bz H' B x slip day Rj bs' T6 m:=by
 let(d,d1,d2):=h.dn;let(c,c1,c2,c3,c4):=h.ch;let(l0,l1,l2,l3):=h.ln;let q:=h.dd;simp only[fV,cb,bF,cS,fO]at q;simp only[cb,bF,cS]at ha
 let am:x.m≠a:=by rcases ha with rfl|rfl|rfl|rfl<;>simp[q]
 let ao:x.on≠a:=by rcases ha with rfl|rfl|rfl|rfl<;>simp[q,Ne.symm]
 let al:x.lo≠a:=by rcases ha with rfl|rfl|rfl|rfl<;>simp[q,Ne.symm]
 show(w.ne _ _ am h.m,w.kd _ _ h.pl nofun,?_,?_,?_,?_,w.ne _ _ ao h.on,w.ne _ _ al h.lo,h.dd,h.fb,w.al h.al,?_)
 .split at p1
  .show p1.1
  .rename_i z;subst p1;show h.bo.wr w (Ne.symm z)
 .by_cases z:a=x.dn
  .show(l,by rw[<-z];show w.at_,p2 z)
  .show(d,w.ne _ _ (Ne.symm z) d1,())
 .split at p3
  .rename_i z;show(l,by rw[<-z];show w.at_,p3)
  .rename_i z;subst p3;show(c,w.ne _ _ (Ne.symm z) c1,(),λk v e=>(c3 k v e).wr w hn,c4)
 .by_cases z:a=x.ln
  .show(l,by rw[<-z];show w.at_,p4 z)
  .show(l0,w.ne _ _ (Ne.symm z) l1,(),λk v e=>(l3 k v e).wr w hn)
 .split at p1
  .show p1.2
  .subst p1;show h.ok
structure bA(B B':Addr->Prop)(H H':Hp):Prop where
 st:bK B B' H H'
 tk:∀b xs,H b=some (.tup xs)->H' b=some (.tup xs)
 mo:∀b,B b->B' b
variable{B' B'':Addr->Prop}{Zo:Hp}{a:Addr}{o:HO}
def bA.trans(p:bA B B' H H')(q:bA B' B'' H' Zo):bA B B'' H Zo:=(p.st.trans q.st,λb xs z=>q.tk _ _ (p.tk _ _ z),λb z=>q.mo b (p.mo b z))
def bA.same(s:aC H H'):bA B B H H':=(bK.same s,λ_ _ z=>s _ _ z,λ_ z=>z)
def bA.put{l l':Tm}(h:B a)(e:H a=some (.dK l)):bA B B H (aa H a (.dK l')):=((λb u nb z=>by rw[aB (show b≠a from λe=>nb (e▸h))];show z,λb z=>.inl z),λb xs z=>(Wr.of (l':=l') e).kd _ _ z nofun,λ_ z=>z)
def bA.new(h:H a=none):bA B (λb=>B b\/b=a) H (aa H a o):=((λb u _ z=>ax h b u z,λb z=>z.elim .inl λe=>.inr (e▸h)),λ_ _ z=>ax h _ _ z,λ_=>.inl)
def bA.hold{l:Tm}{c:Obj}(e:H a=some (.dK l))(p:bA B B' (aa H a (.frz c (.dK l))) H')(hB:¬B a):bA B B' H (aa H' a (.dK l)):=by
 show((λb u nb z=>?_,λb z=>?_),λb xs z=>?_,p.mo)
 .by_cases q:b=a
  .subst q;rw[ar,<-e];show z
  .rw[aB q];show p.st.1 b u nb (by rw[aB q];show z)
 .show(p.st.2 b z).imp id λy=>?_;by_cases q:b=a
  .subst q;rw[ar]at y;cases y
  .rw[aB q]at y;show y
 .let q:b≠a:=bp z e nofun
  rw[aB q];show p.tk _ _ (by rw[aB q];show z)
def bA.fr(p:bA B B' H H')(al:∀b,B' b->∃o,H' b=some o)(h:H' a=none):H a=none:=by
 cases e:H a with
 |none=>rfl
 |some u=>
  by_cases z:B a
  .let(o,y):=al a (p.mo a z);rw[h]at y;cases y
  .rw[p.st.1 a u z e]at h;cases h
def bA.side(p:bA B B' H H')(ha:H a=none)(k:∀b u,b≠a->H' b=some u->Zo b=some u):bA B B' H Zo:=
 ((λb u nb z=>k b u (bq z ha) (p.st.1 b u nb z),p.st.2),λb xs z=>k b _ (bq z ha) (p.tk b xs z),p.mo)
def bz.side(h:bz H B x slip day Rj bs cs n)(hB:¬B a)(k:∀b u,b≠a->H b=some u->H' b=some u)(t:∀b xs,H b=some (.tup xs)->H' b=some (.tup xs)):bz H' B x slip day Rj bs cs n:=h.keep (λb o z e=>k b o (λy=>hB (y▸z)) e) t (λ_ z=>z) (λ_=>.inl) (aD _) λ_ z=>z
end
end
def qy{n:Nat}(h:n<10000):n<sizeLine:=cM h (by decide)
def G6{H H1:Hp}{a:Addr}{l:Tm}{o:Obj}(e:H a=some (.dK l))(s:aC (aa H a (.frz o (.dK l))) H1):aC H (aa H1 a (.dK l)):=λb u z=>by
 by_cases q:b=a
 .subst q;rw[ar,<-e];show z
 .rw[aB q];show s b u (by rw[aB q];show z)
section
variable{H:Hp}{B:Addr->Prop}{x:BA}{slip day:Int}{Rj:Nat}{bs:List (Int×LE)}{cs:LE}{n:Nat}
def bz.is(h:bz H B x slip day Rj bs cs n):∀b∈[x.m,x.pl,x.bo,x.dn,x.ch,x.ln,x.on,x.lo],∃o,H b=some o:=by
 let(g,e,_):=h.bo;let(d,d1,_):=h.dn;let(c,c1,_):=h.ch;let(l,l1,_):=h.ln;ext b hb;simp only[cb,bF,cS]at hb;have:=h.m;have:=h.pl;have:=h.on;have:=h.lo
 grind
def bz.fr(h:bz H B x slip day Rj bs cs n){p:Addr}(hp:H p=none):∀b∈[x.m,x.pl,x.bo,x.dn,x.ch,x.ln,x.on,x.lo],p≠b:=λb hb e=>by
 let(o,z):=h.is b hb
 grind
def bz.newOn{p:Addr}(h:bz H B x slip day Rj bs cs n)(hp:H p=some (.dK []))(np:∀b∈[x.m,x.pl,x.bo,x.dn,x.ch,x.ln,x.on,x.lo],p≠b)(hB:B p):bz (aa H x.m (.dK (bk slip day Rj {x with on:=p}))) B {x with on:=p} slip day Rj bs cs n:=by
 let w:Wr H _ x.m (bk slip day Rj {x with on:=p}):=Wr.of h.m;let q:=h.dd;simp only[fV,cb,bF,cS,fO]at q;let pn:=λb hb=>np b hb;show h.wm w rfl (h.bo.wr w (Ne.symm q.1.1)) (w.ne _ _ (np _ ∅) hp) ?_ (h.fb _ ∅) hB h.ok
 grind
def bz.newBo{p:Addr}{bs':List (Int×LE)}(h:bz H B x slip day Rj bs cs n)(hp:eY H p bs')(np:∀b∈[x.m,x.pl,x.bo,x.dn,x.ch,x.ln,x.on,x.lo],p≠b)(hB:B p)(ok:fh slip bs'):bz (aa H x.m (.dK (bk slip day Rj {x with bo:=p}))) B {x with bo:=p} slip day Rj bs' cs n:=by
 let w:Wr H _ x.m (bk slip day Rj {x with bo:=p}):=Wr.of h.m;let q:=h.dd;simp only[fV,cb,bF,cS,fO]at q;show h.wm w rfl (hp.wr w (np _ ∅)) (w.ne _ _ (Ne.symm q.1.2.2.2.2.1) h.on) ?_ hB (h.fb _ ∅) ok
 grind
end
def zS:Sp:=λvs H Q _=>∃(x:BA) (B:Addr->Prop) (slip day:Int) (Rj:Nat) (bs:List (Int×LE)) (cs:LE) (n:Nat) (nm:Int) (t:Addr),vs=[.ref x.m,.int nm,.ref t]/\bz H B x slip day Rj bs cs n/\n<9000/\
 ∀H' B' x',bz H' B' x' slip day Rj bs cs (n+1)->x'.m=x.m->bA B B' H H'->Q .non H'
abbrev zT:Stmt:=bj 88
abbrev Qg:List Str:=["_law_m","_law_name","_law_timbers","_law_top","_law_bottom","_law_timber"]
def Qh:bc Qg ["_law_m","_law_name","_law_timbers"] (aW zT):=bh
def Qi{f:Addr}{fd:FuncData}(F:aY K "_law_goes_down" "_law_goes_down" zT f fd)(Sm:mg "dict"=none):aN P w K mg base aU 1 f fd ["_law_m","_law_name","_law_timbers"] zS:=by
 show F.ok Qh (λvs H Q E h=>?_) (λaP A outer s H vs Q E hr h=>?_)
 .let(_,_,_,_,_,_,_,_,_,_,rfl,_):=h;rfl
 .let(x,B,slip,day,Rj,bs,cs,n,nm,t,rfl,h,hn,k):=h
  show(_,(aG (gE (cw hr.units) (qD hr.units (pv 0) aT) (pv 1) (qD hr.units (pv 0) aT) rfl)
   (aG (kO (lj (cw hr.units) (qD hr.units (pv 0) aT) (pv 1) (cp (ab ay (ab ay ak))) (rfl,rfl,rfl,rfl)) (fJ (K:=K) (n:=2) rfl rfl (by show c9 (qG 3) (c9 (qG 4) fE))))
   (aG (gE (cw hr.units) (pv 0) aT (eI (xg rfl) (by rfl) Sm xj (ab (nJ (dU rfl (cX ["_law_other"] [(0,"_law_m",),(1,"_law_name",)]) (pP (K:=K) rfl (qD hr.units (pv 0) aT)) (by ext _ _ _ _ _;show(qG 0)) (by ext _ _ _ _ _;show(gQ (qE jO (pv 0) (pv 2)))) (by ext _ _ _ _ _;show(cp (ab (pv 0) (ab (qD hr.units (qD hr.units (pv 1) aT) (pv 0)) ak)))))) ak)) rfl)
   (aA (bx (qE dI (pv 3) ay) (aA fI) bD))))),?_)
  kd_p
  erw[cy h.m F_]
  kd_p
  erw[cy h.m Q3]
  kd_p
  let(l,e1,e2):=h.dn;show(x.dn,_,rfl,gD.k (k:=.inl nm) e1 (qy ()),?_);let q:=h.dd;simp only[fV,cb,bF,cS,fO]at q
  let h1:bz (aa H x.dn (.dK (bu l (.inl nm) (.int day)))) B x slip day Rj bs cs (n+1):=by
   show h.put (Wr.of e1) ∅ (kE _) ?_ (λ_=>cf (jZ ..) ()) ?_ λz=>?_
   .rw[aO (λz=>q.2.1.1 z.symm)]
   .rw[aO q.2.2.1.1]
   .show absurd z q.2.2.1.2.1
  let t1:bA B B H (aa H x.dn (.dK (bu l (.inl nm) (.int day)))):=bA.put (h.fb _ ∅) e1;generalize aa H x.dn (.dK (bu l (.inl nm) (.int day)))=H1 at h1 t1⊢;clear h e1 e2 q
  kd_p
  erw[cy h1.m G1];show(x.on,rfl,i5 (.of h1.on),?_)
  kd_p
  show(by change 2<=sizeLine;decide,λz hz=>?_);let s2:=ax (o:=.tup [.int 0,.int 1]) hz;let z2:aa H1 z (.tup [.int 0,.int 1]) z=some (.tup [.int 0,.int 1]):=ar;generalize aa H1 z (.tup [.int 0,.int 1])=H2 at s2 z2⊢;let h2:=h1.same s2;let t2:=t1.trans (bA.same s2);show(none,cV (k:=.inl nm) (.of h2.on),?_);rw[Option.getD_none]
  kd_p
  show pQ h2.on λo=>?_;let q:=h2.dd;simp only[fV,cb,bF,cS,fO]at q
  kd_p
  erw[cy (by rw[aB q.1.2.2.2.2.1];show h2.m) G1];show(x.on,o,[],rfl,ar,?_);show wc (λ_ ys Z' H'=>H'=aa H2 x.on (.frz o (.dK []))/\ys=[]) 0 (rfl,rfl) ?_ (λi _ _ _ hi=>absurd hi (iO _));ext ys Z' H' ⟨rfl,rfl⟩;show((ar,aD _),λD hD=>?_)
  let nD:D≠x.on:=λz=>by rw[z,ar]at hD;cases hD
  show(by rw[aB (Ne.symm nD)];show ar,?_);let s3:=G6 (o:=o) h2.on (ax (o:=.lst []) hD)
  let d3:aa (aa (aa H2 x.on (.frz o (.dK []))) D (.lst [])) x.on (.dK []) D=some (.lst []):=by rw[aB nD];show ar
  generalize aa (aa (aa H2 x.on (.frz o (.dK []))) D (.lst [])) x.on (.dK [])=H3 at s3 d3⊢;let h3:=h2.same s3;let t3:=t2.trans (bA.same s3)
  kd_p
  show xh (ts:=[]) (kvs:=[]) d3 rfl (λi t p e=>by simp at e) .nil λp hp=>?_;let s4:=ax (o:=.dK []) hp;let p4:aa H3 p (.dK []) p=some (.dK []):=ar;let t4:=t3.trans (bA.new (o:=.dK []) hp);let np:=h3.fr hp;let h4:=h3.new (o:=.dK []) hp;generalize aa H3 p (.dK [])=H4 at s4 p4 t4 h4⊢
  kd_p
  show(x.m,_,rfl,gD.k (k:=.inr "on") h4.m ue,?_);rw[Q7];let h5:=h4.newOn p4 np (.inr rfl);let t5:=t4.trans (bA.put (l':=bk slip day Rj {x with on:=p}) (h4.fb x.m ∅) h4.m)
  kd_p
  erw[bB]
  kd_p
  show k _ _ _ h5 rfl t5
def ug(bs:List (Int×LE))(ns:LE)(ag:List LE):Prop:=(∀c∈ns,c∈bs.map (·.1))/\∀t∈ag.flatten,dZ bs t=true\/∃p∈bs,p.1∈ns/\t∈p.2
def Qj{α:Int->V}{t:Int}{bs:List (Int×LE)}(h:t∉bs.map (·.1)):aM (bs.map λp=>((.inl p.1:aF),α p.1,)) (.inl t)=none:=by
 cases e:aM (bs.map λp=>((.inl p.1:aF),α p.1,)) (.inl t)with
 |none=>rfl
 |some v=>
  have:=wK e
  grind
def eY.val{H:Hp}{d:Addr}{bs:List (Int×LE)}(h:eY H d bs)(t:Int):(t∈bs.map (·.1)/\∃p∈bs,∃a,p.1=t/\eN H d (.int t) (some (.ref a))/\H a=some (.tup (p.2.map V.int)))\/(t∉bs.map (·.1)/\eN H d (.int t) none):=by
 let(g,h1,h2):=h;by_cases z:t∈bs.map (·.1)
 .show .inl (z,?_);let(p,hp,e):=Ag.mp z;show(p,hp,g t,e,?_,by rw[<-e];show h2 p hp);rw[<-qw (α:=λt=>.ref (g t)) z];show cV (k:=.inl t) (.of h1)
 .show .inr (z,?_);rw[<-Qj (α:=λt=>.ref (g t)) z];show cV (k:=.inl t) (.of h1)
def zU:Sp:=λvs H Q _=>∃(x:BA) (slip day:Int) (Rj:Nat) (bs:List (Int×LE)) (p a b:Addr) (ns:LE) (ag:List LE),vs=[.ref x.m,.ref p]/\ic H x slip day Rj bs/\Rj<=60/\fh slip bs/\slip<=12/\H p=some (.tup [.str "refit",.ref a,.ref b])/\H a=some (.tup (ns.map V.int))/\j4 H b ag/\ns.length<=8/\ag.flatten.length<400/\ag.length<400/\
 ∀(wd:Str) H',aC H H'->(wd=""->ug bs ns ag)->Q (.str wd) H'
abbrev zV:Stmt:=bj 83
abbrev Qk:List Str:=["_law_m","_law_fact","_law_there","_law_name"]
def Ql:bc Qk ["_law_m","_law_fact"] (aW zV):=bh
def Qm{f:Addr}{fd:FuncData}(F:aY K "_law_refit_word" "_law_refit_word" zV f fd)(T:bC mg)(iR:ba P w K mg base "_law_loose" 2 ["_law_m"] n_)(Bm:ba P w K mg base "_law_flat" 1 ["_law_rows"] zM):aN P w K mg base aU 3 f fd ["_law_m","_law_fact"] zU:=by
 show F.ok Ql (λvs H Q E h=>?_) (λaP A outer s H vs Q E hr h=>?_)
 .let(_,_,_,_,_,_,_,_,_,_,rfl,_):=h;rfl
 .let(x,slip,day,Rj,bs,p,a,b,ns,ag,rfl,h,h6,ok,sl,hp,ha,hb,ln,lf,ls,k):=h
  show(_,(aG (qV 2 (pC iR (ab (pv 0) ak)))
   (aG (dC dH rfl (dO (K:=K) rfl (qT K (pv 1) ay)) (qG 3) (aG (bx (iS (pK (cw hr.units) (pv 3) (qD hr.units (pv 0) aT))) (aA (aQ aT)) bD)
   (aA (qV 2 (bg kT (pv 2) (qZ K T (qD hr.units (qD hr.units (pv 0) aT) (pv 3))))))))
   (aG (bx (fu (eh (cg (iC (K:=K) rfl rfl) (by rfl) T.z_all iA (ab (dU rfl (cX ["_law_timber"] [(2,"_law_there",)]) (cU (K:=K) rfl (pC Bm (ab (qT K (pv 1) ay) ak))) (by ext _ _ _ _ _;show(qG 0)) (by ext _ _ _ _ _;show cD) (by ext _ _ _ _ _;show(qC (jT (K:=K) rfl) (pv 0) (pv 1)))) ak)))) (aA (aQ aT)) bD)
   (aA (aQ (qT K (cp (ab aT (ab aT ak))) (eI pI (by rfl) T.z_int n9 (ab (qC dI (bg cT (bg mQ (cg ET (by rfl) T.z_len kY (ab (qD hr.units (pv 0) aT) ak)) (qN K T (qT K (pv 1) ay))) (qN K T (qT K (pv 1) ay))) ay) ak)))))))),?_)
  w_on
  show(x,slip,day,Rj,bs,rfl,h,h6,λl H1 s1 e1=>?_)
  w_on
  let SO:=s1 _ _ hp;let Tz:=s1 _ _ ha
  w_on
  show(a,rfl,(_,az.of Tz),?_)
  show dP (λi Z' H'=>∃(v:Option V) (T':Addr) (th:LE),Z'=[some (.ref x.m),some (.ref p),some (.ref T'),v]/\aC H1 H'/\H' T'=some (.lst (th.map V.int))/\th.length<=60+12*i/\(∀c∈ns.take i,c∈bs.map (·.1))/\∀t∈th,dZ bs t=true\/∃p∈bs,p.1∈ns/\t∈p.2) ns.length
   (none,l,_,rfl,aC.refl _,e1,?_,λc hc=>by simp at hc,λt ht=>.inl (Ah.mp ht).2) ?_ ?_
  .erw[cf (fW _ _)];unfold dG;rw[au,gL];lia
  .ext Z' H2 ⟨v,T',th,rfl,s2,e2,lt,al,me⟩;rw[fk]at al;let Tc:=s2 _ _ SO;show((_,az.of (s2 _ _ Tz),by rw[au];show aD _),?_)
   w_on
   show(b,ag,rfl,(hb.same s1).same s2,lf,ls,λlf' H3 s3 e3=>?_)
   w_on
   show(lf',rfl,(_,ah.of e3),?_);erw[j0 (ws:=(ag.flatten.map λt=>decide (t∈th)).map V.bl) (λZ'=>∃v,Z'=[v,some (.ref T')]) (none,rfl) ⋯ (λH' s'=>(_,ah.of (s' _ _ e3),by simp only[au];show aD _)) (λi H' hi s'=>(_,_,ah.of (s' _ _ e3),aK ⋯)) ?_]
   .ext i y z Z' H4 H5 R R0 hi ⟨v',rfl⟩ s4 ⟨rfl,hy⟩ q;let ey:=hy _ (ah.of (s4 _ _ e3));rw[aH,aH]at hi;rw[aH]at ey
    cases ez:ag.flatten[i]? with
    |none=>rw[ez]at ey;cases ey
    |some t=>
     rw[ez]at ey hi;cases ey;cases hi;erw[gz]
     w_on
     erw[br]
     w_on
     erw[mh (ah.of (s4 _ _ (s3 _ _ e2)))]
     grind
   .ext H4 s4 D hD;let s5:=ax (o:=.lst ((ag.flatten.map λt=>decide (t∈th)).map V.bl)) hD;show(D,_,rfl,ah.of ar,?_);let SI:=s1.trans (s2.trans (s3.trans (s4.trans s5)));generalize aa H4 D (.lst ((ag.flatten.map λt=>decide (t∈th)).map V.bl))=H5 at s5 SI⊢
    w_on
    show bZ (λz=>?_) (λz=>?_)
    .w_on
     show k _ _ SI (λe=>absurd e (by decide))
    .let XX:=SI _ _ hp;let Xc:=SI _ _ ha;let(tb,WE,_):=hb.same SI
     w_on
     show(by change 2<=sizeLine;decide,λu hu=>?_);let s6:=ax (o:=.tup [.str "",.str "full"]) hu;let e6:aa H5 u (.tup [.str "",.str "full"]) u=some (.tup [.str "",.str "full"]):=ar;generalize aa H5 u (.tup [.str "",.str "full"])=H6 at s6 e6⊢;let s16:=SI.trans s6;let h6':=h.same s16;let hp6:=s6 _ _ XX;let ha6:=s6 _ _ Xc;let Xb:=s6 _ _ WE;let(g,hg,_):=h6'.bo
     w_on
     erw[cy h6'.m ia]
     w_on
     let G:ug bs ns ag:=by
      show(al,λt ht=>me t ?_)
      let z:((ag.flatten.map λt=>decide (t∈th)).all id)=true:=⋯
      rw[Aj]at z;show cP (z _ (Ag.mpr (t,ht,rfl)))
     split<;>exact sg (az.of e6) rfl (k _ _ s16 λ_=>G)
  .ext MM RR Bk mi ri i Z' H2 hi ⟨v,T',th,rfl,s2,e2,lt,al,me⟩;let Rt:ns[i]?=some ns[i]:=aK hi;let Ur:=s2 _ _ Tz;show((_,.int ns[i],az.of Ur,by rw[aH,Rt];rfl),?_);ext x' G ⟨rfl,hy⟩;let ex:=hy _ (az.of Ur);rw[aH,Rt]at ex;cases ex;let h2:=h.same (s1.trans s2)
   w_on
   erw[cy h2.m ia]
   rcases h2.bo.val ns[i]with⟨z,q,hq,aq,eq,dg,eb⟩|⟨z,dg⟩
   .show(x.bo,_,rfl,dg,?_)
    w_on
    erw[bB]
    w_on
    erw[cy h2.m ia]
    w_on
    show(x.bo,_,rfl,dg,?_)
    w_on
    show nz (.inr (az.of eb)) λl' Vt=>?_;let s3:=ax (o:=.lst (q.2.map V.int)) Vt;let e3:aa G l' (.lst (q.2.map V.int)) l'=_:=ar;let sq:=(ok.so q hq).2.2.2.1;show l5 (s3 _ _ e2) e3 (j9 (cA ⋯)) λp' Uc=>?_;rw[<-bO]
    w_on
    show(_,p',th++q.2,rfl,s2.trans (s3.trans (ax Uc)),ar,by rw[c6];lia,λc hc=>?_,λt ht=>?_)
    .rw[gU Rt,ui]at hc
     grind
    .grind
   .show(x.bo,_,rfl,dg,?_)
    w_on
    erw[br]
    w_on
    show k _ _ (s1.trans s2) (λe=>absurd e (by decide))
def zW:Sp:=λvs H Q _=>∃(x:BA) (slip day:Int) (Rj:Nat) (bs:List (Int×LE)) (p:Addr) (t:Int),vs=[.ref x.m,.ref p]/\ic H x slip day Rj bs/\H x.lo=some (.dK [])/\H p=some (.tup [.str "clear",.int t])/\∀(wd:Str) H',aC H H'->wd≠""->Q (.str wd) H'
abbrev zX:Stmt:=bj 86
def Qn:bc ["_law_m","_law_fact"] ["_law_m","_law_fact"] (aW zX):=bh
def Qo{f:Addr}{fd:FuncData}(F:aY K "_law_money_word" "_law_money_word" zX f fd)(T:bC mg)(jI:ba P w K mg base "_law_place" 1 ["_law_m","_law_timber"] qx):aN P w K mg base aU 2 f fd ["_law_m","_law_fact"] zW:=by
 show F.ok Qn (λvs H Q E h=>?_) (λaP A outer s H vs Q E hr h=>?_)
 .let(_,_,_,_,_,_,_,rfl,_):=h;rfl
 .let(x,slip,day,Rj,bs,p,t,rfl,h,lo,hp,k):=h
  show(_,(aG (bx (qE eG (qT K (pv 1) ay) aT) (aG (bx ((hU (qE dI (qT K (pv 1) ay) (qD hr.units (pv 0) aT)) (iT (qE eG (qT K (pC jI (ab (pv 0) (ab (qT K (pv 1) ay) ak))) ay) aT)))).pt (aA (aQ aT)) bD)
   (aA (aQ (qT K (cp (ab aT (ab aT ak))) (eI pI (by rfl) T.z_int n9 (ab (uP (s_ (cw hr.units) (qT K (pv 1) ay) (qD hr.units (pv 0) aT))) ak)))))) bD)
   (aG fI
   (aA fI))),?_)
  kd_p
  erw[br]
  kd_p
  erw[cy h.m qv]
  kd_p
  show bZ (λ_=>?_) (λ_=>?_)
  .kd_p
   erw[br]
   kd_p
   show k _ _ (aC.refl _) (by decide)
  .kd_p
   show(x,slip,day,Rj,bs,t,rfl,h,λq o H1 s1 _ pa _=>?_)
   cases o with
   |some nm=>
    let pa:H1 q=some (.tup [.str "boat",.int nm]):=pa
    kd_p
    erw[br]
    kd_p
    show k _ _ s1 (by decide)
   |none=>
    let pa:H1 q=some (.tup [.str "loose"]):=pa;let h1:=h.same s1;let SO:=s1 _ _ hp
    kd_p
    erw[bB]
    kd_p
    show(by change 2<=sizeLine;decide,λu hu=>?_);let s2:=ax (o:=.tup [.str "nothing",.str ""]) hu;let e2:aa H1 u (.tup [.str "nothing",.str ""]) u=some (.tup [.str "nothing",.str ""]):=ar;generalize aa H1 u (.tup [.str "nothing",.str ""])=H2 at s2 e2⊢;let Tc:=s2 _ _ SO
    kd_p
    erw[cy (h1.same s2).m G3];show(x.lo,none,rfl,cV (k:=.inl t) (.of (s2 _ _ (s1 _ _ lo))),?_)
    kd_p
    show k _ _ (s1.trans s2) (by decide)
def zY(Rj:Nat):fc->Prop
 |.fell c=>Rj=0/\c=60
 |.refit ns ag=>Rj<=60/\ns.length<=8/\ag.flatten.length<400/\ag.length<400
 |.clear _=>Rj<=60
def Qp(bs:List (Int×LE))(wd:Str):fc->Prop
 |.fell _=>wd=""
 |.refit ns ag=>wd=""->ug bs ns ag
 |.clear _=>wd≠""
def zZ:Sp:=λvs H Q _=>∃(x:BA) (slip day:Int) (Rj:Nat) (bs:List (Int×LE)) (p:Addr) (y:fc),vs=[.ref x.m,.ref p]/\ic H x slip day Rj bs/\fh slip bs/\slip<=12/\H x.lo=some (.dK [])/\fT H p y/\zY Rj y/\∀(wd:Str) H',aC H H'->Qp bs wd y->Q (.str wd) H'
abbrev z_:Stmt:=bj 87
def Qq:bc ["_law_m","_law_fact","_law_good"] ["_law_m","_law_fact"] (aW z_):=bh
def Qr{f:Addr}{fd:FuncData}(F:aY K "_law_idle" "_law_idle" z_ f fd)(T:bC mg)(Bn:ba P w K mg base "_law_refit_word" 3 ["_law_m","_law_fact"] zU)(Bo:ba P w K mg base "_law_money_word" 2 ["_law_m","_law_fact"] zW):aN P w K mg base aU 4 f fd ["_law_m","_law_fact"] zZ:=by
 show F.ok Qq (λvs H Q E h=>?_) (λaP A outer s H vs Q E hr h=>?_)
 .let(_,_,_,_,_,_,_,rfl,_):=h;rfl
 .let(x,slip,day,Rj,bs,p,y,rfl,h,ok,sl,lo,hy,fo,k):=h
  show(_,(aG (bx (qE eG (qT K (pv 1) ay) aT) (aA (aQ (qT K (cp (ab aT (ab aT ak))) (eI pI (by rfl) T.z_int n9 (ab (qC dI (bg cT (qD hr.units (pv 0) aT) (qT K (pv 1) ay)) ay) ak))))) bD)
   (aG (bx (qE eG (qT K (pv 1) ay) aT) (aA (aQ (pC Bn (ab (pv 0) (ab (pv 1) ak))))) bD)
   (aG (bx (qE eG (qT K (pv 1) ay) aT) (aG fI
   (aA fI)) bD)
   (aG (bx (qE eG (qT K (pv 1) ay) aT) (aA fI) bD)
   (aA (aQ (pC Bo (ab (pv 0) (ab (pv 1) ak))))))))),?_)
  cases y with
  |fell c=>
   let(rfl,rfl):=fo;let hp:H p=some (.tup [.str "fell",.int 60]):=hy
   kd_p
   erw[br]
   kd_p
   show(by change 2<=sizeLine;decide,λt ht=>?_);let s1:=ax (o:=.tup [.str "",.str "full"]) ht;let e1:aa H t (.tup [.str "",.str "full"]) t=some (.tup [.str "",.str "full"]):=ar;generalize aa H t (.tup [.str "",.str "full"])=H1 at s1 e1⊢;let SO:=s1 _ _ hp
   kd_p
   erw[cy (h.same s1).m qv]
   kd_p
   show k _ _ s1 rfl
  |refit ns ag=>
   let(f1,f2,f3,f4):=fo;let(a,b,hp,ha,hb):=hy
   kd_p
   erw[bB]
   kd_p
   erw[br]
   kd_p
   show(x,slip,day,Rj,bs,p,a,b,ns,ag,rfl,h,f1,ok,sl,hp,ha,hb,f2,f3,f4,k)
  |clear t=>
   let hp:H p=some (.tup [.str "clear",.int t]):=hy
   kd_p
   erw[bB]
   kd_p
   erw[bB]
   kd_p
   erw[bB]
   kd_p
   erw[bB]
   kd_p
   show(x,slip,day,Rj,bs,p,t,rfl,h,lo,hp,k)
def A0(K:W.Frag):Sp:=λvs H Q _=>∃(p q:Addr) (ns ms:LE),vs=[.ref p,.ref q]/\eV K H p (ns.map V.int)/\eV K H q (ms.map V.int)/\ns.length<64/\ms.length<64/\∀b H',aC H H'->Q (.bl b) H'
abbrev A1:Stmt:=bj 76
abbrev Qs:List Str:=["_law_one","_law_other","_law_both"]
def Qt:bc Qs ["_law_one","_law_other"] (aW A1):=bh
def Qu{f:Addr}{fd:FuncData}(F:aY K "_law_like" "_law_like" A1 f fd)(T:bC mg)(oI:ba P w K mg base "_law_set" 1 ["_law_timbers"] (jq K)):aN P w K mg base aU 2 f fd ["_law_one","_law_other"] (A0 K):=by
 show F.ok Qt (λvs H Q E h=>?_) (λaP A outer s H vs Q E hr h=>?_)
 .let(p,q,ns,ms,rfl,_):=h;rfl
 .let(p,q,ns,ms,rfl,hS,hT,hl,hm,k):=h
  show(_,(aG (qV 2 (qN K T (dU rfl (cX ["_law_timber"] [(1,"_law_other",)]) (cU (K:=K) rfl (pC oI (ab (pv 0) ak))) (by ext _ _ _ _ _;show(qG 0)) (by ext _ _ _ _ _;show(gQ (qE (jT (K:=K) rfl) (pv 0) (pv 1)))) (by ext _ _ _ _ _;show(pv 0)))))
   (aA (aQ (gw (qC dI (bg fH ay (pv 2)) (cg (pE (w:=w) rfl) (by rfl) T.z_len kY (ab (eI (jj (K:=K) (w:=w) rfl rfl rfl) (by rfl) T.z_set jg (ab (pv 0) ak)) ak))) (iq (qC dI (bg fH ay (pv 2)) (cg (pE (w:=w) rfl) (by rfl) T.z_len kY (ab (eI (jj (K:=K) (w:=w) rfl rfl rfl) (by rfl) T.z_set jg (ab (pv 1) ak)) ak)))))))),?_)
  kd_p
  show(p,ns,rfl,hS,hl,λl H1 rs s1 _ RB SJ=>?_);show(l,rfl,(_,ah.of RB),?_);let hT1:=hT.same s1;let lr:rs.length<=ns.length:=SJ.le λx h=>h;erw[wu (Z0:=[some (.ref q)]) (f:=λz=>decide (z∈ms)) () (ah.of RB) ?_]
  .ext z R hR
   kd_p
   erw[Ei hT1]
   kd_p
   show hR
  ext e he;let s2:=s1.trans (ax (o:=.lst ((rs.filter λz=>decide (z∈ms)).map V.int)) he)
  kd_p
  show jk (hS.same s2) () λa ks ha nd mem=>?_;let s3:=s2.trans (ax (o:=cq w a ks) ha)
  kd_p
  erw[pF ar]
  kd_p
  show bZ (λ_=>?_) (λ_=>?_)
  .kd_p
   show jk (hT.same s3) () λa ks ha nd mem=>?_
   kd_p
   erw[pF ar]
   kd_p
   show k _ _ (s3.trans (ax ha))
  .kd_p
   show k _ _ s3
def lM(H:Hp)(A:Addr)(ns:LE):Prop:=∃(as:Tk) (kv:Tm),H A=some (.lst (as.map V.ref))/\as.length=kv.length/\kv.map (·.1)=ns.map Sum.inl/\(∀(i:Nat) (t:Addr) (p:aF×V),as[i]?=some t->kv[i]?=some p->H t=some (.tup [kV p.1,p.2]))/\∀p∈kv,∃(b:Addr) (s:LE),p.2=.ref b/\H b=some (.tup (s.map V.int))/\s.length<64
def lM.keep{H H':Hp}{A:Addr}{ns:LE}(h:lM H A ns)(k:∀xs,H A=some (.lst xs)->H' A=some (.lst xs))(t:∀b xs,H b=some (.tup xs)->H' b=some (.tup xs)):lM H' A ns:=
 let(as,kv,h1,h2,h3,h4,h5):=h
 (as,kv,k _ h1,h2,h3,λi u p a b=>t _ _ (h4 i u p a b),λp hp=>let(b,s,e,z,y):=h5 p hp;(b,s,e,t _ _ z,y))
def o7(H:Hp)(l:Addr)(ag:List LE):Prop:=∃ts:Tk,H l=some (.lst (ts.map V.ref))/\ts.length=ag.length/\∀(i:Nat) (t:Addr) (ss:LE),ts[i]?=some t->ag[i]?=some ss->∃(b:Addr) (fr:Int),H t=some (.tup [.ref b,.int fr])/\10<=fr/\fr<=4007/\H b=some (.tup (ss.map V.int))
def o7.keep{H H':Hp}{l:Addr}{ag:List LE}(h:o7 H l ag)(k:∀xs,H l=some (.lst xs)->H' l=some (.lst xs))(t:∀b xs,H b=some (.tup xs)->H' b=some (.tup xs)):o7 H' l ag:=
 let(ts,h1,h2,h3):=h
 (ts,k _ h1,h2,λi u s a b=>let(c,fr,z1,z2,z3,z4):=h3 i u s a b;(c,fr,t _ _ z1,z2,z3,t _ _ z4))
def Qv{slip c0:Int}{Ry:List (Int×LE)}{rs ss:LE}{ag:List LE}{i:Nat}(hb:fh slip Ry)(hc:10<=c0/\c0<=4007)(SJ:eJ rs (λx=>x∈ss))(so:i6 slip ag)(hi:ag[i]?=some ss)(ZX:∀p∈Ry,∀t∈p.2,t∈(ag.take i).flatten):fh slip (gI Ry c0 rs)/\∀p∈gI Ry c0 rs,∀t∈p.2,t∈(ag.take (i+1)).flatten:=by
 let et:(ag.take (i+1)).flatten=(ag.take i).flatten++ss:=by rw[gU hi,kz];simp
 let nd:((ag.take i).flatten++ss).Nodup:=by
  have:ag.flatten=(ag.take (i+1)).flatten++(ag.drop (i+1)).flatten:=by rw[<-kz,qK]
  let z:=so.nd
  grind
 let(e1,e2,e3):=so.e ss (dr hi);let lr:=SJ.le λx h=>h;show(hb.put hc (?_,(),SJ.nodup,λt ht=>e3 t ((SJ.2 t).mp ht)) λp hp t h1 h2=>absurd rfl ((Gi.mp nd).2.2 t (ZX p hp t h2) t ((SJ.2 t).mp h1)),λp hp t ht=>?_)
 .cases ss with
  |nil=>cases e1
  |cons y r=>
   have:=(SJ.2 y).mpr (gK ..)
   grind
 .rw[et]
  rcases lI hp with rfl|⟨z,_⟩
  .show cF _ ((SJ.2 t).mp ht)
  .grind
def Qw{l:Tm}{k:aF}{v:V}(h:aM l k=some v):∃p∈l,p.1=k/\p.2=v:=by
 unfold aM at h;let(p,e,z):=Rh.mp h
 grind
def A2:Sp:=λvs H Q _=>∃(x:BA) (B:Addr->Prop) (slip day:Int) (Rj:Nat) (bs:List (Int×LE)) (n:Nat) (a l:Addr) (ns:LE) (ag:List LE),vs=[.ref x.m,.ref a,.ref l]/\bz H B x slip day Rj bs (bs.map (·.1)) n/\n<8000/\slip<=12/\H a=some (.tup (ns.map V.int))/\ns.Nodup/\ns.length<=8/\o7 H l ag/\¬B l/\i6 slip ag/\ug bs ns ag/\
 ∀H' B' x' bs',bz H' B' x' slip day Rj bs' (bs'.map (·.1)) (n+80)->x'.m=x.m->bA B B' H H'->Q .non H'
abbrev A3:Stmt:=bj 89
abbrev Qx:List Str:=["_law_m","_law_names","_law_sets","_law_ahead","_law_behind","_law_timbers","_law_fresh","_law_name","_law_old","_law_was","_law_timber"]
def Qy:bc Qx ["_law_m","_law_names","_law_sets"] (aW A3):=bh
def Qz{f:Addr}{fd:FuncData}(F:aY K "_law_turn" "_law_turn" A3 f fd)(T:bC mg)(Sm:mg "dict"=none)(oI:ba P w K mg base "_law_set" 1 ["_law_timbers"] (jq K))(Bp:ba P w K mg base "_law_like" 2 ["_law_one","_law_other"] (A0 K))(Bq:ba P w K mg base "_law_goes_down" 1 ["_law_m","_law_name","_law_timbers"] zS):aN P w K mg base aU 3 f fd ["_law_m","_law_names","_law_sets"] A2:=by
 show F.ok Qy (λvs H Q E h=>?_) (λaP A outer s H vs Q E hr h=>?_)
 .let(_,_,_,_,_,_,_,_,_,_,_,rfl,_):=h;rfl
 .let(x,B,slip,day,Rj,bs,n,a,l,ns,ag,rfl,h,hn,sl,ha,nd,ln,hl,nl,so,G,k):=h
  let cov:∀t∈ag.flatten,∀p∈bs,t∈p.2->p.1∈ns:=λt ht p hp hq=>by
   rcases G.2 t ht with z|⟨q,hq1,UL,hq3⟩
   .unfold dZ at z;rw[Bool.not_eq_true',List.any_eq_false]at z;show absurd (cY hq) (z p hp)
   .rw[h.ok.ap p hp q hq1 t hq hq3];show UL
  show(_,(dN (qL 3 (cX ["_law_name"] [(0,"_law_m",)]) (dO (K:=K) rfl (pv 1)) (by ext _ _ _ _ _;show(qG 0)) (by ext _ _ _ _ _;show cD) (by ext _ _ _ _ _;show(cp (ab (pv 0) (ab (qD hr.units (qD hr.units (pv 1) aT) (pv 0)) ak)))))
   (dN (gE (cw hr.units) (pv 0) aT (eI (xg rfl) (by rfl) Sm xj (ab (nJ (dU rfl (cX ["_law_name"] [(0,"_law_m",),(1,"_law_names",)]) (pP (K:=K) rfl (qD hr.units (pv 0) aT)) (by ext _ _ _ _ _;show(qG 0)) (by ext _ _ _ _ _;show(gQ (qE (sk (K:=K) rfl) (pv 0) (pv 2)))) (by ext _ _ _ _ _;show(cp (ab (pv 0) (ab (qD hr.units (qD hr.units (pv 1) aT) (pv 0)) ak)))))) ak)) rfl)
   (aG (qV 4 mr)
   (dN (dC dH rfl (cU (K:=K) rfl (pv 2)) (fJ (K:=K) (n:=2) rfl rfl (by show c9 (qG 5) (c9 (qG 6) fE))) (aG (qV 7 (qI K (bg kT (dU rfl (cX ["_law_name","_law_old"] [(5,"_law_timbers",)]) (cU (K:=K) rfl (pv 3)) (by ext _ _ _ _ _;show(fJ (K:=K) (n:=2) rfl rfl (by show c9 (qG 0) (c9 (qG 1) fE)))) (by ext _ _ _ _ _;show(gQ (eh (pC Bp (ab (pv 1) (ab (pv 2) ak)))))) (by ext _ _ _ _ _;show(pv 0))) (dS (ab (pv 6) ak))) ay))
   (aA (bx (iS (BM (pv 7))) (aA (gE (cw hr.units) (pv 4) (pv 7) (qU K T (pC oI (ab (pv 5) ak))) rfl)) bD))))
   (dN (dC dH rfl (cU (K:=K) rfl (pv 3)) (fJ (K:=K) (n:=2) rfl rfl (by show c9 (qG 7) (c9 (qG 8) fE))) (aA (bx (iS (pK (cw hr.units) (pv 7) (pv 4))) (aA (eB (pC Bq (ab (pv 0) (ab (pv 7) (ab (pv 8) ak)))))) bD)))
   (dN (qV 9 (eI (xg rfl) (by rfl) Sm xj (ab (pv 3) ak)))
   (aA (Mp (dC dH rfl (pP (K:=K) rfl (pv 4)) (qG 7) (aG (gE (cw hr.units) (qD hr.units (pv 0) aT) (pv 7) (qD hr.units (pv 4) (pv 7)) rfl)
   (dN (bx (qE (Mt hr.units) (LF (cw hr.units) (pv 9) (pv 7) (rfl,rfl,rfl,rfl)) (qD hr.units (pv 4) (pv 7))) (aA (gE (cw hr.units) (qD hr.units (pv 0) aT) (pv 7) (bg kT (lj (cw hr.units) (qD hr.units (pv 0) aT) (pv 7) (dS ak) (rfl,rfl,rfl,rfl)) (dS (ab (cp (ab (qD hr.units (pv 0) aT) (ab (qD hr.units (pv 4) (pv 7)) ak))) ak))) rfl)) bD)
   (aA (dC dH rfl (dO (K:=K) rfl (qD hr.units (pv 4) (pv 7))) (qG 10) (aA (bx (iS (s_ (cw hr.units) (pv 10) (qD hr.units (pv 0) aT))) (aA fI) bD))))))))))))))),?_)
  erw[e_ (λZ' H'=>∃A,Z'=[some (.ref x.m),some (.ref a),some (.ref l),some (.ref A),none,none,none,none,none,none,none]/\aC H H'/\lM H' A ns/\H A=none) (λM R Bk Ct mi ri=>?_)]
  .w_on
   show(a,rfl,(_,az.of ha),?_)
   show gG (λi ys Z' H'=>aC H H'/\(∃v,Z'=[v,some (.ref x.m)])/\∃(as:Tk) (kv:Tm),ys=as.map V.ref/\as.length=kv.length/\kv.map (·.1)=(ns.take i).map Sum.inl/\(∀(i:Nat) (t:Addr) (p:aF×V),as[i]?=some t->kv[i]?=some p->H' t=some (.tup [kV p.1,p.2]))/\∀p∈kv,∃(b:Addr) (s:LE),p.2=.ref b/\H' b=some (.tup (s.map V.int))/\s.length<64) ns.length
    (aC.refl _,(_,rfl),[],[],rfl,rfl,rfl,λi t p e=>by simp at e,λp hp=>by cases hp) ?_ ?_
   .ext ys Z' H2 ⟨s2,_,as,kv,rfl,q1,q2,q3,q4⟩;show((_,az.of (s2 _ _ ha),by rw[au];show aD _),λD hD=>?_);let s3:=ax (o:=.lst (as.map V.ref)) hD;rw[fk]at q2
    w_on
    show(D,rfl,s2.trans s3,(as,kv,ar,q1,q2,λi t p a b=>s3 _ _ (q3 i t p a b),λp hp=>let(b,s,e,z,y):=q4 p hp;(b,s,e,s3 _ _ z,y)),s2.free hD)
   .ext M mi i ys Z' H2 hi ⟨s2,⟨v,rfl⟩,as,kv,rfl,q1,q2,q3,q4⟩;let Rt:ns[i]?=some ns[i]:=aK hi;let Ur:=s2 _ _ ha
    let lk:kv.length=i:=by have:=congrArg List.length q2;simp only[au,d_]at this;lia
    show((_,.int ns[i],az.of Ur,by rw[aH,Rt];rfl),cA (by rw[au];lia),?_);ext x' G' ⟨rfl,hy⟩;let ex:=hy _ (az.of Ur);rw[aH,Rt]at ex;cases ex;let h2:=h.same s2;erw[gz]
    w_on
    erw[br]
    w_on
    erw[cy h2.m ia]
    w_on
    rcases h2.bo.val ns[i]with⟨z,q,hq,aq,eq,dg,eb⟩|⟨z,_⟩
    .show(x.bo,_,rfl,dg,?_)
     w_on
     show(by change 2<=sizeLine;decide,λu hu=>?_);let s3:=ax (o:=.tup [.int ns[i],.ref aq]) hu
     show cu hi<|mi (s2.trans s3,(_,rfl),as++[u],kv++[(.inl ns[i],.ref aq,)],by rw[bO];rfl,by simp[q1],?_,λj t p e1 e2=>?_,λp hp=>?_)
     .rw[bO,q2,gU Rt,bO];rfl
     .rcases oh j as.length with y|y|y
      .rw[iL y]at e1;rw[iL ()]at e2;show s3 _ _ (q3 j t p e1 e2)
      .subst y;rw[fj (aD _),Nat.sub_self]at e1;rw[fj (),show as.length - kv.length=0 by lia]at e2;cases e1;cases e2;show ar
      .rw[fj (),gp (by simp;lia)]at e1;cases e1
     .rcases ui.mp hp with y|y
      .let(b,s,e,z,y):=q4 p y;show(b,s,e,s3 _ _ z,y)
      .rw[Ra.mp y];have:=(h.ok.so q hq).2.2.2.1;show(aq,q.2,rfl,s3 _ _ eb,())
    .show absurd (G.1 _ (cG hi)) z
  ext Z1 H1 ⟨A,rfl,s1,Vh,fA⟩;let nA:=h.nin fA;let h1:=h.same s1;let t1:bA B B H H1:=bA.same s1;let Tz:=s1 _ _ ha;let RB:=hl.keep (λ_=>s1 _ _) (λ_ _=>s1 _ _);clear ha hl s1 fA;generalize ef:(bs.filter λp=>!decide (p.1∈ns))=fl
  let okf:fh slip fl:=by rw[<-ef];show h.ok.filter _
  erw[e_ (λZ' H'=>∃B1 x1,Z'=[some (.ref x.m),some (.ref a),some (.ref l),some (.ref A),none,none,none,none,none,none,none]/\bz H' B1 x1 slip day Rj fl (bs.map (·.1)) n/\x1.m=x.m/\bA B B1 H H'/\lM H' A ns/\¬B1 A/\o7 H' l ag/\¬B1 l) (λM R Bk Ct mi ri=>?_)]
  .w_on
   let(g,hg,Wv):=h1.bo;let q:=h1.dd;simp only[fV,cb,bF,cS,fO]at q;show pQ hg λo=>?_;generalize ehf:aa H1 x.bo (.frz o (.dK (bs.map λp=>(.inl p.1,.ref (g p.1),))))=Hf
   let WO:Hf x.bo=some (.frz o (.dK (bs.map λp=>(.inl p.1,.ref (g p.1),)))):=by rw[<-ehf];show ar
   let kf:∀b u,b≠x.bo->H1 b=some u->Hf b=some u:=λb u nb z=>by rw[<-ehf,aB nb];show z
   let mf:=kf _ _ q.1.1 h1.m;let af:=kf _ _ (bp Tz hg nofun) Tz
   w_on
   erw[cy mf ia];show(x.bo,o,_,rfl,WO,?_)
   show gG (λi ys Z' H'=>aC Hf H'/\(∃v,Z'=[v,some (.ref x.m),some (.ref a)])/\∃vs:Tk,ys=vs.map V.ref/\vs.length=((bs.take i).filter λp=>!decide (p.1∈ns)).length/\∀(j:Nat) (t:Addr) (p:aF×V),vs[j]?=some t->(((bs.take i).filter λp=>!decide (p.1∈ns)).map λp=>((.inl p.1:aF),V.ref (g p.1),))[j]?=some p->H' t=some (.tup [kV p.1,p.2])) bs.length
    (aC.refl _,(_,rfl),[],rfl,rfl,λi t p e=>by simp at e) ?_ ?_
   .ext ys Z' H2 ⟨s2,_,vs,rfl,q1,q3⟩;rw[fk,ef]at q1 q3;show((s2 _ _ WO,by rw[au];show aD _),λD hD=>?_)
    let nD:D≠x.bo:=λz=>by rw[z,s2 _ _ WO]at hD;cases hD
    let sD:=ax (o:=.lst (vs.map V.ref)) hD;show(sD _ _ (s2 _ _ WO),?_);let s3:aC H1 _:=G6 (o:=o) hg (by rw[ehf];show s2.trans sD)
    let d3:aa (aa H2 D (.lst (vs.map V.ref))) x.bo (.dK (bs.map λp=>(.inl p.1,.ref (g p.1),))) D=some (.lst (vs.map V.ref)):=by rw[aB nD];show ar
    let q4:∀(j:Nat) (t:Addr) (p:aF×V),vs[j]?=some t->(fl.map λp=>((.inl p.1:aF),V.ref (g p.1),))[j]?=some p->aa (aa H2 D (.lst (vs.map V.ref))) x.bo (.dK (bs.map λp=>(.inl p.1,.ref (g p.1),))) t=some (.tup [kV p.1,p.2]):=λj t p e1 e2=>by
     let z:=q3 j t p e1 e2;rw[aB (bp z (s2 _ _ WO) nofun)];show sD _ _ z
    generalize aa (aa H2 D (.lst (vs.map V.ref))) x.bo (.dK (bs.map λp=>(.inl p.1,.ref (g p.1),)))=H3 at s3 d3 q4⊢
    w_on
    show xh (ts:=vs) (kvs:=fl.map λp=>(.inl p.1,.ref (g p.1),)) d3 (by rw[au];show q1) q4 ?_ λp hp=>?_
    .rw[du];show Gh.mpr ((Gh.mp okf.nb).imp λn e=>n (Sum.inl.inj e))
    let h3:=h1.same s3;let t4:=(t1.trans (bA.same s3)).trans (bA.new (o:=.dK (fl.map λp=>(.inl p.1,.ref (g p.1),))) hp);let np:=h3.fr hp;let h4:=h3.new (o:=.dK (fl.map λp=>(.inl p.1,.ref (g p.1),))) hp;let s4:=ax (o:=.dK (fl.map λp=>(.inl p.1,.ref (g p.1),))) hp
    let p4:eY (aa H3 p (.dK (fl.map λp=>(.inl p.1,.ref (g p.1),)))) p fl:=(g,ar,λr hr=>s4 _ _ (s3 _ _ (Wv r (by rw[<-ef]at hr;show(Ah.mp hr).1))))
    let Yq:=(Vh.keep (λ_=>s3 _ _) (λ_ _=>s3 _ _)).keep (λ_=>s4 _ _) (λ_ _=>s4 _ _);let S3:=(RB.keep (λ_=>s3 _ _) (λ_ _=>s3 _ _)).keep (λ_=>s4 _ _) (λ_ _=>s4 _ _)
    let nAp:A≠p:=by obtain⟨_,_,z,_⟩:=Vh;show bq (s3 _ _ z) hp
    let nlp:l≠p:=by obtain⟨_,z,_⟩:=RB;show bq (s3 _ _ z) hp
    generalize aa H3 p (.dK (fl.map λp=>(.inl p.1,.ref (g p.1),)))=H4 at t4 h4 s4 p4 Yq S3⊢
    w_on
    show(x.m,_,rfl,gD.k (k:=.inr "boats") h4.m ue,?_);rw[Q6];let t5:=t4.trans (bA.put (l':=bk slip day Rj {x with bo:=p}) (h4.fb x.m ∅) h4.m);let wr:=Wr.of (l':=bk slip day Rj {x with bo:=p}) h4.m;show mi (_,{x with bo:=p},rfl,h4.newBo p4 np (.inr rfl) okf,rfl,t5,Yq.keep (λ_ z=>wr.kd _ _ z nofun) (λ_ _ z=>wr.kd _ _ z nofun),λz=>z.elim nA nAp,S3.keep (λ_ z=>wr.kd _ _ z nofun) (λ_ _ z=>wr.kd _ _ z nofun),λz=>z.elim nl nlp)
   .ext M mi i ys Z' H2 hi ⟨s2,⟨v,rfl⟩,vs,rfl,q1,q3⟩;let Rt:bs[i]?=some bs[i]:=aK hi;let b6:=h.ok.b64;let lfl:((bs.take i).filter λp=>!decide (p.1∈ns)).length<=bs.length:=cf (fW _ _) (by rw[d_];lia);show((s2 _ _ WO,by rw[au];show hi),cA (by rw[au];lia),?_);ext y G' ⟨rfl,k',v',e,rfl⟩;rw[aH,Rt]at e;cases e;erw[gz]
    w_on
    erw[Ej (.inr (az.of (s2 _ _ af)))]
    let et:(bs.take (i+1)).filter (λp=>!decide (p.1∈ns))=(bs.take i).filter (λp=>!decide (p.1∈ns))++[bs[i]].filter (λp=>!decide (p.1∈ns)):=by rw[gU Rt,iN]
    show(_,rfl,bZ (λz=>?_) (λz=>?_))
    .w_on
     erw[cy (s2 _ _ mf) ia]
     w_on
     show(x.bo,.ref (g bs[i].1),rfl,by rw[<-qw (α:=λt=>.ref (g t)) (Ag.mpr (bs[i],cG hi,rfl))];show cV (k:=.inl bs[i].1) (.inr (o,s2 _ _ WO)),?_)
     w_on
     show(by change 2<=sizeLine;decide,λu hu=>?_);let s3:=ax (o:=.tup [.int bs[i].1,.ref (g bs[i].1)]) hu
     let e1:(bs.take (i+1)).filter (λp=>!decide (p.1∈ns))=(bs.take i).filter (λp=>!decide (p.1∈ns))++[bs[i]]:=by rw[et];simp only[j7,mJ];rw[bf z]
     show cu hi<|mi (s2.trans s3,(_,rfl),vs++[u],by rw[bO];rfl,by rw[e1,c6,c6,q1];rfl,λj t p y1 y2=>?_)
     rw[e1,bO]at y2
     rcases oh j vs.length with y|y|y
     .rw[iL y]at y1;rw[iL (by rw[au];lia)]at y2;show s3 _ _ (q3 j t p y1 y2)
     .subst y;rw[fj (aD _),Nat.sub_self]at y1;rw[fj (by rw[au];lia),au,show vs.length - _=0 by lia]at y2;cases y1;cases y2;show ar
     .rw[fj (),gp (by simp;lia)]at y1;cases y1
    .w_on
     let e1:(bs.take (i+1)).filter (λp=>!decide (p.1∈ns))=(bs.take i).filter (λp=>!decide (p.1∈ns)):=by rw[et];simp only[j7,mJ];rw[aO (by rw[z];decide),jD]
     show cu hi<|mi (s2,(_,rfl),vs,rfl,by rw[e1];show q1,by rw[e1];show q3)
  ext Z2 H2 ⟨B2,x2,rfl,h2,m2,t2,hA2,YY,Ro,nl2⟩;clear Vh nA h1 t1 Tz RB H1
  w_on
  ext D hD;let fD:=t2.fr h2.al hD;let nD:=h2.nin hD;let s3:=ax (o:=.dK []) hD;let d3:aa H2 D (.dK []) D=some (.dK []):=ar
  let YX:A≠D:=by obtain⟨_,_,z,_⟩:=hA2;show bq z hD
  let nlD:l≠D:=by obtain⟨_,z,_⟩:=Ro;show bq z hD
  generalize aa H2 D (.dK [])=H3 at s3 d3⊢;let h3:=h2.same s3;let t3:=t2.trans (bA.same s3);let hA3:=hA2.keep (λ_=>s3 _ _) (λ_ _=>s3 _ _);let S4:=Ro.keep (λ_=>s3 _ _) (λ_ _=>s3 _ _);clear h2 t2 hA2 Ro s3 hD
  w_on
  erw[e_ (λZ' H'=>∃v5 v6 v7 Ry,Z'=[some (.ref x.m),some (.ref a),some (.ref l),some (.ref A),some (.ref D),v5,v6,v7,none,none,none]/\bz H' B2 x2 slip day Rj fl (bs.map (·.1)) n/\bA B B2 H H'/\lM H' A ns/\eY H' D Ry/\fh slip Ry/\∀p∈Ry,∀t∈p.2,t∈ag.flatten) (λM R Bk Ct mi ri=>?_)]
  .w_on
   let(ts,X8,ZQ,tsi):=S4;show(l,rfl,(_,ah.of X8),?_)
   show dP (λi Z' H'=>∃v5 v6 v7 Ry,Z'=[some (.ref x.m),some (.ref a),some (.ref l),some (.ref A),some (.ref D),v5,v6,v7,none,none,none]/\(∀b u,b≠D->H3 b=some u->H' b=some u)/\eY H' D Ry/\fh slip Ry/\∀p∈Ry,∀t∈p.2,t∈(ag.take i).flatten) ag.length
    (none,none,none,[],rfl,λ_ _ _ z=>z,(λ_=>0,d3,λp hp=>(bF hp).elim),(.nil,λp hp=>(bF hp).elim,λp hp=>(bF hp).elim),λp hp=>(bF hp).elim) ?_ ?_
   .ext Z' H4 ⟨v5,v6,v7,Ry,rfl,k4,b4,o4,i4⟩;rw[fk]at i4;let V_:∀b xs,H3 b=some (.tup xs)->H4 b=some (.tup xs):=λb xs z=>k4 _ _ (bp z d3 nofun) z;show((_,ah.of (k4 _ _ nlD X8),by rw[au];lia),?_)
    w_on
    show(v5,v6,v7,Ry,rfl,h3.side nD k4 V_,t3.side fD k4,hA3.keep (λ_ z=>k4 _ _ YX z) V_,b4,o4,i4)
   .ext M R Bk mi ri i Z' H4 hi ⟨v5,v6,v7,Ry,rfl,k4,b4,o4,i4⟩;let V_:∀b xs,H3 b=some (.tup xs)->H4 b=some (.tup xs):=λb xs z=>k4 _ _ (bp z d3 nofun) z;let Rt:ag[i]?=some ag[i]:=aK hi;let YI:ts[i]?=some (ts[i]'()):=aK _;generalize ts[i]'()=t at YI;let(b,fr,Y7,f1,f2,hb3):=tsi i t _ YI Rt;let(as,kv,Vi,la,lk,W9,Ug):=hA3;let S3:=k4 _ _ nlD X8
    let lkv:kv.length=ns.length:=by have:=congrArg List.length lk;simpa using this
    show((_,.ref t,ah.of S3,by rw[aH,YI];rfl),?_);ext y G' ⟨rfl,hy⟩;let ey:=hy _ (ah.of S3);rw[aH,YI]at ey;cases ey;let ht4:=V_ _ _ Y7;let UW:=V_ _ _ hb3;let(g1,g2,g3):=so.e ag[i] (cG hi)
    w_on
    show(A,rfl,(_,ah.of (k4 _ _ YX Vi)),?_);erw[gG (λj ys Z' H'=>aC G' H'/\(∃v v',Z'=[v,v',some (.ref b)])/\∃cs:LE,ys=cs.map V.int/\cs.length<=j/\∀c∈cs,c∈ns) ns.length (aC.refl _,(_,_,rfl),[],rfl,aD _,λc hc=>by cases hc) ?_]
    .ext ys Z' H5 ⟨s5,_,cs,rfl,lc,WA⟩;show((_,ah.of (s5 _ _ (k4 _ _ YX Vi)),by rw[au];lia),λL hL=>?_);let s6:=ax (o:=.lst (cs.map V.int)) hL;let e6:aa H5 L (.lst (cs.map V.int)) L=_:=ar;generalize aa H5 L (.lst (cs.map V.int))=H6 at s6 e6⊢
     w_on
     show(by change 1<=sizeLine;decide,λL2 VW=>?_);let s7:=ax (o:=.lst [.int fr]) VW;let e7:aa H6 L2 (.lst [.int fr]) L2=_:=ar;generalize aa H6 L2 (.lst [.int fr])=H7 at s7 e7⊢;show l5 (s7 _ _ e6) e7 (j9 (cA (by rw[au];change cs.length+1<1000;lia))) λL3 Zf=>?_;let s8:=ax (o:=.lst (cs.map V.int++[.int fr])) Zf;let e8:aa H7 L3 (.lst (cs.map V.int++[.int fr])) L3=_:=ar;generalize aa H7 L3 (.lst (cs.map V.int++[.int fr]))=H8 at s8 e8⊢;let Xq:=s5.trans (s6.trans (s7.trans s8))
     obtain⟨c0,ec,WB⟩:∃c0:Int,gN (cs.map V.int++[.int fr]) 0=some (.int c0)/\10<=c0/\c0<=4007:=by
      cases cs with
      |nil=>show(fr,rfl,f1,f2)
      |cons c r=>
       let(q,hq,eq):=Ag.mp (G.1 c (WA c (gK ..)));have:=h.ok.so q hq;show(c,jQ (j:=0) rfl,(),())
     show di (iB (ah.of e8) ec ?_)
     w_on
     erw[br]
     w_on
     show(b,ag[i],rfl,.inr (az.of (Xq _ _ UW)),(),λlr H9 rs s9 _ hl9 SJ=>?_)
     w_on
     show iW (ah.of hl9) λtp Y5=>?_;let s10:=ax (o:=.tup (rs.map V.int)) Y5;let V3:aa H9 tp (.tup (rs.map V.int)) tp=_:=ar;generalize aa H9 tp (.tup (rs.map V.int))=RL at s10 V3⊢;let sG:=Xq.trans (s9.trans s10);let(dl,ed,ld,b11):=(b4.keep (λ_=>sG _ _) (λ_ _=>sG _ _)).put (nm:=c0) V3;have:=o4.b64
     w_on
     show(D,_,rfl,gD.k (k:=.inl c0) ed (cA ()),?_);let(p1,p2):=Qv o4 WB SJ so Rt i4
     w_on
     show(_,_,_,_,rfl,λb u nb z=>by rw[aB nb];show sG _ _ (k4 b u nb z),b11,p1,p2)
    .ext M mi j ys Z' H5 hj ⟨s5,⟨v,v',rfl⟩,cs,rfl,lc,WA⟩;let aj:as[j]?=some (as[j]'()):=aK _;generalize as[j]'()=u at aj;let kj:kv[j]?=some (kv[j]'()):=aK _;let nj:ns[j]?=some ns[j]:=aK hj
     let ek:(kv[j]'()).1=.inl ns[j]:=by
      have:=congrArg (·[j]?) lk;simp only[aH,kj,nj,uC]at this;show cH this
     let(bb,sb,eb,WE,lb):=Ug (kv[j]'()) (cG _);let hu:=W9 j u _ aj kj;rw[ek,eb]at hu;let hu5:H5 u=some (.tup [.int ns[j],.ref bb]):=s5 _ _ (V_ _ _ hu);let VZ:=s5 _ _ (k4 _ _ YX Vi);show((_,.ref u,ah.of VZ,by rw[aH,aj];rfl),cA (by rw[au];lia),?_);ext y G5 ⟨rfl,hy⟩;let ey:=hy _ (ah.of VZ);rw[aH,aj]at ey;cases ey
     w_on
     show(bb,b,sb,ag[i],rfl,.inr (az.of (s5 _ _ (V_ _ _ WE))),.inr (az.of (s5 _ _ UW)),lb,(),λbl H6 s6=>?_)
     w_on
     show bZ (λz=>?_) (λz=>?_)
     .w_on
      show cu hj<|mi (s5.trans s6,(_,_,rfl),cs++[ns[j]],by rw[bO];rfl,by rw[c6];change cs.length+1<=j+1;lia,λc hc=>?_)
      rcases ui.mp hc with y|y
      .show WA c y
      .rw[Ra.mp y];show cG hj
     .w_on
      show cu hj<|mi (s5.trans s6,(_,_,rfl),cs,rfl,(),WA)
  ext Z4 H4 ⟨v5,v6,v7,Ry,rfl,h4,t4,Yq,b4,o4,i4⟩;clear h3 t3 hA3 S4 d3 H3;erw[e_ (λZ' H'=>∃v7 v8 B5 x5,Z'=[some (.ref x.m),some (.ref a),some (.ref l),some (.ref A),some (.ref D),v5,v6,v7,v8,none,none]/\bz H' B5 x5 slip day Rj fl (bs.map (·.1)) (n+8)/\x5.m=x.m/\bA B B5 H H'/\lM H' A ns/\¬B5 D/\eY H' D Ry) (λM R Bk Ct mi ri=>?_)]
  .w_on
   let(as,kv,Vi,la,lk,W9,Ug):=Yq
   let lkv:kv.length=ns.length:=by have:=congrArg List.length lk;simpa using this
   obtain⟨dl0,hD0⟩:∃dl,H4 D=some (.dK dl):=by obtain⟨_,z,_⟩:=b4;show(_,z)
   show(A,rfl,(_,ah.of Vi),?_);erw[dP (λi Z' H'=>∃v7 v8 Bi xi,Z'=[some (.ref x.m),some (.ref a),some (.ref l),some (.ref A),some (.ref D),v5,v6,v7,v8,none,none]/\bz H' Bi xi slip day Rj fl (bs.map (·.1)) (n+i)/\xi.m=x.m/\bA B2 Bi H4 H') ns.length (_,_,B2,x2,rfl,h4,m2,bA.same (aC.refl _)) ?_]
   .ext Z' H5 ⟨v7,v8,B5,x5,rfl,h5,m5,t5⟩;show((_,ah.of (t5.st.1 _ _ YY Vi),by rw[au];lia),?_)
    w_on
    show(v7,v8,B5,x5,rfl,h5.more (),m5,t4.trans t5,lM.keep (as,kv,Vi,la,lk,W9,Ug) (λ_=>t5.st.1 _ _ YY) t5.tk,t5.st.not nD hD0,b4.keep (λ_=>t5.st.1 _ _ nD) t5.tk)
   .ext M R Bk mi ri i Z' H5 hi ⟨v7,v8,B5,x5,rfl,h5,m5,t5⟩;let aj:as[i]?=some (as[i]'()):=aK _;generalize as[i]'()=u at aj;let kj:kv[i]?=some (kv[i]'()):=aK _;let nj:ns[i]?=some ns[i]:=aK hi
    let ek:(kv[i]'()).1=.inl ns[i]:=by
     have:=congrArg (·[i]?) lk;simp only[aH,kj,nj,uC]at this;show cH this
    let(bb,sb,eb,_,_):=Ug (kv[i]'()) (cG _);let hu:=W9 i u _ aj kj;rw[ek,eb]at hu;let hu5:H5 u=some (.tup [.int ns[i],.ref bb]):=t5.tk _ _ hu;let VZ:=t5.st.1 _ _ YY Vi;show((_,.ref u,ah.of VZ,by rw[aH,aj];rfl),?_);ext y G5 ⟨rfl,hy⟩;let ey:=hy _ (ah.of VZ);rw[aH,aj]at ey;cases ey
    w_on
    rcases(b4.keep (λ_=>t5.st.1 _ _ nD) t5.tk).val ns[i]with⟨z,q,hq,aq,eq,dg,_⟩|⟨z,dg⟩
    .show(D,_,rfl,dg,?_)
     w_on
     erw[bB]
     w_on
     show(_,_,B5,x5,rfl,h5.more (),m5,t5)
    .show(D,_,rfl,dg,?_)
     w_on
     erw[br]
     w_on
     show(x5,B5,slip,day,Rj,fl,_,n+i,ns[i],bb,by rw[m5];rfl,h5,(),λH6 B6 x6 h6 m6 t6=>?_)
     w_on
     show(_,_,B6,x6,rfl,h6.more (),m6.trans m5,t5.trans t6)
  ext Z5 H5 ⟨v7,v8,B5,x5,rfl,h5,m5,t5,VZ,Wh,b5⟩;clear h4 t4 Yq b4 nD YY m2 H4;erw[e_ (λZ' H'=>∃W wq,Z'=[some (.ref x.m),some (.ref a),some (.ref l),some (.ref A),some (.ref D),v5,v6,v7,v8,some (.ref W),none]/\bz H' B5 x5 slip day Rj fl (bs.map (·.1)) (n+8)/\bA B B5 H H'/\eY H' D Ry/\¬B5 W/\W≠D/\H' W=some (.dK wq)/\∀c v,aM wq (.inl c)=some v->c∈ns/\∃(p:Addr) (ms:LE),v=.ref p/\H' p=some (.tup (ms.map V.int))) (λM R Bk Ct mi ri=>?_)]
  .w_on
   let(as,kv,Vi,la,lk,W9,Ug):=VZ;show xh (ts:=as) (kvs:=kv) Vi la W9 (by rw[lk];show Gh.mpr (nd.imp λn e=>n (Sum.inl.inj e))) λp hp=>?_;let s6:=ax (o:=.dK kv) hp
   w_on
   show(p,kv,rfl,h5.same s6,t5.trans (bA.same s6),b5.keep (λ_=>s6 _ _) (λ_ _=>s6 _ _),h5.nin hp,λe=>?_,ar,λc v e=>?_)
   .let(_,z,_):=b5;rw[e,z]at hp;cases hp
   .have:=wK e;rw[lk]at this;let(c',RV,ec):=Ag.mp this;let(q,hq,_,rfl):=Qw e;let(b,s,e1,e2,_):=Ug q hq;show(by rw[<-Sum.inl.inj ec];show RV,b,s,e1,s6 _ _ e2)
  ext Z6 H6 ⟨W,wq,rfl,h6,t6,b6,nW,nWD,hW,hwk⟩;clear h5 t5 VZ b5 H5;let(g,hg,Wv):=b6;show(D,_,hg,λo=>?_);generalize ehf:aa H6 D (.frz o (.dK (Ry.map λp=>(.inl p.1,.ref (g p.1),))))=Hf
  let df:Hf D=some (.frz o (.dK (Ry.map λp=>(.inl p.1,.ref (g p.1),)))):=by rw[<-ehf];show ar
  let kf:∀b u,b≠D->H6 b=some u->Hf b=some u:=λb u nb z=>by rw[<-ehf,aB nb];show z
  let tf:∀b xs,H6 b=some (.tup xs)->Hf b=some (.tup xs):=λb xs z=>kf _ _ (bp z hg nofun) z;let hF:=h6.side Wh kf tf;let wf:=kf _ _ nWD hW;let gf:∀p∈Ry,Hf (g p.1)=some (.tup (p.2.map V.int)):=λp hp=>tf _ _ (Wv p hp);let wkf:∀c v,aM wq (.inl c)=some v->c∈ns/\∃(p:Addr) (ms:LE),v=.ref p/\Hf p=some (.tup (ms.map V.int)):=λc v e=>let(y,p,ms,z1,z2):=hwk c v e;(y,p,ms,z1,tf _ _ z2)
  w_on
  show(D,o,_,rfl,df,?_);let b6:=o4.b64
  show dP (λi Z' H'=>∃v7 WT Bi Ut V4,Z'=[some (.ref x.m),some (.ref a),some (.ref l),some (.ref A),some (.ref D),v5,v6,v7,v8,some (.ref W),WT]/\bz H' Bi x5 slip day Rj Ut V4 (n+8+i)/\bA B5 Bi Hf H'/\(∀p∈Ut,p.1∈V4)/\(∀c∈ns,c∈V4)/\∀p∈Ut,∀t∈p.2,(∃q∈fl,t∈q.2)\/∃q∈Ry.take i,t∈q.2) Ry.length
   (_,none,B5,fl,bs.map (·.1),rfl,hF,bA.same (aC.refl _),λp hp=>Ag.mpr (p,by rw[<-ef]at hp;show(Ah.mp hp).1,rfl),G.1,λp hp t ht=>.inl (p,hp,ht)) ?_ ?_
  .ext Z' H7 ⟨v7,WT,Bi,Ut,V4,rfl,h7,t7,c1,c2,c3⟩;let d7:=t7.st.1 _ _ Wh df;show((d7,by rw[au];show aD _),?_)
   w_on
   show(d7,?_);show k _ Bi x5 Ut ?_ m5 (t6.trans (bA.hold (c:=o) hg (by rw[ehf];show t7) Wh))
   show(h7.side (t7.st.not Wh df) (λb u nb z=>by rw[aB nb];show z) λb xs z=>by rw[aB (bp z d7 nofun)];show z).keep (λ_ _ _ z=>z) (λ_ _ z=>z) (λ_ z=>z) (λ_=>.inl) () λc hc=>by obtain⟨p,hp,rfl⟩:=Ag.mp hc;show c1 p hp
  .ext M R Bk mi ri i Z' H7 hi ⟨v7,WT,Bi,Ut,V4,rfl,h7,t7,c1,c2,c3⟩;let Rt:Ry[i]?=some Ry[i]:=aK hi;let d7:=t7.st.1 _ _ Wh df;show((d7,by rw[au];show hi),?_);ext y G7 ⟨rfl,k',v',e,rfl⟩;rw[aH,Rt]at e;cases e;let WD:Ry[i]∈Ry:=cG hi;let vb:aM (Ry.map λp=>((.inl p.1:aF),V.ref (g p.1),)) (.inl Ry[i].1)=some (.ref (g Ry[i].1)):=qw (α:=λt=>.ref (g t)) (Ag.mpr (_,WD,rfl))
   let Zl:∀{H':Hp},H' D=some (.frz o (.dK (Ry.map λp=>(.inl p.1,.ref (g p.1),))))->eN H' D (.int Ry[i].1) (some (.ref (g Ry[i].1))):=λz=>by rw[<-vb];show cV (k:=.inl Ry[i].1) (.inr (o,z))
   let g7:=t7.tk _ _ (gf _ WD);let pb:=o4.so _ WD;let ib:=i4 _ WD
   let apt:∀p∈Ut,∀t∈Ry[i].2,t∈p.2->p.1=Ry[i].1:=λp hp t h1 h2=>by
    rcases c3 p hp t h2 with⟨q,hq,y⟩|⟨q,hq,y⟩
    .rw[<-ef]at hq;let(q1,q2):=Ah.mp hq;have:=cov t (ib t h1) q q1 y;rw[cY this]at q2;cases q2
    .let(j,hj,ej):=Re.mp hq;rw[d_]at hj;rw[oi]at ej;let e1:=o4.ap q (Ao hq) _ WD t y h1;have:=Rc.mp (Gh.mp o4.nb) j i () hi ();rw[ej]at this;show absurd e1 this
   generalize enm:Ry[i].1=nm at*;generalize ess:Ry[i].2=ss at*
   w_on
   show(D,_,rfl,Zl d7,?_);rw[<-m5]
   w_on
   erw[cy h7.m ia]
   w_on
   let(bl,Zk,lbl,b8):=h7.bo.put (nm:=nm) (s:=ss) g7;let q:=h7.dd;simp only[fV,cb,bF,cS,fO]at q;let b64:=h7.ok.b64;show(x5.bo,_,rfl,gD.k (k:=.inl nm) Zk (cA ()),?_);let w8:=Wr.of (l':=bu bl (.inl nm) (.ref (g nm))) Zk
   let h8:bz (aa G7 x5.bo (.dK (bu bl (.inl nm) (.ref (g nm))))) Bi x5 slip day Rj (gI Ut nm ss) V4 (n+8+i):=by
    show h7.put w8 ∅ (aD _) ?_ (λz=>absurd z q.2.1.1) ?_ λz=>absurd z q.2.1.2.2.1
    .rw[bf rfl];show(b8,h7.ok.put (pb.1,pb.2.1) pb.2.2 apt)
    .rw[aO q.2.1.2.1]
   let t8:=t7.trans (bA.put (l':=bu bl (.inl nm) (.ref (g nm))) (h7.fb x5.bo ∅) Zk);generalize aa G7 x5.bo (.dK (bu bl (.inl nm) (.ref (g nm))))=H8 at h8 t8⊢;clear b8 Zk lbl w8 q h7 t7 d7
   let c3':∀p∈gI Ut nm ss,∀t∈p.2,(∃q∈fl,t∈q.2)\/∃q∈Ry.take (i+1),t∈q.2:=λp hp t ht=>by
    rw[gU Rt]
    rcases lI hp with rfl|⟨z,_⟩
    .show .inr (Ry[i],cF _ (Ra.mpr rfl),by rw[ess];show ht)
    .rcases c3 p z t ht with y|⟨q,hq,y⟩
     .show .inl y
     .show .inr (q,fX _ hq,y)
   erw[e_ (λZ' H'=>∃B9 YB,Z'=[some (.ref x5.m),some (.ref a),some (.ref l),some (.ref A),some (.ref D),v5,v6,some (.int nm),v8,some (.ref W),WT]/\bz H' B9 x5 slip day Rj (gI Ut nm ss) YB (n+8+(i+1))/\bA B5 B9 Hf H'/\(∀p∈gI Ut nm ss,p.1∈YB)/\∀c∈ns,c∈YB) (λM R Bk Ct mi ri=>?_)]
   .let d8:=t8.st.1 _ _ Wh df;let w8:=t8.st.1 _ _ nW wf;let g8:=t8.tk _ _ (gf _ WD);rw[enm,ess]at g8
    w_on
    show(W,rfl,i5 (.of w8),?_)
    w_on
    show(aM wq (.inl nm),cV (k:=.inl nm) (.of w8),?_)
    w_on
    show(D,_,rfl,Zl d8,?_);show(?_,g nm,ss,rfl,g8,λb hb=>?_)
    .cases e:aM wq (.inl nm)with
     |none=>show .inl rfl
     |some v=>obtain⟨_,p,ms,z1,z2⟩:=wkf _ _ e;show .inr (p,ms,z1,t8.tk _ _ z2)
    let nmc:b=false->nm∈ns:=λz=>by
     cases e:aM wq (.inl nm)with
     |none=>rw[e]at hb;rw[hb rfl]at z;cases z
     |some v=>show(wkf _ _ e).1
    w_on
    show bZ (λz=>?_) (λz=>?_)
    .let(lc,el,ll,lr,lx):=h8.ch
     w_on
     erw[cy h8.m zP];show(x5.ch,rfl,i5 (.of el),?_)
     w_on
     show(by change 0<=sizeLine;decide,λe0 Vx=>?_);let s9:=ax (o:=.lst []) Vx;let e9:aa H8 e0 (.lst []) e0=some (.lst []):=ar;generalize aa H8 e0 (.lst [])=H9 at s9 e9⊢;show(aM lc (.inl nm),cV (k:=.inl nm) (.of (s9 _ _ el)),?_)
     obtain⟨a',vs,ea,VT,lvs,XT⟩:∃(a':Addr) (vs:Tk),(aM lc (.inl nm)).getD (.ref e0)=.ref a'/\H9 a'=some (.lst (vs.map V.ref))/\vs.length<=n+8+i/\∀r∈vs,∃(d:Int) (b:Addr) (ns:LE),H9 r=some (.tup [.int d,.ref b])/\H9 b=some (.tup (ns.map V.int)):=by
      cases e:aM lc (.inl nm)with
      |none=>show(e0,[],rfl,e9,cm _,λr hr=>(bF hr).elim)
      |some v=>
       let(a',vs,rfl,_,z2,_,z4,z5):=lr _ _ e;show(a',vs,rfl,s9 _ _ z2,z4,λr hr=>let(d,b,ns,y1,y2):=z5 r hr;(d,b,ns,s9 _ _ y1,s9 _ _ y2))
     rw[ea];let h9:=h8.same s9;let d9:=s9 _ _ d8
     w_on
     erw[cy h9.m F_]
     w_on
     show(D,_,rfl,Zl d9,?_)
     w_on
     show(by change 2<=sizeLine;decide,λu hu=>?_);let s10:=ax (o:=.tup [.int day,.ref (g nm)]) hu;let V3:aa H9 u (.tup [.int day,.ref (g nm)]) u=_:=ar;generalize aa H9 u (.tup [.int day,.ref (g nm)])=RL at s10 V3⊢
     w_on
     show(by change 1<=sizeLine;decide,λu2 hu2=>?_);let s11:=ax (o:=.lst [.ref u]) hu2;let e11:aa RL u2 (.lst [.ref u]) u2=_:=ar;generalize aa RL u2 (.lst [.ref u])=WS at s11 e11⊢;let s1:=s9.trans (s10.trans s11);show l5 (s11 _ _ (s10 _ _ VT)) e11 (j9 (qy (by rw[au];change vs.length+1<10000;lia))) λL hL=>?_
     let hLm:vs.map V.ref++[.ref u]=(vs++[u]).map V.ref:=by rw[bO];rfl
     rw[hLm];let TF:=(h8.same s1).new (o:=.lst ((vs++[u]).map V.ref)) hL;let t12:=(t8.trans (bA.same s1)).trans (bA.new (o:=.lst ((vs++[u]).map V.ref)) hL);let s12:=ax (o:=.lst ((vs++[u]).map V.ref)) hL;let Yz:aa WS L (.lst ((vs++[u]).map V.ref)) L=_:=ar;generalize aa WS L (.lst ((vs++[u]).map V.ref))=T_ at TF t12 s12 Yz⊢;let s2:=s11.trans s12
     w_on
     erw[cy TF.m zP]
     w_on
     let U3:=s12 _ _ (s1 _ _ el);show(x5.ch,_,rfl,gD.k (k:=.inl nm) U3 (qy ()),?_);let S8:=Wr.of (l':=bu lc (.inl nm) (.ref L)) U3;let q:=TF.dd;simp only[fV,cb,bF,cS,fO]at q
     w_on
     show(_,nm::V4,rfl,TF.put S8 ∅ (m:=n+8+(i+1)) (bs':=gI Ut nm ss) () ?_ (λy=>absurd y.symm q.2.2.1.1) ?_ (λy=>absurd y q.2.2.2.1.1),t12.trans (bA.put (TF.fb x5.ch ∅) U3),λp hp=>?_,λc hc=>gW _ (c2 c hc))
     .rw[aO (λy=>q.2.1.2.1 y.symm)]
     .rw[bf rfl];show(cf (jZ ..) (),λkk v e=>?_,λc hc=>?_)
      .rw[sY]at e;split at e
       .cases e;show(L,vs++[u],rfl,.inr rfl,S8.kd _ _ Yz nofun,∅,by rw[c6];change vs.length+1<=_;lia,λr hr=>?_)
        rcases ui.mp hr with y|y
        .let(d,b,ns,y1,y2):=XT r y;show(d,b,ns,S8.kd _ _ (s2 _ _ (s10 _ _ y1)) nofun,S8.kd _ _ (s2 _ _ (s10 _ _ y2)) nofun)
        .rw[Ra.mp y];show(day,g nm,ss,S8.kd _ _ (s2 _ _ V3) nofun,S8.kd _ _ (s12 _ _ (s1 _ _ g8)) nofun)
       .show(lr _ _ e).keep (λb xs hb z=>S8.kd _ _ (s12 _ _ (s1 _ _ z)) nofun) (λb xs z=>S8.kd _ _ (s12 _ _ (s1 _ _ z)) nofun) (λ_=>.inl) ()
      .rw[sY];split
       .nofun
       .rename_i y
        rcases cb.mp hc with rfl|hc
        .show absurd rfl y
        .show lx c hc
     .rcases lI hp with rfl|⟨y,_⟩
      .show gK ..
      .show gW _ (c1 p y)
    .w_on
     show(Bi,V4,rfl,h8.more (),t8,λp hp=>?_,c2)
     rcases lI hp with rfl|⟨y,_⟩
     .show c2 _ (nmc z)
     .show c1 p y
   ext Z9 H9 ⟨B9,YB,rfl,h9,t9,e1,e2⟩;let d9:=t9.st.1 _ _ Wh df;let g9:=t9.tk _ _ (gf _ WD);rw[enm,ess]at g9
   w_on
   show(D,_,rfl,Zl d9,?_);show(_,rfl,(_,az.of g9),?_);erw[dP (λ_ Z' H'=>H'=H9/\∃WT,Z'=[some (.ref x5.m),some (.ref a),some (.ref l),some (.ref A),some (.ref D),v5,v6,some (.int nm),v8,some (.ref W),WT]) ss.length (rfl,_,rfl) ?_]
   .ext Z' H' ⟨rfl,v,rfl⟩;show((_,az.of g9,by rw[au];show aD _),?_)
    w_on
    show(_,v,B9,_,YB,by rw[m5],h9,t9,e1,e2,c3')
   .ext M R Bk mi ri j Z' H' hj ⟨rfl,v,rfl⟩;show((_,.int ss[j],az.of g9,by rw[aH,aK hj];rfl),?_);ext y G' ⟨rfl,hy⟩;let ey:=hy _ (az.of g9);rw[aH,aK hj]at ey;cases ey
    w_on
    erw[cy h9.m G3];show(x5.lo,none,rfl,cV (k:=.inl ss[j]) (.of h9.lo),?_)
    w_on
    erw[bB]
    w_on
    show(rfl,_,rfl)
def A4(Rj RH:Nat):fc->Prop
 |.fell _=>RH=60
 |_=>RH=Rj
def fT.keep{H H':Hp}{p:Addr}{y:fc}(h:fT H p y)(t:∀b xs,H b=some (.tup xs)->H' b=some (.tup xs)):fT H' p y:=by
 cases y with
 |fell n=>show t _ _ h
 |refit ns ag=>obtain⟨a,b,h1,h2,ts,h3,h4,h5⟩:=h;show(a,b,t _ _ h1,t _ _ h2,ts,t _ _ h3,h4,λi u s e1 e2=>t _ _ (h5 i u s e1 e2))
 |clear c=>show t _ _ h
def A5:Sp:=λvs H Q _=>∃(x:BA) (B:Addr->Prop) (slip day d:Int) (Rj:Nat) (bs:List (Int×LE)) (n:Nat) (p:Addr) (y:fc),vs=[.ref x.m,.int d,.ref p]/\bz H B x slip day Rj bs (bs.map (·.1)) n/\n<7000/\slip<=12/\1<=d/\d<=400/\fT H p y/\y.ok slip/\zY Rj y/\
 ∀v H' B' x' bs' RH,bz H' B' x' slip d RH bs' (bs'.map (·.1)) (n+140)->x'.m=x.m->bA B B' H H'->A4 Rj RH y->Q v H'
abbrev A6:Stmt:=bj 92
abbrev QA:List Str:=["_law_m","_law_day","_law_fact","_law_word","_law_timber","_law_line"]
def QB:bc QA ["_law_m","_law_day","_law_fact"] (aW A6):=bh
def QC{f:Addr}{fd:FuncData}(F:aY K "_law_enter" "_law_enter" A6 f fd)(T:bC mg)(jI:ba P w K mg base "_law_place" 1 ["_law_m","_law_timber"] qx)(Br:ba P w K mg base "_law_idle" 4 ["_law_m","_law_fact"] zZ)(Bu:ba P w K mg base "_law_turn" 3 ["_law_m","_law_names","_law_sets"] A2):aN P w K mg base aU 5 f fd ["_law_m","_law_day","_law_fact"] A5:=by
 show F.ok QB (λvs H Q E h=>?_) (λaP A outer s H vs Q E hr h=>?_)
 .let(_,_,_,_,_,_,_,_,_,_,rfl,_):=h;rfl
 .let(x,B,slip,day,d,Rj,bs,n,p,y,rfl,h,hn,sl,d1,d2,hy,ok,fo,k):=h
  show(_,(aG (gE (cw hr.units) (pv 0) aT (pv 1) rfl)
   (aG (qV 3 (pC Br (ab (pv 0) (ab (pv 2) ak))))
   (aG (bx (qE jO (pv 3) aT) (aA (aQ (pv 3))) bD)
   (dN (bx (qE eG (qT K (pv 2) ay) aT) (aA (gE (cw hr.units) (pv 0) aT (bg cT (qD hr.units (pv 0) aT) (qT K (pv 2) ay)) rfl)) (aA (bx (qE eG (qT K (pv 2) ay) aT) (aA (eB (pC Bu (ab (pv 0) (ab (qT K (pv 2) ay) (ab (dU rfl (cX ["_law_k"] [(1,"_law_day",),(2,"_law_fact",)]) (oQ (by rfl) T.z_range (ab (qN K T (qT K (pv 2) ay)) ak)) (by ext _ _ _ _ _;show(qG 0)) (by ext _ _ _ _ _;show cD) (by ext _ _ _ _ _;show(cp (ab (qT K (qT K (pv 2) ay) (pv 0)) (ab (bg cT (bg fH ay (pv 1)) (pv 0)) ak))))) ak)))))) (aA (bx (qE eG (qT K (pv 2) ay) aT) (aA fI) (aA (bx (qE eG (qT K (pv 2) ay) aT) (aA fI) (aA fI))))))))
   (aG (dC dH rfl (uQ (by rfl) T.z_range (ab ay (ab (bg cT (qD hr.units (pv 0) aT) ay) ak))) (qG 4) (aG (qV 5 (lj (cw hr.units) (qD hr.units (pv 0) aT) (pv 4) (dS ak) (rfl,rfl,rfl,rfl)))
   (aA (bx ((hU (qE (w_ hr.units) (pv 5) (dS ak)) (iT (qE (EX (K:=K) rfl hr.units) (qT K (qI K (pv 5) (oR oU ay)) ay) (pC jI (ab (pv 0) (ab (pv 4) ak))))))).pt (aA (gE (cw hr.units) (qD hr.units (pv 0) aT) (pv 4) (bg kT (pv 5) (dS (ab (cp (ab (pv 1) (ab (pC jI (ab (pv 0) (ab (pv 4) ak))) ak))) ak))) rfl)) bD))))
   (aA (aQ aT))))))),?_)
  w_on
  show(x.m,_,rfl,gD.k (k:=.inr "day") h.m ue,?_);rw[Q4];let w1:=Wr.of (l':=bk slip d Rj x) h.m;let t1:bA B B H _:=bA.put (l':=bk slip d Rj x) (h.fb x.m ∅) h.m;let h1:bz (aa H x.m (.dK (bk slip d Rj x))) B x slip d Rj bs (bs.map (·.1)) n:=h.setm;let Vc:fT (aa H x.m (.dK (bk slip d Rj x))) p y:=hy.keep t1.tk;generalize aa H x.m (.dK (bk slip d Rj x))=H1 at w1 t1 h1 Vc⊢;clear h hy w1
  w_on
  show(x,slip,d,Rj,bs,p,y,rfl,h1.r,h1.ok,sl,h1.lo,Vc,fo,λwd H2 s2 fw=>?_);let h2:=h1.same s2;let t2:=t1.trans (bA.same s2);let UG:=Vc.same s2;clear h1 t1 Vc s2
  w_on
  show bZ (λz=>?_) (λz=>?_)
  .w_on
   erw[k _ _ _ _ _ Rj (h2.more ()) rfl t2]
   cases y with
   |fell c=>obtain⟨rfl,rfl⟩:=fo;rw[show wd="" from fw]at z;show absurd z (by decide)
   |refit ns ag=>rfl
   |clear t=>rfl
  let wd0:wd="":=by simpa using z
  erw[vL,e_ (λZ' H'=>∃B2 x2 bs2 UA,Z'=[some (.ref x.m),some (.int d),some (.ref p),some (.str wd),none,none]/\bz H' B2 x2 slip d UA bs2 (bs2.map (·.1)) (n+80)/\x2.m=x.m/\bA B B2 H H'/\A4 Rj UA y/\UA<=60) (λMM RR Bk Ct mi ri=>?_)]
  .cases y with
   |fell c=>
    let(rfl,rfl):=fo;let hp:H2 p=some (.tup [.str "fell",.int 60]):=UG
    w_on
    erw[br]
    w_on
    erw[cy h2.m qv]
    w_on
    show(x.m,_,rfl,gD.k (k:=.inr "many") h2.m ue,?_);rw[show((0:Nat):Int)+60=((60:Nat):Int) by rfl,Q5];let t3:=t2.trans (bA.put (l':=bk slip d 60 x) (h2.fb x.m ∅) h2.m)
    w_on
    show(B,x,bs,60,rfl,h2.setm.more (),rfl,t3,rfl,aD _)
   |clear t=>show absurd wd0 fw
   |refit ns ag=>
    let(f1,f2,f3,f4):=fo;let(a,b,hp,ha,tb,hb,SE):=UG
    w_on
    erw[bB]
    w_on
    erw[br]
    w_on
    let ZR:tb.length=ag.length:=SE.1;let l8:=ok.2.2.2.2.1.l;show(_,rfl,by rw[au];lia,by rw[au];lia,?_);rw[au,show((tb.length:Int)).toNat=ag.length by lia]
    show gG (λi ys Z' H'=>aC H2 H'/\(∃v,Z'=[v,some (.int d),some (.ref p)])/\∃ts:Tk,ys=ts.map V.ref/\ts.length=i/\∀(j:Nat) (t:Addr) (ss:LE),ts[j]?=some t->ag[j]?=some ss->∃(b:Addr) (fr:Int),H' t=some (.tup [.ref b,.int fr])/\10<=fr/\fr<=4007/\H' b=some (.tup (ss.map V.int))) ag.length
     (aC.refl _,(_,rfl),[],rfl,rfl,λj t ss e=>by simp at e) ?_ ?_
    .ext ys Z' H3 ⟨s3,_,ts,rfl,lt,hs⟩;show(aD _,λL hL=>?_);let s4:=ax (o:=.lst (ts.map V.ref)) hL;let h3:=h2.same s3;let nL:=h3.nin hL
     let hsc:o7 (aa H3 L (.lst (ts.map V.ref))) L ag:=(ts,ar,lt,λj t ss e1 e2=>let(b,fr,z1,z2,z3,z4):=hs j t ss e1 e2;(b,fr,s4 _ _ z1,z2,z3,s4 _ _ z4))
     generalize aa H3 L (.lst (ts.map V.ref))=H4 at s4 hsc⊢;let Zu:=s3.trans s4
     w_on
     show(x,B,slip,d,Rj,bs,n,a,L,ns,ag,rfl,h2.same Zu,(),sl,Zu _ _ ha,ok.2.2.2.1,ok.2.1,hsc,nL,ok.2.2.2.2.1,fw wd0,λH5 B5 x5 bs5 h5 m5 t5=>?_)
     w_on
     show(B5,x5,bs5,Rj,rfl,h5,m5,(t2.trans (bA.same Zu)).trans t5,rfl,f1)
    .ext MM mi i ys Z' H3 hi ⟨s3,⟨v,rfl⟩,ts,rfl,lt,hs⟩;show(hi,cA (by rw[au];lia),?_);ext y H4 ⟨rfl,rfl⟩;rw[Int.zero_add];let Wm:=s3 _ _ hp;let hb3:=s3 _ _ hb;let ti:tb[i]?=some (tb[i]'()):=aK _;let si:ag[i]?=some ag[i]:=aK hi;let XU:=s3 _ _ (SE.2 i _ _ ti si);generalize tb[i]'()=u at ti XU
     w_on
     erw[br]
     w_on
     erw[sg (az.of hb3) (jQ (v:=.ref u) (by rw[aH,ti];rfl))]
     w_on
     show(by change 2<=sizeLine;decide,λq hq=>?_);let s5:=ax (o:=.tup [.ref u,.int (10*d+i)]) hq
     show cu hi<|mi (s3.trans s5,(_,rfl),ts++[q],by rw[bO];rfl,by rw[c6,lt];rfl,λj t ss e1 e2=>?_)
     rcases oh j ts.length with z|z|z
     .rw[iL z]at e1;let(b,fr,z1,z2,z3,z4):=hs j t ss e1 e2;show(b,fr,s5 _ _ z1,z2,z3,s5 _ _ z4)
     .subst z;rw[fj (aD _),Nat.sub_self]at e1;rw[lt,si]at e2;cases e1;cases e2;show(u,10*d+i,ar,(),(),s5 _ _ XU)
     .rw[fj (),gp (by simp;lia)]at e1;cases e1
  ext Z3 H3 ⟨B3,x3,V5,Sd,rfl,h3,m3,t3,fm,Vb⟩;clear h2 t2 UG;rw[<-m3]
  w_on
  erw[cy h3.m qv]
  w_on
  show(_,_,rfl,((),(),(),()),?_);rw[show((Sd:Int)+1 - 1).toNat=Sd by lia];erw[dP (λi Z' H'=>∃v4 v5 Bi,Z'=[some (.ref x3.m),some (.int d),some (.ref p),some (.str wd),v4,v5]/\bz H' Bi x3 slip d Sd V5 (V5.map (·.1)) (n+80+i)/\bA B3 Bi H3 H') Sd (none,none,B3,rfl,h3,bA.same (aC.refl _)) ?_]
  .ext Z' H4 ⟨v4,v5,B4,rfl,h4,t4⟩;show(aD _,?_)
   w_on
   show k _ _ B4 x3 V5 Sd (h4.more ()) m3 (t3.trans t4) fm
  .ext MM RR Bk mi ri i Z' H4 hi ⟨v4,v5,B4,rfl,h4,t4⟩;show(hi,?_);ext x' H5 ⟨rfl,rfl⟩;generalize et:(1:Int)+i=tm;let(ll,el,ln,lr):=h4.ln
   w_on
   erw[cy h4.m G0];show(x3.ln,rfl,i5 (.of el),?_)
   w_on
   show(by change 0<=sizeLine;decide,λe0 Vx=>?_);let s6:=ax (o:=.lst []) Vx;let e6:aa H5 e0 (.lst []) e0=some (.lst []):=ar;generalize aa H5 e0 (.lst [])=H6 at s6 e6⊢;show(aM ll (.inl tm),cV (k:=.inl tm) (.of (s6 _ _ el)),?_)
   obtain⟨a',vs,ea,VT,lvs,XT⟩:∃(a':Addr) (vs:Tk),(aM ll (.inl tm)).getD (.ref e0)=.ref a'/\H6 a'=some (.lst (vs.map V.ref))/\vs.length<=n+80+i/\∀r∈vs,∃(d:Int) (b:Addr) (o:Option Int),H6 r=some (.tup [.int d,.ref b])/\nZ H6 b o:=by
    cases e:aM ll (.inl tm)with
    |none=>show(e0,[],rfl,e6,cm _,λr hr=>(bF hr).elim)
    |some v=>
     let(a',vs,rfl,_,z2,z4,z5):=lr _ _ e;show(a',vs,rfl,s6 _ _ z2,z4,λr hr=>let(d,b,o,y1,y2):=z5 r hr;(d,b,o,s6 _ _ y1,y2.keep λ_ _=>s6 _ _))
   rw[ea];let h6:=h4.same s6;let t6:=t4.trans (bA.same s6)
   w_on
   generalize eb:wG _ _ _=bd
   let put:∀(D':gu) H7,aC H6 H7->(∀H8 B8,bz H8 B8 x3 slip d Sd V5 (V5.map (·.1)) (n+80+(i+1))->bA B3 B8 H3 H8->D'.nx [some (.ref x3.m),some (.int d),some (.ref p),some (.str wd),some (.int tm),some (.ref a')] H8)->bd D' [some (.ref x3.m),some (.int d),some (.ref p),some (.str wd),some (.int tm),some (.ref a')] H7:=by
    subst eb;ext D' H7 s7 kk;let h7:=h6.same s7
    w_on
    show(x3,slip,d,Sd,V5,tm,rfl,h7.r,λq o H8 s8 _ pa _=>?_)
    w_on
    show(by change 2<=sizeLine;decide,λu hu=>?_);let s9:=ax (o:=.tup [.int d,.ref q]) hu;let e9:aa H8 u (.tup [.int d,.ref q]) u=_:=ar;generalize aa H8 u (.tup [.int d,.ref q])=H9 at s9 e9⊢
    w_on
    show(by change 1<=sizeLine;decide,λu2 hu2=>?_);let s10:=ax (o:=.lst [.ref u]) hu2;let V3:aa H9 u2 (.lst [.ref u]) u2=_:=ar;generalize aa H9 u2 (.lst [.ref u])=RL at s10 V3⊢;let s1:=s7.trans (s8.trans (s9.trans s10));show l5 (s1 _ _ VT) V3 (j9 (qy (by rw[au];change vs.length+1<10000;lia))) λL hL=>?_
    let hLm:vs.map V.ref++[.ref u]=(vs++[u]).map V.ref:=by rw[bO];rfl
    rw[hLm];let TF:=(h6.same s1).new (o:=.lst ((vs++[u]).map V.ref)) hL;let t12:=(t6.trans (bA.same s1)).trans (bA.new (o:=.lst ((vs++[u]).map V.ref)) hL);let s12:=ax (o:=.lst ((vs++[u]).map V.ref)) hL;let Yz:aa RL L (.lst ((vs++[u]).map V.ref)) L=_:=ar;generalize aa RL L (.lst ((vs++[u]).map V.ref))=T_ at TF t12 s12 Yz⊢
    w_on
    erw[cy TF.m G0]
    w_on
    let sa:=s6.trans (s1.trans s12);let U3:=sa _ _ el;show(x3.ln,_,rfl,gD.k (k:=.inl tm) U3 (qy ()),?_);let S8:=Wr.of (l':=bu ll (.inl tm) (.ref L)) U3;let q:=TF.dd;simp only[fV,cb,bF,cS,fO]at q;show kk _ _ (TF.put S8 ∅ (m:=n+80+(i+1)) (bs':=V5) () ?_ (λy=>absurd y.symm q.2.2.1.2.1) ?_ λ_=>(cf (jZ ..) (),λkk v e=>?_)) (t12.trans (bA.put (TF.fb x3.ln ∅) U3))
    .rw[aO (λy=>q.2.1.2.2.1 y.symm)]
    .rw[aO (λy=>q.2.2.2.1.1 y.symm)]
    .rw[sY]at e;split at e
     .cases e;show(L,vs++[u],rfl,.inr rfl,S8.kd _ _ Yz nofun,by rw[c6];change vs.length+1<=_;lia,λr hr=>?_)
      rcases ui.mp hr with y|y
      .let(d',b,o',y1,y2):=XT r y;show(d',b,o',S8.kd _ _ (s12 _ _ (s1 _ _ y1)) nofun,(y2.keep λ_ _ z=>s12 _ _ (s1 _ _ z)).keep λ_ _ z=>S8.kd _ _ z nofun)
      .rw[Ra.mp y];show(d,_,o,S8.kd _ _ (s12 _ _ (s10 _ _ e9)) nofun,(pa.keep λ_ _ z=>s12 _ _ (s10 _ _ (s9 _ _ z))).keep λ_ _ z=>S8.kd _ _ z nofun)
     .show(lr _ _ e).keep (λb xs _ z=>S8.kd _ _ (sa _ _ z) nofun) (λb xs z=>S8.kd _ _ (sa _ _ z) nofun) (λ_=>.inl) ()
   w_on
   show(by change 0<=sizeLine;decide,λe1 Xa=>?_);let s7:=ax (o:=.lst []) Xa;let e7:aa H6 e1 (.lst []) e1=some (.lst []):=ar;generalize aa H6 e1 (.lst [])=H7 at s7 e7⊢;erw[tI (s7 _ _ VT) e7]
   w_on
   show bZ (λz=>?_) (λz=>?_)
   .erw[br];show put _ _ s7 λH8 B8 h8 t8=>mi (_,_,B8,rfl,h8,t8)
   .obtain⟨r,hl⟩:∃r,vs.getLast?=some r:=by
     cases vs with
     |nil=>cases z
     |cons y r=>show(_,List.getLast?_eq_some_getLast (List.cons_ne_nil _ _))
    let(d',b,o,y1,y2):=XT r (List.mem_of_getLast? hl);let y17:=s7 _ _ y1
    w_on
    erw[iB (ah.of (s7 _ _ VT)) (atI_last (v:=.ref r) (by rw[List.getLast?_map,hl];rfl))]
    w_on
    show(x3,slip,d,Sd,V5,tm,rfl,(h6.same s7).r,λq o' H8 s8 _ pa _=>?_)
    let p1:gF K H8 (.ref b) (uf o):=by
     cases o with
     |none=>show az.of (s8 _ _ (s7 _ _ y2))
     |some nm=>show az.of (s8 _ _ (s7 _ _ y2))
    let p2:gF K H8 (.ref q) (uf o'):=by
     cases o' with
     |none=>show az.of pa
     |some nm=>show az.of pa
    erw[pR p1 p2]
    w_on
    show bZ (λz=>?_) (λz=>?_)
    .show put _ _ (s7.trans s8) λH8 B8 h8 t8=>mi (_,_,B8,rfl,h8,t8)
    .w_on
     show(_,_,B4,rfl,((h6.same s7).same s8).more (),t6.trans ((bA.same s7).trans (bA.same s8)))
noncomputable def iJ(slip:Int)(m pp pl:Addr)(g:Nat->Addr)(i:Nat):Tm:=(bk slip 0 0 (m,pp,pl,g 0,g 1,g 2,g 3,g 4,g 5)).take (6+i)
noncomputable def wd(i:Nat):Str:=["boats","down","chains","lines","on","loads"].getD i ""
def QD{slip:Int}{m pp pl d:Addr}{g:Nat->Addr}{i:Nat}(h:i<6):bu (iJ slip m pp pl g i) (.inr (wd i)) (.ref d)=iJ slip m pp pl (λj=>if j=i then d else g j) (i+1):=by
 rcases(show i=0\/i=1\/i=2\/i=3\/i=4\/i=5 by lia)with rfl|rfl|rfl|rfl|rfl|rfl<;>kernel_rfl
def QE{slip:Int}{m pp pl:Addr}{g:Nat->Addr}{i:Nat}:(iJ slip m pp pl g i).length<=12:=by unfold iJ;rw[d_];show Nat.min_le_right _ _
def A7:Sp:=λvs H Q _=>∃slip:Int,vs=[.int slip]/\∀x B H',bz H' B x slip 0 0 [] [] 0->aC H H'->(∀b,B b->H b=none)->Q (.ref x.m) H'
def G8{i:Nat}(h:i<6):[V.str "boats",.str "down",.str "chains",.str "lines",.str "on",.str "loads"][i]?=some (.str (wd i)):=by
 rcases(show i=0\/i=1\/i=2\/i=3\/i=4\/i=5 by lia)with rfl|rfl|rfl|rfl|rfl|rfl<;>rfl
abbrev A8:Stmt:=bj 80
def G9:bc ["_law_slip","_law_m","_law_word"] ["_law_slip"] (aW A8):=bh
def QF{f:Addr}{fd:FuncData}(F:aY K "_law_new" "_law_new" A8 f fd):aN P w K mg base aU 1 f fd ["_law_slip"] A7:=by
 show F.ok G9 (λvs H Q E h=>?_) (λaP A outer s H vs Q E hr h=>?_)
 .let(_,rfl,_):=h;rfl
 .let(slip,rfl,k):=h;refine'(_,?zz,?_)
  case zz=>
   refine' aG ?s1 ?r1
   case s1=>
    show(by refine' C4 (i:=1) ?xa ?xb ?xc ?xd ?xe ?xf;(case xa=>show G9.nd);(case xb=>rfl);(case xc=>show Or.inl rfl);(case xe=>rfl);(case xf=>first|show .inl rfl|show .inr rfl);(case xd=>show(by refine' LA ?xp ?y1 ?y2 ?y3 ?y4;(case y1=>rfl);(case y2=>rfl);(case y3=>show List.cons_ne_nil _ _);(case y4=>decide);(case xp=>show(by show nH aT (pv 0) (by show nH aT ay (by show nH aT ay (by show nH aT ay (by show nH aT (cp (ab ay (ab ay ak))) (by show nH aT (dS ak) Lz))))))))))
   case r1=>
   refine' aG ?s2 ?r2
   case s2=>
    show(dC dH rfl (cU (K:=K) rfl (dS (by show ab aT (by show ab aT (by show ab aT (by show ab aT (by show ab aT (by show ab aT ak)))))))) (qG 2) (aA (by show(gE (cw hr.units) (pv 1) (pv 2) mr rfl))))
   case r2=>
   show aA (aQ (pv 1))
  show kZ (Dk (LU λm hm=>?_));let s1:=ax (o:=.dK []) hm;let m1:aa H m (.dK []) m=some (.dK []):=ar;generalize aa H m (.dK [])=H1 at s1 m1⊢;show di (dW rfl (di (di (di (di (di (di (di (Dl (vM (di (vM (di (vN (by change 2<=sizeLine;decide,λpp VM=>?_)))))))))))))));let s2:=ax (o:=.tup [.int 0,.int 1]) VM;let p2:aa H1 pp (.tup [.int 0,.int 1]) pp=some (.tup [.int 0,.int 1]):=ar;generalize aa H1 pp (.tup [.int 0,.int 1])=H2 at s2 p2⊢;show di (Dm (vN (by change 0<=sizeLine;decide,λpl hpl=>?_)));let s3:=ax (o:=.lst []) hpl;let l3:aa H2 pl (.lst []) pl=some (.lst []):=ar;let fl:H pl=none:=s1.free (s2.free hpl);generalize aa H2 pl (.lst [])=H3 at s3 l3⊢;let m3:=s3 _ _ (s2 _ _ m1);show(m3,[(.inr "slip",.int slip,),(.inr "day",.int 0,),(.inr "many",.int 0,),(.inr "lent",.int 0,),(.inr "paid",.ref pp,),(.inr "lost",.ref pl,)],rfl,by change 6<=15;decide,?_)
  let em:i3 [] [(.inr "slip",.int slip,),(.inr "day",.int 0,),(.inr "many",.int 0,),(.inr "lent",.int 0,),(.inr "paid",.ref pp,),(.inr "lost",.ref pl,)]=iJ slip m pp pl (λ_=>0) 0:=by kernel_rfl
  rw[em];let nm:∀{b:Addr} {o:HO},H b=some o->b≠m:=λz=>bq z hm
  let s4:aC H (aa H3 m (.dK (iJ slip m pp pl (λ_=>0) 0))):=λb o z=>by rw[aB (nm z)];show s3 _ _ (s2 _ _ (s1 _ _ z))
  let m4:aa H3 m (.dK (iJ slip m pp pl (λ_=>0) 0)) m=some (.dK (iJ slip m pp pl (λ_=>0) 0)):=ar
  let pl4:aa H3 m (.dK (iJ slip m pp pl (λ_=>0) 0)) pl=some (.lst []):=by rw[aB (bp l3 m3 nofun)];show l3
  generalize aa H3 m (.dK (iJ slip m pp pl (λ_=>0) 0))=H4 at s4 m4 pl4⊢
  w_on
  show(by change 6<=sizeLine;decide,λwl XS=>?_);let s5:=ax (o:=.lst [.str "boats",.str "down",.str "chains",.str "lines",.str "on",.str "loads"]) XS;let w5:aa H4 wl (.lst [.str "boats",.str "down",.str "chains",.str "lines",.str "on",.str "loads"]) wl=some (.lst [.str "boats",.str "down",.str "chains",.str "lines",.str "on",.str "loads"]):=ar;generalize aa H4 wl (.lst [.str "boats",.str "down",.str "chains",.str "lines",.str "on",.str "loads"])=H5 at s5 w5⊢;show(wl,rfl,(_,ah.of w5),?_)
  show dP (λi Z' H'=>aC H H'/\H' wl=some (.lst [.str "boats",.str "down",.str "chains",.str "lines",.str "on",.str "loads"])/\H' pl=some (.lst [])/\(∃v,Z'=[some (.int slip),some (.ref m),v])/\
   ∃g:Nat->Addr,H' m=some (.dK (iJ slip m pp pl g i))/\(∀j,j<i->H (g j)=none/\H' (g j)=some (.dK [])/\g j≠m)/\∀j j',j<i->j'<i->j≠j'->g j≠g j') 6
   (s4.trans s5,w5,s5 _ _ pl4,(_,rfl),λ_=>0,s5 _ _ m4,λj hj=>absurd hj (iO _),λj _ hj=>absurd hj (iO _)) ?_ ?_
  .ext Z' H' ⟨sH,w',YN,⟨v,rfl⟩,g,mm,ga,gd⟩;show((_,ah.of w',aD _),?_)
   w_on
   let D:∀j,j<6->H' (g j)=some (.dK []):=λj hj=>(ga j hj).2.1;let M:∀j,j<6->m≠g j:=λj hj=>Ne.symm (ga j hj).2.2;let N:∀j j',j<j'->j'<6->g j≠g j':=λj j' a b=>gd j j' () b ()
   let al:∀b∈[m,pl,g 0,g 1,g 2,g 3,g 4,g 5],H b=none/\∃o,H' b=some o:=by
    ext b hb;simp only[cb,bF,cS]at hb
    grind
   show k (m,pp,pl,g 0,g 1,g 2,g 3,g 4,g 5) (λb=>b∈[m,pl,g 0,g 1,g 2,g 3,g 4,g 5]) H' (mm,YN,(λ_=>0,D 0 (by decide),λp hp=>(bF hp).elim),(_,D 1 (by decide),aD _),(_,D 2 (by decide),aD _,nofun,λc hc=>(bF hc).elim),(_,D 3 (by decide),aD _,nofun),D 4 (by decide),D 5 (by decide),?_,λb hb=>hb,λb hb=>(al b hb).2,(.nil,λp hp=>(bF hp).elim,λp hp=>(bF hp).elim)) sH λb hb=>(al b hb).1
   grind
  .ext MM RR Bk mi ri i Z' H' hi ⟨sH,w',YN,⟨v,rfl⟩,g,mm,ga,gd⟩;show((_,_,ah.of w',G8 hi),?_);ext y H2' ⟨rfl,hy⟩;let ey:=hy _ (ah.of w');rw[G8 hi]at ey;cases ey
   w_on
   ext d hd
   w_on
   let sd:=ax (o:=.dK []) hd;let dd:aa H2' d (.dK []) d=some (.dK []):=ar;generalize aa H2' d (.dK [])=H6 at sd dd⊢;let nd:d≠m:=(bq mm hd).symm;show(m,_,rfl,gD.k (k:=.inr (wd i)) (sd _ _ mm) (by have:=QE (slip:=slip) (m:=m) (pp:=pp) (pl:=pl) (g:=g) (i:=i);rw[iQ];lia),?_);rw[QD hi]
   let u:∀{b:Addr} {o:HO},b≠m->H2' b=some o->aa H6 m (.dK (iJ slip m pp pl (λj=>if j=i then d else g j) (i+1))) b=some o:=λn z=>by rw[aB n];show sd _ _ z
   show mi (λb o z=>u (nm z) (sH _ _ z),u (bp w' mm nofun) w',u (bp YN mm nofun) YN,(_,rfl),_,ar,λj hj=>?_,λj j' hj SS e=>?_)
   .by_cases z:j=i
    .subst z;simp only[kF];show(sH.free hd,by rw[aB nd];show dd,nd)
    .grind
   .grind
structure ie(H:Hp)(l:Addr)(as:Tk)(cs:List LE):Prop where
 l:H l=some (.lst (as.map V.ref))
 n:as.length=cs.length
 e:∀(i:Nat) (a:Addr) (c:LE),as[i]?=some a->cs[i]?=some c->H a=some (.lst (c.map V.int))
def ie.keep{H H':Hp}{l:Addr}{as:Tk}{cs:List LE}(h:ie H l as cs)(k:∀b u,b=l\/b∈as->H b=some u->H' b=some u):ie H' l as cs:=
 (k _ _ (.inl rfl) h.l,h.n,λi a c e1 e2=>k _ _ (.inr (dr e1)) (h.e i a c e1 e2))
theorem Ga{t:Int}:∀{cs:List LE} {j:Nat} {c:LE},cs[j]?=some c->((cs.set j (c++[t])).flatten).Perm (t::cs.flatten)
 |[],_,_,h=>by simp at h
 |x::r,0,c,h=>by
  cases h;simp only[List.set_cons_zero,qP,oj];show List.perm_middle
 |x::r,j+1,c,h=>by
  simp only[List.set_cons_succ,qP];show((Ga (cs:=r) (j:=j) (by simpa using h)).append_left x).trans List.perm_middle
structure mD(slip:Int)(cs:List LE):Prop where
 nd:cs.flatten.Nodup
 l:∀c∈cs,(c.length:Int)<=slip
def A9:Sp:=λvs H Q _=>∃(d c p l:Addr) (as:Tk) (cs:List LE) (ns:LE) (slip Ud TN:Int),vs=[.ref d,.ref p,.ref l,.int slip,.int Ud,.int TN]/\bQ H d c/\(H p=some (.lst (ns.map V.int))\/H p=some (.tup (ns.map V.int)))/\ie H l as cs/\as.Nodup/\p≠d/\p∉as/\d∉as/\c∉as/\l∉as/\l≠d/\0<=Ud/\ns.Nodup/\(∀t∈ns,t∉cs.flatten)/\mD slip cs/\slip<=12/\cs.length<=100/\
 ∀H' T6,bQ H' d c->ie H' l as T6->(∀b u,b≠d->b∉as->H b=some u->H' b=some u)->mD slip T6->(∀t∈T6.flatten,t∈cs.flatten\/t∈ns)->Q .non H'
abbrev Aa:Stmt:=bj 93
def QG:bc ["_law_draw","_law_pool","_law_sets","_law_slip","_law_home","_law_loyal","_law_timber","_law_to"] ["_law_draw","_law_pool","_law_sets","_law_slip","_law_home","_law_loyal"] (aW Aa):=bh
def QH{f:Addr}{fd:FuncData}(F:aY K "_law_dealt" "_law_dealt" Aa f fd)(T:bC mg)(dv:ba P w K mg base "_law_take" 1 ["_law_draw","_law_many"] mw):aN P w K mg base aU 2 f fd ["_law_draw","_law_pool","_law_sets","_law_slip","_law_home","_law_loyal"] A9:=by
 show F.ok QG (λvs H Q E h=>?_) (λaP A outer s H vs Q E hr h=>?_)
 .let(_,_,_,_,_,_,_,_,_,_,rfl,_):=h;rfl
 .let(d,c,p,l,as,cs,ns,slip,Ud,TN,rfl,hD,hp,hs,Va,ZF,ZG,XD,nca,nla,nld,h0,nd,ap,ok,sl,lc,k):=h
  show(_,(aA (dC dH rfl (Mu (K:=K) rfl (pv 1)) (qG 6) (aG (qV 7 (pv 4))
   (dN (bx (qE uT (pC dv (ab (pv 0) (ab ay ak))) (pv 5)) (aA (qV 7 (pC dv (ab (pv 0) (ab (bg cT (qN K T (pv 2)) ay) ak))))) bD)
   (aA (bx ((jb (qE mS (pv 7) (qN K T (pv 2))) (kL (qE mS (qN K T (qI K (pv 2) (pv 7))) (pv 3))))).pt (aA (eB (pH (K:=K) rfl (qI K (pv 2) (pv 7)) (ab (pv 6) ak)))) bD)))))),?_)
  w_on
  show Mw rfl hp λJ o ho (j1,j2,j3)=>?_;let lcs:=hs.n
  show dP (λi Z' H'=>∃v v' T6,Z'=[some (.ref d),some (.ref p),some (.ref l),some (.int slip),some (.int Ud),some (.int TN),v,v']/\bQ H' d c/\ie H' l as T6/\(∀b u,b≠d->b∉as->H b=some u->H' b=some u)/\mD slip T6/\∀t∈T6.flatten,t∈cs.flatten\/t∈ns.take i) ns.length
   (none,none,cs,rfl,hD,hs,λ_ _ _ _ z=>z,ok,λt ht=>.inl ht) ?_ ?_
  .ext Z' H1 ⟨v,v',U5,rfl,TC,hs1,k1,WZ,m1⟩;rw[fk]at m1;show(j1 _ (k1 _ _ ZF ZG ho),?_)
   w_on
   show k _ U5 TC hs1 k1 WZ m1
  .ext MM RR Bk mi ri i Z' H1 hi ⟨v,v',U5,rfl,TC,hs1,k1,WZ,m1⟩;show(j2 _ _ hi (k1 _ _ ZF ZG ho),?_);ext y G hy;let(rfl,t,et,rfl):=j3 _ _ _ _ (k1 _ _ ZF ZG ho) hy;let ZV:=hs1.n
   w_on
   erw[e_ (λZ' H'=>∃to:Int,0<=to/\Z'=[some (.ref d),some (.ref p),some (.ref l),some (.int slip),some (.int Ud),some (.int TN),some (.int t),some (.int to)]/\bQ H' d c/\bS d G H') (λMM RR Bk Ct mi ri=>?_)]
   .w_on
    show(d,c,4,rfl,TC,by decide,by decide,λr H2 r0 r1 RG b2=>?_)
    w_on
    show bZ (λ_=>?_) (λ_=>?_)
    .let Ro:=b2 _ _ nld hs1.l
     w_on
     show(d,c,_,rfl,RG,(),pT () (by rw[au];lia),λr H3 r0 r1 RT b3=>?_)
     w_on
     show(r,r0,rfl,RT,b2.trans b3)
    .w_on
     show(Ud,h0,rfl,RG,b2)
   ext Z2 H2 ⟨to,t0,rfl,RG,b2⟩;let S0:ie H2 l as U5:=hs1.keep λb u z e=>b2 _ _ (z.elim (λy=>y▸nld) λy e=>XD (e▸y)) e;let k2:∀b u,b≠d->b∉as->H b=some u->H2 b=some u:=λb u n1 n2 z=>b2 _ _ n1 (k1 b u n1 n2 z);let Ro:=S0.l;let ZP:∀t∈U5.flatten,t∈cs.flatten\/t∈ns.take (i+1):=λt ht=>(m1 t ht).imp id λz=>Ao (i:=i) (by rw[List.take_take,AA ()];show z)
   w_on
   show bZ (λz=>?_) (λz=>?_)
   .let z:=cP z;rw[au]at z
    obtain⟨j,rfl⟩:∃j:Nat,to=j:=(to.toNat,())
    let aj:as[j]?=some (as[j]'()):=aK _;generalize as[j]'()=u at aj;let cj:U5[j]?=some (U5[j]'()):=aK _;generalize U5[j]'()=cc at cj;let hu:=S0.e j u cc aj cj
    w_on
    erw[iB (ah.of Ro) (jQ (v:=.ref u) (by rw[aH,aj];rfl))]
    w_on
    show bZ (λz2=>?_) (λz2=>?_)
    .let z2:=cP z2;rw[au]at z2
     w_on
     erw[iB (ah.of Ro) (jQ (v:=.ref u) (by rw[aH,aj];rfl))];show(.inl (rfl,_,ah.of hu),?_)
     w_on
     erw[md hu (cA (by rw[au];lia))]
     let hm:cc.map V.int++[.int t]=(cc++[t]).map V.int:=by rw[bO];rfl
     rw[hm];let mu:u∈as:=dr aj;let pm:=Ga (t:=t) cj
     let nt:t∉U5.flatten:=λy=>by
      rcases m1 t y with w|w
      .show ap t (dr et) w
      .let(a,ha,ea):=Re.mp w;rw[d_]at ha;rw[oi]at ea;have:=Rc.mp nd a i () hi ();rw[ea]at this;rw[aK hi]at et;show this (cH et).symm
     w_on
     show(_,_,U5.set j (cc++[t]),rfl,RG.put (λe=>XD (e▸mu)) (λe=>nca (e▸mu)),(?_,by rw[List.length_set];show ZV,λa b c' e1 e2=>?_),λb u' n1 n2 z=>?_,(?_,λc' RV=>?_),λt' ht'=>?_)
     .rw[aB (show l≠u from λe=>nla (e▸mu))];show Ro
     .by_cases e:a=j
      .subst e;rw[aj]at e1;rw[Gq ()]at e2;cases e1;cases e2;show ar
      .rw[Gy (Ne.symm e)]at e2
       let hb:b≠u:=λy=>by
        subst y;let(a1,a2):=Rb.mp e1;let(a3,a4):=Rb.mp aj;let n:=Rc.mp Va
        rcases Nat.lt_or_gt_of_ne e with q|q
        .show n a j a1 a3 q (a2.trans a4.symm)
        .show n j a a3 a1 q (a4.trans a2.symm)
       rw[aB hb];show S0.e a b c' e1 e2
     .rw[aB (show b≠u from λe=>n2 (e▸mu))];show k2 b u' n1 n2 z
     .show pm.nodup_iff.mpr (fV.mpr (nt,WZ.nd))
     .rcases List.mem_or_eq_of_mem_set RV with y|y
      .show WZ.l c' y
      .rw[y,c6];change((cc.length+1:Nat):Int)<=slip;lia
     .rcases cb.mp (pm.mem_iff.mp ht')with y|y
      .erw[.inr];rw[y,gU et];show cF _ (Ra.mpr rfl)
      .show ZP t' y
    .w_on
     show(_,_,U5,rfl,RG,S0,k2,WZ,ZP)
   .w_on
    show mi (_,_,U5,rfl,RG,S0,k2,WZ,ZP)
def ic.but{H H':Hp}{x:BA}{slip day:Int}{Rj:Nat}{bs:List (Int×LE)}{d c:Addr}(h:ic H x slip day Rj bs)(hD:bQ H d c)(b:bS d H H'):ic H' x slip day Rj bs:=by
 let(ns,a,r,e,h1,h2,h3,h4):=hD;show(b _ _ (bp h.m h1 nofun) h.m,b _ _ (bQ.ne_ints (ns:=[]) (ns,a,r,e,h1,h2,h3,h4) h.pl) h.pl,h.bo.keep (λ_ z=>b _ _ (bp z h1 nofun) z) (λ_ _ z=>b _ _ (bp z h1 nofun) z),h.nb,h.b64)
def bQ.free{H H':Hp}{d c a:Addr}(hD:bQ H' d c)(b:bS d H H')(h:H' a=none):H a=none:=by
 cases e:H a with
 |none=>rfl
 |some o=>
  by_cases q:a=d
  .let((o',z),_):=hD.is;rw[q,z]at h;cases h
  .rw[b _ _ q e]at h;cases h
def ie.nin{H:Hp}{l p:Addr}{as:Tk}{cs:List LE}{xs:LT}(h:ie H l as cs)(e:H p=some (.tup xs)):p∉as:=λhp=>by
 let(i,hi,ei):=Re.mp hp;have:=h.e i _ (cs[i]'(by rw[<-h.n];show hi)) (aK hi) (aK _)
 grind
def bQ.tup{H H':Hp}{d c b:Addr}{xs:LT}(hD:bQ H d c)(bt:bS d H H')(z:H b=some (.tup xs)):H' b=some (.tup xs):=bt _ _ (hD.ne_tup z) z
def bQ.ints{H H':Hp}{d c b:Addr}{ns:LE}(hD:bQ H d c)(bt:bS d H H')(z:H b=some (.lst (ns.map V.int))):H' b=some (.lst (ns.map V.int)):=bt _ _ (hD.ne_ints z) z
def Ab:fc->Prop
 |.fell _=>False
 |.refit ns _=>ns.length<=3
 |.clear _=>True
noncomputable def jA(b:Bool)(c:LE):LE:=if b then c.reverse else c
def QI{b:Bool}{c:LE}{t:Int}:t∈jA b c↔t∈c:=by unfold jA;split<;>simp
def Gb{b:Bool}{c:LE}:(jA b c).length=c.length:=by unfold jA;split<;>simp
noncomputable def gJ(b:Bool)(cs:List LE):List LE:=(cs.filter λc=>!decide (c=[])).map (jA b)
theorem Gc(b:Bool):∀cs:List LE,(gJ b cs).flatten.Perm cs.flatten
 |[]=>.refl _
 |c::r=>by
  let ih:=Gc b r;unfold gJ at ih⊢;rw[j7];by_cases e:c=[]
  .subst e;simpa using ih
  .rw[cW e,bf (show(!false)=true from rfl),cQ,qP,qP];show List.Perm.append ?_ ih;unfold jA;split
   .show List.reverse_perm c
   .show .refl _
def QJ{slip:Int}{b:Bool}{cs:List LE}(h:mD slip cs)(l8:cs.length<=8)(r:∀t∈cs.flatten,1<=t/\t<=60):i6 slip (gJ b cs):=by
 let pm:=Gc b cs;show(cf (by unfold gJ;rw[au];show fW _ _) l8,λs hs=>?_,pm.nodup_iff.mpr h.nd,?_)
 .unfold gJ at hs;let(c,hc,rfl):=Ag.mp hs;let(c1,c2):=Ah.mp hc;show(?_,by rw[Gb];show h.l c c1,λt ht=>r t (Rf.mpr (c,c1,QI.mp ht)));rw[Gb]
  grind
 .have:=gg h.nd (ns:=gR 1 60) λt ht=>wj.mpr ⋯;rw[ny]at this;rw[pm.length_eq];lia
def Gd{n:Nat}{t:Int}:t∈dG n↔1<=t/\t<=n:=by
 unfold dG;rw[Ag];constructor
 .ext⟨i,hi,rfl⟩;have:=QU.mp hi;lia
 .ext h;show((t - 1).toNat,QU.mpr (),())
def Ge(n:Nat):(dG n).Nodup:=by
 unfold dG;show Gh.mpr (List.nodup_range.imp λh e=>h ())
def Gf{bs:List (Int×LE)}{t:Int}(h:dZ bs t=true):∀p∈bs,t∉p.2:=λp hp ht=>by
 unfold dZ at h
 grind
def Ac:Sp:=λvs H Q _=>∃(d c:Addr) (x:BA) (slip day:Int) (Rj:Nat) (bs:List (Int×LE)),vs=[.ref d,.ref x.m]/\bQ H d c/\ic H x slip day Rj bs/\fh slip bs/\Rj<=60/\0<=slip/\slip<=12/\∀p H' y,bQ H' d c->bS d H H'->fT H' p y->y.ok slip->Ab y->Q (.ref p) H'
abbrev Ad:Stmt:=bj 94
abbrev QK:List Str:=["_law_draw","_law_m","_law_names","_law_join","_law_loyal","_law_sets","_law_k","_law_name","_law_turned","_law_made"]
def QL:bc QK ["_law_draw","_law_m"] (aW Ad):=bh
def QM{f:Addr}{fd:FuncData}(F:aY K "_law_refit" "_law_refit" Ad f fd)(T:bC mg)(dv:ba P w K mg base "_law_take" 1 ["_law_draw","_law_many"] mw)(ja:ba P w K mg base "_law_some" 2 ["_law_draw","_law_pool","_law_many"] (pS K))(iR:ba P w K mg base "_law_loose" 2 ["_law_m"] n_)(uL:ba P w K mg base "_law_dealt" 2 ["_law_draw","_law_pool","_law_sets","_law_slip","_law_home","_law_loyal"] A9):aN P w K mg base aU 3 f fd ["_law_draw","_law_m"] Ac:=by
 show F.ok QL (λvs H Q E h=>?_) (λaP A outer s H vs Q E hr h=>?_)
 .let(_,_,_,_,_,_,_,rfl,_):=h;rfl
 .let(d,c,x,slip,day,Rj,bs,rfl,hD,h,ok,Vb,sl0,sl,k):=h
  show(_,(dN (qV 2 (pC ja (ab (pv 0) (ab (cg (wU rfl) (by rfl) T.z_sorted m7 (ab (qD hr.units (pv 1) aT) ak)) (ab (pC dv (ab (pv 0) (ab ay ak))) ak)))))
   (aG (qV 3 (qC eG (pC dv (ab (pv 0) (ab ay ak))) ay))
   (aG (qV 4 (bg cT ay (pC dv (ab (pv 0) (ab ay ak)))))
   (dN (qL 5 (cX ["_law_k"] []) (oQ (by rfl) T.z_range (ab (bg cT (bg cT (qN K T (pv 2)) (pC dv (ab (pv 0) (ab ay ak)))) (eI pI (by rfl) T.z_int n9 (ab (qC (Ef hr.units) (pv 2) (dS ak)) ak))) ak)) (by ext _ _ _ _ _;show(qG 0)) (by ext _ _ _ _ _;show cD) (by ext _ _ _ _ _;show(dS ak)))
   (dN (dC dH rfl (wC (K:=K) rfl (by rfl) T.z_enumerate (ab (pv 2) ak)) (fJ (K:=K) (n:=2) rfl rfl (by show c9 (qG 6) (c9 (qG 7) fE))) (aA (eB (pC uL (ab (pv 0) (ab (qD hr.units (qD hr.units (pv 1) aT) (pv 7)) (ab (pv 5) (ab (qD hr.units (pv 1) aT) (ab (bg fH (pv 6) (eI pI (by rfl) T.z_int n9 (ab (BU (pv 3)) ak))) (ab (pv 4) ak))))))))))
   (dN (eB (pC uL (ab (pv 0) (ab (pC ja (ab (pv 0) (ab (pC iR (ab (pv 1) ak)) (ab (pC dv (ab (pv 0) (ab ay ak))) ak)))) (ab (pv 5) (ab (qD hr.units (pv 1) aT) (ab ay (ab ay ak))))))))
   (aG (qV 8 (qC eG (pC dv (ab (pv 0) (ab ay ak))) ay))
   (dN (qL 9 (cX ["_law_one"] [(8,"_law_turned",)]) (cU (K:=K) rfl (pv 5)) (by ext _ _ _ _ _;show(qG 0)) (by ext _ _ _ _ _;show(gQ (qE (KJ hr.units) (pv 0) (dS ak)))) (by ext _ _ _ _ _;show(qU K T (BW (eh (pv 1)) (Kx (K:=K) rfl (pv 0) (oW (oR oU ay))) (pv 0)))))
   (aG (bx ((jb (qE (Ef hr.units) (pv 2) (dS ak)) (kL (qE (w_ hr.units) (pv 9) (dS ak))))).pt (aA (aQ (cp (ab aT (ab (bg cT ay (pC dv (ab (pv 0) (ab ay ak)))) ak))))) bD)
   (aA (aQ (cp (ab aT (ab (qU K T (pv 2)) (ab (qU K T (pv 9)) ak))))))))))))))),?_)
  erw[e_ (λZ' H'=>∃(N:Addr) (fs:LE),Z'=[some (.ref d),some (.ref x.m),some (.ref N),none,none,none,none,none,none,none]/\bQ H' d c/\bS d H H'/\H N=none/\H' N=some (.lst (fs.map V.int))/\fs.Nodup/\fs.length<=3/\∀t∈fs,t∈bs.map (·.1)) (λMM RR Bk Ct mi ri=>?_)]
  .w_on
   erw[cy h.m ia]
   w_on
   let(g,hg,_):=h.bo;show ER (ns:=bs.map (·.1)) (.of hg) (by rw[du,du];rfl) (by rw[au];show h.b64) λl rs hl pm _=>?_;let s1:=ax (o:=.lst (rs.map V.int)) hl;let e1:aa H l (.lst (rs.map V.int)) l=some (.lst (rs.map V.int)):=ar;generalize aa H l (.lst (rs.map V.int))=H1 at s1 e1⊢
   w_on
   show(d,c,4,rfl,hD.same s1,by decide,by decide,λr H2 r0 r1 RG b2=>?_);let e2:=(hD.same s1).ints b2 e1;let b64:=h.b64;let lr:=pm.length_eq;rw[au]at lr
   w_on
   show(d,c,l,rs,r,rfl,RG,ah.of e2,(),(),(),λN H3 fs ls RT b3 fN hN pf lf=>?_)
   w_on
   let Va:=pf.nodup_iff.mpr (pm.nodup_iff.mpr ok.nb);let Zn:=s1.but.trans b2;show(N,fs,rfl,RT,Zn.trans b3,RG.free Zn fN,hN,(Gi.mp Va).1,(),λt ht=>pm.mem_iff.mp (pf.mem_iff.mp (fX _ ht)))
  ext Z1 H1 ⟨N,fs,rfl,TC,b1,fN,hN1,ndf,lf,mf⟩
  w_on
  show(d,c,6,rfl,TC,by decide,by decide,λr H2 r0 r1 RG b2=>?_)
  w_on
  show(d,c,4,rfl,RG,by decide,by decide,λr' H3 ZA Xu RT b3=>?_);let b2':=b1.trans (b2.trans b3);let Yl:=RG.ints b3 (TC.ints b2 hN1)
  w_on
  generalize decide (V.int r=V.int 1)=jn;generalize(1:Int)+r'=ly;clear TC b1 hN1 RG b2 b3 H1 H2
  rename Hp=>H2
  let RG:=RT;let b2:=b2';let hN2:=Yl;clear RT b2' Yl;erw[e_ (λZ' H'=>∃(S:Addr) (as:Tk),Z'=[some (.ref d),some (.ref x.m),some (.ref N),some (.bl jn),some (.int ly),some (.ref S),none,none,none,none]/\bQ H' d c/\bS d H H'/\H' N=some (.lst (fs.map V.int))/\ie H' S as (List.replicate as.length [])/\as.Nodup/\as.length<=8/\(∀a∈as,H a=none/\a≠d/\a≠c/\a≠N/\a≠S)/\S≠d) (λMM RR Bk Ct mi ri=>?_)]
  .w_on
   show(d,c,3,rfl,RG,by decide,by decide,λr H3 r0 r1 RT b3=>?_);let WG:=RG.ints b3 hN2
   w_on
   show(by change 0<=sizeLine;decide,λe0 Vx=>?_);let s4:=ax (o:=.lst []) Vx;let e4:aa H3 e0 (.lst []) e0=some (.lst (([]:LE).map V.int)):=ar;generalize aa H3 e0 (.lst [])=H4 at s4 e4⊢;erw[wt (s4 _ _ WG) e4]
   w_on
   generalize ek:(((fs.map V.int).length:Int)+r+(if(if false=true then !decide (fs=[])else decide (fs=[]))=true then 1 else 0))=kk
   let k0:0<=kk/\kk<=6:=by
    rw[au]at ek;split at ek<;>lia
   show(_,rfl,(),(),?_);let S5:=RT.same s4;let Us:=s4 _ _ WG;let b4:=b2.trans (b3.trans s4.but);erw[gG (λi ys Z' H'=>aC H4 H'/\∃as:Tk,ys=as.map V.ref/\as.length=i/\as.Nodup/\∀a∈as,H4 a=none/\H' a=some (.lst [])) kk.toNat (aC.refl _,[],rfl,rfl,.nil,λa ha=>(bF ha).elim) ?_]
   .ext ys Z' H5 ⟨s5,as,rfl,la,Va,ha⟩;show(aD _,λS hS=>?_);let s6:=ax (o:=.lst (as.map V.ref)) hS;let nS:∀{b:Addr} {o:HO},H4 b=some o->b≠S:=λz=>bq (s5 _ _ z) hS;let((_,zd),(_,zc)):=S5.is
    w_on
    show(S,as,rfl,(S5.same s5).same s6,b4.trans (s5.trans s6).but,s6 _ _ (s5 _ _ Us),(ar,by rw[Gv],λi a cc e1 e2=>?_),Va,(),λa hm=>?_,Ne.symm (nS zd))
    .let(_,z):=ha a (dr e1);rw[(List.mem_replicate.mp (dr e2)).2];show s6 _ _ z
    .let(z1,z2):=ha a hm;show(S5.free b4 z1,Ne.symm (bq zd z1),Ne.symm (bq zc z1),Ne.symm (bq Us z1),bq z2 hS)
   .ext MM mi i ys Z' H5 hi ⟨s5,as,rfl,la,Va,ha⟩;show(hi,cA (by rw[au];lia),?_);ext y H6 ⟨rfl,rfl⟩
    w_on
    erw[br]
    w_on
    show(by change 0<=sizeLine;decide,λu hu=>?_);let s6:=ax (o:=.lst []) hu
    show cu hi<|mi (s5.trans s6,as++[u],by rw[bO];rfl,by rw[c6,la];rfl,?_,λa hm=>?_)
    .show Gi.mpr (Va,∅,λa hm b hb=>?_);rw[Ra.mp hb];show bq (ha a hm).2 hu
    .rcases ui.mp hm with z|z
     .show((ha a z).1,s6 _ _ (ha a z).2)
     .rw[Ra.mp z];show(s5.free hu,ar)
  clear RG b2 hN2 H2;ext Z3 H3 ⟨S,as,rfl,RT,b3,WG,ss3,Va,la8,fa,XE⟩;let ZN:N≠d:=RT.ne_ints WG;let da:d∉as:=λz=>(fa d z).2.1 rfl;let ca:c∉as:=λz=>(fa c z).2.2.1 rfl;let Na:N∉as:=λz=>(fa N z).2.2.2.1 rfl;let Sa:S∉as:=λz=>(fa S z).2.2.2.2 rfl;let bt:∀{H1 H2:Hp},bS d H H1->(∀b u,b≠d->b∉as->H1 b=some u->H2 b=some u)->bS d H H2:=λb k=>λb' u n z=>k b' u n (λm=>by rw[(fa b' m).1]at z;cases z) (b b' u n z);erw[e_ (λZ' H'=>∃cs v6 v7,Z'=[some (.ref d),some (.ref x.m),some (.ref N),some (.bl jn),some (.int ly),some (.ref S),v6,v7,none,none]/\bQ H' d c/\bS d H H'/\H' N=some (.lst (fs.map V.int))/\ie H' S as cs/\mD slip cs/\∀t∈cs.flatten,∃p∈bs,t∈p.2) (λMM RR Bk Ct mi ri=>?_)]
  .w_on
   show(N,rfl,(_,ah.of WG),?_)
   show dP (λi Z' H'=>∃cs v6 v7,Z'=[some (.ref d),some (.ref x.m),some (.ref N),some (.bl jn),some (.int ly),some (.ref S),v6,v7,none,none]/\bQ H' d c/\bS d H H'/\H' N=some (.lst (fs.map V.int))/\ie H' S as cs/\mD slip cs/\∀t∈cs.flatten,∃p∈bs,p.1∈fs.take i/\t∈p.2) fs.length
    (_,_,_,rfl,RT,b3,WG,ss3,(∅,λq hq=>by rw[(List.mem_replicate.mp hq).2];show sl0),λt ht=>by simp at ht) ?_ ?_
   .ext Z' H4 ⟨cs,v6,v7,rfl,S5,b4,Us,WV,WY,m4⟩;show((_,ah.of Us,by rw[au];show aD _),?_)
    w_on
    show(cs,v6,v7,rfl,S5,b4,Us,WV,WY,λt ht=>let(p,hp,_,z):=m4 t ht;(p,hp,z))
   .ext MM RR Bk mi ri i Z' H4 hi ⟨cs,v6,v7,rfl,S5,b4,Us,WV,WY,m4⟩;let Rt:fs[i]?=some fs[i]:=aK hi;show((_,.int fs[i],ah.of Us,by rw[aH,Rt];rfl),?_);ext y G ⟨T',u,rfl,hT,rfl,hy⟩;let ey:=hy _ (ah.of Us);rw[aH,Rt]at ey;cases ey;let s5:=ax (o:=.tup [.int i,.int fs[i]]) hT;let e5:aa H4 T' (.tup [.int i,.int fs[i]]) T'=some (.tup [.int i,.int fs[i]]):=ar;generalize aa H4 T' (.tup [.int i,.int fs[i]])=H5 at s5 e5⊢;let SX:=S5.same s5;let b5:=b4.trans s5.but;let h5:=h.but hD b5;let WU:=WV.keep λb u _ z=>s5 _ _ z
    w_on
    erw[cy h5.m ia]
    w_on
    rcases h5.bo.val fs[i]with⟨z,q,hq,aq,eq,dg,eb⟩|⟨z,_⟩
    .show(x.bo,_,rfl,dg,?_)
     w_on
     erw[cy h5.m zO]
     w_on
     let We:=ok.so q hq;show(d,c,aq,S,as,cs,q.2,slip,_,ly,rfl,SX,.inr eb,WU,Va,SX.ne_tup eb,WU.nin eb,da,ca,Sa,XE,by split<;>lia,We.2.2.2.2.1,λt ht hm=>?_,WY,sl,by rw[<-WU.n];lia,λH6 cs6 To Ua k6 ok6 m6=>?_)
     .let(p,hp,z1,z2):=m4 t hm;let e1:=ok.ap p hp q hq t z2 ht;rw[e1,eq]at z1;let(a,ha,ea):=Re.mp z1;rw[d_]at ha;rw[oi]at ea;show Rc.mp ndf a i () hi () ea
     .w_on
      show(cs6,_,_,rfl,To,bt b5 k6,k6 _ _ ZN Na (s5 _ _ Us),Ua,ok6,λt ht=>?_)
      rcases m6 t ht with y|y
      .let(p,hp,z1,z2):=m4 t y;show(p,hp,by rw[gU Rt];show fX _ z1,z2)
      .show(q,hq,by rw[gU Rt,eq];show cF _ (Ra.mpr rfl),y)
    .show absurd (mf _ (cG hi)) z
  clear RT b3 WG ss3 H3;ext Z4 H4 ⟨cs,v6,v7,rfl,S5,b4,Us,WV,WY,m4⟩;erw[e_ (λZ' H'=>∃cs,Z'=[some (.ref d),some (.ref x.m),some (.ref N),some (.bl jn),some (.int ly),some (.ref S),v6,v7,none,none]/\bQ H' d c/\bS d H H'/\H' N=some (.lst (fs.map V.int))/\ie H' S as cs/\mD slip cs/\∀t∈cs.flatten,1<=t/\t<=60) (λMM RR Bk Ct mi ri=>?_)]
  .w_on
   show(x,slip,day,Rj,bs,rfl,h.but hD b4,Vb,λL H5 s5 e5=>?_);let SX:=S5.same s5
   w_on
   show(d,c,13,rfl,SX,by decide,by decide,λr H6 r0 r1 To b6=>?_);let e6:=SX.ints b6 e5;let lL:((dG Rj).filter (dZ bs)).length<=60:=cf (fW _ _) (by unfold dG;rw[au,gL];show Vb)
   w_on
   show(d,c,L,_,r,rfl,To,ah.of e6,(),(),(),λp2 H7 Vj ls2 UZ b7 fp hp7 pf lf2=>?_);let b57:=s5.but.trans (b6.trans b7);let h7:=h.but hD (b4.trans b57);let YW:∀b∈as,b≠d:=λb hb=>(fa b hb).2.1;let Ua:=WV.keep λb u z e=>b6 _ _ (z.elim (λy=>y▸XE) λy=>YW _ y) (s5 _ _ e);let ss7:=Ua.keep λb u z e=>b7 _ _ (z.elim (λy=>y▸XE) λy=>YW _ y) e
   let np:p2∉as:=λhm=>by
    let(i,hi,ei):=Re.mp hm;have:=Ua.e i _ (cs[i]'(by rw[<-Ua.n];show hi)) (aK hi) (aK _);rw[ei,fp]at this;cases this
   let sub:∀t∈Vj,t∈(dG Rj).filter (dZ bs):=λt ht=>pf.mem_iff.mp (fX _ ht)
   w_on
   erw[cy h7.m zO]
   w_on
   show(d,c,p2,S,as,cs,Vj,slip,0,1,rfl,UZ,.inl hp7,ss7,Va,UZ.ne_ints hp7,np,da,ca,Sa,XE,by decide,(Gi.mp (pf.nodup_iff.mpr ((Ge _).filter _))).1,λt ht hm=>?_,WY,sl,by rw[<-ss7.n];lia,λH8 cs8 WI ss8 k8 Xx m8=>?_)
   .let(p,hp,z):=m4 t hm;show Gf (Ah.mp (sub t ht)).2 p hp z
   .w_on
    show(cs8,rfl,WI,bt (b4.trans b57) k8,k8 _ _ ZN Na (b57 _ _ ZN Us),ss8,Xx,λt ht=>?_)
    rcases m8 t ht with y|y
    .let(p,hp,z):=m4 t y;show(ok.so p hp).2.2.2.2.2 t z
    .have:=Gd.mp (Ah.mp (sub t y)).1;lia
  clear S5 b4 Us WV WY m4 H4;ext Z5 H5 ⟨cs,rfl,SX,b5,hN5,WU,ok5,m5⟩
  w_on
  show(d,c,2,rfl,SX,by decide,by decide,λr H6 r0 r1 To b6=>?_);let YW:∀b∈as,b≠d:=λb hb=>(fa b hb).2.1;let Ua:=WU.keep λb u z e=>b6 _ _ (z.elim (λy=>y▸XE) λy=>YW _ y) e;let hN6:=SX.ints b6 hN5;let b6':=b5.trans b6
  w_on
  generalize decide (V.int r=V.int 1)=tn;clear SX b5 hN5 WU b6 H5;erw[e_ (λZ' H'=>∃(M:Addr) (ts:Tk),Z'=[some (.ref d),some (.ref x.m),some (.ref N),some (.bl jn),some (.int ly),some (.ref S),v6,v7,some (.bl tn),some (.ref M)]/\aC H6 H'/\H' M=some (.lst (ts.map V.ref))/\jX H' ts (gJ tn cs)) (λMM RR Bk Ct mi ri=>?_)]
  .w_on
   show(S,rfl,(_,ah.of Ua.l),?_);let lcs:=Ua.n;erw[gG (λi ys Z' H'=>aC H6 H'/\(∃v,Z'=[v,some (.bl tn)])/\∃ts:Tk,ys=ts.map V.ref/\ts.length<=i/\jX H' ts (gJ tn (cs.take i))) cs.length (aC.refl _,(_,rfl),[],rfl,aD _,rfl,λi t p e=>by simp at e) ?_]
   .ext ys Z' H7 ⟨s7,_,ts,rfl,lt,tt⟩;rw[fk]at tt;show((_,ah.of (s7 _ _ Ua.l),by rw[au];lia),λM hM=>?_);let s8:=ax (o:=.lst (ts.map V.ref)) hM
    w_on
    show(M,ts,rfl,s7.trans s8,ar,tt.same s8)
   .ext MM mi i ys Z' H7 hi ⟨s7,⟨v,rfl⟩,ts,rfl,lt,tt⟩;let ai:as[i]?=some (as[i]'()):=aK _;generalize as[i]'()=u at ai;let ci:cs[i]?=some cs[i]:=aK hi;let hu:=s7 _ _ (Ua.e i u _ ai ci);let hS7:=s7 _ _ Ua.l;let et:cs.take (i+1)=cs.take i++[cs[i]]:=gU ci;let lci:=ok5.l _ (cG hi);generalize cs[i]=cc at ci hu et lci;show((_,.ref u,ah.of hS7,by rw[aH,ai];rfl),cA (by rw[au];lia),?_);ext y G ⟨rfl,hy⟩;let ey:=hy _ (ah.of hS7);rw[aH,ai]at ey;cases ey
    w_on
    show(by change 0<=sizeLine;decide,λe0 Vx=>?_);let s8:=ax (o:=.lst []) Vx;let e8:aa G e0 (.lst []) e0=some (.lst (([]:LE).map V.int)):=ar;generalize aa G e0 (.lst [])=H8 at s8 e8⊢;erw[wt (s8 _ _ hu) e8];let hu8:=s8 _ _ hu
    w_on
    show bZ (λz=>?_) (λz=>?_)
    .let em:gJ tn (cs.take (i+1))=gJ tn (cs.take i)++[jA tn cc]:=by
      unfold gJ;rw[et,iN,bO];simp only[j7,mJ];rw[bf (show(!decide (cc=[]))=true from z)];rfl
     let fin:∀(q:Addr) H9,aC H8 H9->H9 q=none->∃m',m'<cs.length - i/\(i+1<=cs.length/\m'=cs.length - (i+1)/\MM (i+1) (ts.map V.ref++[.ref q]) [some (V.ref u),some (.bl tn)] (aa H9 q (.tup ((jA tn cc).map V.int)))):=λq H9 s9 hq=>by
      let s10:=ax (o:=.tup ((jA tn cc).map V.int)) hq
      show cu hi<|mi ((s7.trans (s8.trans s9)).trans s10,(_,rfl),ts++[q],by rw[bO];rfl,by rw[c6];change ts.length+1<=_;lia,by rw[em,c6,c6,tt.1];rfl,λj t p y1 y2=>?_)
      rw[em]at y2;let l1:=tt.1
      rcases oh j ts.length with w|w|w
      .rw[iL w]at y1;rw[iL ()]at y2;show s10 _ _ (s9 _ _ (s8 _ _ (tt.2 j t p y1 y2)))
      .subst w;rw[fj (aD _),Nat.sub_self]at y1;rw[fj (),show ts.length - (gJ tn (cs.take i)).length=0 by lia]at y2;cases y1;cases y2;show ar
      .rw[fj (),gp (by simp;lia)]at y1;cases y1
     w_on
     cases tn with
     |true=>
      erw[br]
      w_on
      show(u,_,rfl,rfl,ah.of hu8,λq hq=>?_);let s9:=ax (o:=.lst (cc.map V.int).reverse) hq
      w_on
      show iW (ah.of ar) λq' TV=>?_;have:=fin q' _ s9 TV;rw[show jA true cc=cc.reverse from rfl,List.map_reverse]at this;show this
     |false=>
      erw[bB]
      w_on
      show iW (ah.of hu8) λq' TV=>?_;show fin q' _ (aC.refl _) TV
    .let em:gJ tn (cs.take (i+1))=gJ tn (cs.take i):=by
      unfold gJ;rw[et,iN,bO];simp only[j7,mJ];rw[aO (by rw[show(!decide (cc=[]))=false from z];decide),qY,jD]
     w_on
     show cu hi<|mi (s7.trans s8,(_,rfl),ts,rfl,(),by rw[em];show tt.same s8)
  ext Z7 H7 ⟨M,ts,rfl,s7,hM,tt⟩;let UZ:=To.same s7;let hN7:=s7 _ _ hN6;let b7:=b6'.trans s7.but;let lcs:=Ua.n;let so:=QJ (b:=tn) ok5 () m5
  let nmr:∀t∈fs,10<=t/\t<=4007:=λt ht=>by
   let(p,hp,rfl):=Ag.mp (mf t ht);have:=ok.so p hp;lia
  clear To hN6 b6' Ua s7;generalize gJ tn cs=ag at tt so
  let last:∀H8,aC H7 H8->(1<=fs.length+ag.length)->∀t1,H8 t1=none->∀t2,aa H8 t1 (.tup (fs.map V.int)) t2=none->∀t3,aa (aa H8 t1 (.tup (fs.map V.int))) t2 (.tup (ts.map V.ref)) t3=none->Q (.ref t3) (aa (aa (aa H8 t1 (.tup (fs.map V.int))) t2 (.tup (ts.map V.ref))) t3 (.tup [.str "refit",.ref t1,.ref t2])):=by
   ext H8 s8 l1 t1 f1 t2 f2 t3 f3;let z1:=ax (o:=.tup (fs.map V.int)) f1;let z2:=ax (o:=.tup (ts.map V.ref)) f2;let z3:=ax (o:=.tup [.str "refit",.ref t1,.ref t2]) f3;let sa:=s8.trans (z1.trans (z2.trans z3));show k t3 _ (.refit fs ag) (UZ.same sa) (b7.trans sa.but) (t1,t2,ar,z3 _ _ (z2 _ _ ar),ts,z3 _ _ ar,tt.same sa) (sl,(),nmr,ndf,so,l1) lf
  w_on
  show(by change 0<=sizeLine;decide,λe0 Vx=>?_);let s8:=ax (o:=.lst []) Vx;let e8:aa H7 e0 (.lst []) e0=some (.lst (([]:LE).map V.int)):=ar;generalize aa H7 e0 (.lst [])=H8 at s8 e8⊢;erw[wt (s8 _ _ hN7) e8]
  w_on
  show bZ (λz=>?_) (λz=>?_)
  .w_on
   show(by change 0<=sizeLine;decide,λe1 Xa=>?_);let s9:=ax (o:=.lst []) Xa;let e9:aa H8 e1 (.lst []) e1=some (.lst []):=ar;generalize aa H8 e1 (.lst [])=H9 at s9 e9⊢;let WX:=s8.trans s9;erw[tI (WX _ _ hM) e9]
   w_on
   show bZ (λz2=>?_) (λz2=>?_)
   .w_on
    show(d,c,60,rfl,UZ.same WX,by decide,by decide,λr RL r0 r1 U0 V6=>?_)
    w_on
    show(by change 2<=sizeLine;decide,λq hq=>?_);let s11:=ax (o:=.tup [.str "clear",.int (1+r)]) hq;show k q _ (.clear (1+r)) (U0.same s11) ((b7.trans (WX.but.trans V6)).trans s11.but) ar ((),()) trivial
   .w_on
    show iW (ah.of (WX _ _ hN7)) λt1 h1=>?_;let z1:=ax (o:=.tup (fs.map V.int)) h1
    w_on
    show iW (ah.of (z1 _ _ (WX _ _ hM))) λt2 h2=>?_
    w_on
    show(by change 3<=sizeLine;decide,λt3 h3=>last _ WX ?_ t1 h1 t2 h2 t3 h3)
    cases ts with
    |nil=>cases z2
    |cons y r=>have:=tt.1;rw[kC]at this;lia
  .erw[bB]
   w_on
   show iW (ah.of (s8 _ _ hN7)) λt1 h1=>?_;let z1:=ax (o:=.tup (fs.map V.int)) h1
   w_on
   show iW (ah.of (z1 _ _ (s8 _ _ hM))) λt2 h2=>?_
   w_on
   show(by change 3<=sizeLine;decide,λt3 h3=>last _ s8 ?_ t1 h1 t2 h2 t3 h3)
   cases fs with
   |nil=>show absurd z (by decide)
   |cons y r=>rw[kC];lia
def bz.but{H H':Hp}{B:Addr->Prop}{x:BA}{slip day:Int}{Rj:Nat}{bs:List (Int×LE)}{cs:LE}{n:Nat}{d c:Addr}(h:bz H B x slip day Rj bs cs n)(hD:bQ H d c)(nd:¬B d)(b:bS d H H'):bz H' B x slip day Rj bs cs n:=
 h.keep (λa o z e=>b a o (λy=>nd (y▸z)) e) (λ_ _ z=>hD.tup b z) (λ_ z=>z) (λ_=>.inl) (aD _) λ_ z=>z
def i6.one{slip:Int}{s:LE}(h1:1<=s.length)(h2:(s.length:Int)<=slip)(sl:slip<=12)(nd:s.Nodup)(r:∀t∈s,1<=t/\t<=60):i6 slip [s]:=
 (show 1<=8 by decide,λc hc=>by rw[Ra.mp hc];show(h1,h2,r),by simpa using nd,by simp;lia)
def Ae:Sp:=λvs H Q _=>∃(d c:Addr) (x:BA) (B:Addr->Prop) (slip day:Int) (Rj:Nat) (bs:List (Int×LE)) (cs:LE) (n:Nat) (nm:Int),vs=[.ref d,.ref x.m,.int nm]/\bQ H d c/\bz H B x slip day Rj bs cs n/\¬B d/\Rj<=60/\slip<=12/\nm∈bs.map (·.1)/\nm∈cs/\∀p H' y,bQ H' d c->bS d H H'->fT H' p y->y.ok slip->Ab y->Q (.ref p) H'
abbrev Af:Stmt:=bj 97
abbrev QN:List Str:=["_law_draw","_law_m","_law_name","_law_boat","_law_gone","_law_fresh","_law_new_here"]
def QO:bc QN ["_law_draw","_law_m","_law_name"] (aW Af):=bh
def QP{f:Addr}{fd:FuncData}(F:aY K "_law_drift" "_law_drift" Af f fd)(T:bC mg)(dv:ba P w K mg base "_law_take" 1 ["_law_draw","_law_many"] mw)(ja:ba P w K mg base "_law_some" 2 ["_law_draw","_law_pool","_law_many"] (pS K))(iR:ba P w K mg base "_law_loose" 2 ["_law_m"] n_):aN P w K mg base aU 3 f fd ["_law_draw","_law_m","_law_name"] Ae:=by
 show F.ok QO (λvs H Q E h=>?_) (λaP A outer s H vs Q E hr h=>?_)
 .let(_,_,_,_,_,_,_,_,_,_,_,rfl,_):=h;rfl
 .let(d,c,x,B,slip,day,Rj,bs,cs,n,nm,rfl,hD,h,nd,Vb,sl,hn,hc,k):=h
  show(_,(aG (qV 3 (qZ K T (qD hr.units (qD hr.units (pv 1) aT) (pv 2))))
   (aG (qV 4 (pC ja (ab (pv 0) (ab (pv 3) (ab (pC dv (ab (pv 0) (ab (bg cT ay (bg oT (bg mQ (qN K T (pv 3)) ay) ay)) ak))) ak)))))
   (aG (qL 5 (cX ["_law_timber"] [(1,"_law_m",),(2,"_law_name",)]) (cU (K:=K) rfl (pC iR (ab (pv 1) ak))) (by ext _ _ _ _ _;show(qG 0)) (by ext _ _ _ _ _;show(gQ (qE (sk (K:=K) rfl) (pv 0) (qT K (qI K (qD hr.units (qD hr.units (pv 1) aT) (pv 2)) ay) ay)))) (by ext _ _ _ _ _;show(pv 0)))
   (aG (qL 6 (cX ["_law_timber"] [(4,"_law_gone",)]) (cU (K:=K) rfl (pv 3)) (by ext _ _ _ _ _;show(qG 0)) (by ext _ _ _ _ _;show(gQ (qE (sk (K:=K) rfl) (pv 0) (pv 1)))) (by ext _ _ _ _ _;show(pv 0)))
   (aG (qV 6 (bg kT (pv 6) (pC ja (ab (pv 0) (ab (pv 5) (ab (cg (Ed rfl) (by rfl) T.z_min Eg (ab (bg mQ (qD hr.units (pv 1) aT) (qN K T (pv 6))) (ab (pC dv (ab (pv 0) (ab (bg cT ay (qN K T (pv 4))) ak))) ak))) ak))))))
   (aA (aQ (cp (ab aT (ab (cp (ab (pv 2) ak)) (ab (cp (ab (qU K T (pv 6)) ak)) ak))))))))))),?_)
  kd_p
  erw[cy h.m ia]
  kd_p
  rcases h.bo.val nm with⟨_,q,hq,aq,eq,dg,eb⟩|⟨z,_⟩
  rotate_left
  .show absurd hn z
  show(x.bo,_,rfl,dg,?_)
  kd_p
  let We:=h.ok.so q hq;let r60:=We.2.2.2.2.2;show nz (.inr (az.of eb)) λL hL=>?_;let s1:=ax (o:=.lst (q.2.map V.int)) hL;let e1:aa H L (.lst (q.2.map V.int)) L=_:=ar;generalize aa H L (.lst (q.2.map V.int))=H1 at s1 e1⊢;let TC:=hD.same s1
  kd_p
  rw[au];show(d,c,_,rfl,TC,?_,pT ?_ ?_,λr H2 r0 r1 RG b2=>?_)
  .have:=Int.ediv_nonneg (a:=(q.2.length:Int) - 1) (b:=2) () (by decide);lia
  .have:=Int.ediv_nonneg (a:=(q.2.length:Int) - 1) (b:=2) () (by decide);lia
  .lia
  let e2:=TC.ints b2 e1;let Zn:=s1.but.trans b2
  kd_p
  show(d,c,L,q.2,r,rfl,RG,ah.of e2,(),(),(),λG H3 fs ls RT b3 fG hG pf lf=>?_);let e3:=RG.ints b3 e2;let b03:=Zn.trans b3;let h3:=h.but hD nd b03
  kd_p
  show(x,slip,day,Rj,bs,rfl,h3.r,Vb,λLo H4 s4 e4=>?_);let h4:=h3.same s4;let lL:((dG Rj).filter (dZ bs)).length<=60:=cf (fW _ _) (by unfold dG;rw[au,gL];show Vb);let(lc,el,ll,lr,lx):=h4.ch
  obtain⟨v,ev⟩:∃v,aM lc (.inl nm)=some v:=by
   cases e:aM lc (.inl nm)with
   |none=>show absurd e (lx nm hc)
   |some v=>show(v,rfl)
  let(ca,vs,rfl,_,hca,nev,_,Xs):=lr _ _ ev
  obtain⟨Xu,vr,rfl⟩:∃a r,vs=a::r:=by
   cases vs with
   |nil=>show absurd rfl nev
   |cons a r=>show(a,r,rfl)
  let(dd,bb,ms,hr1,Ug):=Xs Xu (gK ..);show(Lo,rfl,(_,ah.of e4),?_);erw[wu (Z0:=[some (.ref x.m),some (.int nm)]) (f:=λz=>!decide (z∈ms)) () (ah.of e4) ?_]
  .ext z R hR
   kd_p
   erw[cy h4.m zP]
   kd_p
   show(x.ch,.ref ca,rfl,by rw[<-ev];show cV (k:=.inl nm) (.of el),?_)
   kd_p
   erw[iB (ah.of hca) (jQ (j:=0) (v:=.ref Xu) rfl)]
   kd_p
   erw[Ej (.inr (az.of Ug))]
   kd_p
   show hR
  ext Fr hFr;generalize efr:((dG Rj).filter (dZ bs)).filter (λz=>!decide (z∈ms))=fr at hFr⊢
  let sub:∀t∈fr,t∈(dG Rj).filter (dZ bs):=λt ht=>by rw[<-efr]at ht;show(Ah.mp ht).1
  let ndr:fr.Nodup:=by rw[<-efr];show((Ge _).filter _).filter _
  let lfr:fr.length<=60:=by rw[<-efr];show cf (fW _ _) lL
  let s5:=ax (o:=.lst (fr.map V.int)) hFr;let e5:aa H4 Fr (.lst (fr.map V.int)) Fr=_:=ar;generalize aa H4 Fr (.lst (fr.map V.int))=H5 at s5 e5⊢;let YL:=s4.trans s5;let VX:=YL _ _ hG;let eL5:=YL _ _ e3;let SX:=RT.same YL;let b05:=b03.trans YL.but;clear e4 h4 el ll lr lx ev hca Xs hr1 Ug s4 s5
  kd_p
  show(L,rfl,(_,ah.of eL5),?_);erw[wu (Z0:=[some (.ref G)]) (f:=λz=>!decide (z∈fs)) () (ah.of eL5) ?_]
  .ext z R hR
   kd_p
   erw[E5 (ah.of VX)]
   kd_p
   show hR
  ext Nw hNw;let lp:=pf.length_eq;rw[c6]at lp;let ndp:=pf.nodup_iff.mpr We.2.2.2.2.1
  let Uy:1<=(q.2.filter λz=>!decide (z∈fs)).length:=by
   have:1<=ls.length:=()
   cases ls with
   |nil=>cases this
   |cons y r=>
    show List.length_pos_of_mem (a:=y) (Ah.mpr (pf.mem_iff.mp (cF _ (gK ..)),?_));rw[cW λz=>(Gi.mp ndp).2.2 y z y (gK ..) rfl];rfl
  let lnw:(q.2.filter λz=>!decide (z∈fs)).length<=q.2.length:=fW _ _;let Wb:∀t∈q.2.filter (λz=>!decide (z∈fs)),t∈q.2:=λt ht=>(Ah.mp ht).1;let ndn:(q.2.filter λz=>!decide (z∈fs)).Nodup:=We.2.2.2.2.1.filter _;generalize q.2.filter (λz=>!decide (z∈fs))=nw at hNw Uy lnw Wb ndn⊢;let s6:=ax (o:=.lst (nw.map V.int)) hNw;let e6:aa H5 Nw (.lst (nw.map V.int)) Nw=_:=ar;generalize aa H5 Nw (.lst (nw.map V.int))=H6 at s6 e6⊢;let To:=SX.same s6;let b06:=b05.trans s6.but;let h6:=h.but hD nd b06;let hG6:=s6 _ _ VX
  kd_p
  erw[cy h6.m zO]
  kd_p
  show(d,c,_,rfl,To,(),pT () (by rw[au];lia),λr' H7 ZA jd7 UZ b7=>?_);let e7:=To.ints b7 e6;let f7:=To.ints b7 (s6 _ _ e5);let b07:=b06.trans b7
  kd_p
  rw[au];generalize emm:(if r'<slip - (nw.length:Int)then r' else slip - (nw.length:Int))=mm
  let m1:0<=mm/\mm<=slip - nw.length:=by split at emm<;>lia
  show(d,c,Fr,fr,mm,rfl,UZ,ah.of f7,(),(),(),λS2 H8 Vj ls2 WI b8 _ hS8 pf2 lf2=>?_);let e8:=UZ.ints b8 e7;let b08:=b07.trans b8;show l5 e8 hS8 (j9 (cA (by rw[au,au];lia))) λZz hZ=>?_;rw[<-bO];let s9:=ax (o:=.lst ((nw++Vj).map V.int)) hZ;let e9:aa H8 Zz (.lst ((nw++Vj).map V.int)) Zz=_:=ar;generalize aa H8 Zz (.lst ((nw++Vj).map V.int))=H9 at s9 e9⊢;let Yp:=WI.same s9;let b09:=b08.trans s9.but;let Xn:∀t∈Vj,t∈fr:=λt ht=>pf2.mem_iff.mp (fX _ ht)
  kd_p
  show(by change 1<=sizeLine;decide,λt1 h1=>?_);let z1:=ax (o:=.tup [.int nm]) h1
  kd_p
  show iW (ah.of (z1 _ _ e9)) λt2 h2=>?_;let z2:=ax (o:=.tup ((nw++Vj).map V.int)) h2
  kd_p
  show(by change 1<=sizeLine;decide,λt3 h3=>?_);let z3:=ax (o:=.tup [.ref t2]) h3
  kd_p
  show(by change 3<=sizeLine;decide,λt4 h4=>?_);let z4:=ax (o:=.tup [.str "refit",.ref t1,.ref t3]) h4;let za:=z1.trans (z2.trans (z3.trans z4))
  let so:i6 slip [nw++Vj]:=by
   show i6.one (by rw[c6];lia) (by rw[c6];lia) sl (Gi.mpr (ndn,(Gi.mp (pf2.nodup_iff.mpr ndr)).1,λa ha b hb e=>?_)) λt ht=>?_
   .show Gf (Ah.mp (sub _ (Xn b hb))).2 q hq (e▸Wb a ha)
   .rcases ui.mp ht with y|y
    .show r60 t (Wb t y)
    .have:=Gd.mp (Ah.mp (sub t (Xn t y))).1;lia
  show k t4 _ (.refit [nm] [nw++Vj]) (Yp.same za) (b09.trans za.but) (t1,t3,ar,z4 _ _ (z3 _ _ (z2 _ _ ar)),[t2],z4 _ _ ar,rfl,λi t ys w1 w2=>?_) (sl,show 1<=8 by decide,λy hy=>?_,∅,so,show 1<=2 by decide) (show 1<=3 by decide)
  .cases i with
   |zero=>cases w1;cases w2;show z4 _ _ (z3 _ _ ar)
   |succ j=>simp at w1
  .rw[Ra.mp hy,<-eq];show(We.1,We.2.1)
section
variable{CY CD aL:Addr}{H H':Hp}{S S':YP}{b:Addr}
def YT.at(h:YT CY CD aL H S)(hb:Ft S b):∃o,H b=some o/\∀xs,o≠ .tup xs:=by
 rcases hb with rfl|rfl|rfl|rfl|rfl|rfl|rfl|⟨i,hi,rfl⟩|⟨x,hx,rfl⟩
 .show(_,h.y,nofun)
 .show(_,h.w,nofun)
 .show(_,h.c,nofun)
 .show(_,h.we,nofun)
 .show(_,h.b,nofun)
 .let(l,e,_):=h.nm;show(_,e,nofun)
 .let(l,e,_):=h.tm;show(_,e,nofun)
 .let(ws,tp,d,pp,e,_):=h.ln i hi;show(_,e,nofun)
 .let((ts,Bs,e,_),_):=h.ch x hx;show(_,e,nofun)
def YT.ntup(h:YT CY CD aL H S){xs:LT}(e:H b=some (.tup xs)):¬Ft S b:=λhb=>by
 let(o,z,n):=YT.at h hb
 grind
def YT.nfr(h:YT CY CD aL H S)(e:H b=none):¬Ft S b:=λhb=>by
 let(o,z,_):=YT.at h hb
 grind
def YT.nlst0{a:YA}{m:Int}(h:YT CY CD aL H (y0 a m)){xs:LT}(e:H b=some (.lst xs)):¬Ft (y0 a m) b:=λhb=>by
 rcases hb with rfl|rfl|rfl|rfl|rfl|rfl|rfl|⟨i,hi,rfl⟩|⟨x,hx,rfl⟩
 .have:=h.y.symm.trans e;cases this
 .have:=h.w.symm.trans e;cases this
 .have:=h.c.symm.trans e;cases this
 .have:=h.we.symm.trans e;cases this
 .have:=h.b.symm.trans e;cases this
 .let(l,z,_):=h.nm;have:=z.symm.trans e;cases this
 .let(l,z,_):=h.tm;have:=z.symm.trans e;cases this
 .show absurd hi (iO _)
 .show(bF hx).elim
def YT.keep(h:YT CY CD aL H S)(k:∀b o,Ft S b->H b=some o->H' b=some o)(t:∀b xs,H b=some (.tup xs)->H' b=some (.tup xs)):YT CY CD aL H' S:=by
 let w':=k _ _ (.inr (.inl rfl)) h.w;let e':=k _ _ (.inr (.inr (.inr (.inl rfl)))) h.we;show((k _ _ (.inl rfl) h.y,.inl w',k _ _ (.inr (.inr (.inl rfl))) h.c,.inl e',k _ _ (.inr (.inr (.inr (.inr (.inl rfl))))) h.b,h.nm.keep λ_ z=>k _ _ (.inr (.inr (.inr (.inr (.inr (.inl rfl)))))) z,h.tm.keep λ_ z=>k _ _ (.inr (.inr (.inr (.inr (.inr (.inr (.inl rfl))))))) z,λi hi=>(h.ln i hi).keep (λ_ z=>k _ _ (.inr (.inr (.inr (.inr (.inr (.inr (.inr (.inl (i,hi,rfl))))))))) z) t,λb hb=>((h.ch b hb).1.keep (λ_ z=>k _ _ (.inr (.inr (.inr (.inr (.inr (.inr (.inr (.inr (b,hb,rfl))))))))) z) t,(h.ch b hb).2),h.n60,h.b8,h.nd),w',e',h.dd,h.fi,h.gi,h.fg)
structure Lw(CY CD aL:Addr)(H:Hp)(S:YP)(B:Addr->Prop)(x:BA)(slip day:Int)(Rj:Nat)(bs:List (Int×LE))(n:Nat)(d c F0 P0 p1 p2:Addr)(fi:LE):Prop where
 D:bQ H d c
 Y:YT CY CD aL H S
 K:bz H B x slip day Rj bs (bs.map (·.1)) n
 F:H F0=some (.lst (fi.map V.int))
 P:H P0=some (.lst [.ref p1,.ref p2])
 f1:fT H p1 (.fell 60)
 f2:fT H p2 (.refit [] [fi])
 ap:∀b,B b->¬Ft S b
 ex:∀b∈[d,c,F0,P0],¬B b/\¬Ft S b
variable{B B':Addr->Prop}{x x':BA}{slip day day':Int}{Rj RH:Nat}{bs bs':List (Int×LE)}{n n':Nat}{d c F0 P0 p1 p2:Addr}{fi:LE}
def Lw.same(h:Lw CY CD aL H S B x slip day Rj bs n d c F0 P0 p1 p2 fi)(s:aC H H'):Lw CY CD aL H' S B x slip day Rj bs n d c F0 P0 p1 p2 fi:=
 (h.D.same s,h.Y.same s,h.K.same s,s _ _ h.F,s _ _ h.P,h.f1.same s,h.f2.same s,h.ap,h.ex)
def Lw.but(h:Lw CY CD aL H S B x slip day Rj bs n d c F0 P0 p1 p2 fi)(hD:bQ H' d c)(b:bS d H H'):Lw CY CD aL H' S B x slip day Rj bs n d c F0 P0 p1 p2 fi:=by
 let tk:∀b xs,H b=some (.tup xs)->H' b=some (.tup xs):=λ_ _ z=>h.D.tup b z;let e:=h.ex d ∅
 let np:P0≠d:=by
  let(_,_,_,_,z,_):=h.D;show bp h.P z (λy=>by injection y with y;cases y)
 show(hD,h.Y.keep (λa o z y=>b _ _ (λq=>e.2 (q▸z)) y) tk,h.K.but h.D e.1 b,h.D.ints b h.F,b _ _ np h.P,h.f1.keep tk,h.f2.keep tk,h.ap,h.ex)
def Lw.yard(h:Lw CY CD aL H S B x slip day Rj bs n d c F0 P0 p1 p2 fi)(Y:YT CY CD aL H' S')(st:bK (Ft S) (Ft S') H H'):Lw CY CD aL H' S' B x slip day Rj bs n d c F0 P0 p1 p2 fi:=by
 let tk:∀b xs,H b=some (.tup xs)->H' b=some (.tup xs):=λ_ _ z=>st.1 _ _ (h.Y.ntup z) z;let(ns,a,r,e,z1,z2,z3,z4):=h.D;let E:∀b∈[d,c,F0,P0],∀o,H b=some o->H' b=some o:=λb hb o z=>st.1 _ _ (h.ex b hb).2 z;show((ns,a,r,e,E d ∅ _ z1,E c ∅ _ z2,z3,z4),Y,h.K.keep (λb o z y=>st.1 _ _ (h.ap b z) y) tk (λ_ z=>z) (λ_=>.inl) (aD _) (λ_ z=>z),E F0 ∅ _ h.F,E P0 ∅ _ h.P,h.f1.keep tk,h.f2.keep tk,λb hb=>?_,λb hb=>((h.ex b hb).1,?_))
 .let(o,z):=h.K.al b hb;show st.not (h.ap b hb) z
 .have:∃o,H b=some o:=by
   have:=h.F;have:=h.P
   grind
  let(o,z):=this;show st.not (h.ex b hb).2 z
def Lw.book(h:Lw CY CD aL H S B x slip day Rj bs n d c F0 P0 p1 p2 fi)(t:bA B B' H H')(K':bz H' B' x' slip day' RH bs' (bs'.map (·.1)) n'):Lw CY CD aL H' S B' x' slip day' RH bs' n' d c F0 P0 p1 p2 fi:=by
 let E:∀b∈[d,c,F0,P0],∀o,H b=some o->H' b=some o:=λb hb o z=>t.st.1 _ _ (h.ex b hb).1 z;let(ns,a,r,e,z1,z2,z3,z4):=h.D;show((ns,a,r,e,E d ∅ _ z1,E c ∅ _ z2,z3,z4),h.Y.keep (λb o z y=>t.st.1 _ _ (λq=>h.ap b q z) y) t.tk,K',E F0 ∅ _ h.F,E P0 ∅ _ h.P,h.f1.keep t.tk,h.f2.keep t.tk,λb hb hf=>?_,λb hb=>(?_,(h.ex b hb).2))
 .rcases t.st.2 b hb with z|z
  .show h.ap b z hf
  .show h.Y.nfr z hf
 .have:∃o,H b=some o:=by
   have:=h.F;have:=h.P
   grind
  let(o,z):=this;show t.st.not (h.ex b hb).1 z
end
noncomputable def wdLook(K:W.Frag)(a:Addr)(x:Str):Bool:=match K.lookup a with
 |some o=>(match o.cls with|.type "tuple"=>true|_=>false) && match o.data with
  |.seq av _=>(match av.toList with|[.str y _]=>decide (y=x)|_=>false)|_=>false
 |none=>false
def Gg{K:W.Frag}{a:Addr}{x:Str}(h:wdLook K a x=true)(H:Hp):az K H a [.str x]:=by
 unfold wdLook at h;split at h
 .rename_i o e;rw[gq]at h;let(h1,h2):=h;split at h2
  .rename_i av n ed;split at h2
   .rename_i y t el;obtain rfl:=cP h2;show .inr (o,av,n,e,?_,ed,?_,?_)
    .grind
    .have:av.size=1:=by rw[<-gX,el];rfl
     rw[this,iQ];decide
    .rw[el];show .cons (t,rfl) .nil
   .cases h2
  .cases h2
 .cases h
def iK{e:Expr}{es:List Expr}{env:Env}(h:∀s p,e≠ .Starred s p):starEach (e::es) env=(false,eval e env,)::starEach es env:=by
 cases e<;>first|rfl|(show absurd rfl (h _ _))
def uh(K:W.Frag):Sp:=λvs H Q _=>∃(a:Addr) (ns:LE),vs=[.ref a]/\ah K H a (ns.map V.int)/\ns.length<=63/\∀H',Q (.bl true) H'
def Ph(S:YP)(slip:Int)(Rj q i:Nat):Prop:=(i=0/\Rj=0/\∃a,S=y0 a slip)\/(1<=i/\Rj=60/\Inv S i q/\q+1<=i/\S.day=i/\S.most=slip)
structure qz(slip:Int)(i:Nat)(y:fc):Prop where
 ok:y.ok slip
 z:i=0->y=.fell 60
 s:1<=i->Ab y
def qz.fo{slip:Int}{i Rj q:Nat}{S:YP}{y:fc}(h:qz slip i y)(p:Ph S slip Rj q i):zY Rj y/\∀RH,A4 Rj RH y->RH=60:=by
 rcases p with⟨e,m0,_⟩|⟨e,m6,_⟩
 .rw[h.z e,m0];show((rfl,rfl),λ_ z=>z)
 .let s:=h.s e;let ok:=h.ok
  cases y with
  |fell c=>show s.elim
  |refit ns ag=>
   have:=ok.2.2.2.2.1.fl;have:=ok.2.2.2.2.1.l;show(((),ok.2.1,(),()),λ_ z=>z.trans m6)
  |clear t=>show(show Rj<=60 by lia,λ_ z=>z.trans m6)
def qz.ent{slip:Int}{i Rj q:Nat}{S:YP}{y:fc}{H:Hp}{Q:VK}(h:qz slip i y)(p:Ph S slip Rj q i)(hi:i<16)(sl:1<=slip/\slip<=12)
  (k:∀S' q' (wd:Str) H',Inv S' (1+i) q'->q'<=i->S'.a.y=S.a.y->S'.day=1+i->S'.most=slip->YT CY CD aL H' S'->bK (Ft S) (Ft S') H H'->Q (.str wd) H'):y.ok S.most/\S.day<1+i/\u7 CY CD aL (i9 S (1+i)) H Q y:=by
 rcases p with⟨e,_,a,rfl⟩|⟨e,_,I,hq,hd,hm⟩
 .subst e;rw[h.z rfl];show((by decide,by decide),by change(0:Int)<1+0;decide,60,rfl,by change 0+60<=60;decide,by change 0<8900;decide,λ_ _=>rfl,λf' H' Y st=>k (iH (i9 (y0 a slip) (1+((0:Nat):Int))) f' 60) 0 "good" H' ?_ (aD _) rfl rfl rfl Y st);rw[show(1:Int)+((0:Nat):Int)=1 from rfl];show inv_start () f'
 .let ok:=h.ok;rw[<-hm]at ok;show(ok,(),?_);let s:=h.s e
  cases y with
  |fell c=>show s.elim
  |refit ns ag=>show PY I () () () ok s λS' q' wd H' I' TV e1 e2 e3 Y st=>k S' q' wd H' I' () e1 e2 (e3.trans hm) Y st
  |clear t=>show PZ I () λS' q' wd H' I' TV e1 e2 e3 Y st=>k S' q' wd H' I' () e1 e2 (e3.trans hm) Y st
abbrev mE:Stmt:=bj 98
abbrev QQ:List Str:=["_law_script","_law_draw","_law_slip","_law_yard","_law_m","_law_first","_law_plan","_law_k","_law_cast","_law_fact"]
def QR:bc QQ ["_law_script"] (aW mE):=bh
def QS{f:Addr}{fd:FuncData}(F:aY K "law" "law" mE f fd)(T:bC mg)(Bv:ba P w K mg base "_law_begin" 1 ["_law_script"] (xm K))(dv:ba P w K mg base "_law_take" 1 ["_law_draw","_law_many"] mw)(ja:ba P w K mg base "_law_some" 2 ["_law_draw","_law_pool","_law_many"] (pS K))(Bw:ba P w K mg base "_law_new" 1 ["_law_slip"] A7)(iR:ba P w K mg base "_law_loose" 2 ["_law_m"] n_)(Bx:ba P w K mg base "_law_refit" 3 ["_law_draw","_law_m"] Ac)(By:ba P w K mg base "_law_drift" 3 ["_law_draw","_law_m","_law_name"] Ae)(Bz:ba P w K mg base "_law_enter" 5 ["_law_m","_law_day","_law_fact"] A5)(BB:ba P w K mg base "_law_walked" 5 ["_law_yard","_law_day"] (zK CY CD aL))(BC:nI P w K mg base "Yard" CY 3 ["self","slip"] (yQ CY CD aL))(BD:b_ P w K mg base CY "enter" 10 ["self","day","fact"] (zp CY CD aL)):aN P w K mg base aU 11 f fd ["_law_script"] (uh K):=by
 show F.ok QR (λvs H Q E h=>?_) (λaP A outer s H vs Q E hr h=>?_)
 .let(_,_,rfl,_):=h;rfl
 .let(a0,sc,rfl,hS,hl,k):=h;refine'(_,?zz,?_)
  case zz=>
   refine' aG ?s1 ?r1
   case s1=>
    show(qV 1 (pC Bv (ab (pv 0) ak)))
   case r1=>
   refine' aG ?s2 ?r2
   case s2=>
    show(qV 2 (bg cT ay (pC dv (ab (pv 1) (ab ay ak)))))
   case r2=>
   refine' dN ?s3 ?r3
   case s3=>
    show(qV 3 (LW BC (hr.mono ()) (by rfl) (ab (pv 2) ak)))
   case r3=>
   refine' aG ?s4 ?r4
   case s4=>
    show(qV 4 (pC Bw (ab (pv 2) ak)))
   case r4=>
   refine' aG ?s5 ?r5
   case s5=>
    show(qV 5 (pC ja (by show ab (pv 1) (by show ab (eI (Kt rfl) (by rfl) T.z_list Dh (ab (eI Ks (by rfl) T.z_range KL (ab ay (ab ay ak))) ak)) (by show ab (bg cT ay (pC dv (ab (pv 1) (ab (bg mQ (pv 2) ay) ak)))) ak)))))
   case r5=>
   refine' dN ?s6 ?r6
   case s6=>
    show(qV 6 (by refine' dS ?lu;(case lu=>refine' ab ?za1 ?zb1 ?zs1;(case zs1=>first|show iK nofun|rfl);(case za1=>refine' cp ?zt2;(case zt2=>refine' ab ?za3 ?zb3 ?zs3;(case zs3=>first|show iK nofun|rfl);(case za3=>show aT);(case zb3=>refine' ab ?za5 ?zb5 ?zs5;(case zs5=>first|show iK nofun|rfl);(case za5=>show ay);(case zb5=>show ak))));(case zb1=>refine' ab ?za7 ?zb7 ?zs7;(case zs7=>first|show iK nofun|rfl);(case za7=>refine' cp ?zt8;(case zt8=>refine' ab ?za9 ?zb9 ?zs9;(case zs9=>first|show iK nofun|rfl);(case za9=>show aT);(case zb9=>refine' ab ?za11 ?zb11 ?zs11;(case zs11=>first|show iK nofun|rfl);(case za11=>show(cp ak));(case zb11=>refine' ab ?za13 ?zb13 ?zs13;(case zs13=>first|show iK nofun|rfl);(case za13=>refine' cp ?zt14;(case zt14=>refine' ab ?za15 ?zb15 ?zs15;(case zs15=>first|show iK nofun|rfl);(case za15=>show(qU K T (pv 5)));(case zb15=>show ak)));(case zb13=>show ak)))));(case zb7=>show ak)))))
   case r6=>
   refine' aG ?s7 ?r7
   case s7=>
    refine' dC dH rfl ?fi8 ?fg8 ?fb8
    case fi8=>show(oQ (by rfl) T.z_range (ab (bg cT ay (pC dv (ab (pv 1) (ab ay ak)))) ak))
    case fg8=>show(qG 7)
    case fb8=>
     refine' dN ?s9 ?r9
     case s9=>
      show(qL 8 (cX ["_law_timber"] [(4,"_law_m",)]) (cU (K:=K) rfl (pv 5)) (by ext _ _ _ _ _;show(qG 0)) (by ext _ _ _ _ _;show(gQ (qE (jT (K:=K) rfl) (pv 0) (pC iR (ab (pv 1) ak))))) (by ext _ _ _ _ _;show(pv 0)))
     case r9=>
     refine' dN ?s10 ?r10
     case s10=>
      show(qV 9 (by refine' BW ?it17 ?ib17 ?ie17;(case it17=>show(qE mS (pv 7) ay));(case ib17=>show(qI K (pv 6) (pv 7)));(case ie17=>show(pC Bx (ab (pv 1) (ab (pv 4) ak))))))
     case r10=>
     refine' dN ?s11 ?r11
     case s11=>
      show(bx ((jb (qE dI (pv 7) ay) (jb (iS (s_ (cw hr.units) ay (qD hr.units (pv 4) aT))) (kL (qE dI (pC dv (ab (pv 1) (ab ay ak))) ay))))).pt (aA (by show(qV 9 (pC By (by show ab (pv 1) (by show ab (pv 4) (by show ab ay ak))))))) bD)
     case r11=>
     refine' dN ?s12 ?r12
     case s12=>
      show(bx ((jb (qE dI (pv 7) ay) (jb (qE dI (bg fH ay (qN K T (pv 8))) (qN K T (pv 5))) (kL (qE eG (pC dv (ab (pv 1) (ab ay ak))) ay))))).pt (aA (by show(qV 9 (by refine' cp ?zt20;(case zt20=>refine' ab ?za21 ?zb21 ?zs21;(case zs21=>first|show iK nofun|rfl);(case za21=>show aT);(case zb21=>refine' ab ?za23 ?zb23 ?zs23;(case zs23=>first|show iK nofun|rfl);(case za23=>show(cp ak));(case zb23=>refine' ab ?za25 ?zb25 ?zs25;(case zs25=>first|show iK nofun|rfl);(case za25=>refine' cp ?zt26;(case zt26=>refine' ab ?za27 ?zb27 ?zs27;(case zs27=>first|show iK nofun|rfl);(case za27=>show(qU K T (pv 8)));(case zb27=>show ak)));(case zb25=>show ak)))))))) bD)
     case r12=>
     refine' dN ?s13 ?r13
     case s13=>
      show(eB (pM BD (pv 3) (ab (bg cT ay (pv 7)) (ab (pv 9) ak))))
     case r13=>
     refine' aG ?s14 ?r14
     case s14=>
      show(eB (pC Bz (by show ab (pv 4) (by show ab (bg cT ay (pv 7)) (by show ab (pv 9) ak)))))
     case r14=>
     show aA (bx (fu (eh (pC BB (ab (pv 3) (ab (bg cT ay (pv 7)) ak))))) (aA (by show(aQ fQ))) bD)
   case r7=>
   show aA (aQ fQ)
  w_on
  show(a0,sc,rfl,hS,hl,λd c H1 s1 _ _ TC=>?_);clear s1
  w_on
  show(d,c,10,rfl,TC,by decide,by decide,λr H2 r0 r1 RG _=>?_);clear TC
  w_on
  generalize esl:(3:Int)+r=slip
  let sl:3<=slip/\slip<=12:=()
  clear esl r0 r1;erw[e_ (λZ' H'=>∃a:YA,Z'=[some (.ref a0),some (.ref d),some (.int slip),some (.ref a.y),none,none,none,none,none,none]/\bQ H' d c/\YT CY CD aL H' (y0 a slip)) (λMM RR Bk Ct mi ri=>?_)]
  .w_on
   ext y dx hy hdx ne;let s3:=(ax (o:=.own y) hdx).trans (ax (o:=.ins CY dx []) (show aa H2 dx (.own y) y=none by rw[aB (Ne.symm ne)];show hy));show(y,dx,slip,rfl,ar,(),(),λa H4 ea h4 b4=>(rfl,mi (a,by rw[<-ea];rfl,?_,h4)));let(ns,q,r',e,z1,z2,z3,z4):=RG;show(ns,q,r',e,b4 _ _ (bq z1 hy) (s3 _ _ z1),b4 _ _ (bq z2 hy) (s3 _ _ z2),z3,z4)
  clear RG;ext Z2 H2 ⟨a,rfl,RG,Y2⟩
  let YS:¬Ft (y0 a slip) d/\¬Ft (y0 a slip) c:=by
   let(_,_,_,_,z1,z2,_):=RG;show(Y2.nlst0 z1,Y2.nlst0 z2)
  w_on
  show(slip,rfl,λx B H3 K3 s3 fB=>?_);let RT:=RG.same s3;let Y3:=Y2.same s3;let ap:∀b,B b->¬Ft (y0 a slip) b:=λb hb=>Y2.nfr (fB b hb)
  let nB:¬B d/\¬B c:=by
   let((o,z1),(o',z2)):=RG.is;show(λz=>(by rw[fB d z]at z1;cases z1),λz=>(by rw[fB c z]at z2;cases z2))
  clear s3 fB Y2 RG
  w_on
  ext g hg
  w_on
  show KB ar (by decide) (by decide) (by decide) (by decide) (by decide) λl hl=>?_;generalize erg:gR 1 (61 - 1:Int).toNat=rg
  let lrg:rg.length=60:=by rw[<-erg];show ny 1 60
  let ZI:rg.Nodup:=by rw[<-erg];show(Kr 1 60).imp λh z=>()
  let mrg:∀t∈rg,1<=t/\t<=60:=λt ht=>by
   rw[<-erg]at ht;have:=(wj (n:=60)).mp ht;lia
  clear erg;let s4:=(ax (o:=.rng 1 61) hg).trans (ax (o:=.lst (rg.map V.int)) hl);let S3:aa (aa H3 g (.rng 1 61)) l (.lst (rg.map V.int)) l=_:=ar;generalize aa (aa H3 g (.rng 1 61)) l (.lst (rg.map V.int))=H4 at s4 S3⊢;let S5:=RT.same s4
  w_on
  show(d,c,_,rfl,S5,(),pT () (),λr2 H5 r20 r21 SX b5=>?_);let VP:=S5.ints b5 S3
  w_on
  show(d,c,l,rg,3+r2,rfl,SX,ah.of VP,(),(),(),λF0 H6 fi ls To b6 fF hF6 pf lf=>?_);let Zm:=s4.but.trans (b5.trans b6)
  let lfi:3<=fi.length/\(fi.length:Int)<=slip:=()
  let ndi:fi.Nodup:=(Gi.mp (pf.nodup_iff.mpr ZI)).1;let rfi:∀t∈fi,1<=t/\t<=60:=λt ht=>mrg t (pf.mem_iff.mp (fX _ ht));let Zt:i6 slip [fi]:=i6.one () () () ndi rfi;let Xl:∀b xs,H3 b=some (.tup xs)->H6 b=some (.tup xs):=λ_ _ z=>RT.tup Zm z;let Y6:=YT.keep (S:=y0 a slip) Y3 (λb o z y=>Zm _ _ (λq=>YS.1 (q▸z)) y) Xl;let K6:=K3.but RT nB.1 Zm
  let nF:¬B F0/\¬Ft (y0 a slip) F0:=by
   have:H3 F0=none:=SX.free (s4.but.trans b5) fF;show(K3.nin this,YT.nfr (S:=y0 a slip) Y3 this)
  clear RT Y3 K3 S5 SX S3 VP b5 b6 Zm Xl s4 pf lf fF
  w_on
  erw[e_ (λZ' H'=>∃P0 p1 p2,Z'=[some (.ref a0),some (.ref d),some (.int slip),some (.ref a.y),some (.ref x.m),some (.ref F0),some (.ref P0),none,none,none]/\Lw CY CD aL H' (y0 a slip) B x slip 0 0 [] 0 d c F0 P0 p1 p2 fi) (λMM RR Bk Ct mi ri=>?_)]
  .w_on
   show(by change 2<=sizeLine;decide,λp1 h1=>?_);let z1:=ax (o:=.tup [.str "fell",.int 60]) h1;let e1:aa H6 p1 (.tup [.str "fell",.int 60]) p1=_:=ar;generalize aa H6 p1 (.tup [.str "fell",.int 60])=H7 at z1 e1⊢
   w_on
   show(by change 0<=sizeLine;decide,λt1 h2=>?_);let z2:=ax (o:=.tup []) h2;let e2:aa H7 t1 (.tup []) t1=some (.tup (([]:LE).map V.int)):=ar;generalize aa H7 t1 (.tup [])=H8 at z2 e2⊢
   w_on
   show iW (ah.of (z2 _ _ (z1 _ _ hF6))) λt2 h3=>?_;let z3:=ax (o:=.tup (fi.map V.int)) h3;let e3:aa H8 t2 (.tup (fi.map V.int)) t2=_:=ar;generalize aa H8 t2 (.tup (fi.map V.int))=H9 at z3 e3⊢
   w_on
   show(by change 1<=sizeLine;decide,λt3 h4=>?_);let z4:=ax (o:=.tup [.ref t2]) h4;let e4:aa H9 t3 (.tup [.ref t2]) t3=_:=ar;generalize aa H9 t3 (.tup [.ref t2])=RL at z4 e4⊢
   w_on
   show(by change 3<=sizeLine;decide,λp2 h5=>?_);let z5:=ax (o:=.tup [.str "refit",.ref t1,.ref t3]) h5;let e5:aa RL p2 (.tup [.str "refit",.ref t1,.ref t3]) p2=_:=ar;generalize aa RL p2 (.tup [.str "refit",.ref t1,.ref t3])=WS at z5 e5⊢
   w_on
   show(by change 2<=sizeLine;decide,λP0 h6=>?_);let z6:=ax (o:=.lst [.ref p1,.ref p2]) h6;let zz:=z1.trans (z2.trans (z3.trans (z4.trans z5)));let za:=zz.trans z6;let f6:H6 P0=none:=zz.free h6
   w_on
   show(P0,p1,p2,rfl,To.same za,Y6.same za,K6.same za,za _ _ hF6,ar,z6 _ _ (z5 _ _ (z4 _ _ (z3 _ _ (z2 _ _ e1)))),(t1,t3,z6 _ _ e5,z6 _ _ (z5 _ _ (z4 _ _ (z3 _ _ e2))),[t2],z6 _ _ (z5 _ _ e4),rfl,λi t ys w1 w2=>?_),ap,λb hb=>?_)
   .cases i with
    |zero=>cases w1;cases w2;show z6 _ _ (z5 _ _ (z4 _ _ e3))
    |succ j=>simp at w1
   .simp only[cb,bF,cS]at hb
    rcases hb with rfl|rfl|rfl|rfl
    .show(nB.1,YS.1)
    .show(nB.2,YS.2)
    .show nF
    .show(K6.nin f6,YT.nfr (S:=y0 a slip) Y6 f6)
  clear To Y6 K6 hF6 nF ap nB YS;ext Z3 H3 ⟨P0,p1,p2,rfl,L3⟩
  w_on
  show(d,c,15,rfl,L3.D,by decide,by decide,λr H4 r0 r1 S5 b4=>?_);let L4:=L3.but S5 b4
  w_on
  show(_,rfl,(),(),?_)
  show dP (λi Z' H'=>∃(S:YP) (B:Addr->Prop) (x':BA) (bs:List (Int×LE)) (Rj q n:Nat) (v7 v8 v9:Option V),Z'=[some (.ref a0),some (.ref d),some (.int slip),some (.ref a.y),some (.ref x.m),some (.ref F0),some (.ref P0),v7,v8,v9]/\Lw CY CD aL H' S B x' slip i Rj bs n d c F0 P0 p1 p2 fi/\S.a.y=a.y/\x'.m=x.m/\n<=140*i/\Ph S slip Rj q i) (2+r).toNat
   (_,B,x,[],0,0,0,_,_,_,rfl,L4,rfl,rfl,aD _,.inl (rfl,rfl,a,rfl)) ?_ ?_
  .ext Z' H5 _;show(aD _,?_)
   w_on
   show k _
  .ext MM RR Bk mi ri i Z' H5 hi ⟨S,B5,x5,bs,Rj,q,n,v7,v8,v9,rfl,L5,ey,em,hn,ph⟩;show(hi,?_);ext y H6 ⟨rfl,rfl⟩;rw[Int.zero_add]
   let i16:i<16+1:=()
   let Vb:Rj<=60:=by rcases ph with⟨_,z,_⟩|⟨_,z,_⟩<;>lia
   w_on
   erw[e_ (λZ' H'=>∃(C:Addr) (ca:LE),Z'=[some (.ref a0),some (.ref d),some (.int slip),some (.ref a.y),some (.ref x.m),some (.ref F0),some (.ref P0),some (.int i),some (.ref C),v9]/\Lw CY CD aL H' S B5 x5 slip i Rj bs n d c F0 P0 p1 p2 fi/\H' C=some (.lst (ca.map V.int))/\ca.Nodup/\(∀t∈ca,t∈fi)/\ca.length<=fi.length) (λMM RR Bk Ct mi ri=>?_)]
   .w_on
    show(F0,rfl,(_,ah.of L5.F),?_);rw[<-em];erw[gG (λj ys Z' H'=>aC H6 H'/\(∃v,Z'=[v,some (.ref x5.m)])/\ys=((fi.take j).filter λt=>decide (t∈(dG Rj).filter (dZ bs))).map V.int) fi.length (aC.refl _,(_,rfl),rfl) ?_]
    .ext ys Z' H7 ⟨s7,_,rfl⟩;rw[fk];show((_,ah.of (s7 _ _ L5.F),by rw[au];show aD _),λC hC=>?_)
     w_on
     show(C,_,by rw[em];rfl,(L5.same s7).same (ax hC),ar,ndi.filter _,λt ht=>(Ah.mp ht).1,fW _ _)
    .ext MM mi j ys Z' H7 hj ⟨s7,⟨v,rfl⟩,rfl⟩;let SS:fi[j]?=some fi[j]:=aK hj;let hF7:=s7 _ _ L5.F;show((_,.int fi[j],ah.of hF7,by rw[aH,SS];rfl),cA (by rw[au];show iM (fW _ _) (by rw[d_];lia)),?_);ext y G ⟨rfl,hy⟩;let Yv:=hy _ (ah.of hF7);rw[aH,SS]at Yv;cases Yv;erw[gz]
     w_on
     show(x5,slip,i,Rj,bs,rfl,(L5.same s7).K.r,Vb,λl' H8 s8 e8=>?_);erw[mh (ah.of e8)]
     let et:(fi.take (j+1)).filter (λt=>decide (t∈(dG Rj).filter (dZ bs)))=(fi.take j).filter (λt=>decide (t∈(dG Rj).filter (dZ bs)))++[fi[j]].filter (λt=>decide (t∈(dG Rj).filter (dZ bs))):=by rw[gU SS,iN]
     show(_,rfl,bZ (λz=>?_) (λz=>?_))
     .w_on
      show cu hj<|mi (s7.trans s8,(_,rfl),?_)
      rw[et,bO];simp only[j7,mJ];rw[bf z];rfl
     .w_on
      show cu hj<|mi (s7.trans s8,(_,rfl),?_)
      rw[et,bO];simp only[j7,mJ];rw[aO (by rw[z];decide),qY,jD]
   ext Z7 H7 ⟨C,ca,rfl,L7,Zh,ndc,Zs,lca⟩;generalize eM:(λ(Z':St) (H':Hp)=>∃(pf:Addr) (y:fc),Z'=[some (.ref a0),some (.ref d),some (.int slip),some (.ref a.y),some (.ref x.m),some (.ref F0),some (.ref P0),some (.int i),some (.ref C),some (.ref pf)]/\Lw CY CD aL H' S B5 x5 slip i Rj bs n d c F0 P0 p1 p2 fi/\H' C=some (.lst (ca.map V.int))/\fT H' pf y/\qz slip i y)=M;show(M,?_,?_)
   .subst eM
    w_on
    show bZ (λz=>?_) (λz=>?_)
    .let z:=cP z;let hP:=L7.P
     rcases(show i=0\/i=1 by lia)with rfl|rfl
     .w_on
      show(p1,.fell 60,rfl,L7,Zh,L7.f1,(by decide,by decide),λ_=>rfl,λh=>absurd h (by decide))
     .w_on
      show(p2,.refit [] [fi],rfl,L7,Zh,L7.f2,((),cm _,λ_ h=>(bF h).elim,.nil,Zt,aD _),λh=>absurd h (by decide),λ_=>cm _)
    .let z:=ux z
     w_on
     show(d,c,x5,slip,i,Rj,bs,by rw[em];rfl,L7.D,L7.K.r,L7.K.ok,Vb,(),(),λpf H8 y WI b8 fa ok rf=>?_)
     w_on
     show(pf,y,rfl,L7.but WI b8,L7.D.ints b8 Zh,fa,ok,λh=>absurd h (),λ_=>rf)
   clear L7 Zh;ext Z8 H8 hM8;show(M,?_,?_)
   .subst eM;let(pf,y,rfl,L8,hC8,fa8,Xx):=hM8
    w_on
    show bZ (λz=>?_) (λz=>?_)
    .let z:=cP z;rw[<-em]
     w_on
     erw[cy L8.K.m ia]
     rcases L8.K.bo.val 20 with⟨hb,_,_,_,_,dg,_⟩|⟨_,dg⟩
     .show(x5.bo,_,rfl,dg,?_)
      w_on
      erw[br]
      w_on
      show(d,c,4,rfl,L8.D,by decide,by decide,λr' H9 ZA Xu Yp b9=>?_);let L9:=L8.but Yp b9;let Xf:=L8.D.ints b9 hC8;let Yu:=fa8.keep λ_ _ z=>L8.D.tup b9 z
      w_on
      show bZ (λ_=>?_) (λ_=>?_)
      .w_on
       show(d,c,x5,B5,slip,i,Rj,bs,_,n,20,rfl,L9.D,L9.K,(L9.ex d ∅).1,Vb,(),hb,hb,λpf RL y U0 V6 fa ok rf=>?_)
       w_on
       show(pf,y,rfl,L9.but U0 V6,L9.D.ints V6 Xf,fa,ok,λh=>absurd h (),λ_=>rf)
      .w_on
       show(pf,y,rfl,L9,Xf,Yu,Xx)
     .show(x5.bo,_,rfl,dg,?_)
      w_on
      erw[bB,bB]
      w_on
      show(pf,y,rfl,L8,hC8,fa8,Xx)
    .erw[bB]
     w_on
     show(pf,y,rfl,L8,hC8,fa8,Xx)
   clear hM8;ext Z9 H9 hM9;show(M,?_,?_)
   .subst eM;let(pf,y,rfl,L9,Xf,Yu,ZD):=hM9;let hF9:=L9.F
    w_on
    show bZ (λz=>?_) (λz=>?_)
    .let z:=cP z
     w_on
     show bZ (λz2=>?_) (λz2=>?_)
     .let z2:=cP z2;rw[au,au]at z2
      w_on
      show(d,c,2,rfl,L9.D,by decide,by decide,λr' RL ZA Xu U0 V6=>?_);let V7:=L9.but U0 V6;let WL:=L9.D.ints V6 Xf;let U2:=Yu.keep λ_ _ z=>L9.D.tup V6 z
      w_on
      show bZ (λ_=>?_) (λ_=>?_)
      .w_on
       show(by change 0<=sizeLine;decide,λt1 h2=>?_);let Zp:=ax (o:=.tup []) h2;let e2:aa RL t1 (.tup []) t1=some (.tup (([]:LE).map V.int)):=ar;generalize aa RL t1 (.tup [])=WS at Zp e2⊢
       w_on
       show iW (ah.of (Zp _ _ WL)) λt2 h3=>?_;let z3:=ax (o:=.tup (ca.map V.int)) h3;let e3:aa WS t2 (.tup (ca.map V.int)) t2=_:=ar;generalize aa WS t2 (.tup (ca.map V.int))=T_ at z3 e3⊢
       w_on
       show(by change 1<=sizeLine;decide,λt3 h4=>?_);let z4:=ax (o:=.tup [.ref t2]) h4;let e4:aa T_ t3 (.tup [.ref t2]) t3=_:=ar;generalize aa T_ t3 (.tup [.ref t2])=WR at z4 e4⊢
       w_on
       show(by change 3<=sizeLine;decide,λpf h5=>?_);let z5:=ax (o:=.tup [.str "refit",.ref t1,.ref t3]) h5;let za:=Zp.trans (z3.trans (z4.trans z5))
       w_on
       show(pf,.refit [] [ca],rfl,V7.same za,za _ _ WL,(t1,t3,ar,z5 _ _ (z4 _ _ (z3 _ _ e2)),[t2],z5 _ _ e4,rfl,λi t ys w1 w2=>?_),((),cm _,λ_ h=>(bF h).elim,.nil,i6.one () () () ndc λt ht=>rfi t (Zs t ht),aD _),λh=>absurd h (),λ_=>cm _)
       cases i with
       |zero=>cases w1;cases w2;show z5 _ _ (z4 _ _ e3)
       |succ j=>simp at w1
      .w_on
       show(pf,y,rfl,V7,WL,U2,ZD)
     .erw[bB]
      w_on
      show(pf,y,rfl,L9,Xf,Yu,ZD)
    .erw[bB]
     w_on
     show(pf,y,rfl,L9,Xf,Yu,ZD)
   clear hM9;subst eM;ext S7 RL ⟨pf,y,rfl,V7,_,U2,Wf⟩;erw[e_ (λZ' H'=>∃(S':YP) (q':Nat),Z'=[some (.ref a0),some (.ref d),some (.int slip),some (.ref a.y),some (.ref x.m),some (.ref F0),some (.ref P0),some (.int i),some (.ref C),some (.ref pf)]/\Lw CY CD aL H' S' B5 x5 slip i Rj bs n d c F0 P0 p1 p2 fi/\fT H' pf y/\Inv S' (1+i) q'/\q'<=i/\S'.a.y=a.y/\S'.day=1+i/\S'.most=slip) (λMM RR Bk Ct mi ri=>?_)]
   .let hy:=V7.Y.y;rw[<-ey]
    w_on
    let(e1,e2,e3):=Wf.ent (CY:=CY) (CD:=CD) (aL:=aL) (H:=RL) (Q:=λ_ H'=>MM [some (.ref a0),some (.ref d),some (.int slip),some (.ref S.a.y),some (.ref x.m),some (.ref F0),some (.ref P0),some (.int i),some (.ref C),some (.ref pf)] H') ph () () λS' q' wd H' I' TV f1 f2 f3 Y' st=>mi (S',q',by rw[ey],V7.yard Y' st,U2.keep λ_ _ z=>st.1 _ _ (V7.Y.ntup z) z,I',TV,f1.trans ey,f2,f3);show(S,1+i,pf,y,rfl,V7.Y,U2,e1,(),(),e2,?_);show e3
   clear V7 U2 ey;ext Z11 WS ⟨S',q',rfl,L11,jd2,I',TV,Yv,ed',em'⟩;let(fo,fm):=Wf.fo ph;rw[<-em]
   w_on
   show(x5,B5,slip,i,1+i,Rj,bs,n,pf,y,rfl,L11.K,(),(),(),(),jd2,Wf.ok,fo,λv T_ B12 x12 jd6 UB K12 m12 t12 jd0=>?_);let L12:=L11.book t12 K12;let e60:=fm UB jd0
   w_on
   show(S',1+i,q',by rw[Yv];rfl,L12.Y,I',(),λWR s13=>?_);let L13:=L12.same s13
   w_on
   erw[bB]
   w_on
   let ei:((i+1:Nat):Int)=1+i:=()
   show(S',B12,x12,jd6,UB,q',n+140,_,_,_,by rw[em],by rw[ei];show L13,Yv,m12.trans em,(),.inr ((),e60,by rw[ei];show I',(),by rw[ei];show ed',em'))
def LkAt(K:W.Frag)(n x:Str)(st:Stmt)(f:Addr):Prop:=∃(oc:Value) (od an:Option Addr) (sl:Array (Option Value)) (kV dc pm cd ct:Value),K.lookup f=some (oc,od,.func (W.fnOf n x (kU st) (jS st) (aW st) .none kV dc pm an cd ct),sl)/\W.codeIn K cd x=true
structure bE(K:W.Frag)(x:Str)(st:Stmt)(f:Addr):Prop where
 a:W.nsIn K mainGlobals x=some (some (.ref f))
 l:LkAt K x x st f
 k:W.keepIn K (.ref f)=true
structure dq(K:W.Frag)(C:Addr)(n x:Str)(st:Stmt)(f:Addr):Prop where
 a:W.findIn K (.ref C) n=some (some (.ref f))
 i:W.isFn K (.ref f)=true
 l:LkAt K n x st f
 k:W.keepIn K (.ref f)=true
def LkAt.of{K:W.Frag}{n x:Str}{st:Stmt}{f:Addr}{oc:Value}{od an:Option Addr}{sl:Array (Option Value)}{kV dc pm cd ct:Value}(l:K.lookup f=some (oc,od,.func (W.fnOf n x (kU st) (jS st) (aW st) .none kV dc pm an cd ct),sl))(c:W.codeIn K cd x=true):LkAt K n x st f:=(_,_,_,_,_,_,_,_,_,l,c)
abbrev Bd(n x:Str)(st:Stmt)(ps:List Str):Prop:=∀(kV dc pm:Value) (an:Option Addr) (cd ct:Value) (us:T0),us.length=ps.length->bindArgs (W.fnOf n x (kU st) (jS st) (aW st) .none kV dc pm an cd ct) {pos:=us}=pure (ps.zip us)
section
variable{P:Program}{w:World}{base:Heap}{K:W.Frag}{h:Heap}{mg:Str->Option Value}{n x:Str}{st:Stmt}{f C:Addr}{ps:List Str}{j:Nat}{sp:Sp}
def bE.cal(X:K.In h)(G:h.Ns mainGlobals mg)(t:bE K x st f)(ok:∀{fd},aY K x x st f fd->mg x=some (.ref f)->f_ K fd ps []->aN P w K mg base aU j f fd ps sp)(b:Bd x x st ps):ba P w K mg base x j ps sp:=by
 let(a,(_,_,_,_,_,_,_,_,_,l,c),k):=t;let F:=rS (st:=st) l c k;let m:=W.mg_of X G a;let B:=F.binds (ps:=ps) b;show(_,_,ok F m B,m,k,B)
def dq.cal(c:dR K C)(t:dq K C n x st f)(ok:∀{fd},aY K n x st f fd->aN P w K mg base aU j f fd ps sp)(b:Bd n x st ps):b_ P w K mg base C n j ps sp:=by
 let(a,i,(_,_,_,_,_,_,_,_,_,l,cd),k):=t;let F:=rS (st:=st) l cd k;show(c,_,_,ok F,(a,i,k),F.binds (ps:=ps) b)
def dq.make(hm:mg n=some (.ref C))(m1:W.makesIn K C=true)(m2:W.keepIn K (.ref C)=true)(t:dq K C "__init__" x st f)(ok:∀{fd},aY K "__init__" x st f fd->aN P w K mg base aU j f fd ps sp)(b:Bd "__init__" x st ps):nI P w K mg base n C j ps sp:=by
 let(a,i,(_,_,_,_,_,_,_,_,_,l,cd),k):=t;let F:=rS (st:=st) l cd k;show(hm,_,_,ok F,(m1,a,i,m2),F.binds (ps:=ps) b)
def o8{j':Nat}(c:ba P w K mg base x j ps sp)(m:mg x=some (.ref f))(le:j<=j'):k9 P w K mg base f j' ps sp:=by
 let(f',fd,F,hm,hk,hb):=c;rw[m]at hm;cases hm;show(fd,F.mono le,hk,hb)
end
theorem dz{F:Value->Value->Value->Option Addr->Value->Value->FuncData}{ps:List Str}(h:∀a b c d e f a0,bindArgs (F a b c d e f) {pos:=[a0]}=pure (ps.zip [a0]))(a b c:Value)(d:Option Addr)(e f:Value):∀us:T0,us.length=1->bindArgs (F a b c d e f) {pos:=us}=pure (ps.zip us)
 |[a0],_=>h a b c d e f a0
theorem ck{F:Value->Value->Value->Option Addr->Value->Value->FuncData}{ps:List Str}(h:∀a b c d e f a0 a1,bindArgs (F a b c d e f) {pos:=[a0,a1]}=pure (ps.zip [a0,a1]))(a b c:Value)(d:Option Addr)(e f:Value):∀us:T0,us.length=2->bindArgs (F a b c d e f) {pos:=us}=pure (ps.zip us)
 |[a0,a1],_=>h a b c d e f a0 a1
theorem ig{F:Value->Value->Value->Option Addr->Value->Value->FuncData}{ps:List Str}(h:∀a b c d e f a0 a1 a2,bindArgs (F a b c d e f) {pos:=[a0,a1,a2]}=pure (ps.zip [a0,a1,a2]))(a b c:Value)(d:Option Addr)(e f:Value):∀us:T0,us.length=3->bindArgs (F a b c d e f) {pos:=us}=pure (ps.zip us)
 |[a0,a1,a2],_=>h a b c d e f a0 a1 a2
theorem QT{F:Value->Value->Value->Option Addr->Value->Value->FuncData}{ps:List Str}(h:∀a b c d e f a0 a1 a2 a3 a4 a5,bindArgs (F a b c d e f) {pos:=[a0,a1,a2,a3,a4,a5]}=pure (ps.zip [a0,a1,a2,a3,a4,a5]))(a b c:Value)(d:Option Addr)(e f:Value):∀us:T0,us.length=6->bindArgs (F a b c d e f) {pos:=us}=pure (ps.zip us)
 |[a0,a1,a2,a3,a4,a5],_=>h a b c d e f a0 a1 a2 a3 a4 a5
def all_mk{l:W.OpenLaw}{w:World}{K:W.Frag}{h:Heap}{mg:Str->Option Value}{fa f0 f1 f2 f3 f4 f5 f6 f7 f8 f9 f10 f11 f12 f13 f14 f15 f16 f17 f18 f19 f20 f21 f22 f23 f24 f25 f26 f27 f28 f29 f30 f31 f32 f33 f34 f35 f36 f37 f38 f39 f40 f41 f42 f43 f44 f45 f46 f47 f48 f49 f50 f51 f52 f53 f54 f55 f56 f57 f58 f59 f60 f61 f62 f63 Uk f65 f66 f67 f68 f69 f70 f71 f72 f73 f74 f75 f76 bJ bN GD GE dh BE Rx RD RU Sj Si SB:Addr}(X:K.In h)(G:h.Ns mainGlobals mg)(hfa:mg "law"=some (.ref fa))
  (QW:W.nsIn K mainGlobals "Yard"=some (some (.ref bJ)))
  (QX:W.nsIn K mainGlobals "Debts"=some (some (.ref bN)))
  (QY:W.nsIn K mainGlobals "SOUND"=some (some (.ref GD)))
  (QZ:W.nsIn K mainGlobals "ENTER"=some (some (.ref GE)))
  (uM:W.nsIn K mainGlobals "LOOSE"=some (some (.ref dh)))
  (Q_:W.nsIn K mainGlobals "LOST"=some (some (.ref BE)))
  (xmoving_is_sound:W.nsIn K mainGlobals "moving_is_sound"=some (some (.ref Rx)))
  (xmoney_is_sound:W.nsIn K mainGlobals "money_is_sound"=some (some (.ref RD)))
  (xenter_storm:W.nsIn K mainGlobals "enter_storm"=some (some (.ref RU)))
  (xenter_find:W.nsIn K mainGlobals "enter_find"=some (some (.ref Sj)))
  (xenter_lend:W.nsIn K mainGlobals "enter_lend"=some (some (.ref Si)))
  (xenter_pay:W.nsIn K mainGlobals "enter_pay"=some (some (.ref SB)))
  (t0:bE K "_law_begin" xn f0)
  (t1:bE K "_law_take" xo f1)
  (t2:bE K "_law_some" xq f2)
  (t3:bE K "_law_set" xr f3)
  (t4:bE K "rising" xt f4)
  (t5:bE K "apart" xv f5)
  (t6:bE K "is_slip" xw f6)
  (t7:bE K "need_slip" xy f7)
  (t8:bE K "many_common" xA f8)
  (t9:bE K "same" xB f9)
  (t10:bE K "is_fleet" xE f10)
  (t11:bE K "paired" xG f11)
  (t12:bE K "divisor" xH f12)
  (t13:bE K "lowest" xJ f13)
  (t14:bE K "is_day" xK f14)
  (t15:bE K "is_timber" xM f15)
  (t16:bE K "rises" xN f16)
  (t17:bE K "is_boat" xP f17)
  (t18:bE K "judged" xR f18)
  (t19:bE K "is_number" xS f19)
  (t20:bE K "are_numbers" xT f20)
  (t21:bE K "are_unlike" xU f21)
  (t22:bE K "are_timbers" xW f22)
  (t23:bE K "name_of" xX f23)
  (t24:bE K "is_name" xY f24)
  (t25:bE K "are_names" x_ f25)
  (t26:bE K "are_sets" y7 f26)
  (t27:bE K "fell_is_sound" ya f27)
  (t28:bE K "clear_is_sound" yd f28)
  (t29:bE K "refit_is_sound" yf f29)
  (t30:bE K "sound" yj f30)
  (t31:dq K bN "make_smaller" "Debts.make_smaller" ym f31)
  (t32:dq K bN "__init__" "Debts.__init__" yo f32)
  (t33:dq K bN "part" "Debts.part" yq f33)
  (t34:dq K bN "take_over" "Debts.take_over" yt f34)
  (t35:dq K bJ "felled" "Yard.felled" yx f35)
  (t36:dq K bJ "lies" "Yard.lies" yy f36)
  (t37:dq K bJ "is_afloat" "Yard.is_afloat" yA f37)
  (t38:dq K bJ "boat" "Yard.boat" yB f38)
  (t39:dq K bJ "chain" "Yard.chain" yC f39)
  (t40:dq K bJ "boats" "Yard.boats" yD f40)
  (t41:dq K bJ "lying" "Yard.lying" yH f41)
  (t42:dq K bJ "loose" "Yard.loose" yJ f42)
  (t43:dq K bJ "move" "Yard.move" yK f43)
  (t44:dq K bJ "launch" "Yard.launch" yM f44)
  (t45:dq K bJ "sink" "Yard.sink" yO f45)
  (t46:dq K bJ "__init__" "Yard.__init__" yR f46)
  (t47:bE K "need_day" yT f47)
  (t48:bE K "enter_fell" yV f48)
  (t49:bE K "refit_word" yY f49)
  (t50:bE K "names_behind" y_ f50)
  (t51:bE K "enter_refit" zf f51)
  (t52:dq K bN "owed_on" "Debts.owed_on" zh f52)
  (t53:bE K "enter_clear" zo f53)
  (t54:dq K bJ "enter" "Yard.enter" zq f54)
  (t55:dq K bJ "names" "Yard.names" zt f55)
  (t56:dq K bJ "slip" "Yard.slip" zw f56)
  (t57:dq K bJ "first" "Yard.first" zx f57)
  (t58:bE K "gathered" zy f58)
  (t59:bE K "quarrels" zB f59)
  (t60:bE K "_law_share" zI f60)
  (t61:bE K "_law_walked" zL f61)
  (t62:bE K "_law_flat" zN f62)
  (t63:bE K "_law_place" zQ f63)
  (t64:bE K "_law_loose" zR Uk)
  (t65:bE K "_law_goes_down" zT f65)
  (t66:bE K "_law_refit_word" zV f66)
  (t67:bE K "_law_money_word" zX f67)
  (t68:bE K "_law_idle" z_ f68)
  (t69:bE K "_law_like" A1 f69)
  (t70:bE K "_law_turn" A3 f70)
  (t71:bE K "_law_enter" A6 f71)
  (t72:bE K "_law_new" A8 f72)
  (t73:bE K "_law_dealt" Aa f73)
  (t74:bE K "_law_refit" Ad f74)
  (t75:bE K "_law_drift" Af f75)
  (t76:bE K "law" mE f76)
  {SH:Tok} (BF:W.nsIn K mainGlobals "MOST_TIMBERS"=some (some (.int 60 SH)))
  {Uj:Tok} (GF:W.nsIn K mainGlobals "LAST_DAY"=some (some (.int 400 Uj)))
  {TH:Tok} (R3:W.nsIn K mainGlobals "MOST_SLIP"=some (some (.int 12 TH)))
  {Tf:Tok} (uN:W.nsIn K mainGlobals "MOST_BOATS"=some (some (.int 8 Tf)))
  (oYard:W.plainGet K bJ Str.empty=true/\W.hasDictIn K bJ=true/\W.plainOver K bJ=true/\W.findIn K (.ref bJ) "__setattr__"=some (some (.builtin "object.__setattr__"))/\W.makesIn K bJ=true/\W.keepIn K (.ref bJ)=true)
  (pYard:W.findIn K (.ref bJ) "most"=some none/\W.findIn K (.ref bJ) "day"=some none/\W.findIn K (.ref bJ) "lines"=some none/\W.findIn K (.ref bJ) "chains"=some none/\W.findIn K (.ref bJ) "ends"=some none/\W.findIn K (.ref bJ) "debts"=some none)
  (oDebts:W.plainGet K bN Str.empty=true/\W.hasDictIn K bN=true/\W.plainOver K bN=true/\W.findIn K (.ref bN) "__setattr__"=some (some (.builtin "object.__setattr__"))/\W.makesIn K bN=true/\W.keepIn K (.ref bN)=true)
  (pDebts:W.findIn K (.ref bN) "shares"=some none/\W.findIn K (.ref bN) "by_name"=some none/\W.findIn K (.ref bN) "by_timber"=some none/\W.findIn K (.ref bN) "coins"=some none/\W.findIn K (.ref bN) "settled"=some none)
  (wL0:wdLook K dh "loose"=true)
  (wX0:wdLook K BE "lost"=true)
  (tS:k7 K GD (pY f27 f29 Rx RD f28))
  (tE:k7 K GE (qf f48 f51 RU Sj Si SB f53))
  (z0:W.nsIn K mainGlobals "len"=some none) (z1:W.nsIn K mainGlobals "abs"=some none) (z2:W.nsIn K mainGlobals "all"=some none) (z3:W.nsIn K mainGlobals "isinstance"=some none) (z4:W.nsIn K mainGlobals "zip"=some none) (z5:W.nsIn K mainGlobals "list"=some none) (z6:W.nsIn K mainGlobals "tuple"=some none) (z7:W.nsIn K mainGlobals "bool"=some none) (z8:W.nsIn K mainGlobals "int"=some none) (z9:W.nsIn K mainGlobals "str"=some none) (z10:W.nsIn K mainGlobals "range"=some none) (z11:W.nsIn K mainGlobals "sorted"=some none) (z12:W.nsIn K mainGlobals "set"=some none) (z13:W.nsIn K mainGlobals "min"=some none) (z14:W.nsIn K mainGlobals "max"=some none) (z15:W.nsIn K mainGlobals "sum"=some none) (z16:W.nsIn K mainGlobals "enumerate"=some none) (z17:W.nsIn K mainGlobals "dict"=some none):
  ∃fd:FuncData,(∀(s:Shared) (v:Value),BindsTo s fd ([v],[]) [("_law_script",v,)])/\∀base:Heap,K.In base->base.Ns mainGlobals mg->aN l.prog w K mg base aU 11 fa fd ["_law_script"] (uh K):=by
 let(a,(_,_,an,_,kV,dc,pm,cv,ct,lk,cd),kp):=t76;let M:∀{x v},W.nsIn K mainGlobals x=some (some v)->mg x=some v:=λz=>W.mg_of X G z;let e:=hfa.symm.trans (M a);cases e;let Zz:∀{x},W.nsIn K mainGlobals x=some none->mg x=none:=λz=>W.mg_none_of X G z
 let T:bC mg:={toBlt:=(Zz z0,Zz z1,Zz z2,Zz z3,Zz z4,Zz z5,Zz z6,Zz z7,Zz z8,Zz z9,Zz z10,Zz z11,Zz z12),z_min:=Zz z13,z_max:=Zz z14,z_sum:=Zz z15,z_enumerate:=Zz z16}
 let Y:fK K bJ:=by obtain⟨a,b,c,d,_⟩:=oYard;let(e0,e1,e2,e3,e4,e5):=pYard;show((a,b,c,d),e0,e1,e2,e3,e4,e5)
 let D:nN K bN:=by obtain⟨a,b,c,d,_⟩:=oDebts;let(e0,e1,e2,e3,e4):=pDebts;show((a,b,c,d),e0,e1,e2,e3,e4)
 let wL:∀H,az K H dh [.str (i_ true)]:=Gg wL0;let wX:∀H,az K H BE [.str (i_ false)]:=Gg wX0;show(W.fnOf "law" "law" (kU mE) (jS mE) (aW mE) .none kV dc pm an cv ct,λs v=>.of_eq rfl,λbase _ _=>?_);let U:∀{x st f ps j sp},bE K x st f->(∀{fd},aY K x x st f fd->mg x=some (.ref f)->f_ K fd ps []->aN l.prog w K mg base aU j f fd ps sp)->Bd x x st ps->ba l.prog w K mg base x j ps sp:=λt ok b=>t.cal X G ok b;let V:∀{C n x st f ps j sp},dR K C->dq K C n x st f->(∀{fd},aY K n x st f fd->aN l.prog w K mg base aU j f fd ps sp)->Bd n x st ps->b_ l.prog w K mg base C n j ps sp:=λc t ok b=>t.cal c ok b;let N:∀{C n x st f ps j sp},mg n=some (.ref C)->W.makesIn K C=true->W.keepIn K (.ref C)=true->dq K C "__init__" x st f->(∀{fd},aY K "__init__" x st f fd->aN l.prog w K mg base aU j f fd ps sp)->Bd "__init__" x st ps->nI l.prog w K mg base n C j ps sp:=λa b c t ok d=>t.make a b c ok d;let Bv:=U (sp:=(xm K)) t0 (λF _ _=>MJ F T) (dz λ_ _ _ _ _ _ _=>rfl);let dv:=U (sp:=mw) t1 (λF _ _=>ML F T) (ck λ_ _ _ _ _ _ _ _=>rfl);let ja:=U (sp:=(pS K)) t2 (λF _ _=>MP F T dv) (ig λ_ _ _ _ _ _ _ _ _=>rfl);let oI:=U (sp:=(jq K)) t3 (λF _ _=>MR F T) (dz λ_ _ _ _ _ _ _=>rfl);let hJ:=U (sp:=(jq K)) t4 (λF _ _=>MT F T) (dz λ_ _ _ _ _ _ _=>rfl);let Ba:=U (sp:=(xu K pV)) t5 (λF _ _=>MV F T) (ck λ_ _ _ _ _ _ _ _=>rfl);let AI:=U (sp:=(gH 1 12)) t6 (λF _ _=>MX F T (M R3)) (dz λ_ _ _ _ _ _ _=>rfl);let AV:=U (sp:=xx) t7 (λF _ _=>MZ F T AI) (dz λ_ _ _ _ _ _ _=>rfl);let oy:=U (sp:=(tN K)) t8 (λF _ _=>M' F T) (ck λ_ _ _ _ _ _ _ _=>rfl);let oz:=U (sp:=(tM K)) t9 (λF _ _=>N1 F T oy hJ) (ck λ_ _ _ _ _ _ _ _=>rfl);let uI:=U (sp:=xD) t10 (λF _ _=>N4 F T hJ) (dz λ_ _ _ _ _ _ _=>rfl);let AY:=U (sp:=xF) t11 (λF _ _=>N6 F T uI oz) (ck λ_ _ _ _ _ _ _ _=>rfl);let oA:=U (sp:=tO) t12 (λF _ _=>Nb F) (ck λ_ _ _ _ _ _ _ _=>rfl);let Bb:=U (sp:=xI) t13 (λF _ _=>Nd F T oA) (ck λ_ _ _ _ _ _ _ _=>rfl);let oC:=U (sp:=(gH 1 400)) t14 (λF _ _=>Ng F T (M GF)) (dz λ_ _ _ _ _ _ _=>rfl);let kG:=U (sp:=(gH 1 60)) t15 (λF _ _=>Ni F T (M BF)) (dz λ_ _ _ _ _ _ _=>rfl);let oB:=U (sp:=(tP K)) t16 (λF _ _=>Nm F T) (dz λ_ _ _ _ _ _ _=>rfl);let AJ:=U (sp:=(xO K)) t17 (λF _ _=>Np F T kG oB) (ck λ_ _ _ _ _ _ _ _=>rfl);let Bg:=U (sp:=(xQ K)) t18 (λF _ _=>Nt F T oC oB AJ oz) (ck λ_ _ _ _ _ _ _ _=>rfl);let kH:=U (sp:=pX) t19 (λF _ _=>Nv F T) (dz λ_ _ _ _ _ _ _=>rfl);let oE:=U (sp:=tT) t20 (λF _ _=>Ny F T kH) (dz λ_ _ _ _ _ _ _=>rfl);let oF:=U (sp:=(tU K)) t21 (λF _ _=>NA F T) (dz λ_ _ _ _ _ _ _=>rfl);let AL:=U (sp:=xV) t22 (λF _ _=>NC F T oE kG) (dz λ_ _ _ _ _ _ _=>rfl);let mL:=U (sp:=tV) t23 (λF _ _=>NF F) (ck λ_ _ _ _ _ _ _ _=>rfl);let AK:=U (sp:=(gH 10 4007)) t24 (λF _ _=>NH F (M GF) (M uN) mL) (dz λ_ _ _ _ _ _ _=>rfl);let AM:=U (sp:=xZ) t25 (λF _ _=>NJ F T (M uN) oE AK oF) (dz λ_ _ _ _ _ _ _=>rfl);let AN:=U (sp:=y6) t26 (λF _ _=>NL F T (M uN) AL oF) (ck λ_ _ _ _ _ _ _ _=>rfl);let R4:=U (sp:=y8) t27 (λF _ _=>NN F T (M BF) kH) (ck λ_ _ _ _ _ _ _ _=>rfl);let R5:=U (sp:=yc) t28 (λF _ _=>NP F T kH kG) (ck λ_ _ _ _ _ _ _ _=>rfl);let R6:=U (sp:=ye) t29 (λF _ _=>NR F T AM AN) (ck λ_ _ _ _ _ _ _ _=>rfl);let Bf:=U (sp:=yi) t30 (λF _ _=>NT F T (M QY) tS (o8 R4 (M t27.a) (by decide)) (o8 R6 (M t29.a) (by decide)) (o8 R5 (M t28.a) (by decide))) (ck λ_ _ _ _ _ _ _ _=>rfl);let AO:=V (sp:=(yl bN)) D.c t31 (λF=>O0 F D) (ck λ_ _ _ _ _ _ _ _=>rfl);let AW:=N (sp:=(yn bN)) (M QX) oDebts.2.2.2.2.1 oDebts.2.2.2.2.2 t32 (λF=>O2 F D) (dz λ_ _ _ _ _ _ _=>rfl);let AU:=V (sp:=(yp bN)) D.c t33 (λF=>O4 F D T oA AO) (ig λ_ _ _ _ _ _ _ _ _=>rfl);let AS:=V (sp:=(yr bN)) D.c t34 (λF=>O5 F D) (ig λ_ _ _ _ _ _ _ _ _=>rfl);let uJ:=V (sp:=(yw bJ bN dh)) Y.c t35 (λF=>Ob F Y T) (dz λ_ _ _ _ _ _ _=>rfl);let kI:=V (sp:=(p_ bJ bN dh)) Y.c t36 (λF=>Od F Y) (ck λ_ _ _ _ _ _ _ _=>rfl);let AQ:=V (sp:=(yz bJ bN dh)) Y.c t37 (λF=>Of F Y) (ck λ_ _ _ _ _ _ _ _=>rfl);let fP:=V (sp:=(ki bJ bN dh)) Y.c t38 (λF=>Oh F Y T AQ) (ck λ_ _ _ _ _ _ _ _=>rfl);let oG:=V (sp:=(u0 bJ bN dh)) Y.c t39 (λF=>Oj F Y T) (ck λ_ _ _ _ _ _ _ _=>rfl);let jG:=V (sp:=(q8 bJ bN dh)) Y.c t40 (λF=>Om F Y T) (dz λ_ _ _ _ _ _ _=>rfl);let AR:=V (sp:=(yG bJ bN dh)) Y.c t41 (λF=>Oq F Y wL hJ kI) (ck λ_ _ _ _ _ _ _ _=>rfl);let AX:=V (sp:=(yI bJ bN dh)) Y.c t42 (λF=>Ot F (M uM) AR) (dz λ_ _ _ _ _ _ _=>rfl);let kJ:=V (sp:=(qb bJ bN dh)) Y.c t43 (λF=>OA F Y wL kI) (ig λ_ _ _ _ _ _ _ _ _=>rfl);let B7:=V (sp:=(yL K bJ bN dh)) Y.c t44 (λF=>OI F Y T hJ kJ AS) (ig λ_ _ _ _ _ _ _ _ _=>rfl);let B0:=V (sp:=(yN bJ bN dh)) Y.c t45 (λF=>OO F Y fP AU) (ck λ_ _ _ _ _ _ _ _=>rfl);let BC:=N (sp:=(yQ bJ bN dh)) (M QW) oYard.2.2.2.2.1 oYard.2.2.2.2.2 t46 (λF=>OQ F Y AV AW) (ck λ_ _ _ _ _ _ _ _=>rfl);let Be:=U (sp:=(yS 1 400)) t47 (λF _ _=>OS F oC) (dz λ_ _ _ _ _ _ _=>rfl);let R7:=U (sp:=(yU bJ bN dh)) t48 (λF _ _=>OV F T (M BF) (M uM) uJ kJ) (ck λ_ _ _ _ _ _ _ _=>rfl);let AZ:=U (sp:=(yX bJ bN dh)) t49 (λF _ _=>O_ F T (M uN) jG AX fP) (ig λ_ _ _ _ _ _ _ _ _=>rfl);let A_:=U (sp:=(yZ bJ bN dh)) t50 (λF _ _=>P4 F T Y fP AY mL) (ig λ_ _ _ _ _ _ _ _ _=>rfl);let R8:=U (sp:=(ze bJ bN dh)) t51 (λF _ _=>P6 F T (M uM) AZ A_ fP kJ B0 B7 Ba) (ck λ_ _ _ _ _ _ _ _=>rfl);let Bc:=V (sp:=(zg bN)) D.c t52 (λF=>P8 F D Bb) (ck λ_ _ _ _ _ _ _ _=>rfl);let R9:=U (sp:=(zm bJ bN dh)) t53 (λF _ _=>Pa F Y (M uM) (M Q_) wL wX kI Bc) (ck λ_ _ _ _ _ _ _ _=>rfl);let BD:=V (sp:=(zp bJ bN dh)) Y.c t54 (λF=>Pf F Y (M QZ) tE (o8 R7 (M t48.a) (by decide)) (o8 R8 (M t51.a) (by decide)) (o8 R9 (M t53.a) (by decide)) Be Bf) (ig λ_ _ _ _ _ _ _ _ _=>rfl);let oH:=V (sp:=(u9 bJ bN dh)) Y.c t55 (λF=>Pi F Y T) (dz λ_ _ _ _ _ _ _=>rfl);let Bh:=V (sp:=(zu bJ bN dh)) Y.c t56 (λF=>Pk F Y) (dz λ_ _ _ _ _ _ _=>rfl);let jH:=V (sp:=(qg bJ bN dh)) Y.c t57 (λF=>Pm F Y T oG) (ck λ_ _ _ _ _ _ _ _=>rfl);let lU:=U (sp:=(ub bJ bN dh)) t58 (λF _ _=>Po F T jH jG fP oy) (ck λ_ _ _ _ _ _ _ _=>rfl);let Bj:=U (sp:=(zA bJ bN dh)) t59 (λF _ _=>Pq F T oH lU) (dz λ_ _ _ _ _ _ _=>rfl);let uK:=U (sp:=(zH bJ bN dh)) t60 (λF _ _=>PP F T jH fP) (ig λ_ _ _ _ _ _ _ _ _=>rfl);let BB:=U (sp:=(zK bJ bN dh)) t61 (λF _ _=>PX F T oH jH jG uK lU Bg Bh oG Bj) (ck λ_ _ _ _ _ _ _ _=>rfl);let Bm:=U (sp:=zM) t62 (λF _ _=>P' F T) (dz λ_ _ _ _ _ _ _=>rfl);let jI:=U (sp:=qx) t63 (λF _ _=>Q9 F T) (ck λ_ _ _ _ _ _ _ _=>rfl);let iR:=U (sp:=n_) t64 (λF _ _=>Qd F T jI) (dz λ_ _ _ _ _ _ _=>rfl);let Bq:=U (sp:=zS) t65 (λF _ _=>Qi F (Zz z17)) (ig λ_ _ _ _ _ _ _ _ _=>rfl);let Bn:=U (sp:=zU) t66 (λF _ _=>Qm F T iR Bm) (ck λ_ _ _ _ _ _ _ _=>rfl);let Bo:=U (sp:=zW) t67 (λF _ _=>Qo F T jI) (ck λ_ _ _ _ _ _ _ _=>rfl);let Br:=U (sp:=zZ) t68 (λF _ _=>Qr F T Bn Bo) (ck λ_ _ _ _ _ _ _ _=>rfl);let Bp:=U (sp:=(A0 K)) t69 (λF _ _=>Qu F T oI) (ck λ_ _ _ _ _ _ _ _=>rfl);let Bu:=U (sp:=A2) t70 (λF _ _=>Qz F T (Zz z17) oI Bp Bq) (ig λ_ _ _ _ _ _ _ _ _=>rfl);let Bz:=U (sp:=A5) t71 (λF _ _=>QC F T jI Br Bu) (ig λ_ _ _ _ _ _ _ _ _=>rfl);let Bw:=U (sp:=A7) t72 (λF _ _=>QF F) (dz λ_ _ _ _ _ _ _=>rfl);let uL:=U (sp:=A9) t73 (λF _ _=>QH F T dv) (QT λ_ _ _ _ _ _ _ _ _ _ _ _=>rfl);let Bx:=U (sp:=Ac) t74 (λF _ _=>QM F T dv ja iR uL) (ck λ_ _ _ _ _ _ _ _=>rfl);let By:=U (sp:=Ae) t75 (λF _ _=>QP F T dv ja iR) (ig λ_ _ _ _ _ _ _ _ _=>rfl);show QS (rS (st:=mE) lk cd kp) T Bv dv ja Bw iR Bx By Bz BB BC BD
def walk{l:W.OpenLaw}{q:Program}{loose:List Str}{XP:(Str->Option Value)->Heap->Prop}{YP:World->Heap->Prop}{d:DefRec}{K:Params->W.Frag}(hn:l.most=some 63)(Vy:d.params.defaults=[])
  (hY:∀(w:World) (h:Heap),YP w h->(K w.params).In h)
  (F:∀(w:World) (mg:Str->Option Value) (fa:Addr) (h:Heap),(K w.params).In h->h.Ns mainGlobals mg->mg d.name=some (.ref fa)->
   ∃fd:FuncData,(∀(s:Shared) (u:Value),BindsTo s fd ([u],[]) [("_law_script",u,)])/\∀base:Heap,(K w.params).In base->base.Ns mainGlobals mg->aN l.prog w (K w.params) mg base aU 11 fa fd ["_law_script"] (uh (K w.params))):
  W.WalkO q loose XP YP l.row.toRowW d [] (λf vs=>PySem.call f vs):=
 L2.walk_of (n:=63) (k:=11) (x:="_law_script") (CX:=λ_=>aU) (sp:=λw=>uh (K w.params)) hn (by decide) Vy (rfl,by decide,by decide) hY F (λ_ _ a ns hl _ hS=>(a,ns,rfl,hS,hl,λ_=>rfl)) λ_ _ _ _ _ z=>z
end K29
end
namespace PySem.W.Fast
open Lean in
local macro_rules|`(command|lay_x $x*)=>return mkNullNode (<-x.mapM fun x=>`(command|def $(mkIdent (.mkSimple s!"tw{(x.getId.toString.drop 1).foldl (fun a c=>let v:=c.toNat;a*62+v-if v<58 then 48 else if v<91 then 55 else 61) 0}")) :=0))
lay_x aBLk80ihizEN a2Bo3vQzGdG6 aEKByBw8yzG7 a2ZISAEUzlMp aKrrqVPKSOPT aATpxvcJyahy a6qFqsevgZaW a44YRvrW6Xy4 aEBEUMVHnpl0 a8HRB76GDZOK aCDusXhyuRgq aG29W6VsCHgG aDhgwewcx7Yc aGr50Sp7Hh11 aDRGw6Dcknsh a8lWbyVuRO0a aJy0HfeOBlSq aB45YZLUZEo3 aHPhdQGudfBo aCz7BXUfdiQ0 aBUposZvHalg aA3O3dNyXWt7 aHN6UvcMkuEI a9UICqqUCmWL a4eciYreqbC5 aDVdMTDq7Y0w am9cNsnQj4v aKoQ9kNt0BEn aD7qaLTRtwW4 aF78IHCytdZT a1LZS3KxQOmg aE7KcF5V6MsB aBim2FRJsRHc aQPT2vVLPje a1w4Cxjip6Eo aL4GpkPoQZ0m aFGq1QAzOOmp a4AGyqNg0yCp a462ClyydxCb aEeWYYBwAxjN aB3K6bkiKe0c aDeAbwfETlTi a5Lrh1wdEZ2U a8ykpSVXB6Jt aB6LMUa72jQJ aHHgpy6A3Xa2 a8aczFEp7H23 abAmTN8dZT aBV3SzI6ZCVz aAvJJUrjZPtP aFsr6U3QkXp9 a1CP53vxhxqM a7w6DJ7tVG4S aF69Nwdc1nOY a69PuWzwVcTg a9PLGO13dAd7 aBPhjBuqFw6a aFgBDQbV6jKz aE83ryDoZBdD a6umRVLmrEmo aDtRglYEKNRM amAvXnPkljO aGcVfQXkK1Oo a3gTGfkpMurv aCEMOaTAQQIB aBkZS0WPUeBO a3YTcOUqOgBx aAwH1KvixEyk a6czhztGqsTw aLcTd9XpQh2N aGMfeYaRJCFs a1dDEvcswIfM aALNEIzx9D3m aGPsMqbX8XVr aBgcSk0iRfHF aLHXssYMIJuB aHXPbipnFQZR a2QblLRUEzXt aJrWjIgF6itH a6Ywx4lExnTG aGmKgeduFGwX aGOiyJsEXPJy a6lmE3R6bfLj a46ZbUNZQZgw a32V0MtflBFb aG4JXCTA5E3q a9InJVU7dpHP aAaAB8BBOmiU aG5VEZ5oe0pE aEFkUI99HGpz aHr54ihDYA1x aJuuAE0e2xGn aJSvsYlOZpiW a3paRQ828lBG aBY1uupmWSyG a6LdCXRrdcSL aIac9sBel9Pi aJiDTLYxvrkA aGSqfFNwdm9P a48BDWvU2ojA aEk4CKT9AjaY a4BhuLzOfW5u a78V5wWpXHax aHWTgifZ2ScV a7ZJaPrMFLeQ aEVRnqXH99WY a9Ea87WMDlLO aHYGTSNcgWO5 a4dEKaL9G91v aGBt7VFYzhFW aEdKA1QM6Xle aDlS6KOiXwMd aFfWdBgqjjsc aJzGt5wkLUhh aKS2ygbxNPMs a49S0fnHBghw aKUWStBgXB6p a5MHDxVf0rbY aDovNV41UQD3 a1EIViT598bS aIrd51OkvPx as6H0Ozt5XG aJMobjOvJXzb aFkKVFJbdXGR aFrxq0Eq7Rzt a9T1DEi3cg05 a2cIZLaPS24W aEJY6dJVbODD a4uiGndXY61u aLy8DDdzc2V a1OaM6hap609 aBSIU76B1HKc a1bCobDxLnAL aFRXMcVIqXqX a8dUMswJ4NiE a8lkQEjihKkA a64DSQoju6Ll a4wPhjiNXFyp a2ORcziwsk60 aE4MqXmxnedS aCsA2GrAPR73 aCr8a7FfYXpH a3kLFQfjVjTd aAQ5OahFHHxI aE1u7EUsjGuM aIxoj6vHsVVr aA1ME2l0OakJ a8A50YS9Z4WL aBqkNQqTmJzG a4q9L5o4IAxr aAsYrilPHZCj aH4nrN1sFCyR a9sJ3hhIxBny aHx8RGgbUmk9 aJ7fmcIyYOI1 a1V3OfKgtgZV a4opqxsHu7zW a8dKuV699TWb aFK4EbwU5k6x aEf0EYbYmwfG aCymGD3GxlJJ a3bLb4zLckTL aDssWY6UaMw6 a5r4UVxHbzL2 aBHRFs6eObFV a1f1SERUKAP2 aLwAdxo5ChLz aHhxbG9DMd5O aBJSa8c9WsyG a7jqExHy52LG aB2FhYWsrLYo aKPfW2GR6ure a6ANhclW74GU aKDKCjbxiXtn a1zSGLkODesW a4OK8XTcGmTv aAUdsPFyynl5 aHxETZskPAQg aH4ILo91guIb a4qYh8Spz0UF aK4Q2o1d2chn aILpt2w54Pcd aD7A3lLcx3rV a9WNnZKLnokn aHiVMNG8WPJ0 aFYqwR3jlEgX aJwTuGccVHzo a5yCu4nxiKLP aHNXnFlF6H0E aErZSwLyUIT8 aHGFxKJIuCMZ a9AqvnLgLuDQ a3ONLy6IMzZF aKyo25cDeiwB aGoy7YrHfojc aHZfjQKXFT09 aKGnVhtuffm3 a67N9hj6hIV9 aB7SRxJpaVIk a33EvpbCTbhU aJmINyYRx3uH aI5sJaPqtvyI aFCGgtHsKRMy aEMWWq8YNGhx aB16myJOstbM aDXTao72396f aLxpAqg8SvfA a9TjjFa2sOA9 a7m1dHtYCDHv aCGuF4hjlpPl a50qbGCgRql5 aJFfHEnvNXM0 aPrSk9EMyUk a86Fd6cWTelY a729oSmBC9dZ aIJkVTUucB3m a72evP7yxTAe a3vbZPQWu6nn aAEV69OLueOE aDwJd1Yu7dfL a1avrLVrrdE0 aBK4FXazLe8N a43FzmX34Oop aBTHAYwwVKc8 a3d005OUvF9f aK43H7viT4MJ aCe9dAehIXHN a1ICRbfLlim7 aLtRaCWNWsJo aG3GZ3JBio5m aLShbkrvGnUH aKRGa6CxAo4w aHgb3fSj2lgs a4Ub9t3yCtWC a3Nzi5RG9f3L aHmhSl0h1M5L aFDp517gUbtE a6OSCLmNI6mH aSTY0YyaQ1H aBq0A8R96OKQ a9EDD9CY545z aJyKaJC7Xgnh aE3iv1QF35Oi aF8y6XCIc07o aHPaHd06cWmq aAXR7FGWzY5d aBza5IqeskOn a8Fvyq5555Fd a2RvUaV9MYem a4EZSIFowFgN aYVtnaxDMJC aCGe27qN2wax aL9TOMPBLgM2 aHZYMmQuIlpj aAq1f98yKTQy a5plZ1fciP0O aIXpUTyPUK1t aCXiFyjWUeu5 a2zJb2TOU5l5 aHkc14eeeqE3 aBDG6q9uj59s aSwtgldqgiP a5JqfZmEr499 aFhzS0PdtknK aApY1jWYJrrn a3jif7jPubhX a14USHYG1yim aCEPm8e9OpVD aFo6uJljgcP9 a7I9NBSMYjbx a5Mq4LJuDu1F aJQRGHWbmRmz aGgNqx22RYfw afRZhOLlOyW aHzEqsOjV2k3 a4f4f5XCsRar ajwGmSS0cia aEGTECX7nFSE aB2KLjnnpkq3 a8GVybCwLsAu a3HaFDYQG2iC aKHS2BuXYH83 aFcL0I33RO9V aLERiD76k8Ig aG00zQUDqtyT aBSedrorX5KY a2Hsg6Fmy2HA a8Jrrljs8SIE a7a8qIhv0KWj a8oAPQW0e1VS aDWVtjQPiBjZ aHpI2v9uJ5yd aCzrtiMVnWis aIzKxuC65fQH aDSd3Jrt7IsC aInz6jGiUQfI aGToYwa0qQ4x aHqQeGJYtL0h aLOuJeAmnpbY aAA0Q9S071or aBniiCE6GIAI a5VphakQ8Nuq aDZ5F3ieevk6 aIS0M7DoMyzG a7wJktqYaAYJ aHEelNgDbWG1 aKQGdTyKvqgC a9kp7kfVr0lL aJqSQf3toNur a8yfJYNAo4s9 aCVOqA34SgQu a4MO3uNjNQCl aDWyjNbVJzoF a7dAjaZNScCx aKOHFWHxkmxj aE0b5AtbIhhc a5kHAMCxwpvR aEqWc6M3KPH3 a8Dd6ShFl1da aDBmND95SekP afWL4yWu0vg aDL1fXL1P911 aJZwY924tF1b aH9vORe0o6dl a9DSuL5mW24S aJnHcgkcqv7S a5dwOIt4oG0D aJYUklkxdo3K aCYpCXDFna84 a7ge8J8mas6C a6dOYlXhJgfQ a5woMGs1S9MP a7Zyygel6dq5 aK6rjyyfbXiN aH8plwuAXquP aH4vgfTBKosY a4vLvlP1DjSx aKTs0W76eP7L a5dR3wmNyCEK aDcdLGhoBk54 a1EJJITnt7qT a31LvnKyDDaC a5EHCYIFKUSo a1Ct71lTYpDe a4NTMwkJIl7m aA6bzhMOHi2H a8DKOsKT4Rbv a35i244elEeO aFwOlNGfoSOT aCQ53lSWASdP aCJm6LSUKsvN aAleJM2nxBWT aFX93crnAma1 aGzLZtLozOV9 aKmaidBwuPvB a54sNIBKakN9 aJKaAPg32Lqy aDXo7hl4gFIu aHFSXkfAdQFq aGYyv74wiEXP aKgwyBQYRYS7 a5rMrlshqPBt aTy1tMx6Mds a71fYPUyJdUe aLx75utCpQcw aH3zaC5kdY1I a4RpWCnLAdZL aC2zJZlMRXdl aBNcpJQr1T9F aE3k9n3MBcqw aDZJ6U8remam aGlPgX7PLe29 a2iEPb3clcF9 aKSE4XaipjZM a5hp0yRWji2P a5f1Nfh7dUVV aIvRqTRoX6ck aIm2vkw6pW0R aDrw6VmhtFIe a9TBK1xafc6S aCdfOYvHHdLz aBdifJoht9vS a5Xk11ltOICP a3OO13OhD2aO aEHBnrlpQ9Ma aCJxstmze5ME aG9C9ldiW9ni a5f98zqgbojA aKT0GSMeqSdc aHECvyMxb5xL aKvSK5cae8aQ a8rbi8dr7Rvf aHhrNsr62hhv a50KesjaZfiV a3qICJM1EJ5w a2RQJBmZeXaJ aElEon7lFFem a8XV4RMlkhKQ aHl6bMQsqNqD aFBOolAttwJ8 aBCUj2jEzvDY ajo1RAycVqK a794ilawUkKA aKxHy1zSKEJA aGhAqxf8bLOS a5YigNMUP8DS aDF3ffyiJPSt aAgfq1uGN98s aGjj6TT6Inhz a8RtZwxnB60e a1lwUSz6GgZh a5xCQRNLucJF a27SVPlYBW9p a24b3j0we3DM aJ0gOYaslAWC aEGGcuGCMf6E a9naFA8qPJjn a7YYk99IaKT2 a6wE6opT47G7 a4DYaVesTHc0 aKbiiel8HNhi aIj0b8Ph177I aI2UoRsbFhlB aHD0VTvT6xAP azPE8OYSjs1 aHXH6FvdDFUF a2NJfaklfUjm aFTBSZUmHFsC aEhfuzVCOgBq aDhH3cp8cLID aCRJJyfMoeH7 aCFb4OgzMriQ a2nuDFQKUL0s aDJnKjZxlxfd aBAYZhlRJ2BX aEh3nRWkpDsL a8SHhUIyv8lk a85KOdJWhfB7 a5GD0OaUxJ5J aGj05b4muL9d aEozfyKuEKwt aE0RNw2ebgQe aDqjLlzqkCbM aD7XsNFUORu2 aCjaspnrqGVW aCXUfRoptGT2 aBoAji9szTZY a2j6e6gNwUZK a6KmHZrxkO5w aLQgTD0S3kKO aGvroQqvFKoo aDM3rGqJxcsI a2orEt9v86r7 aCHqTlKKRPN2 a4ock7CqTZWF aKn9D3uLWprC aJIlIJ8krF7M a9AFrzS98nN a9Es6IbtHZ0p a3xbdGJGrJ7a aD12MRDulHct a7c2W1wVG4f4 aIMH5C0LDOh3 aA1LdhLmyjVb aB478cSR493Q a7DkA0qZfd9o a43OcSQQTN06 aGcmxINDifRT aHNxrU7CYlyH aDKdJONM0xt2 a2hhOLR86Bm0 a4K503RxeJyw aCmT9dMVdV0z aEzyACX96pK5 aH346IvS57Ds a2wz3QQd7g76 a7XkrU7obRId aBVsLiDR4OFM aIWKAE9Yfe0n aHfTRW9b3E0m a4GCHrdb4amw a6YQpolD1bUD aHMRGkvfPGyg a1a53p8voRO4 aBNHDpJKbMj8 a4bKSQM0G73B aB31jQ9X9fZ aJkmlX4g6Xx1 aE7Vt7CZhO0V a9IkxXOZd6v0 a3DmNGwhV4An a2rW72RHXzvr aJuNu5g0uEdK aJrnD1Y4hG9M aEPLxOXqit5G a9V4Cif8scMH aCJhJWMFsOXr aHiBLBJopgkv a5eBN9SZACaR a3cyYzcyUpbj aKQ8izI5shtj aIKrBP4m5trl aGcPAIvoVV5E aCc75xZD62NA aE6wzRsuXto4 aK0xPW93wchd aFhSIwIC9Emj a765LEIA6UfE aJoAQ2ubeuqG aJN4bb1ZO0bx aGcCBKcLtvm3 aFxx7VshOSVv aGm3yk2gwHJY a9Y4yHdg6yuk aogaxohtAXn a2k0BUGN3j99 aKpXGrAhxCjC aKBcFhR4xDXp aFxZRnmY1g46 aBvnpRSm74uv a8dv9p7r0xZE a6wFgIzwfzIk aLufc1UyfYdD aBhhhBkVZc5j a9o9GQrKq1DM aCqn7xf0kwaR a8dGenpquCH7 aCXshl2nDgLc aHbshnQWVhOD a7sTE0NPjAC4 aFkj79hkbCdX aENycUqwziMA aD3IMEnQ5xtk aH1MNmCafAjY aIVnKJkQTXWB aB07pKRV5m8t a99TPTjpHGMy aJLOccYgn0jy a4LV7QUAFfb2 aGb7obadh0Nj aGVnIM1yAPbt aGV92N5TQPg7 aFzJlKzCmhW8 a6xzU4EybFnI a35bcBAtlnEl acylhXJajGi aKI4RmTGyzTi a6w2IzFR5RWm aAcJekw1h4X7 a8CTGHufcT5 a6iQMPD6bCxX a16NcOSJxiLV aKszXyTKhXBI aGmhfIAM3JQi a5U3Ut2xXjFE aKkxdxZk4JF0 a26hocjoV6XS aHPWDs9nThPi aBOsLMf9xZ6w arWu6z3g2st aAhCDhxjcNnD a27UexyKIWD a4p5UR0CbaQ3 aSEVV6PMuqR a54TwJh2YXWm aA36UNIbdjYz a2bZTFffbG5F aENcYymrS2aG a4UU270qPF8Z a5MH5DnDoGqC a39iBjI4Et5j aCXlSWr7OaTA aB6krB4lN4xE a5KZ7znzBTqo aDLRrmRrb5yt aLyNpvf6jcJN a9ZYkFUBcbXb aGgjM5Hzm6XH a18ejSmnkjEw a6BQYcGOaP0p a1bbSU19i4yp aCDnRC6dQpA7 aLdlxvTxbdYh aBNfmOktLcMv a6Q2Km2n2XjU a9C2Hvd6Bj2P aGaIR24OgSTy a8T6Y8Qx8n6m a6ifSMGVjc7H a72iJbeazYdD aD7f2O0mkfce a3jjKvemYg0s a5FeHFhTmB7 aLSBQsvQ7jZ6 a72l4SNT0OMk a8KvuHYLNKor aCRw0nQXgpnM a1vieJsDk9hL a4miic8pbt1r aFglEAKmXgjd a3i0THbdXseK a3s2T0vwTxJb a690oHayoqpF a2tHnwbcnptE a51mrWPvFrNP aGOiBfVi6M56 a1VPHiyJu6XC a3QXOjbFulLw a7dMiuAxsB0v aGRVHrDY0tHQ aEyiqNO2D5y9 aJd92cDUD4gQ aCEpaDQfq9XM aHMkf1HxbGSC a6a7PqFk2giE aJAFonGzOANh a8BNmEw5xFA5 a7TfsoryfGRi a7KoLiDj0xok a7KD5BgjvFII a4YOmQR92cpR a2TETGl6q6QD aD3JdiRXjPZx aFkaTWGSIEYv a4cddSnuxiR6 aFNzxnv0e5do a29HA49sMG7D a2qpNpk1NMZR a6qu3VFMHrzW a9JW7VCwb8nT a1bUuKHy2M30 aCZP9JEmf6YR aKfZCAxw9wCc a4jWJJsoc7jV aAdUo7JI6z9L aKydgDf9wFy7 aCjG6NxZOGYV a2aZX1Kiw7ll a6zNgcxIesUW aExLZCSwxmzT aI6HAu63SChS a2QQkdTp4LyC a3kicYZKZMzD a3SXyTfbdk6 aGjelcZUuJGB aZ9fSrciKzn aIXzxBO59d4V aEnfAVty5sHj aAy8gSm0jdIO aKMcesUhY448
end PySem.W.Fast
open PySem PySem.W PyProof.Rows
set_option maxRecDepth 100000 in
set_option maxHeartbeats 0 in
theorem PySem.Challenge.cw_argosy_k29_whole_one_rival_at_most_holds : PySem.Challenge.rw_argosy_k29_whole_one_rival_at_most.Holds := by
 w_on;o_law;k_head;(case hw=>w_witness2)
 k_fill
 refine K29.walk (l:=PySem.Challenge.rw_argosy_k29_whole_one_rival_at_most) rfl rfl (fun w h Y=>PySem.W.kIn_of Y) ?F
 case F=>
  intro w mg fa h KX G hmg
  refine' K29.all_mk KX G hmg ?xYard ?xDebts ?xSOUND ?xENTER ?xLOOSE ?xLOST ?xmoving_is_sound ?xmoney_is_sound ?xenter_storm ?xenter_find ?xenter_lend ?xenter_pay ?t0 ?t1 ?t2 ?t3 ?t4 ?t5 ?t6 ?t7 ?t8 ?t9 ?t10 ?t11 ?t12 ?t13 ?t14 ?t15 ?t16 ?t17 ?t18 ?t19 ?t20 ?t21 ?t22 ?t23 ?t24 ?t25 ?t26 ?t27 ?t28 ?t29 ?t30 ?t31 ?t32 ?t33 ?t34 ?t35 ?t36 ?t37 ?t38 ?t39 ?t40 ?t41 ?t42 ?t43 ?t44 ?t45 ?t46 ?t47 ?t48 ?t49 ?t50 ?t51 ?t52 ?t53 ?t54 ?t55 ?t56 ?t57 ?t58 ?t59 ?t60 ?t61 ?t62 ?t63 ?t64 ?t65 ?t66 ?t67 ?t68 ?t69 ?t70 ?t71 ?t72 ?t73 ?t74 ?t75 ?t76 ?kMOST_TIMBERS ?kLAST_DAY ?kMOST_SLIP ?kMOST_BOATS ?oYard ?pYard ?oDebts ?pDebts ?wL0 ?wX0 ?tS ?tE ?z0 ?z1 ?z2 ?z3 ?z4 ?z5 ?z6 ?z7 ?z8 ?z9 ?z10 ?z11 ?z12 ?z13 ?z14 ?z15 ?z16 ?z17
  all_goals first|(refine'⟨?qa,K29.LkAt.of ?ql ?qc,?qk⟩;(case qa=>k_is);(case ql=>k_is);(case qc=>k_is);(case qk=>k_is))|(refine'⟨?qa,?qi,K29.LkAt.of ?ql ?qc,?qk⟩;(case qa=>k_is);(case qi=>k_is);(case ql=>k_is);(case qc=>k_is);(case qk=>k_is))|(show K29.wdLook _ _ _=true;kernel_rfl)|(show PyProof.Rows.KTD.tabLook _ _ _ _=true;kernel_rfl)|(refine⟨?_,?_,?_,?_,?_,?_⟩<;>k_is)|(refine⟨?_,?_,?_,?_,?_⟩<;>k_is)|k_is|skip
end

import PyProof.Rows.All
import Wide.All
import OpenK.AllK
import Wide.FinOn
import Lean
import PyProof.EqAt
import PyProof.EqKinds
import PyProof.TupleCall
import PySem.Challenge.RW_argosy_k10_facts_read_or_refused
import KE.KIntText
import PyProof.Rows.StrMadeLen
import PyProof.StrWalks
import PyProof.MeetsStr
import PyProof.SliceStr2
import PyProof.EnumFor
import PyProof.EnumMake
import PyProof.Rows.SortWalk
import PyProof.RulesFinally
import KE.KTupSum
import PyProof.Rows.SumAny
import PyProof.ExcBaseAll.ValueError
import PyProof.ExcArgsOwn
import PyProof.ExcAttrAll.ValueError
import KE.KIsAll
import PyProof.RulesDel
import PyProof.RulesAs
import PyProof.MaxThree
import PyProof.AutoSeq1
import PyProof.Rows.TupDisplay
import KE.KTabLook
import PyProof.ListRange
import PyProof.TupleOfStr
import PyProof.CallStr
import PyProof.StrCalls2
import PyProof.Rows.StrItems
import KE.KUnpackStar
import PyProof.StrLawsTight
import PyProof.StrLawsChain
set_option Elab.async false
set_option linter.all false
set_option maxRecDepth 100000
/-! THE HAND LAYER, for ints, bools, texts, own classes, LISTS and tuples (index, slices, in, append, pop ..), calls, loops. Paste it whole ahead of your own text; what your proof does not reach may be deleted. -/
namespace L2
open PySem PySem.Spec PyProof.Rows

/-- a key: an int or a str -/
abbrev Key := Sum Int Str
def keyIs : Key → Value → Bool
  | .inl k, v => Value.isInt k v
  | .inr x, v => Value.isStrOf x v
def keyH (w : World) : Key → Int
  | .inl k => hashInt k
  | .inr x => hashStr w x
theorem keyIs_shape : ∀ {k : Key} {v : Value}, keyIs k v = true → (∃ i t, k = Sum.inl i ∧ v = Value.int i t) ∨ (∃ x t, k = Sum.inr x ∧ v = Value.str x t)
  | .inl i, v, h => by
    obtain ⟨t, e⟩ := Value.isInt_shape (k := i) (v := v) h
    exact .inl ⟨i, t, rfl, e⟩
  | .inr x, v, h => by
    obtain ⟨t, e⟩ := Value.isStrOf_shape (x := x) (v := v) h
    exact .inr ⟨x, t, rfl, e⟩
theorem keyIs_int (i : Int) (t : Tok) : keyIs (.inl i) (.int i t) = true := by simp [keyIs, Value.isInt]
theorem keyIs_str (x : Str) (t : Tok) : keyIs (.inr x) (.str x t) = true := by simp [keyIs, Value.isStrOf]
theorem key_ll (a b : Int) : decide ((Sum.inl a : Key) = Sum.inl b) = (a == b) := by
  by_cases e : a = b
  · subst e; simp
  · have h : ¬ (Sum.inl a : Key) = Sum.inl b := fun q => e (Sum.inl.inj q)
    rw [decide_eq_false h]
    exact (beq_eq_false_iff_ne.mpr e).symm
theorem key_rr (a b : Str) : decide ((Sum.inr a : Key) = Sum.inr b) = decide (a = b) := by
  by_cases e : a = b
  · subst e; simp
  · have h : ¬ (Sum.inr a : Key) = Sum.inr b := fun q => e (Sum.inr.inj q)
    rw [decide_eq_false h, decide_eq_false e]
theorem key_lr (a : Int) (b : Str) : decide ((Sum.inl a : Key) = Sum.inr b) = false := decide_eq_false (fun q => nomatch q)
theorem key_rl (a : Str) (b : Int) : decide ((Sum.inr a : Key) = Sum.inl b) = false := decide_eq_false (fun q => nomatch q)

def mixKind (prog : Program) (w : World) : PySem.KeyKind prog w Key where
  is := keyIs
  hash := keyH w
  inj := fun v a b ha hb => by
    rcases keyIs_shape ha with ⟨i, t, rfl, rfl⟩ | ⟨x, t, rfl, rfl⟩
    · rcases keyIs_shape hb with ⟨j, u, rfl, e⟩ | ⟨y, u, rfl, e⟩
      · injection e with e1 _; rw [e1]
      · exact nomatch e
    · rcases keyIs_shape hb with ⟨j, u, rfl, e⟩ | ⟨y, u, rfl, e⟩
      · exact nomatch e
      · injection e with e1 _; rw [e1]
  byValue := fun k v h => by
    rcases keyIs_shape h with ⟨i, t, rfl, rfl⟩ | ⟨x, t, rfl, rfl⟩ <;> rfl
  pyHash := fun hv h => by
    rcases keyIs_shape hv with ⟨i, t, rfl, rfl⟩ | ⟨x, t, rfl, rfl⟩
    · exact wpAny_pyHash_int h
    · exact wpAny_pyHash_str h
  eqBool := fun hu hv h => by
    rcases keyIs_shape hu with ⟨i, t, rfl, rfl⟩ | ⟨x, t, rfl, rfl⟩
    · rcases keyIs_shape hv with ⟨j, u, rfl, rfl⟩ | ⟨y, u, rfl, rfl⟩
      · rw [key_ll] at h; exact wpAny_eqBool_int h
      · rw [key_lr] at h; exact SeqAt.EqAt.int_str i t y u _ _ _ _ h
    · rcases keyIs_shape hv with ⟨j, u, rfl, rfl⟩ | ⟨y, u, rfl, rfl⟩
      · rw [key_rl] at h; exact SeqAt.EqAt.str_int x t j u _ _ _ _ h
      · rw [key_rr] at h; exact wpAny_eqBool_str h
  «strs» := fun k x t v h => by
    rcases keyIs_shape h with ⟨i, u, rfl, e⟩ | ⟨y, u, rfl, e⟩
    · exact nomatch e
    · injection e with e1 _
      subst e1
      cases v <;> rfl

theorem mixKind_int (prog : Program) (w : World) (i : Int) (t : Tok) : (mixKind prog w).is (.inl i) (.int i t) = true := keyIs_int i t
theorem mixKind_str (prog : Program) (w : World) (x : Str) (t : Tok) : (mixKind prog w).is (.inr x) (.str x t) = true := keyIs_str x t
end L2

namespace L2
open PySem PySem.Spec PyProof.Rows

/-- a value, without the heap -/
inductive V where
  | non | bl (b : Bool) | int (i : Int) | str (x : Str) | byt (b : Array UInt8) | flt (b : UInt64) | ref (a : Addr) | ty (n : String)
  deriving DecidableEq

def RelV : V → Value → Prop
  | .non, u => u = Value.none
  | .bl b, u => u = Value.bool b
  | .int i, u => ∃ t, u = Value.int i t
  | .str x, u => ∃ t, u = Value.str x t
  | .byt b, u => ∃ t, u = Value.bytes b t
  | .flt b, u => ∃ t, u = Value.float b t
  | .ref a, u => u = Value.ref a
  | .ty n, u => u = Value.type n

abbrev Vals : List V → List Value → Prop := Paired RelV
theorem Vals.length {xs : List V} {us : List Value} (r : Vals xs us) : xs.length = us.length := Paired.length r
theorem Vals.get : ∀ {xs : List V} {us : List Value} {i : Nat} {x : V}, Vals xs us → xs[i]? = some x → ∃ u, us[i]? = some u ∧ RelV x u
  | _, _, _, _, .nil, e => by simp at e
  | _, _, 0, _, .cons r _, e => by simp at e; subst e; exact ⟨_, rfl, r⟩
  | _, _, i + 1, x, .cons _ t, e => by
    obtain ⟨u, h1, h2⟩ := Vals.get (i := i) (x := x) t (by simpa using e)
    exact ⟨u, by simpa using h1, h2⟩
theorem Vals.set {x : V} {u : Value} (r : RelV x u) : ∀ {xs : List V} {us : List Value} (i : Nat), Vals xs us → Vals (xs.set i x) (us.set i u)
  | _, _, _, .nil => .nil
  | _, _, 0, .cons _ t => .cons r t
  | _, _, i + 1, .cons q t => .cons q (Vals.set r i t)
theorem Vals.append : ∀ {xs ys : List V} {us ws : List Value}, Vals xs us → Vals ys ws → Vals (xs ++ ys) (us ++ ws)
  | _, _, _, _, .nil, s => s
  | _, _, _, _, .cons r t, s => .cons r (Vals.append t s)
theorem Vals.take : ∀ {xs : List V} {us : List Value} (n : Nat), Vals xs us → Vals (xs.take n) (us.take n)
  | _, _, 0, _ => .nil
  | _, _, _ + 1, .nil => .nil
  | _, _, n + 1, .cons r t => .cons r (Vals.take n t)
theorem Vals.drop : ∀ {xs : List V} {us : List Value} (n : Nat), Vals xs us → Vals (xs.drop n) (us.drop n)
  | _, _, 0, r => r
  | _, _, _ + 1, .nil => .nil
  | _, _, n + 1, .cons _ t => Vals.drop n t
def RelO : Option V → Option Value → Prop
  | some v, some u => RelV v u
  | none, none => True
  | _, _ => False
def KV {κ : Type} : List (κ × V) → List (κ × Value) → Prop := Paired fun (p : κ × V) (q : κ × Value) => p.1 = q.1 ∧ RelV p.2 q.2

/-- a key of a dict (00_mix): an int or a text -/
def kV : Key → V
  | .inl i => .int i
  | .inr x => .str x

/-- what stands at a tracked address -/
inductive HO where
  /-- a list -/
  | lst (xs : List V)
  /-- a tuple (never changes) -/
  | tup (xs : List V)
  /-- a dict whose keys are ints and texts; one whose keys are tuples of ints and texts (the empty one is both) -/
  | dK (kvs : List (Key × V)) | dT (kvs : List (List Key × V))
  /-- a set of ints: its members, its size -/
  | set (S : Int → Bool) (n : Nat)
  /-- an instance of the class at C, its dict at dx, its attributes -/
  | ins (C dx : Addr) (fs : List (Str × V))
  /-- the dict of the instance at x -/
  | own (x : Addr)
  /-- the dict of an exception -/
  | xd (fs : List (Str × V))
  /-- a bound method, f of x -/
  | met (f x : Addr)
  /-- a range object lo, lo + 1, .. below hi -/
  | rng (lo hi : Int)
  /-- a thing that is known to the object (the script; a dict while a loop walks it): read, never written while it is so -/
  | frz (o : Obj) (u : HO)
  /-- a code object's table -/
  | tbl (ps : Array Value)
  /-- any other thing, by what is true of its one object (a def of one's own: SetO a S n := HO.ext fun h => ..) -/
  | ext (φ : Heap → Prop)

abbrev Hp := Addr → Option HO
def upd (H : Hp) (a : Addr) (o : HO) : Hp := fun b => if b = a then some o else H b
theorem upd_same {H : Hp} {a : Addr} {o : HO} : upd H a o a = some o := by unfold upd; rw [if_pos rfl]
theorem upd_ne {H : Hp} {a b : Addr} {o : HO} (h : b ≠ a) : upd H a o b = H b := by unfold upd; rw [if_neg h]
/-- two objects of different content stand apart -/
theorem ne_of {H : Hp} {a b : Addr} {o u : HO} (h : H a = some o) (h' : H b = some u) (d : o ≠ u) : a ≠ b := by
  intro e; subst e; rw [h] at h'; exact d (Option.some.inj h')
theorem ne_of_none {H : Hp} {a b : Addr} {o : HO} (h : H a = some o) (h' : H b = none) : a ≠ b := by
  intro e; subst e; rw [h] at h'; cases h'

section
variable (P : Program) (w : World)
def ObjOk (H : Hp) (h : Heap) (a : Addr) : HO → Prop
  | .lst xs => xs.length ≤ sizeLine ∧ ∃ (its : List Value) (n : Nat), Vals xs its ∧ h.get? a = some { cls := .type "list", data := .seq its.toArray n }
  | .tup xs => xs.length ≤ sizeLine ∧ ∃ its : List Value, Vals xs its ∧ IsTup h a its.toArray
  | .dK kvs => kvs.length ≤ sizeLine ∧ (a == sysModules) = false ∧ ∃ vs, KV kvs vs ∧ h.DictOf (mixKind P w) a vs
  | .dT kvs => kvs.length ≤ sizeLine ∧ (a == sysModules) = false ∧ ∃ xs : List (List Key × Addr × Value),
      Paired (fun (p : List Key × V) (q : List Key × Addr × Value) => p.1 = q.1 ∧ H q.2.1 = some (.tup (p.1.map kV)) ∧ RelV p.2 q.2.2) kvs xs ∧
      ∃ o es ep, h.get? a = some o ∧ o.ExactDict ∧ o.data = .dict es ep ∧ es.toList = xs.map (entryOfKey (tupleKind (mixKind P w))) ∧ (xs.map (·.1)).Nodup
  | .set S n => h.SetOf (intKind P w) a S n
  | .ins C dx fs => H dx = some (.own a) ∧ fs.length ≤ 1000 ∧ dx ≠ a ∧ h.get? a = some (PySem.W.instObj C dx) ∧
      ∃ mA, h.Ns1 dx mA ∧ (∀ f, RelO (fs.lookup f) (mA f)) ∧ PySem.Within mA (fs.map (·.1))
  | .own _ => ∃ o, h.get? a = some o
  | .xd fs => ∃ mA, h.Ns1 a mA ∧ ∀ f, RelO (fs.lookup f) (mA f)
  | .rng lo hi => ∃ t u v, h.get? a = some { cls := .type "range", data := .fields #[.int lo t, .int hi u, .int 1 v] }
  | .frz o u => h.get? a = some o ∧ ObjOk H h a u
  | .tbl ps => h.get? a = some { cls := .none, data := .fields ps }
  | .met f x => h.get? a = some (PySem.W.methodObj (.ref f) (.ref x))
  | .ext φ => φ h ∧ (∃ o, h.get? a = some o) ∧ ∀ h1 h2 : Heap, φ h1 → (∀ o, h1.get? a = some o → h2.get? a = some o) → φ h2
/-- the abstract heap is held -/
def HOk (H : Hp) (h : Heap) : Prop := ∀ a o, H a = some o → ObjOk P w H h a o
end

section
variable {P : Program} {w : World} {H H' : Hp} {h h' : Heap} {a : Addr} {o : HO}
theorem ObjOk.lt (x : ObjOk P w H h a o) : a < h.objs.size := by
  cases o with
  | lst xs => obtain ⟨_, _, _, _, e⟩ := x; exact Heap.lt_size e
  | tup xs => obtain ⟨_, _, _, p⟩ := x; exact p.lt
  | dK kvs => obtain ⟨_, _, _, _, o, _, _, e, _⟩ := x; exact Heap.lt_size e
  | dT kvs => obtain ⟨_, _, _, _, o, _, _, e, _⟩ := x; exact Heap.lt_size e
  | set S n => obtain ⟨o, _, _, _, e, _⟩ := x; exact Heap.lt_size e
  | ins C dx fs => obtain ⟨_, _, _, e, _⟩ := x; exact Heap.lt_size e
  | own y => obtain ⟨_, e⟩ := x; exact Heap.lt_size e
  | xd fs => obtain ⟨_, ⟨_, _, _, e, _⟩, _⟩ := x; exact Heap.lt_size e
  | rng lo hi => obtain ⟨_, _, _, e⟩ := x; exact Heap.lt_size e
  | frz ob u => obtain ⟨e, _⟩ := x; exact Heap.lt_size e
  | tbl ps => exact Heap.lt_size (show h.get? a = some _ from x)
  | met f y => exact Heap.lt_size (show h.get? a = some _ from x)
  | ext φ => obtain ⟨_, ⟨_, e⟩, _⟩ := x; exact Heap.lt_size e
theorem Paired.mapP {α β : Type} {F G : α → β → Prop} : ∀ {l₁ : List α} {l₂ : List β}, Paired F l₁ l₂ → (∀ a b, F a b → G a b) → Paired G l₁ l₂
  | _, _, .nil, _ => .nil
  | _, _, .cons r t, f => .cons (f _ _ r) (Paired.mapP t f)
/-- what an object's description leans on: its own object, its own dict, the tuples -/
theorem ObjOk.stay (x : ObjOk P w H h a o) (k : ∀ b u, (b = a ∨ H b = some (.own a)) → h.get? b = some u → h'.get? b = some u)
    (ho : ∀ b, H b = some (.own a) → H' b = some (.own a)) (ht : ∀ b xs, H b = some (.tup xs) → H' b = some (.tup xs)) : ObjOk P w H' h' a o := by
  induction o with
  | lst xs => obtain ⟨z, its, n, r, e⟩ := x; exact ⟨z, its, n, r, k _ _ (.inl rfl) e⟩
  | tup xs => obtain ⟨z, its, r, ob, e, c⟩ := x; exact ⟨z, its, r, ob, k _ _ (.inl rfl) e, c⟩
  | dK kvs => obtain ⟨z, y, vs, r, ob, es, ep, e, c⟩ := x; exact ⟨z, y, vs, r, ob, es, ep, k _ _ (.inl rfl) e, c⟩
  | dT kvs =>
    obtain ⟨z, y, xs, r, ob, es, ep, e, c⟩ := x
    exact ⟨z, y, xs, Paired.mapP r fun p q z => ⟨z.1, ht _ _ z.2.1, z.2.2⟩, ob, es, ep, k _ _ (.inl rfl) e, c⟩
  | set S n => obtain ⟨ob, es, ep, t, e, c⟩ := x; exact ⟨ob, es, ep, t, k _ _ (.inl rfl) e, c⟩
  | ins C dx fs =>
    obtain ⟨d, z, ne, e, mA, ⟨od, es, ep, e2, c⟩, r⟩ := x
    exact ⟨ho _ d, z, ne, k _ _ (.inl rfl) e, mA, ⟨od, es, ep, k _ _ (.inr d) e2, c⟩, r⟩
  | own y => obtain ⟨ob, e⟩ := x; exact ⟨ob, k _ _ (.inl rfl) e⟩
  | xd fs => obtain ⟨mA, ⟨od, es, ep, e, c⟩, r⟩ := x; exact ⟨mA, ⟨od, es, ep, k _ _ (.inl rfl) e, c⟩, r⟩
  | rng lo hi => obtain ⟨t, u, v, e⟩ := x; exact ⟨t, u, v, k _ _ (.inl rfl) e⟩
  | frz ob u ih => obtain ⟨e, q⟩ := x; exact ⟨k _ _ (.inl rfl) e, ih q⟩
  | tbl ps =>
    have e : h.get? a = some { cls := .none, data := .fields ps } := x
    show h'.get? a = some { cls := .none, data := .fields ps }
    exact k a _ (.inl rfl) e
  | met f y =>
    have e : h.get? a = some (PySem.W.methodObj (.ref f) (.ref y)) := x
    show h'.get? a = some (PySem.W.methodObj (.ref f) (.ref y))
    exact k a _ (.inl rfl) e
  | ext φ => obtain ⟨p, ⟨o, e⟩, st⟩ := x; exact ⟨st _ _ p fun o q => k _ _ (.inl rfl) q, ⟨o, k _ _ (.inl rfl) e⟩, st⟩
theorem HOk.lt (x : HOk P w H h) (e : H a = some o) : a < h.objs.size := (x a o e).lt
theorem HOk.fresh (x : HOk P w H h) (e : h.objs.size ≤ a) : H a = none := by
  cases q : H a with
  | none => rfl
  | some u => exact absurd (Nat.lt_of_lt_of_le (x.lt q) e) (Nat.lt_irrefl _)
/-- every object of the heap is kept -/
theorem HOk.kept (x : HOk P w H h) (k : ∀ b u, h.get? b = some u → h'.get? b = some u) : HOk P w H h' := fun a o e =>
  (x a o e).stay (fun b u _ q => k b u q) (fun _ q => q) fun _ _ q => q
/-- a new object is laid and tracked -/
theorem HOk.laid (x : HOk P w H h) (k : ∀ b u, h.get? b = some u → h'.get? b = some u) (hp : h.objs.size ≤ a) (new : ObjOk P w (upd H a o) h' a o) : HOk P w (upd H a o) h' := fun b u e => by
  have hn := x.fresh hp
  by_cases hb : b = a
  · subst hb; rw [upd_same] at e; cases e; exact new
  · rw [upd_ne hb] at e
    exact (x b u e).stay (fun c v _ q => k c v q) (fun c q => by rw [upd_ne (ne_of_none q hn)]; exact q) fun c xs q => by rw [upd_ne (ne_of_none q hn)]; exact q
end

/-- what may be read as u: it is u, or a known u -/
def Rd (H : Hp) (a : Addr) (u : HO) : Prop := H a = some u ∨ ∃ o, H a = some (.frz o u)
theorem Rd.of {H : Hp} {a : Addr} {u : HO} (h : H a = some u) : Rd H a u := .inl h
theorem Rd.ok {P : Program} {w : World} {H : Hp} {h : Heap} {a : Addr} {u : HO} (r : Rd H a u) (x : HOk P w H h) : ObjOk P w H h a u := by
  rcases r with r | ⟨o, r⟩
  · exact x a u r
  · obtain ⟨_, q⟩ := x a _ r
    exact q
/-- what may be written -/
def Mut : Option HO → Prop
  | some (.lst _) => True
  | some (.dK _) => True
  | some (.dT _) => True
  | some (.set _ _) => True
  | some (.ins _ _ _) => True
  | some (.ext _) => True
  | _ => False
section
variable {P : Program} {w : World} {H : Hp} {h h' : Heap} {x e : Addr} {o' : HO}
/-- the object at e is changed: x itself, or the dict of the instance x -/
theorem HOk.write (ok : HOk P w H h) (mu : Mut (H x)) (he : e = x ∨ H e = some (.own x)) (k : ∀ b u, b ≠ e → h.get? b = some u → h'.get? b = some u) (heo : ∃ u, h'.get? e = some u)
    (new : ObjOk P w (upd H x o') h' x o') : HOk P w (upd H x o') h' := fun b u q => by
  have nown : ∀ c y, H c = some (.own y) → c ≠ x := fun c y r z => by subst z; rw [r] at mu; exact mu
  have ntup : ∀ c xs, H c = some (.tup xs) → c ≠ x := fun c xs r z => by subst z; rw [r] at mu; exact mu
  by_cases hb : b = x
  · subst hb; rw [upd_same] at q; cases q; exact new
  · rw [upd_ne hb] at q
    by_cases hbe : b = e
    · have q' : H b = some (.own x) := by
        rcases he with z | z
        · exact absurd (hbe.trans z) hb
        · rw [hbe]; exact z
      rw [q] at q'; cases q'
      obtain ⟨v, hv⟩ := heo
      exact ⟨v, by rw [hbe]; exact hv⟩
    · refine (ok b u q).stay (fun c v hc r => k c v ?_ r) (fun c r => by rw [upd_ne (nown c b r)]; exact r) fun c xs r => by rw [upd_ne (ntup c xs r)]; exact r
      rcases hc with rfl | hc
      · exact hbe
      · rintro rfl
        rcases he with z | z
        · exact nown c b hc z
        · rw [hc] at z; cases z; exact hb rfl
end

/-! ### kept unless tracked; of the frames at fs (the callers') the slots may change (an exception that passes writes there); of the records at ex (iterators) nothing is said -/
structure Un (fs ex : List Addr) (H H' : Hp) (h h' : Heap) : Prop where
  keep : ∀ b o, h.get? b = some o → H b = none → b ∉ fs → b ∉ ex → h'.get? b = some o
  slot : ∀ b o, h.get? b = some o → H b = none → b ∈ fs → b ∉ ex → ∃ sl, h'.get? b = some { o with slots := sl }
  free : ∀ b o, h.get? b = some o → H b = none → b ∉ ex → H' b = none
  there : ∀ b o, h.get? b = some o → b ∉ ex → ∃ o', h'.get? b = some o'
  tups : ∀ b xs, H b = some (.tup xs) → H' b = some (.tup xs)
  frzs : ∀ b o u, H b = some (.frz o u) → H' b = some (.frz o u)
  tbls : ∀ b ps, H b = some (.tbl ps) → ∃ more, H' b = some (.tbl (ps ++ more))
section
variable {fs fs' ex ex' : List Addr} {H H1 H2 : Hp} {h h1 h2 h' : Heap} {a x e : Addr} {o : HO}
theorem Un.any (u : Un fs ex H H1 h h1) {b : Addr} {ob : Obj} (q : h.get? b = some ob) (n : H b = none) (hx : b ∉ ex) : ∃ sl, h1.get? b = some { ob with slots := sl } := by
  by_cases hb : b ∈ fs
  · exact u.slot b ob q n hb hx
  · exact ⟨ob.slots, u.keep b ob q n hb hx⟩
theorem Un.trans (a : Un fs ex H H1 h h1) (b : Un fs ex H1 H2 h1 h2) : Un fs ex H H2 h h2 where
  keep := fun c ob q n hc hx => b.keep c ob (a.keep c ob q n hc hx) (a.free c ob q n hx) hc hx
  slot := fun c ob q n hc hx => by
    obtain ⟨sl, e1⟩ := a.slot c ob q n hc hx
    obtain ⟨sl', e2⟩ := b.slot c _ e1 (a.free c ob q n hx) hc hx
    exact ⟨sl', e2⟩
  free := fun c ob q n hx => by
    obtain ⟨o', e1⟩ := a.there c ob q hx
    exact b.free c o' e1 (a.free c ob q n hx) hx
  there := fun c ob q hx => by
    obtain ⟨o', e1⟩ := a.there c ob q hx
    exact b.there c o' e1 hx
  tups := fun c xs q => b.tups c xs (a.tups c xs q)
  frzs := fun c ob xs q => b.frzs c ob xs (a.frzs c ob xs q)
  tbls := fun c ps q => by
    obtain ⟨m1, e1⟩ := a.tbls c ps q
    obtain ⟨m2, e2⟩ := b.tbls c _ e1
    exact ⟨m1 ++ m2, by rw [e2, Array.append_assoc]⟩
theorem Un.kept (k : ∀ b u, h.get? b = some u → h'.get? b = some u) : Un fs ex H H h h' :=
  ⟨fun b ob q _ _ _ => k b ob q, fun b ob q _ _ _ => ⟨ob.slots, k b ob q⟩, fun _ _ _ n _ => n, fun b ob q _ => ⟨ob, k b ob q⟩, fun _ _ q => q, fun _ _ _ q => q, fun _ ps q => ⟨#[], by rw [q]; simp⟩⟩
theorem Un.refl : Un fs ex H H h h := Un.kept fun _ _ q => q
theorem Un.laid (k : ∀ b u, h.get? b = some u → h'.get? b = some u) (hp : h.objs.size ≤ a) (hn : H a = none) : Un fs ex H (upd H a o) h h' where
  keep := fun b u q _ _ _ => k b u q
  slot := fun b u q _ _ _ => ⟨u.slots, k b u q⟩
  free := fun b u q n _ => by rw [upd_ne (Nat.ne_of_lt (Nat.lt_of_lt_of_le (Heap.lt_size q) hp))]; exact n
  there := fun b u q _ => ⟨u, k b u q⟩
  tups := fun b xs q => by rw [upd_ne (ne_of_none q hn)]; exact q
  frzs := fun b u xs q => by rw [upd_ne (ne_of_none q hn)]; exact q
  tbls := fun b ps q => ⟨#[], by rw [upd_ne (ne_of_none q hn), q]; simp⟩
theorem Un.write (mu : Mut (H x)) (he : e = x ∨ H e = some (.own x)) (k : ∀ b u, b ≠ e → h.get? b = some u → h'.get? b = some u) (heo : ∃ u, h'.get? e = some u) : Un fs ex H (upd H x o) h h' := by
  have hx : ∀ b, H b = none → b ≠ x := fun b n z => by subst z; rw [n] at mu; exact mu
  have hb : ∀ b, H b = none → b ≠ e := fun b n z => by
    subst z
    rcases he with r | r
    · exact hx b n r
    · rw [n] at r; cases r
  have hm : ∀ b u, H b = some u → ¬ Mut (some u) → b ≠ x := fun b u q nm z => by subst z; rw [q] at mu; exact nm mu
  refine ⟨fun b u q n _ _ => k b u (hb b n) q, fun b u q n _ _ => ⟨u.slots, k b u (hb b n) q⟩, fun b u q n _ => by rw [upd_ne (hx b n)]; exact n, fun b u q _ => ?_,
    fun b xs q => by rw [upd_ne (hm b _ q fun z => z)]; exact q, fun b u xs q => by rw [upd_ne (hm b _ q fun z => z)]; exact q, fun b ps q => ⟨#[], by rw [upd_ne (hm b _ q fun z => z), q]; simp⟩⟩
  by_cases hbe : b = e
  · subst hbe; exact heo
  · exact ⟨u, k b u hbe q⟩
theorem Un.mono (u : Un fs ex H H1 h h1) (hs : ∀ b ∈ fs, b ∈ fs') (hx : ∀ b ∈ ex, b ∈ ex') : Un fs' ex' H H1 h h1 :=
  ⟨fun b ob q n hb he => u.keep b ob q n (fun z => hb (hs b z)) fun z => he (hx b z), fun _ _ q n _ he => u.any q n fun z => he (hx _ z), fun b ob q n he => u.free b ob q n fun z => he (hx b z), fun b ob q he => u.there b ob q fun z => he (hx b z), u.tups, u.frzs, u.tbls⟩
end

/-! ### the heap without what is tracked -/
def trk (h : Heap) (H : Hp) : List Addr := (List.range h.objs.size).filter fun a => (H a).isSome
def hidT (h : Heap) (H : Hp) : Heap := PySem.W.hideAll h (trk h H)
theorem hidT_size (h : Heap) (H : Hp) : (hidT h H).objs.size = h.objs.size := PySem.W.hideAll_size _ _
theorem hidT_get {h : Heap} {H : Hp} {b : Addr} {o : Obj} (e : h.get? b = some o) (n : H b = none) : (hidT h H).get? b = some o :=
  PySem.W.hideAll_get _ e fun hm => by
    have q : (H b).isSome = true := (List.mem_filter.mp hm).2
    rw [n] at q; simp at q
theorem of_hidT {h : Heap} {H : Hp} {b : Addr} {o : Obj} (e : (hidT h H).get? b = some o) : h.get? b = some o ∧ H b = none := by
  have e' : h.get? b = some o := PySem.W.of_hideAll (trk h H) e
  refine ⟨e', ?_⟩
  cases q : H b with
  | none => rfl
  | some x =>
    have hm : b ∈ trk h H := List.mem_filter.mpr ⟨List.mem_range.mpr (Heap.lt_size e'), by simp [q]⟩
    have z : (hidT h H).get? b = none := PySem.W.hideAll_none (trk h H) hm
    rw [z] at e; cases e

/-! ### OpenK's ledger, filled with every new object but one -/
def allNews (g h : Heap) (L : Addr) : List (Addr × Obj) := (List.range h.objs.size).filterMap fun a => if a = L ∨ (g.get? a).isSome = true then none else (h.get? a).map fun o => (a, o)
def rest (g h : Heap) (L d : Addr) : List (Addr × Obj) := (allNews g h L).filter fun p => decide (p.1 ≠ d)
end L2

namespace L2
open PySem PySem.Spec PyProof.Rows

/-- the module's facts, over the base: the heap at the law's entry without what is tracked there -/
structure Mod (K : PySem.W.Frag) (mg : Str → Option Value) (base : Heap) : Prop where
  kin : K.In base
  glob : base.Ns mainGlobals mg
  blt : ∃ mb, base.Ns builtinsNs mb ∧ ∀ x : Str, x ≠ "__name__" → mb x = bootBuiltins x
  nolimit : base.NoLimit

/-- the context: a def's body (or a comprehension's block) running. base: fixed through the whole law; s₀, H₀: the entry; outer: the frames whose slots others may change (a def's callers); stack: all frames that run;
   ex: iterators that were made ahead of the entry and are walked here (a comprehension's); fn: the names whose cells were made at the entry (a def: all; a comprehension's block: its own); calm: not within an except suite; pn: pins that every state bears; xe: what is wanted of an exception that leaves the code -/
structure Cx where
  prog : Program
  w : World
  K : PySem.W.Frag
  mg : Str → Option Value
  base : Heap
  A : Around
  N : List Str
  s₀ : Shared
  H₀ : Hp
  env : Env
  outer : List Env
  stack : List Env
  ex : List Addr
  fn : Str → Bool
  calm : Bool
  pn : List (Addr × Obj)
  xe : Value → Shared → Prop
/-- the callers' frames -/
def frs (l : List Env) : List Addr := l.filterMap (·.frame)
abbrev Cx.fs (X : Cx) : List Addr := frs X.outer

def Vis (sc : Scope) (x : Str) : Prop := sc.names.lookup x = some .local ∨ sc.names.lookup x = some .cell ∨ sc.names.lookup x = some .free
def Loc (sc : Scope) (x : Str) : Prop := sc.names.lookup x = some .local ∨ sc.names.lookup x = some .cell
def Look (env : Env) (h : Heap) (m : Str → Option Value) (x : Str) (u : Value) : Prop :=
  (env.kindOf x = some .local ∧ m x = some u) ∨ ((env.kindOf x = some .cell ∨ env.kindOf x = some .free) ∧ ∃ c, env.cells.lookup x = some c ∧ h.IsCell c (some u))

structure Cx.Ok (X : Cx) : Prop where
  mod : Mod X.K X.mg X.base
  kind : X.env.scope.kind = .function
  glob : X.env.globals = mainGlobals
  blt : X.env.builtins = builtinsNs
  above : X.s₀.heap.objs.size ≤ X.env.locals
  inj : ∀ x y c, X.env.cells.lookup x = some c → X.env.cells.lookup y = some c → x = y
  has : ∀ x, (X.env.kindOf x = some .cell ∨ X.env.kindOf x = some .free) → ∃ c, X.env.cells.lookup x = some c
  cab : ∀ x c, X.fn x = true → X.env.cells.lookup x = some c → X.s₀.heap.objs.size ≤ c
  hd : X.calm = true → X.A.handled = none
  frames : X.A.frames = some X.stack
  stk : X.stack = X.outer ∨ (X.stack = X.env :: X.outer ∧ X.env.frame = some X.env.locals)
  exf : ∀ b ∈ X.ex, b ≠ X.env.locals ∧ ∀ x c, X.env.cells.lookup x = some c → c ≠ b
  bs : ∀ b o, X.base.get? b = some o → X.s₀.heap.get? b = some o ∧ X.H₀ b = none
  bsz : X.base.objs.size ≤ X.s₀.heap.objs.size
  noex : ∀ b o, X.base.get? b = some o → b ∉ X.ex
  exfs : ∀ b ∈ X.ex, b ∉ X.fs
  funs : X.s₀.heap.FunFrames X.base X.outer
  frf : ∀ b ∈ X.fs, X.H₀ b = none

structure Inv (X : Cx) (pins : List (Addr × Obj)) (σ : List (Option V)) (H : Hp) (s : Shared) : Prop where
  ok : X.Ok
  os : s.os = X.s₀.os
  bare : AllBare s.gens
  base : Un X.fs X.ex X.H₀ H X.s₀.heap s.heap
  loc : ∃ m, s.heap.Ns X.env.locals m ∧ ∀ (i : Nat) (x : Str) (v : V), X.N[i]? = some x → σ[i]? = some (some v) → Vis X.env.scope x → ∃ u, RelV v u ∧ Look X.env s.heap m x u
  cell : ∀ x c, X.env.cells.lookup x = some c → ∃ v, s.heap.IsCell c v
  free : H X.env.locals = none
  freeC : ∀ x c, X.env.cells.lookup x = some c → H c = none
  pin : ∀ p ∈ X.pn ++ pins, s.heap.get? p.1 = some p.2 ∧ H p.1 = none ∧ p.1 ≠ X.env.locals ∧ p.1 ∉ X.fs ∧ ∀ v, p.2.data ≠ .cell v
  hok : HOk X.prog X.w H s.heap
  len : σ.length = X.N.length

section
variable {X : Cx} {pins : List (Addr × Obj)} {σ : List (Option V)} {H H' : Hp} {s : Shared} {h' : Heap}

theorem Cx.Ok.nofr (ok : X.Ok) {b : Addr} {o : Obj} (e : X.base.get? b = some o) : b ∉ X.fs := fun hb => by
  have := (ok.funs.mem hb).1
  rw [e] at this; cases this
theorem Inv.bs (I : Inv X pins σ H s) : ∀ b o, X.base.get? b = some o → s.heap.get? b = some o ∧ H b = none := fun b o e =>
  ⟨I.base.keep b o (I.ok.bs b o e).1 (I.ok.bs b o e).2 (I.ok.nofr e) (I.ok.noex b o e), I.base.free b o (I.ok.bs b o e).1 (I.ok.bs b o e).2 (I.ok.noex b o e)⟩
theorem Inv.bk (I : Inv X pins σ H s) : ∀ b o, X.base.get? b = some o → s.heap.get? b = some o := fun b o e => (I.bs b o e).1
theorem Inv.mod (I : Inv X pins σ H s) : Mod X.K X.mg X.base := I.ok.mod
theorem Inv.kIn (I : Inv X pins σ H s) : X.K.In s.heap := I.ok.mod.kin.keeps I.bk
theorem Inv.nolimit (I : Inv X pins σ H s) : s.heap.NoLimit := I.ok.mod.nolimit.keeps I.bk
/-- the frame over the base: for OpenK's rules (K.In X.base is I.mod.kin) -/
theorem Inv.fr (I : Inv X pins σ H s) : ∃ m, Fr X.base X.env.locals s.heap m :=
  let ⟨m, hn, _⟩ := I.loc
  ⟨m, hn, I.bk, Nat.le_trans I.ok.bsz I.ok.above⟩
theorem Inv.lt (I : Inv X pins σ H s) : X.env.locals < s.heap.objs.size := let ⟨_, hn, _⟩ := I.loc; hn.lt
theorem Inv.sz (I : Inv X pins σ H s) : X.s₀.heap.objs.size ≤ s.heap.objs.size := Nat.le_trans I.ok.above (Nat.le_of_lt I.lt)
theorem Inv.nofs (I : Inv X pins σ H s) {a : Addr} (h : s.heap.objs.size ≤ a) : a ∉ X.fs := fun hb => by
  obtain ⟨_, o, ho, _⟩ := I.ok.funs.mem hb
  exact absurd (Nat.lt_of_lt_of_le (Heap.lt_size ho) (Nat.le_trans I.sz h)) (Nat.lt_irrefl _)
theorem Inv.cne (I : Inv X pins σ H s) : ∀ x c, X.env.cells.lookup x = some c → c ≠ X.env.locals := fun x c e z => by
  obtain ⟨v, o, ho, hd⟩ := I.cell x c e
  obtain ⟨m, ⟨o', es, ep, ho', hd', _⟩, _⟩ := I.loc
  rw [z, ho'] at ho; cases ho; rw [hd'] at hd; cases hd
theorem Inv.funs (I : Inv X pins σ H s) : s.heap.FunFrames X.base X.outer := by
  have all : ∀ (l : List Env), (∀ b ∈ frs l, b ∈ X.fs) → X.s₀.heap.FunFrames X.base l → s.heap.FunFrames X.base l := by
    intro l
    induction l with
    | nil => intro _ _; trivial
    | cons env r ih =>
      intro hs hl
      obtain ⟨hk, ⟨L, o, hf, hn, ho, hd⟩, hr⟩ := hl
      have hL : L ∈ X.fs := hs L (by unfold frs; rw [List.filterMap_cons, hf]; exact List.mem_cons_self)
      obtain ⟨sl, e⟩ := I.base.slot L o ho (I.ok.frf L hL) hL fun z => I.ok.exfs L z hL
      exact ⟨hk, ⟨L, _, hf, hn, e, hd⟩, ih (fun b hb => hs b (by unfold frs; rw [List.filterMap_cons, hf]; exact List.mem_cons_of_mem _ hb)) hr⟩
  exact all X.outer (fun _ hb => hb) I.ok.funs

/-- the frames that run, for a call -/
theorem Inv.stack (I : Inv X pins σ H s) : s.heap.FunFrames X.base X.stack := by
  rcases I.ok.stk with e | ⟨e, hf⟩
  · rw [e]; exact I.funs
  · rw [e]
    obtain ⟨m, hn, _⟩ := I.loc
    refine .cons (by rw [I.ok.kind]; decide) hf hn ?_ I.funs
    exact Heap.get?_none_of_le (Nat.le_trans I.ok.bsz I.ok.above)
theorem Inv.stkSub (I : Inv X pins σ H s) : ∀ b ∈ frs X.stack, b ∈ X.env.locals :: X.fs := fun b hb => by
  rcases I.ok.stk with e | ⟨e, hf⟩
  · rw [e] at hb; exact List.mem_cons_of_mem _ hb
  · rw [e] at hb
    unfold frs at hb
    rw [List.filterMap_cons, hf] at hb
    exact hb
theorem Inv.stkFree (I : Inv X pins σ H s) : ∀ b ∈ frs X.stack, H b = none := fun b hb => by
  rcases List.mem_cons.mp (I.stkSub b hb) with e | hb
  · rw [e]; exact I.free
  · obtain ⟨_, o, ho, _⟩ := I.ok.funs.mem hb
    exact I.base.free b o ho (I.ok.frf b hb) fun z => I.ok.exfs b z hb

/-- THE STEP: the untracked objects but the frame and the records at ch are kept (the callers' frames up to slots), the frame's map is kept, the new abstract heap is held -/
theorem Inv.step {g' : Array GenState} {t' : Nat} {d' : Drawn} {ch : List Addr} (I : Inv X pins σ H s)
    (hch : ∀ b ∈ ch, (b ∈ X.ex ∨ X.s₀.heap.objs.size ≤ b) ∧ b ≠ X.env.locals ∧ (∀ x c, X.env.cells.lookup x = some c → c ≠ b) ∧ ∀ p ∈ X.pn ++ pins, p.1 ≠ b)
    (keep : ∀ b o, b ≠ X.env.locals → b ∉ X.fs → b ∉ ch → s.heap.get? b = some o → H b = none → h'.get? b = some o)
    (slot : ∀ b o, b ≠ X.env.locals → b ∈ X.fs → b ∉ ch → s.heap.get? b = some o → H b = none → ∃ sl, h'.get? b = some { o with slots := sl }) (free : ∀ b o, b ∉ ch → s.heap.get? b = some o → H b = none → H' b = none)
    (there : ∀ b o, b ∉ ch → s.heap.get? b = some o → ∃ o', h'.get? b = some o')
    (tups : ∀ b xs, H b = some (.tup xs) → H' b = some (.tup xs)) (frzs : ∀ b o u, H b = some (.frz o u) → H' b = some (.frz o u)) (tbls : ∀ b ps, H b = some (.tbl ps) → ∃ more, H' b = some (.tbl (ps ++ more)))
    (ns : ∀ m, s.heap.Ns X.env.locals m → h'.Ns X.env.locals m) (hok : HOk X.prog X.w H' h') (hg : AllBare g') :
    Inv X pins σ H' { s with heap := h', gens := g', drawn := d', toks := t' } := by
  have neL : ∀ b o, X.s₀.heap.get? b = some o → b ≠ X.env.locals := fun b o e => Nat.ne_of_lt (Nat.lt_of_lt_of_le (Heap.lt_size e) I.ok.above)
  have neC : ∀ b o, X.s₀.heap.get? b = some o → b ∉ X.ex → b ∉ ch := fun b o e hx hb => by
    rcases (hch b hb).1 with z | z
    · exact hx z
    · exact absurd (Nat.lt_of_lt_of_le (Heap.lt_size e) z) (Nat.lt_irrefl _)
  have cellK : ∀ x c, X.env.cells.lookup x = some c → ∀ v, s.heap.IsCell c v → h'.IsCell c v := fun x c e v ⟨o, ho, hd⟩ => by
    have nch : c ∉ ch := fun z => (hch c z).2.2.1 x c e rfl
    by_cases hc : c ∈ X.fs
    · obtain ⟨sl, q⟩ := slot c o (I.cne x c e) hc nch ho (I.freeC x c e)
      exact ⟨_, q, hd⟩
    · exact ⟨o, keep c o (I.cne x c e) hc nch ho (I.freeC x c e), hd⟩
  refine ⟨I.ok, I.os, hg, ⟨fun b o e n hb hx => ?_, fun b o e n hb hx => ?_, fun b o e n hx => ?_, fun b o e hx => ?_, fun b xs e => tups b xs (I.base.tups b xs e), fun b o xs e => frzs b o xs (I.base.frzs b o xs e), fun b ps e => ?_⟩, ?_, fun x c e => ?_, ?_, fun x c e => ?_, fun p hp => ?_, hok, I.len⟩
  · exact keep b o (neL b o e) hb (neC b o e hx) (I.base.keep b o e n hb hx) (I.base.free b o e n hx)
  · obtain ⟨sl, e1⟩ := I.base.slot b o e n hb hx
    obtain ⟨sl', e2⟩ := slot b _ (neL b o e) hb (neC b o e hx) e1 (I.base.free b o e n hx)
    exact ⟨sl', e2⟩
  · obtain ⟨o', e1⟩ := I.base.there b o e hx
    exact free b o' (neC b o e hx) e1 (I.base.free b o e n hx)
  · obtain ⟨o', e1⟩ := I.base.there b o e hx
    exact there b o' (neC b o e hx) e1
  · obtain ⟨m1, e1⟩ := I.base.tbls b ps e
    obtain ⟨m2, e2⟩ := tbls b _ e1
    exact ⟨m1 ++ m2, by rw [e2, Array.append_assoc]⟩
  · obtain ⟨m, hn, hl⟩ := I.loc
    refine ⟨m, ns m hn, fun i x v e1 e2 e3 => ?_⟩
    obtain ⟨u, r, l⟩ := hl i x v e1 e2 e3
    refine ⟨u, r, ?_⟩
    rcases l with l | ⟨k, c, e, z⟩
    · exact .inl l
    · exact .inr ⟨k, c, e, cellK x c e _ z⟩
  · obtain ⟨v, z⟩ := I.cell x c e
    exact ⟨v, cellK x c e v z⟩
  · obtain ⟨m, ⟨o, _, _, ho, _⟩, _⟩ := I.loc
    exact free _ o (fun z => (hch _ z).2.1 rfl) ho I.free
  · obtain ⟨v, o, ho, hd⟩ := I.cell x c e
    exact free c o (fun z => (hch c z).2.2.1 x c e rfl) ho (I.freeC x c e)
  · obtain ⟨e, n, ne, nf, d⟩ := I.pin p hp
    have nch : p.1 ∉ ch := fun z => (hch p.1 z).2.2.2 p hp rfl
    exact ⟨keep p.1 p.2 ne nf nch e n, free p.1 p.2 nch e n, ne, nf, d⟩
/-- .. where the frame's own object is kept too -/
theorem Inv.un {t' : Nat} (I : Inv X pins σ H s) (u : Un X.fs [] H H' s.heap h') (hok : HOk X.prog X.w H' h') : Inv X pins σ H' { s with heap := h', toks := t' } := by
  obtain ⟨m, ⟨o, es, ep, ho, r⟩, _⟩ := id I.loc
  obtain ⟨sl, hL⟩ := u.any ho I.free (by simp)
  exact I.step (g' := s.gens) (d' := s.drawn) (ch := []) (fun _ z => nomatch z) (fun b o _ hb _ e n => u.keep b o e n hb (by simp)) (fun b o _ hb _ e n => u.slot b o e n hb (by simp)) (fun b o _ e n => u.free b o e n (by simp)) (fun b o _ e => u.there b o e (by simp)) u.tups u.frzs u.tbls (fun m' hm => by
    obtain ⟨o', es', ep', ho', r'⟩ := hm
    rw [ho] at ho'; cases ho'
    exact ⟨_, es', ep', hL, r'⟩) hok I.bare
/-- behind a call (or a comprehension's block): the slots of this frame may have changed too, the records at ch may have turned -/
theorem Inv.call {g' : Array GenState} {t' : Nat} {d' : Drawn} {ch : List Addr} (I : Inv X pins σ H s) (u : Un (frs X.stack) ch H H' s.heap h') (hok : HOk X.prog X.w H' h') (hg : AllBare g')
    (hch : ∀ b ∈ ch, (b ∈ X.ex ∨ X.s₀.heap.objs.size ≤ b) ∧ b ≠ X.env.locals ∧ (∀ x c, X.env.cells.lookup x = some c → c ≠ b) ∧ ∀ p ∈ X.pn ++ pins, p.1 ≠ b) :
    Inv X pins σ H' { s with heap := h', gens := g', drawn := d', toks := t' } := by
  obtain ⟨m, ⟨o, es, ep, ho, r⟩, _⟩ := id I.loc
  obtain ⟨sl, hL⟩ := u.any ho I.free fun z => (hch _ z).2.1 rfl
  exact I.step (ch := ch) hch (fun b o hL hb hc e n => u.keep b o e n (fun z => (List.mem_cons.mp (I.stkSub b z)).elim hL hb) hc) (fun b o _ _ hc e n => u.any e n hc) (fun b o hc e n => u.free b o e n hc) (fun b o hc e => u.there b o e hc) u.tups u.frzs u.tbls (fun m' hm => by
    obtain ⟨o', es', ep', ho', r'⟩ := hm
    rw [ho] at ho'; cases ho'
    exact ⟨_, es', ep', hL, r'⟩) hok hg
/-- an untracked record of ours (an iterator) has turned -/
theorem Inv.turned {t' : Nat} {it : Addr} (I : Inv X pins σ H s) (k : ∀ b o, b ≠ it → s.heap.get? b = some o → h'.get? b = some o) (hn : H it = none) (hL : it ≠ X.env.locals)
    (h1 : it ∈ X.ex ∨ X.s₀.heap.objs.size ≤ it) (h2 : ∀ x c, X.env.cells.lookup x = some c → c ≠ it) (h3 : ∀ p ∈ X.pn ++ pins, p.1 ≠ it) : Inv X pins σ H { s with heap := h', toks := t' } := by
  have nit : ∀ b u, H b = some u → b ≠ it := fun b u e z => by rw [z, hn] at e; cases e
  refine I.step (g' := s.gens) (d' := s.drawn) (ch := [it]) (fun b hb => ?_) (fun b o _ _ hc e _ => k b o (fun z => hc (by simp [z])) e) (fun b o _ _ hc e _ => ⟨o.slots, k b o (fun z => hc (by simp [z])) e⟩) (fun _ _ _ _ n => n)
    (fun b o hc e => ⟨o, k b o (fun z => hc (by simp [z])) e⟩) (fun _ _ e => e) (fun _ _ _ e => e) (fun b ps e => ⟨#[], by rw [e]; simp⟩) (fun m hm => ?_) (fun b u e => ?_) I.bare
  · have e : b = it := by simpa using hb
    subst e
    exact ⟨h1, hL, h2, h3⟩
  · obtain ⟨o, es, ep, ho, r⟩ := hm
    exact ⟨o, es, ep, k _ o (Ne.symm hL) ho, r⟩
  · refine (I.hok b u e).stay (fun c v hc q => k c v ?_ q) (fun _ q => q) fun _ _ q => q
    rcases hc with z | z
    · rw [z]; exact nit b u e
    · exact nit c _ z
theorem Inv.tok (I : Inv X pins σ H s) (t : Nat) : Inv X pins σ H { s with toks := t } := I.un (h' := s.heap) (t' := t) Un.refl I.hok
/-- all objects kept -/
theorem Inv.kept {t' : Nat} (I : Inv X pins σ H s) (k : ∀ b u, s.heap.get? b = some u → h'.get? b = some u) : Inv X pins σ H { s with heap := h', toks := t' } := I.un (Un.kept k) (I.hok.kept k)
/-- a new object laid and tracked -/
theorem Inv.laid {a : Addr} {o : HO} {t' : Nat} (I : Inv X pins σ H s) (k : ∀ b u, s.heap.get? b = some u → h'.get? b = some u) (hp : s.heap.objs.size ≤ a) (new : ObjOk X.prog X.w (upd H a o) h' a o) :
    Inv X pins σ (upd H a o) { s with heap := h', toks := t' } := I.un (Un.laid k hp (I.hok.fresh hp)) (I.hok.laid k hp new)
/-- an object written -/
theorem Inv.write {x e : Addr} {o : HO} {t' : Nat} (I : Inv X pins σ H s) (mu : Mut (H x)) (he : e = x ∨ H e = some (.own x)) (k : ∀ b u, b ≠ e → s.heap.get? b = some u → h'.get? b = some u) (heo : ∃ u, h'.get? e = some u)
    (new : ObjOk X.prog X.w (upd H x o) h' x o) : Inv X pins σ (upd H x o) { s with heap := h', toks := t' } := I.un (Un.write mu he k heo) (I.hok.write mu he k heo new)
theorem Inv.pins_of {pins' : List (Addr × Obj)} (I : Inv X pins σ H s) (h : ∀ p ∈ pins', s.heap.get? p.1 = some p.2 ∧ H p.1 = none ∧ p.1 ≠ X.env.locals ∧ p.1 ∉ X.fs ∧ ∀ v, p.2.data ≠ .cell v) : Inv X pins' σ H s :=
  ⟨I.ok, I.os, I.bare, I.base, I.loc, I.cell, I.free, I.freeC, fun p hp => (List.mem_append.mp hp).elim (fun z => I.pin p (List.mem_append_left _ z)) (h p), I.hok, I.len⟩

theorem nodup_ix {N : List Str} (hN : N.Nodup) {i j : Nat} {x : Str} (a : N[i]? = some x) (b : N[j]? = some x) : i = j := by
  obtain ⟨h1, e1⟩ := List.getElem?_eq_some_iff.mp a
  obtain ⟨h2, e2⟩ := List.getElem?_eq_some_iff.mp b
  exact (List.getElem_inj hN).mp (e1.trans e2.symm)

/-- a name is stored; what changed -/
theorem store_ok2 {M : Model} {A : Around} {E : Value → Shared → Prop} {i : Nat} {x : Str} {v : V} {u : Value} {Q : Unit → Shared → Prop} (I : Inv X pins σ H s) (hN : X.N.Nodup) (hi : X.N[i]? = some x) (hx : Loc X.env.scope x) (r : RelV v u)
    (h : ∀ s', Inv X pins (σ.set i (some v)) H s' → (∃ a, Heap.SameBut a s.heap s'.heap ∧ (a = X.env.locals ∨ X.env.cells.lookup x = some a)) → Q () s') (hf : X.fn x = true ∨ X.env.scope.names.lookup x = some .local := by first | exact .inl rfl | exact .inr rfl | assumption) : wpAny M A (storeName X.env x u) Q E s := by
  obtain ⟨m, hn, hl⟩ := id I.loc
  have hcls : (X.env.scope.kind == .class || (X.env.scope.kind == .module && X.env.locals != X.env.globals)) = false := by rw [I.ok.kind]; rfl
  have hiσ : i < σ.length := by rw [I.len]; exact (List.getElem?_eq_some_iff.mp hi).1
  have cne := I.cne
  have tracked : ∀ {a : Addr} {h' : Heap}, (∃ o, s.heap.get? a = some o ∧ H a = none) → Heap.SameBut a s.heap h' → HOk X.prog X.w H h' := fun {a h'} ha hs b ob e => by
    obtain ⟨_, _, hfree⟩ := ha
    refine (I.hok b ob e).stay (fun c w' hc q => (hs.2 c ?_).trans q) (fun _ q => q) fun _ _ q => q
    rintro rfl
    rcases hc with rfl | hc
    · rw [hfree] at e; cases e
    · rw [hfree] at hc; cases hc
  rcases hx with hk | hk
  · refine wpAny_storeName_local hk hn (fun h' hn' hs => ?_) hcls
    obtain ⟨oL, _, _, hoL, _⟩ := id hn
    refine h _ ⟨I.ok, I.os, I.bare, ⟨fun b o e n hb hx => ?_, fun b o e n hb hx => ?_, I.base.free, fun b o e hx => ?_, I.base.tups, I.base.frzs, I.base.tbls⟩, ⟨_, hn', fun j y v' e1 e2 e3 => ?_⟩, fun y c e => ?_, I.free, I.freeC, fun p hp => ?_, tracked ⟨oL, hoL, I.free⟩ hs, by simpa using I.len⟩ ⟨_, hs, .inl rfl⟩
    · exact (hs.2 b (Nat.ne_of_lt (Nat.lt_of_lt_of_le (Heap.lt_size e) I.ok.above))).trans (I.base.keep b o e n hb hx)
    · obtain ⟨sl, e1⟩ := I.base.slot b o e n hb hx
      exact ⟨sl, (hs.2 b (Nat.ne_of_lt (Nat.lt_of_lt_of_le (Heap.lt_size e) I.ok.above))).trans e1⟩
    · obtain ⟨o', e1⟩ := I.base.there b o e hx
      exact ⟨o', (hs.2 b (Nat.ne_of_lt (Nat.lt_of_lt_of_le (Heap.lt_size e) I.ok.above))).trans e1⟩
    · by_cases hj : j = i
      · subst hj
        rw [hi] at e1; cases e1
        rw [List.getElem?_set_self hiσ] at e2
        cases e2
        exact ⟨u, r, .inl ⟨hk, by simp⟩⟩
      · rw [List.getElem?_set_ne (Ne.symm hj)] at e2
        obtain ⟨u', r', q⟩ := hl j y v' e1 e2 e3
        refine ⟨u', r', ?_⟩
        rcases q with ⟨k, e⟩ | ⟨k, c, e, z⟩
        · refine .inl ⟨k, ?_⟩
          have : y ≠ x := fun e => hj (nodup_ix hN e1 (e ▸ hi))
          simp [this, e]
        · exact .inr ⟨k, c, e, z.sameBut hs (cne y c e)⟩
    · obtain ⟨w', z⟩ := I.cell y c e
      exact ⟨w', z.sameBut hs (cne y c e)⟩
    · obtain ⟨e, n, ne, nf, d⟩ := I.pin p hp
      exact ⟨(hs.2 p.1 ne).trans e, n, ne, nf, d⟩
  · have hfn : X.fn x = true := by
      rcases hf with z | z
      · exact z
      · rw [z] at hk; cases hk
    obtain ⟨c, hc⟩ := I.ok.has x (.inl hk)
    obtain ⟨w', z⟩ := I.cell x c hc
    refine wpAny_storeName_cell I.ok.kind hk hc z (fun h' hc' hs => ?_)
    obtain ⟨oc, hoc, hocd⟩ := id z
    refine h { s with heap := h' } ⟨I.ok, I.os, I.bare, ⟨fun b o e n hb hx => ?_, fun b o e n hb hx => ?_, I.base.free, fun b o e hx => ?_, I.base.tups, I.base.frzs, I.base.tbls⟩, ⟨m, hn.sameBut hs (Ne.symm (cne x c hc)), fun j y v' e1 e2 e3 => ?_⟩, fun y c' e => ?_, I.free, I.freeC, fun p hp => ?_, tracked ⟨oc, hoc, I.freeC x c hc⟩ hs, by simpa using I.len⟩ ⟨c, hs, .inr hc⟩
    · exact (hs.2 b (Nat.ne_of_lt (Nat.lt_of_lt_of_le (Heap.lt_size e) (I.ok.cab x c hfn hc)))).trans (I.base.keep b o e n hb hx)
    · obtain ⟨sl, e1⟩ := I.base.slot b o e n hb hx
      exact ⟨sl, (hs.2 b (Nat.ne_of_lt (Nat.lt_of_lt_of_le (Heap.lt_size e) (I.ok.cab x c hfn hc)))).trans e1⟩
    · obtain ⟨o', e1⟩ := I.base.there b o e hx
      exact ⟨o', (hs.2 b (Nat.ne_of_lt (Nat.lt_of_lt_of_le (Heap.lt_size e) (I.ok.cab x c hfn hc)))).trans e1⟩
    · by_cases hj : j = i
      · subst hj
        rw [hi] at e1; cases e1
        rw [List.getElem?_set_self hiσ] at e2
        cases e2
        exact ⟨u, r, .inr ⟨.inl hk, c, hc, hc'⟩⟩
      · rw [List.getElem?_set_ne (Ne.symm hj)] at e2
        obtain ⟨u', r', q⟩ := hl j y v' e1 e2 e3
        refine ⟨u', r', ?_⟩
        rcases q with q | ⟨k, c', e, z'⟩
        · exact .inl q
        · refine .inr ⟨k, c', e, z'.sameBut hs ?_⟩
          rintro rfl
          exact hj (nodup_ix hN e1 (I.ok.inj _ _ _ e hc ▸ hi))
    · by_cases hcc : c' = c
      · subst hcc; exact ⟨_, hc'⟩
      · obtain ⟨w2, z2⟩ := I.cell y c' e
        exact ⟨w2, z2.sameBut hs hcc⟩
    · obtain ⟨e, n, ne, nf, d⟩ := I.pin p hp
      refine ⟨(hs.2 p.1 ?_).trans e, n, ne, nf, d⟩
      intro q
      rw [q, hoc] at e
      have q' : oc = p.2 := Option.some.inj e
      exact d w' (by rw [← q']; exact hocd)
theorem store_ok {M : Model} {A : Around} {E : Value → Shared → Prop} {i : Nat} {x : Str} {v : V} {u : Value} {Q : Unit → Shared → Prop} (I : Inv X pins σ H s) (hN : X.N.Nodup) (hi : X.N[i]? = some x) (hx : Loc X.env.scope x) (r : RelV v u)
    (h : ∀ s', Inv X pins (σ.set i (some v)) H s' → Q () s') (hf : X.fn x = true ∨ X.env.scope.names.lookup x = some .local := by first | exact .inl rfl | exact .inr rfl | assumption) : wpAny M A (storeName X.env x u) Q E s :=
  store_ok2 I hN hi hx r (fun s' I' _ => h s' I') hf
/-- behind a call or a block, the state as it is -/
theorem Inv.call' {s' : Shared} {ch : List Addr} (I : Inv X pins σ H s) (ho : s'.os = s.os) (u : Un (frs X.stack) ch H H' s.heap s'.heap) (hok : HOk X.prog X.w H' s'.heap) (hg : AllBare s'.gens)
    (hch : ∀ b ∈ ch, (b ∈ X.ex ∨ X.s₀.heap.objs.size ≤ b) ∧ b ≠ X.env.locals ∧ (∀ x c, X.env.cells.lookup x = some c → c ≠ b) ∧ ∀ p ∈ X.pn ++ pins, p.1 ≠ b) : Inv X pins σ H' s' := by
  obtain ⟨h', g', d', t', o'⟩ := s'
  have e : o' = s.os := ho
  subst e
  exact I.call (g' := g') (t' := t') (d' := d') u hok hg hch
end

/-! ### the judgements -/
/-- an exception: its class, its own dict's address (where it has one), the abstract heap behind it -/
abbrev XK := Value → Option Addr → Hp → Prop
abbrev St := List (Option V)
abbrev VK := V → Hp → Prop
/-- an expression's reading; a test's; an argument list's -/
abbrev TE := St → Hp → VK → Prop
abbrev TT := St → Hp → (Bool → Hp → Prop) → Prop
abbrev TA := St → Hp → (List V → Hp → Prop) → Prop
/-- what is wanted behind a statement -/
structure Ends where
  nx : St → Hp → Prop
  rt : VK
  bk : St → Hp → Prop := fun _ _ => False
  ct : St → Hp → Prop := fun _ _ => False
abbrev TS := Ends → St → Hp → Prop

def EP (X : Cx) (pins : List (Addr × Obj)) (σ : St) (Q : VK) (u : Value) (s' : Shared) : Prop := ∃ v H', Inv X pins σ H' s' ∧ RelV v u ∧ Q v H'
def TP (X : Cx) (pins : List (Addr × Obj)) (σ : St) (Q : Bool → Hp → Prop) (b : Bool) (s' : Shared) : Prop := ∃ H', Inv X pins σ H' s' ∧ Q b H'
def AP (X : Cx) (pins : List (Addr × Obj)) (σ : St) (Q : List V → Hp → Prop) (us : List Value) (s' : Shared) : Prop := ∃ vs H', Inv X pins σ H' s' ∧ Vals vs us ∧ Q vs H'
def SP (X : Cx) (pins : List (Addr × Obj)) (D : Ends) (f : Flow) (s' : Shared) : Prop :=
  match f with
  | .next => ∃ σ' H', Inv X pins σ' H' s' ∧ D.nx σ' H'
  | .brk => ∃ σ' H', Inv X pins σ' H' s' ∧ D.bk σ' H'
  | .cont => ∃ σ' H', Inv X pins σ' H' s' ∧ D.ct σ' H'
  | .ret u => ∃ v σ' H', Inv X pins σ' H' s' ∧ RelV v u ∧ D.rt v H'

def PE (X : Cx) (e : Expr) (t : TE) : Prop :=
  ∀ (pins : List (Addr × Obj)) (s : Shared) (σ : St) (H : Hp) (Q : VK), Inv X pins σ H s → t σ H Q → wpAny (model X.prog X.w) X.A (eval e X.env) (EP X pins σ Q) X.xe s
def PT (X : Cx) (e : Expr) (t : TT) : Prop :=
  ∀ (pins : List (Addr × Obj)) (s : Shared) (σ : St) (H : Hp) (Q : Bool → Hp → Prop), Inv X pins σ H s → t σ H Q → wpAny (model X.prog X.w) X.A (isTrue e X.env (eval e X.env)) (TP X pins σ Q) X.xe s
/-- a test whatever its 'whole' is (and, or) -/
def PW (X : Cx) (e : Expr) (t : TT) : Prop :=
  ∀ (whole : Sem Value) (pins : List (Addr × Obj)) (s : Shared) (σ : St) (H : Hp) (Q : Bool → Hp → Prop), Inv X pins σ H s → t σ H Q → wpAny (model X.prog X.w) X.A (isTrue e X.env whole) (TP X pins σ Q) X.xe s
theorem PW.pt {X : Cx} {e : Expr} {t : TT} (h : PW X e t) : PT X e t := h _
/-- an argument list (no star), from the left -/
def PA (X : Cx) (es : List Expr) (t : TA) : Prop :=
  ∀ (pos : Pos) (pins : List (Addr × Obj)) (s : Shared) (σ : St) (H : Hp) (Q : List V → Hp → Prop), Inv X pins σ H s → t σ H Q → wpAny (model X.prog X.w) X.A (spliced (backTo pos (starEach es X.env))) (AP X pins σ Q) X.xe s
def PS (X : Cx) (st : Stmt) (t : TS) : Prop :=
  ∀ (pins : List (Addr × Obj)) (s : Shared) (σ : St) (H : Hp) (D : Ends), Inv X pins σ H s → t D σ H → wpAny (model X.prog X.w) X.A (exec st X.env) (SP X pins D) X.xe s
def PSs (X : Cx) (st : List Stmt) (t : TS) : Prop :=
  ∀ (pins : List (Addr × Obj)) (s : Shared) (σ : St) (H : Hp) (D : Ends), Inv X pins σ H s → t D σ H → wpAny (model X.prog X.w) X.A (execs st X.env) (SP X pins D) X.xe s
/-- weaken the end -/
theorem thn {α : Type} {t : Sem α} {Q Q' : α → Shared → Prop} {M : Model} {A : Around} {E : Value → Shared → Prop} {s : Shared} (h : wpAny M A t Q E s) (hQ : ∀ a s, Q a s → Q' a s) : wpAny M A t Q' E s := wpAny_mono h hQ fun _ _ x => x
end L2

namespace L2
open PySem PySem.Spec PyProof.Rows
section
variable {X : Cx}

/-! ### names and constants -/
def tVar (i : Nat) : TE := fun σ H Q => ∃ v, σ[i]? = some (some v) ∧ Q v H
def tC (v : V) : TE := fun _ H Q => Q v H
theorem pe_var {i : Nat} {x : Str} {pos : Pos} (hN : X.N[i]? = some x) (hv : Vis X.env.scope x) (hd : (x == ("__debug__" : Str)) = false := by decide) (hcd : (x == ("__classdict__" : Str)) = false := by decide) : PE X (.Name x pos) (tVar i) := by
  intro pins s σ H Q I h
  obtain ⟨v, e, h⟩ := h
  obtain ⟨m, hn, hl⟩ := I.loc
  obtain ⟨u, r, l⟩ := hl i x v hN e hv
  have fin : EP X pins σ Q u s := ⟨v, H, I, r, h⟩
  rcases l with ⟨hk, hm⟩ | ⟨hk, c, hc, hcell⟩
  · exact wpAny_Name (wpAny_loadName_local I.ok.kind hk hn hm fin) hd
  · rcases hk with hk | hk
    · exact wpAny_Name (wpAny_loadName_cell I.ok.kind hk hc hcell fin) hd
    · exact wpAny_Name (wpAny_loadName_free I.ok.kind hk hc hcell fin hcd) hd
theorem pe_int {i j pos} : PE X (.Constant (.int i) j pos) (tC (.int i)) := fun _ _ _ H _ I h => wpAny_Constant_int ⟨.int i, H, I.tok _, ⟨_, rfl⟩, h⟩
theorem pe_bl {b j pos} : PE X (.Constant (.bool b) j pos) (tC (.bl b)) := fun _ _ _ H _ I h => Constant_bool ⟨.bl b, H, I, rfl, h⟩
theorem pe_non {j pos} : PE X (.Constant .none j pos) (tC .non) := fun _ _ _ H _ I h => Constant_none ⟨.non, H, I, rfl, h⟩
theorem pe_str {x j pos} : PE X (.Constant (.str x) j pos) (tC (.str x)) := fun _ _ _ H _ I h => Calls.Constant_str ⟨.str x, H, I.tok _, ⟨_, rfl⟩, h⟩

/-- a global name of the def -/
def Gl (X : Cx) (x : Str) : Prop := X.env.kindOf x = some .globalImplicit
theorem ld_glob {E : Value → Shared → Prop} {pins : List (Addr × Obj)} {s : Shared} {σ : St} {H : Hp} {x : Str} {u : Value} {pos : Pos} {Q : Value → Shared → Prop} (I : Inv X pins σ H s) (hg : Gl X x) (hm : X.mg x = some u) (h : Q u s)
    (hd : (x == ("__debug__" : Str)) = false := by decide) : wpAny (model X.prog X.w) X.A (eval (.Name x pos) X.env) Q E s :=
  Calls.Name_function_global I.ok.kind hg (Calls.loadGlobal_global (by rw [I.ok.glob]; exact I.mod.glob.keeps I.bk) hm h) hd
theorem ld_blt {E : Value → Shared → Prop} {pins : List (Addr × Obj)} {s : Shared} {σ : St} {H : Hp} {x : Str} {u : Value} {pos : Pos} {Q : Value → Shared → Prop} (I : Inv X pins σ H s) (hg : Gl X x) (hm : X.mg x = none) (hv : bootBuiltins x = some u) (h : Q u s)
    (hn : x ≠ "__name__" := by decide) (hd : (x == ("__debug__" : Str)) = false := by decide) : wpAny (model X.prog X.w) X.A (eval (.Name x pos) X.env) Q E s := by
  obtain ⟨mb, h1, h2⟩ := I.mod.blt
  exact Calls.Name_function_global I.ok.kind hg (Calls.loadGlobal_builtin (by rw [I.ok.glob]; exact I.mod.glob.keeps I.bk) hm (by rw [I.ok.blt]; exact h1.keeps I.bk) ((h2 x hn).trans hv) h) hd
/-- a module's constant, a class, a function, as a value -/
theorem pe_glob {x : Str} {v : V} {u : Value} {pos : Pos} (hg : Gl X x) (hm : X.mg x = some u) (r : RelV v u) (hd : (x == ("__debug__" : Str)) = false := by decide) : PE X (.Name x pos) (tC v) :=
  fun _ _ _ H _ I h => ld_glob I hg hm ⟨v, H, I, r, h⟩ hd
theorem pe_bltn {x : Str} {v : V} {u : Value} {pos : Pos} (hg : Gl X x) (hm : X.mg x = none) (hv : bootBuiltins x = some u) (r : RelV v u) (hn : x ≠ "__name__" := by decide) (hd : (x == ("__debug__" : Str)) = false := by decide) : PE X (.Name x pos) (tC v) :=
  fun _ _ _ H _ I h => ld_blt I hg hm hv ⟨v, H, I, r, h⟩ hn hd

/-! ### arithmetic -/
variable {a b : Expr} {ta tb : TE} {pos : Pos}
/-! ### comparisons -/
def PC (X : Cx) (op : CmpOp) (a b : Expr) (t : TE) : Prop :=
  ∀ (pins : List (Addr × Obj)) (s : Shared) (σ : St) (H : Hp) (Q : VK), Inv X pins σ H s → t σ H Q →
    wpAny (model X.prog X.w) X.A (eval a X.env) (fun v s₁ => wpAny (model X.prog X.w) X.A (eval b X.env) (fun u s₂ => wpAny (model X.prog X.w) X.A (compareOp op v u) (EP X pins σ Q) X.xe s₂) X.xe s₁) X.xe s
theorem nobehind (b : Expr) {op : CmpOp} (h : op ≠ .In) (h2 : op ≠ .NotIn) : behindInMarks op b = false := by
  have e1 : (op == CmpOp.In) = false := by cases op <;> first | rfl | exact absurd rfl h
  have e2 : (op == CmpOp.NotIn) = false := by cases op <;> first | rfl | exact absurd rfl h2
  cases b <;> simp [behindInMarks, e1, e2]
/-- is None -/
def tIsN (ta : TE) : TE := fun σ H Q => ta σ H fun x H1 => Q (.bl (decide (x = .non))) H1
def tNotN (ta : TE) : TE := fun σ H Q => ta σ H fun x H1 => Q (.bl (!decide (x = .non))) H1
theorem RelV.none_iff {x : V} {v : Value} (r : RelV x v) : (v == Value.none) = decide (x = .non) := by
  cases x with
  | non => cases r; rfl
  | bl _ => cases r; rfl
  | int _ => obtain ⟨t, rfl⟩ := r; rfl
  | str _ => obtain ⟨t, rfl⟩ := r; rfl
  | byt _ => obtain ⟨t, rfl⟩ := r; rfl
  | flt _ => obtain ⟨t, rfl⟩ := r; rfl
  | ref _ => cases r; rfl
  | ty _ => cases r; rfl
theorem pc_isN {j pos'} (ha : PE X a ta) : PC X .Is a (.Constant .none j pos') (tIsN ta) := by
  intro pins s σ H Q I h
  refine thn (ha pins s σ H _ I h) fun v s1 ⟨x, H1, I1, r1, q1⟩ => ?_
  exact Constant_none (is_none_gen ⟨.bl _, H1, I1, by rw [r1.none_iff]; rfl, q1⟩)
/-- a comparison as a value, as a test -/
def tB (t : TE) : TT := fun σ H Q => t σ H fun x H1 => ∃ c, x = .bl c ∧ Q c H1
theorem pe_cmp {op : CmpOp} {t : TE} (h : PC X op a b t) (h1 : behindInMarks op b = false := by first | exact nobehind _ (by decide) (by decide) | rfl) : PE X (.Compare a [op] [b] pos) t := fun pins s σ H Q I hw => wpAny_Compare1 (h pins s σ H Q I hw) h1
theorem pt_cmp {op : CmpOp} {t : TE} (h : PC X op a b t) (h1 : behindInMarks op b = false := by first | exact nobehind _ (by decide) (by decide) | rfl) : PT X (.Compare a [op] [b] pos) (tB t) := by
  intro pins s σ H Q I hw
  refine wpAny_isTrue_Compare1 (thn (h pins s σ H _ I hw) fun v s1 h1 => thn h1 fun u s2 h2 => thn h2 fun c s3 ⟨x, H1, I1, r1, q1⟩ => ?_) h1
  obtain ⟨d, rfl, q⟩ := q1
  cases r1
  exact wpAny_truthy_bool ⟨H1, I1, q⟩
/-- an expression whose value is a bool, as a test -/
theorem pt_val {e : Expr} {t : TE} (h : PE X e t) (he : ∀ whole, isTrue e X.env whole = (do let v ← whole; standAt e.pos; holding [v] (truthy v)) := by intro _; rfl) : PT X e (tB t) := by
  intro pins s σ H Q I hw
  refine isTrue_plain (thn (h pins s σ H _ I hw) fun v s1 ⟨x, H1, I1, r1, q1⟩ => ?_) (he _)
  obtain ⟨d, rfl, q⟩ := q1
  cases r1
  exact wpAny_truthy_bool ⟨H1, I1, q⟩

/-! ### and, or, not -/
variable {tA tB' : TT} {rest : List Expr}
def tAnd (t u : TT) : TT := fun σ H Q => t σ H fun c H1 => if c = true then u σ H1 Q else Q false H1
def tOr (t u : TT) : TT := fun σ H Q => t σ H fun c H1 => if c = true then Q true H1 else u σ H1 Q
def tNot (t : TT) : TT := fun σ H Q => t σ H fun c H1 => Q (!c) H1
theorem pw_and1 (ha : PT X a tA) : PW X (.BoolOp .And [a] pos) tA := by
  intro wh pins s σ H Q I h
  refine isTrue_and (thn (ha pins s σ H Q I h) fun c s1 e => ?_)
  cases c with
  | true => exact isTrue_and_nil e
  | false => exact e
theorem pw_or1 (ha : PT X a tA) : PW X (.BoolOp .Or [a] pos) tA := by
  intro wh pins s σ H Q I h
  refine isTrue_or (thn (ha pins s σ H Q I h) fun c s1 e => ?_)
  cases c with
  | false => exact isTrue_or_nil e
  | true => exact e
theorem pw_and (ha : PT X a tA) (hb : PW X (.BoolOp .And (b :: rest) pos) tB') : PW X (.BoolOp .And (a :: b :: rest) pos) (tAnd tA tB') := by
  intro wh pins s σ H Q I h
  refine isTrue_and (thn (ha pins s σ H _ I h) fun c s1 ⟨H1, I1, q1⟩ => ?_)
  cases c with
  | true => exact hb wh pins s1 σ H1 Q I1 q1
  | false => exact ⟨H1, I1, q1⟩
theorem pw_or (ha : PT X a tA) (hb : PW X (.BoolOp .Or (b :: rest) pos) tB') : PW X (.BoolOp .Or (a :: b :: rest) pos) (tOr tA tB') := by
  intro wh pins s σ H Q I h
  refine isTrue_or (thn (ha pins s σ H _ I h) fun c s1 ⟨H1, I1, q1⟩ => ?_)
  cases c with
  | true => exact ⟨H1, I1, q1⟩
  | false => exact hb wh pins s1 σ H1 Q I1 q1
theorem pt_not (ha : PT X a tA) : PT X (.UnaryOp .Not a pos) (tNot tA) := by
  intro pins s σ H Q I h
  exact isTrue_not (ha pins s σ H (fun c H1 => Q (!c) H1) I h)
/-- .. as values (bools) -/
def tAndV (ta tb : TE) : TE := fun σ H Q => ta σ H fun x H1 => ∃ c, x = .bl c ∧ if c = true then tb σ H1 Q else Q (.bl false) H1
def tOrV (ta tb : TE) : TE := fun σ H Q => ta σ H fun x H1 => ∃ c, x = .bl c ∧ if c = true then Q (.bl true) H1 else tb σ H1 Q
def tNotV (ta : TE) : TE := fun σ H Q => ta σ H fun x H1 => ∃ c, x = .bl c ∧ Q (.bl (!c)) H1
theorem pe_one {op} {t : TE} (h : PE X a t) : PE X (.BoolOp op [a] pos) t := fun pins s σ H Q I hw => BoolOp_one (h pins s σ H Q I hw)
theorem pe_and (ha : PE X a ta) (hb : PE X (.BoolOp .And (b :: rest) pos) tb) : PE X (.BoolOp .And (a :: b :: rest) pos) (tAndV ta tb) := by
  intro pins s σ H Q I h
  refine BoolOp_and (thn (ha pins s σ H _ I h) fun v s1 ⟨x, H1, I1, r1, q1⟩ => ?_)
  obtain ⟨c, rfl, q1⟩ := q1
  cases r1
  refine wpAny_truthy_bool ?_
  cases c with
  | true => exact hb pins s1 σ H1 Q I1 q1
  | false => exact ⟨.bl false, H1, I1, rfl, q1⟩
/-- a if t else b -/
def tIf (t : TT) (ta tb : TE) : TE := fun σ H Q => t σ H fun c H1 => if c = true then ta σ H1 Q else tb σ H1 Q
theorem pe_ifExp {c : Expr} (hc : PT X c tA) (ha : PE X a ta) (hb : PE X b tb) : PE X (.IfExp c a b pos) (tIf tA ta tb) := by
  intro pins s σ H Q I h
  refine wpAny_IfExp (thn (hc pins s σ H _ I h) fun d s1 ⟨H1, I1, q1⟩ => ?_)
  cases d with
  | true => exact ha pins s1 σ H1 Q I1 q1
  | false => exact hb pins s1 σ H1 Q I1 q1
end
end L2

namespace L2
open PySem PySem.Spec PyProof.Rows

/-! ### a list, a tuple that is read: tracked, frozen, or an object of the module -/
def SqL (K : PySem.W.Frag) (H : Hp) (a : Addr) (xs : List V) : Prop :=
  Rd H a (.lst xs) ∨
    ∃ (o : Obj) (its : Array Value) (n : Nat), K.lookup a = some o ∧ o.cls = .type "list" ∧ o.dict = none ∧ o.data = .seq its n ∧ its.size ≤ sizeLine ∧ Vals xs its.toList
def SqT (K : PySem.W.Frag) (H : Hp) (a : Addr) (xs : List V) : Prop :=
  Rd H a (.tup xs) ∨
    ∃ (o : Obj) (its : Array Value) (n : Nat), K.lookup a = some o ∧ o.cls = .type "tuple" ∧ o.data = .seq its n ∧ its.size ≤ sizeLine ∧ Vals xs its.toList
def absV : Value → Option V
  | .none => some .non
  | .bool b => some (.bl b)
  | .int i _ => some (.int i)
  | .str x _ => some (.str x)
  | .bytes b _ => some (.byt b)
  | .float b _ => some (.flt b)
  | .ref a => some (.ref a)
  | .type n => some (.ty n)
  | _ => none
theorem RelV.abs {x : V} {u : Value} (r : RelV x u) : absV u = some x := by
  cases x with
  | non => cases r; rfl
  | bl _ => cases r; rfl
  | int _ => obtain ⟨t, rfl⟩ := r; rfl
  | str _ => obtain ⟨t, rfl⟩ := r; rfl
  | byt _ => obtain ⟨t, rfl⟩ := r; rfl
  | flt _ => obtain ⟨t, rfl⟩ := r; rfl
  | ref _ => cases r; rfl
  | ty _ => cases r; rfl
theorem RelV.inj {x y : V} {u : Value} (r : RelV x u) (q : RelV y u) : x = y := Option.some.inj (r.abs.symm.trans q.abs)
theorem Vals.inj : ∀ {xs ys : List V} {us : List Value}, Vals xs us → Vals ys us → xs = ys
  | _, _, _, .nil, .nil => rfl
  | _, _, _, .cons r t, .cons r' t' => by rw [r.inj r', Vals.inj t t']
section
variable {X : Cx} {pins : List (Addr × Obj)} {σ : St} {H : Hp} {s : Shared} {a : Addr} {xs ys : List V}
theorem SqL.of {K : PySem.W.Frag} (h : H a = some (.lst xs)) : SqL K H a xs := .inl (.inl h)
theorem SqT.of {K : PySem.W.Frag} (h : H a = some (.tup xs)) : SqT K H a xs := .inl (.inl h)
theorem Inv.list (I : Inv X pins σ H s) (h : SqL X.K H a xs) : ∃ its : List Value, Vals xs its ∧ PlainL s.heap a its.toArray ∧ xs.length ≤ sizeLine := by
  rcases h with h | ⟨o, its, n, hk, hc, hd, hs, hz, r⟩
  · obtain ⟨z, its, n, r, e⟩ := h.ok I.hok
    exact ⟨its, r, ⟨_, n, e, rfl, rfl, rfl⟩, z⟩
  · refine ⟨its.toList, r, ⟨o, n, I.kIn a o hk, hc, hd, by simpa using hs⟩, ?_⟩
    have e := r.length
    simp only [Array.length_toList] at e
    omega
theorem Inv.tuple (I : Inv X pins σ H s) (h : SqT X.K H a xs) : ∃ its : List Value, Vals xs its ∧ IsTup s.heap a its.toArray ∧ xs.length ≤ sizeLine := by
  rcases h with h | ⟨o, its, n, hk, hc, hs, hz, r⟩
  · obtain ⟨z, its, r, p⟩ := h.ok I.hok
    exact ⟨its, r, p, z⟩
  · refine ⟨its.toList, r, ⟨o, I.kIn a o hk, hc, n, by simpa using hs⟩, ?_⟩
    have e := r.length
    simp only [Array.length_toList] at e
    omega
theorem Inv.list_inj (I : Inv X pins σ H s) (h : SqL X.K H a xs) (h' : SqL X.K H a ys) : xs = ys := by
  obtain ⟨its, r, ⟨o, n, e, _, _, d⟩, _⟩ := I.list h
  obtain ⟨its', r', ⟨o', n', e', _, _, d'⟩, _⟩ := I.list h'
  rw [e] at e'; cases e'
  rw [d] at d'
  injection d' with d1 _
  have : its = its' := by simpa using congrArg Array.toList d1
  subst this
  exact r.inj r'
theorem Inv.tuple_inj (I : Inv X pins σ H s) (h : SqT X.K H a xs) (h' : SqT X.K H a ys) : xs = ys := by
  obtain ⟨its, r, ⟨o, e, _, n, d⟩, _⟩ := I.tuple h
  obtain ⟨its', r', ⟨o', e', _, n', d'⟩, _⟩ := I.tuple h'
  rw [e] at e'; cases e'
  rw [d] at d'
  injection d' with d1 _
  have : its = its' := by simpa using congrArg Array.toList d1
  subst this
  exact r.inj r'
end

/-! ### another wish about exceptions -/
abbrev Cx.wish (X : Cx) (E : Value → Shared → Prop) : Cx := { X with xe := E }
/-- no exception leaves -/
abbrev Cx.nox (X : Cx) : Cx := X.wish fun _ _ => False
theorem Cx.Ok.wish {X : Cx} (ok : X.Ok) (E : Value → Shared → Prop) : (X.wish E).Ok :=
  ⟨ok.mod, ok.kind, ok.glob, ok.blt, ok.above, ok.inj, ok.has, ok.cab, ok.hd, ok.frames, ok.stk, ok.exf, ok.bs, ok.bsz, ok.noex, ok.exfs, ok.funs, ok.frf⟩
theorem Cx.Ok.unwish {X : Cx} {E : Value → Shared → Prop} (ok : (X.wish E).Ok) : X.Ok :=
  ⟨ok.mod, ok.kind, ok.glob, ok.blt, ok.above, ok.inj, ok.has, ok.cab, ok.hd, ok.frames, ok.stk, ok.exf, ok.bs, ok.bsz, ok.noex, ok.exfs, ok.funs, ok.frf⟩
section
variable {X : Cx} {pins : List (Addr × Obj)} {σ : St} {H : Hp} {s : Shared} {E : Value → Shared → Prop}
theorem Inv.wish (I : Inv X pins σ H s) (E : Value → Shared → Prop) : Inv (X.wish E) pins σ H s := ⟨I.ok.wish E, I.os, I.bare, I.base, I.loc, I.cell, I.free, I.freeC, I.pin, I.hok, I.len⟩
theorem Inv.unwish (I : Inv (X.wish E) pins σ H s) : Inv X pins σ H s := ⟨I.ok.unwish, I.os, I.bare, I.base, I.loc, I.cell, I.free, I.freeC, I.pin, I.hok, I.len⟩
theorem SP.unwish {D : Ends} {f : Flow} {s' : Shared} (h : SP (X.wish E) pins D f s') : SP X pins D f s' := by
  cases f with
  | next => obtain ⟨σ', H', I, q⟩ := h; exact ⟨σ', H', I.unwish, q⟩
  | brk => obtain ⟨σ', H', I, q⟩ := h; exact ⟨σ', H', I.unwish, q⟩
  | cont => obtain ⟨σ', H', I, q⟩ := h; exact ⟨σ', H', I.unwish, q⟩
  | ret u => obtain ⟨v, σ', H', I, r, q⟩ := h; exact ⟨v, σ', H', I.unwish, r, q⟩
theorem PE.nox {e : Expr} {t : TE} (h : PE X.nox e t) : PE X e t := fun pins s σ H Q I hw =>
  wpAny_mono (h pins s σ H Q (I.wish _) hw) (fun _ _ ⟨v, H', I', r, q⟩ => ⟨v, H', I'.unwish, r, q⟩) fun _ _ z => False.elim z
theorem PT.nox {e : Expr} {t : TT} (h : PT X.nox e t) : PT X e t := fun pins s σ H Q I hw =>
  wpAny_mono (h pins s σ H Q (I.wish _) hw) (fun _ _ ⟨H', I', q⟩ => ⟨H', I'.unwish, q⟩) fun _ _ z => False.elim z
theorem PSs.nox {st : List Stmt} {t : TS} (h : PSs X.nox st t) : PSs X st t := fun pins s σ H D I hw =>
  wpAny_mono (h pins s σ H D (I.wish _) hw) (fun _ _ q => q.unwish) fun _ _ z => False.elim z
end

/-! ### blocks and small statements -/
section
variable {X : Cx} {st : Stmt} {rest : List Stmt} {t u : TS} {e : Expr} {te : TE} {pos : Pos}
def tNext : TS := fun D σ H => D.nx σ H
def tSeq (t u : TS) : TS := fun D σ H => t { D with nx := u D } σ H
theorem pss_nil : PSs X [] tNext := fun _ _ σ H _ I h => wpAny_execs_nil ⟨σ, H, I, h⟩
theorem pss_cons (h1 : PS X st t) (h2 : PSs X rest u) : PSs X (st :: rest) (tSeq t u) := by
  intro pins s σ H D I h
  refine wpAny_execs_cons (thn (h1 pins s σ H { D with nx := u D } I h) fun f s1 q => ?_)
  cases f with
  | next =>
    obtain ⟨σ', H', I', q⟩ := q
    exact h2 pins s1 σ' H' D I' q
  | ret v => exact q
  | brk => exact q
  | cont => exact q
theorem pss_one (h1 : PS X st t) : PSs X [st] t := by
  intro pins s σ H D I h
  refine wpAny_execs_cons (thn (h1 pins s σ H D I h) fun f s1 q => ?_)
  cases f with
  | next => exact wpAny_execs_nil q
  | ret v => exact q
  | brk => exact q
  | cont => exact q
/-- in a def's body nothing is shown -/
theorem Inv.quiet {pins : List (Addr × Obj)} {σ : St} {H : Hp} {s : Shared} (I : Inv X pins σ H s) : interactive X.env = false := by simp [interactive, I.ok.kind]
/-- an expression whose value is dropped -/
def tDrop (te : TE) : TS := fun D σ H => te σ H fun _ H1 => D.nx σ H1
theorem ps_expr (he : PE X e te) (hs : swapsWith e none pos.line X.env = pure false := by rfl) : PS X (.Expr e pos) (tDrop te) := by
  intro pins s σ H D I h
  exact wpAny_Expr_any (thn (he pins s σ H _ I h) fun v s1 ⟨x, H1, I1, r1, q1⟩ => ⟨σ, H1, I1, q1⟩) I.quiet hs
def tRet (te : TE) : TS := fun D σ H => te σ H D.rt
theorem ps_ret (he : PE X e te) : PS X (.Return (some e) pos) (tRet te) := by
  intro pins s σ H D I h
  exact wpAny_Return_some (thn (he pins s σ H _ I h) fun v s1 ⟨x, H1, I1, r1, q1⟩ => ⟨x, σ, H1, I1, r1, q1⟩)
def tIfS (c : TT) (t u : TS) : TS := fun D σ H => c σ H fun b H1 => if b = true then t D σ H1 else u D σ H1
theorem ps_if {c : Expr} {a b : List Stmt} {tc : TT} (hc : PT X c tc) (ha : PSs X a t) (hb : PSs X b u) : PS X (.If c a b pos) (tIfS tc t u) := by
  intro pins s σ H D I h
  refine wpAny_If (thn (hc pins s σ H _ I h) fun d s1 ⟨H1, I1, q1⟩ => ?_)
  cases d with
  | true => exact ha pins s1 σ H1 D I1 q1
  | false => exact hb pins s1 σ H1 D I1 q1
end

/-! ### targets -/
abbrev TG := V → St → Hp → (St → Hp → Prop) → Prop
abbrev TGs := List V → St → Hp → (St → Hp → Prop) → Prop
def PG (X : Cx) (target : Expr) (t : TG) : Prop :=
  ∀ (pins : List (Addr × Obj)) (s : Shared) (σ : St) (H : Hp) (v : V) (u : Value) (Q : St → Hp → Prop), Inv X pins σ H s → RelV v u → t v σ H Q →
    wpAny (model X.prog X.w) X.A (assign target X.env u) (fun _ s' => ∃ σ' H', Inv X pins σ' H' s' ∧ Q σ' H') X.xe s
/-- several targets, one after another -/
def PGs (X : Cx) (ts : List Expr) (t : TGs) : Prop :=
  ∀ (pins : List (Addr × Obj)) (s : Shared) (σ : St) (H : Hp) (vs : List V) (us : List Value) (Q : St → Hp → Prop), Inv X pins σ H s → Vals vs us → t vs σ H Q →
    wpAny (model X.prog X.w) X.A (assignInOrder ((assignEach ts X.env).map (·.2)) us) (fun _ s' => ∃ σ' H', Inv X pins σ' H' s' ∧ Q σ' H') X.xe s
/-- o[i] = v, by values -/
abbrev TSet := V → V → V → Hp → (Hp → Prop) → Prop
def PSet (X : Cx) (t : TSet) : Prop :=
  ∀ (pins : List (Addr × Obj)) (s : Shared) (σ : St) (H : Hp) (o i v : V) (ov iv u : Value) (Q : Hp → Prop), Inv X pins σ H s → RelV o ov → RelV i iv → RelV v u → t o i v H Q →
    wpAny (model X.prog X.w) X.A (setItem ov iv u) (fun _ s' => ∃ H', Inv X pins σ H' s' ∧ Q H') X.xe s
/-- a op= b, by values -/
abbrev TIp := V → V → Hp → VK → Prop
section
variable {X : Cx} {pos : Pos}
def gName (i : Nat) : TG := fun v σ H Q => Q (σ.set i (some v)) H
theorem pg_name {i : Nat} {x : Str} (hN : X.N.Nodup) (hi : X.N[i]? = some x) (hx : Loc X.env.scope x) (hf : X.fn x = true ∨ X.env.scope.names.lookup x = some .local := by first | exact .inl rfl | exact .inr rfl | assumption) : PG X (.Name x pos) (gName i) := by
  intro pins s σ H v u Q I r h
  exact wpAny_assign_Name (store_ok I hN hi hx r (fun s' I' => ⟨_, H, I', h⟩) hf)
def gNil : TGs := fun vs σ H Q => vs = [] ∧ Q σ H
def gCons (t : TG) (u : TGs) : TGs := fun vs σ H Q => ∃ v r, vs = v :: r ∧ t v σ H fun σ' H' => u r σ' H' Q
theorem pgs_nil : PGs X [] gNil := by
  intro pins s σ H vs us Q I r h
  obtain ⟨e, h⟩ := h
  subst e
  cases r
  exact assignInOrder_nil ⟨σ, H, I, h⟩
theorem pgs_cons {e : Expr} {es : List Expr} {t : TG} {u : TGs} (h1 : PG X e t) (h2 : PGs X es u)
    (hs : (assignEach (e :: es) X.env).map (·.2) = assign e X.env :: (assignEach es X.env).map (·.2) := by rfl) : PGs X (e :: es) (gCons t u) := by
  intro pins s σ H vs us Q I r h
  obtain ⟨v, vr, e1, h⟩ := h
  subst e1
  cases r with
  | cons r rr =>
    rw [hs]
    refine assignInOrder_cons (thn (h1 pins s σ H _ _ _ I r h) fun _ s1 ⟨σ1, H1, I1, q1⟩ => ?_)
    exact h2 pins s1 σ1 H1 _ _ Q I1 rr q1
/-- (a, b, ..) = a tuple of that length -/
def gTup (K : PySem.W.Frag) (n : Nat) (t : TGs) : TG := fun v σ H Q => ∃ a xs, v = .ref a ∧ SqT K H a xs ∧ xs.length = n ∧ t xs σ H Q
theorem pg_tup {es : List Expr} {k : Nat} {t : TGs} {n : Nat} (hc : X.calm = true) (h : PGs X es t)
    (hn : (assignEach es X.env).length = n := by rfl) (hst : (assignEach es X.env).findIdx? (·.1) = none := by rfl) : PG X (.Tuple es k pos) (gTup X.K n t) := by
  intro pins s σ H v u Q I r hw
  obtain ⟨a, xs, e1, hq, hl, hw⟩ := hw
  subst e1
  cases r
  obtain ⟨its, rv, ht, hz⟩ := I.tuple hq
  refine assign_Tuple_tuple (I.ok.hd hc) ht (by simp [hn, ← hl, rv.length]) hst fun h' hx => ?_
  have I1 : Inv X pins σ H { s with heap := h' } := I.kept (t' := s.toks) fun b o e => hx b o (Nat.ne_of_lt (Heap.lt_size e)) e
  exact h pins _ σ H xs _ Q I1 (by simpa using rv) hw
/-- o[i] = .. -/
def gSub (to ti : TE) (t : TSet) : TG := fun v σ H Q => to σ H fun o H1 => ti σ H1 fun i H2 => t o i v H2 fun H3 => Q σ H3
theorem pg_sub {o i : Expr} {to ti : TE} {t : TSet} (ho : PE X o to) (hi : PE X i ti) (hs : PSet X t)
    (ha : ∀ v, assign (.Subscript o i pos) X.env v = (do
      let ov ← holding [v] (eval o X.env)
      let iv ← holding [v, ov] (eval i X.env)
      standAt pos
      holding [v, ov, iv] (setItem ov iv v)
      release [v, ov, iv] []) := by intro _; rfl) : PG X (.Subscript o i pos) (gSub to ti t) := by
  intro pins s σ H v u Q I r h
  rw [ha]
  refine wpAny_bind (wpAny_holding (thn (ho pins s σ H _ I h) fun ov s1 ⟨x, H1, I1, r1, q1⟩ => ?_))
  refine wpAny_bind (wpAny_holding (thn (hi pins s1 σ H1 _ I1 q1) fun iv s2 ⟨y, H2, I2, r2, q2⟩ => ?_))
  refine wpAny_bind (wpAny_standAt (wpAny_bind (wpAny_holding (thn (hs pins s2 σ H2 x y v ov iv u _ I2 r1 r2 r q2) fun _ s3 ⟨H3, I3, q3⟩ => ?_))))
  exact wpAny_release ⟨σ, H3, I3, q3⟩
/-- target = value -/
def tAsg (te : TE) (g : TG) : TS := fun D σ H => te σ H fun x H1 => g x σ H1 D.nx
theorem ps_asg {tg e : Expr} {te : TE} {g : TG} (he : PE X e te) (hg : PG X tg g) (hs : swapsWithSole [tg] e pos.line X.env = pure false := by rfl) (hw : swappedStores [tg] e X.env = pure none := by rfl)
    (h1 : (assignEach [tg] X.env).map (·.2) = [assign tg X.env] := by rfl) : PS X (.Assign [tg] e pos) (tAsg te g) := by
  intro pins s σ H D I h
  refine wpAny_Assign_stores (thn (he pins s σ H _ I h) fun v s1 ⟨x, H1, I1, r1, q1⟩ => ?_) hs hw
  rw [h1]
  exact thn (hg pins s1 σ H1 x v _ I1 r1 q1) fun _ s2 q => q
/-- name = value -/
theorem ps_set {i : Nat} {x : Str} {e : Expr} {te : TE} {pos' : Pos} (hN : X.N.Nodup) (hi : X.N[i]? = some x) (hx : Loc X.env.scope x) (he : PE X e te) (hs : swapsWith e (some (.Name x pos')) pos.line X.env = pure false := by rfl) (hf : X.fn x = true ∨ X.env.scope.names.lookup x = some .local := by first | exact .inl rfl | exact .inr rfl | assumption) :
    PS X (.Assign [.Name x pos'] e pos) (tAsg te (gName i)) := by
  intro pins s σ H D I h
  refine wpAny_Assign_Name (thn (he pins s σ H _ I h) fun v s1 ⟨y, H1, I1, r1, q1⟩ => ?_) hs
  exact store_ok I1 hN hi hx r1 (fun s2 I2 => ⟨_, H1, I2, q1⟩) hf
/-- a, b = x, y with plain local names: stored from the right; the pair itself is not tracked (the opening rows as in PyProof/Rows/TupAssign.lean:23) -/
def tPar (i j : Nat) (ta : TA) : TS := fun D σ H => ta σ H fun vs H1 => ∃ v w, vs = [v, w] ∧ D.nx ((σ.set i (some v)).set j (some w)) H1
/-- name op= e -/
def tAug (i : Nat) (te : TE) (ti : TIp) : TS := fun D σ H => ∃ x, σ[i]? = some (some x) ∧ te σ H fun y H1 => ti x y H1 fun z H2 => D.nx (σ.set i (some z)) H2
/-- ints -/
def ipI (f : Int → Int → Int) : TIp := fun x y H Q => ∃ i j, x = .int i ∧ y = .int j ∧ Q (.int (f i j)) H
end

/-! ### while -/
section
variable {X : Cx} {pos : Pos}
end

/-! ### what a loop or a comprehension walks -/
/-- at turn i: it yields x (the heap may grow), or it stops -/
structure It where
  go : Nat → Hp → Prop
  yld : Nat → Hp → V → Hp → Prop
  stop : Nat → Hp → Prop
/-- the iterator's own objects may turn: they are not the frame's, not pinned, younger than the entry (or a comprehension's own) -/
def FpOk (X : Cx) (pins : List (Addr × Obj)) (H : Hp) (b : Addr) : Prop :=
  H b = none ∧ b ≠ X.env.locals ∧ b ∉ X.fs ∧ (b ∈ X.ex ∨ X.s₀.heap.objs.size ≤ b) ∧ (∀ x c, X.env.cells.lookup x = some c → c ≠ b) ∧ ∀ p ∈ X.pn ++ pins, p.1 ≠ b
theorem Inv.fpOk {X : Cx} {pins : List (Addr × Obj)} {σ : St} {H H' : Hp} {s : Shared} {b : Addr} (I : Inv X pins σ H s) (hb : s.heap.objs.size ≤ b) (hn : H' b = none) : FpOk X pins H' b := by
  refine ⟨hn, Nat.ne_of_gt (Nat.lt_of_lt_of_le I.lt hb), I.nofs hb, .inr (Nat.le_trans I.sz hb), fun x c e z => ?_, fun p hp z => ?_⟩
  · obtain ⟨v, q⟩ := I.cell x c e
    exact absurd (Nat.lt_of_lt_of_le q.lt (by rw [z]; exact hb)) (Nat.lt_irrefl _)
  · exact absurd (Nat.lt_of_lt_of_le (Heap.lt_size (I.pin p hp).1) (by rw [z]; exact hb)) (Nat.lt_irrefl _)
structure Turn (P : Program) (w : World) (K : PySem.W.Frag) (tg : Expr) (J : It) (fp : List Addr) (it : Addr) (tn : Nat → Heap → Prop) : Prop where
  mem : it ∈ fp
  obj : ∀ i h, tn i h → ∀ b ∈ fp, ∃ o, h.get? b = some o ∧ ∀ v, o.data ≠ .cell v
  keep : ∀ i h h', tn i h → (∀ b ∈ fp, ∀ o, h.get? b = some o → h'.get? b = some o) → tn i h'
  item : ∀ (X : Cx), X.prog = P → X.w = w → X.K = K → X.calm = true → ∀ (i : Nat) (pins : List (Addr × Obj)) (s : Shared) (σ : St) (H : Hp) (E : Value → Shared → Prop), Inv X pins σ H s → (∀ b ∈ fp, FpOk X pins H b) → tn i s.heap → J.go i H →
    wpAny (model P w) X.A (pyNext (.ref it)) (fun r s1 => ∃ u, r = some u ∧
      wpAny (model P w) X.A (letOwnedTupleGo tg (.ref it) u) (fun _ s2 => ∃ x H', Inv X pins σ H' s2 ∧ RelV x u ∧ J.yld i H x H' ∧ tn (i + 1) s2.heap ∧ ∀ b ∈ fp, H' b = none) E s1) E s
  done : ∀ (X : Cx), X.prog = P → X.w = w → X.K = K → X.calm = true → ∀ (i : Nat) (pins : List (Addr × Obj)) (s : Shared) (σ : St) (H : Hp) (E : Value → Shared → Prop), Inv X pins σ H s → (∀ b ∈ fp, FpOk X pins H b) → tn i s.heap → J.stop i H →
    wpAny (model P w) X.A (pyNext (.ref it)) (fun r s1 => r = none ∧ Inv X pins σ H s1) E s
  self : ∀ (A : Around) (i : Nat) (s : Shared) (Q : Value → Shared → Prop) (E : Value → Shared → Prop), tn i s.heap → Q (.ref it) s → wpAny (model P w) A (pyIter (.ref it)) Q E s
abbrev TI := St → Hp → (It → Hp → Prop) → Prop
/-- an iterator has come -/
def PIE (X : Cx) (pins : List (Addr × Obj)) (σ : St) (tg : Expr) (R : It → Hp → Prop) (itv : Value) (s2 : Shared) : Prop :=
  ∃ (it : Addr) (fp : List Addr) (tn : Nat → Heap → Prop) (J : It) (H' : Hp), itv = .ref it ∧ Inv X pins σ H' s2 ∧ Turn X.prog X.w X.K tg J fp it tn ∧ tn 0 s2.heap ∧ (∀ b ∈ fp, FpOk X pins H' b) ∧ R J H'
def PI (X : Cx) (tg iter : Expr) (wi : TI) : Prop :=
  ∀ (pins : List (Addr × Obj)) (s : Shared) (σ : St) (H : Hp) (R : It → Hp → Prop), Inv X pins σ H s → wi σ H R →
    wpAny (model X.prog X.w) X.A (eval iter X.env) (fun v s1 => wpAny (model X.prog X.w) X.A (pyIter v) (PIE X pins σ tg R) X.xe s1) X.xe s

/-- the step ahead of the store is nothing for an iterator that keeps no tuple -/
theorem go_of {M : Model} {A : Around} {E : Value → Shared → Prop} {s : Shared} {tg : Expr} {it : Addr} {u : Value} {o : Obj} {n : String} {vs : Array Value} {Q : Unit → Shared → Prop} (ho : s.heap.get? it = some o) (hc : o.cls = .type n) (hd : o.data = .fields vs)
    (hn : ["enumerate", "zip", "dict_itemiterator", "dict_reverseitemiterator", "odict_iterator", "itertools.zip_longest", "itertools.pairwise"].contains n = false) (hQ : Q () s) : wpAny M A (letOwnedTupleGo tg (.ref it) u) Q E s := by
  unfold letOwnedTupleGo
  cases tg <;> first
    | exact wpAny_pure hQ
    | (cases u <;> first
        | exact wpAny_pure hQ
        | (refine wpAny_bind (wpAny_load ho ?_)
           rw [hc, hd]
           show wpAny M A (if (["enumerate", "zip", "dict_itemiterator", "dict_reverseitemiterator", "odict_iterator", "itertools.zip_longest", "itertools.pairwise"].contains n && vs[0]? == some (rawInt _)) = true then _ else _) Q E s
           rw [if_neg (by intro h; rw [hn, Bool.false_and] at h; cases h)]
           exact wpAny_pure hQ))

/-- the list at a, as it stands at each turn (a loop may append to it) -/
def Itl (K : PySem.W.Frag) (a : Addr) : It :=
  ⟨fun i H => ∃ xs x, SqL K H a xs ∧ xs[i]? = some x, fun i H x H' => H' = H ∧ ∀ xs, SqL K H a xs → xs[i]? = some x, fun i H => ∃ xs, SqL K H a xs ∧ xs.length ≤ i⟩
def Itt (K : PySem.W.Frag) (a : Addr) : It :=
  ⟨fun i H => ∃ xs x, SqT K H a xs ∧ xs[i]? = some x, fun i H x H' => H' = H ∧ ∀ xs, SqT K H a xs → xs[i]? = some x, fun i H => ∃ xs, SqT K H a xs ∧ xs.length ≤ i⟩
/-- lo, lo + 1, .. (n of them) -/
def Itr (lo : Int) (n : Nat) : It := ⟨fun i _ => i < n, fun i H x H' => H' = H ∧ x = .int (lo + i), fun i _ => n ≤ i⟩
theorem turn_list {P : Program} {w : World} {K : PySem.W.Frag} {tg : Expr} (a it : Addr) : Turn P w K tg (Itl K a) [it] it (fun i h => h.IsListIter it a i) where
  mem := by simp
  obj := fun i h st b hb => by
    have e : b = it := by simpa using hb
    subst e
    obtain ⟨o, e, c, d⟩ := st
    exact ⟨o, e, fun v z => by rw [d] at z; cases z⟩
  keep := fun i h h' st k => st.at fun o e => k it (by simp) o e
  item := by
    intro X hP hw hK hc i pins s σ H E I hf st hg
    subst hP hw hK
    obtain ⟨xs, x, hq, hx⟩ := hg
    obtain ⟨its, rv, p, hz⟩ := I.list hq
    obtain ⟨u, hu, ru⟩ := rv.get hx
    obtain ⟨f0, f1, f2, f3, f4, f5⟩ := hf it (by simp)
    refine wpAny_pyNext_list_item st p.isList (x := u) (by simpa using hu) fun h' st' sb => ?_
    have I1 : Inv X pins σ H { s with heap := h' } := I.turned (t' := s.toks) (fun b o hb e => (sb.2 b hb).trans e) f0 f1 f3 f4 f5
    obtain ⟨o, e, c, d⟩ := id st'
    exact ⟨u, rfl, go_of (s := { s with heap := h' }) e c d (by decide) ⟨x, H, I1, ru, ⟨rfl, fun ys hy => by rw [I.list_inj hy hq]; exact hx⟩, st', fun b hb => (hf b hb).1⟩⟩
  done := by
    intro X hP hw hK hc i pins s σ H E I hf st hg
    subst hP hw hK
    obtain ⟨xs, hq, hx⟩ := hg
    obtain ⟨its, rv, p, hz⟩ := I.list hq
    obtain ⟨f0, f1, f2, f3, f4, f5⟩ := hf it (by simp)
    have hl := rv.length
    exact wpAny_pyNext_list_end (I.ok.hd hc) st p.isList (by simp; omega) fun h' eb => ⟨rfl, I.turned (t' := s.toks) (fun b o hb e => eb b o hb e) f0 f1 f3 f4 f5⟩
  self := fun _ _ _ _ _ st h => wpAny_pyIter_listiter st h
theorem turn_tuple {P : Program} {w : World} {K : PySem.W.Frag} {tg : Expr} (a it : Addr) : Turn P w K tg (Itt K a) [it] it (fun i h => h.IsTupleIter it a i) where
  mem := by simp
  obj := fun i h st b hb => by
    have e : b = it := by simpa using hb
    subst e
    obtain ⟨o, e, c, d⟩ := st
    exact ⟨o, e, fun v z => by rw [d] at z; cases z⟩
  keep := fun i h h' st k => st.at fun o e => k it (by simp) o e
  item := by
    intro X hP hw hK hc i pins s σ H E I hf st hg
    subst hP hw hK
    obtain ⟨xs, x, hq, hx⟩ := hg
    obtain ⟨its, rv, p, hz⟩ := I.tuple hq
    obtain ⟨u, hu, ru⟩ := rv.get hx
    obtain ⟨f0, f1, f2, f3, f4, f5⟩ := hf it (by simp)
    refine wpAny_pyNext_tuple_item st (show s.heap.IsTuple a its.toArray from p) (x := u) (by simpa using hu) fun h' st' sb => ?_
    have I1 : Inv X pins σ H { s with heap := h' } := I.turned (t' := s.toks) (fun b o hb e => (sb.2 b hb).trans e) f0 f1 f3 f4 f5
    obtain ⟨o, e, c, d⟩ := id st'
    exact ⟨u, rfl, go_of (s := { s with heap := h' }) e c d (by decide) ⟨x, H, I1, ru, ⟨rfl, fun ys hy => by rw [I.tuple_inj hy hq]; exact hx⟩, st', fun b hb => (hf b hb).1⟩⟩
  done := by
    intro X hP hw hK hc i pins s σ H E I hf st hg
    subst hP hw hK
    obtain ⟨xs, hq, hx⟩ := hg
    obtain ⟨its, rv, p, hz⟩ := I.tuple hq
    obtain ⟨f0, f1, f2, f3, f4, f5⟩ := hf it (by simp)
    have hl := rv.length
    exact wpAny_pyNext_tuple_end (I.ok.hd hc) st (show s.heap.IsTuple a its.toArray from p) (by simp; omega) fun h' eb => ⟨rfl, I.turned (t' := s.toks) (fun b o hb e => eb b o hb e) f0 f1 f3 f4 f5⟩
  self := fun _ _ _ _ _ st h => wpAny_pyIter_tupleiter st h
theorem turn_range {P : Program} {w : World} {K : PySem.W.Frag} {tg : Expr} (it : Addr) (lo : Int) (n : Nat) : Turn P w K tg (Itr lo n) [it] it (fun i h => IsRangeIter h it (lo + (i : Nat) * 1) ((n : Int) - (i : Nat)) 1) where
  mem := by simp
  obj := fun i h st b hb => by
    have e : b = it := by simpa using hb
    subst e
    exact ⟨_, st, fun v z => by
      have z' : Data.fields _ = Data.cell v := z
      cases z'⟩
  keep := fun i h h' st k => k it (by simp) _ st
  item := by
    intro X hP hw hK hc i pins s σ H E I hf st hg
    subst hP hw hK
    obtain ⟨f0, f1, f2, f3, f4, f5⟩ := hf it (by simp)
    have W := Walks.range (prog := X.prog) (w := X.w) (I.ok.hd hc) it lo 1 n
    refine W.item i s _ _ hg st fun v h' tk hv st' kk => ?_
    obtain ⟨t, rfl⟩ := hv
    have I1 : Inv X pins σ H { s with heap := h', toks := tk } := I.turned (fun b o hb e => kk b o (by simpa using hb) e) f0 f1 f3 f4 f5
    refine ⟨_, rfl, go_of (s := { s with heap := h', toks := tk }) (n := "range_iterator") st' rfl rfl (by decide) ⟨.int (lo + i), H, I1, ⟨t, ?_⟩, ⟨rfl, rfl⟩, st', fun b hb => (hf b hb).1⟩⟩
    rw [Int.mul_one]
  done := by
    intro X hP hw hK hc i pins s σ H E I hf st hg
    subst hP hw hK
    obtain ⟨f0, f1, f2, f3, f4, f5⟩ := hf it (by simp)
    exact wpAny_pyNext_range_end (I.ok.hd hc) st (by have : n ≤ i := hg; omega) fun h' eb => ⟨rfl, I.turned (t' := s.toks) (fun b o hb e => eb b o hb e) f0 f1 f3 f4 f5⟩
  self := fun _ _ _ _ _ st h => wpAny_pyIter_rangeiter st h
end L2

namespace L2
open PySem PySem.Spec PyProof.Rows
section
variable {X : Cx} {tg : Expr}
def iList (K : PySem.W.Frag) (tl : TE) : TI := fun σ H R => tl σ H fun x H1 => ∃ a, x = .ref a ∧ (∃ xs, SqL K H1 a xs) ∧ R (Itl K a) H1
def iTup (K : PySem.W.Frag) (tl : TE) : TI := fun σ H R => tl σ H fun x H1 => ∃ a, x = .ref a ∧ (∃ xs, SqT K H1 a xs) ∧ R (Itt K a) H1
theorem pi_list {l : Expr} {tl : TE} (hl : PE X l tl) : PI X tg l (iList X.K tl) := by
  intro pins s σ H R I h
  refine thn (hl pins s σ H _ I h) fun v s1 ⟨x, H1, I1, r1, q1⟩ => ?_
  obtain ⟨a, e, ⟨xs, hq⟩, q⟩ := q1
  subst e
  cases r1
  obtain ⟨its, rv, p, hz⟩ := I1.list hq
  refine wpAny_pyIter_list p.isList ?_
  refine ⟨s1.heap.objs.size, [s1.heap.objs.size], _, _, H1, rfl, I1.kept (t' := s1.toks) fun b o e => Heap.get?_push_of_some _ e, turn_list a _, ⟨_, Heap.get?_push_size _ rfl, rfl, rfl⟩, fun b hb => ?_, q⟩
  have e : b = s1.heap.objs.size := by simpa using hb
  subst e
  exact I1.fpOk (Nat.le_refl _) (I1.hok.fresh (Nat.le_refl _))
theorem pi_tup {l : Expr} {tl : TE} (hl : PE X l tl) : PI X tg l (iTup X.K tl) := by
  intro pins s σ H R I h
  refine thn (hl pins s σ H _ I h) fun v s1 ⟨x, H1, I1, r1, q1⟩ => ?_
  obtain ⟨a, e, ⟨xs, hq⟩, q⟩ := q1
  subst e
  cases r1
  obtain ⟨its, rv, p, hz⟩ := I1.tuple hq
  refine wpAny_pyIter_tuple (show s1.heap.IsTuple a its.toArray from p) ?_
  refine ⟨s1.heap.objs.size, [s1.heap.objs.size], _, _, H1, rfl, I1.kept (t' := s1.toks) fun b o e => Heap.get?_push_of_some _ e, turn_tuple a _, ⟨_, Heap.get?_push_size _ rfl, rfl, rfl⟩, fun b hb => ?_, q⟩
  have e : b = s1.heap.objs.size := by simpa using hb
  subst e
  exact I1.fpOk (Nat.le_refl _) (I1.hok.fresh (Nat.le_refl _))
/-- a range object just made, walked -/
theorem range_it {pins : List (Addr × Obj)} {σ : St} {H : Hp} {s : Shared} {R : It → Hp → Prop} {E : Value → Shared → Prop} {lo hi : Int} {t u v : Tok} {tk : Nat} (I : Inv X pins σ H s) (h1 : -(2 ^ 62) ≤ lo) (h2 : lo < 2 ^ 62) (h3 : -(2 ^ 62) ≤ hi) (h4 : hi < 2 ^ 62)
    (q : R (Itr lo (hi - lo).toNat) H) : wpAny (model X.prog X.w) X.A (pyIter (.ref s.heap.objs.size)) (PIE X pins σ tg R) E { s with heap := s.heap.push { cls := .type "range", data := .fields #[.int lo t, .int hi u, .int 1 v] }, toks := tk } := by
  refine wpAny_pyIter_range (IsRange.new ..) (small_one h1 h2 h3 h4) ?_
  have I1 : Inv X pins σ H { s with heap := s.heap.push { cls := .type "range", data := .fields #[.int lo t, .int hi u, .int 1 v] }, toks := tk } := I.kept fun b o e => Heap.get?_push_of_some _ e
  refine ⟨(s.heap.push { cls := .type "range", data := .fields #[.int lo t, .int hi u, .int 1 v] }).objs.size, [(s.heap.push { cls := .type "range", data := .fields #[.int lo t, .int hi u, .int 1 v] }).objs.size], _, _, H, rfl,
    I1.kept (t' := tk) fun b o e => Heap.get?_push_of_some _ e, turn_range _ lo (hi - lo).toNat, ?_, fun b hb => ?_, q⟩
  · have e1 : lo + ((0 : Nat) : Int) * 1 = lo := by simp
    have e2 : (((hi - lo).toNat : Nat) : Int) - ((0 : Nat) : Int) = Builtin.Range.rangeSize lo hi 1 := by rw [rangeSize_one]; split <;> omega
    show IsRangeIter _ _ (lo + ((0 : Nat) : Int) * 1) ((((hi - lo).toNat : Nat) : Int) - ((0 : Nat) : Int)) 1
    rw [e1, e2]
    exact Heap.get?_push_size _ rfl
  · have e : b = (s.heap.push { cls := .type "range", data := .fields #[.int lo t, .int hi u, .int 1 v] }).objs.size := by simpa using hb
    subst e
    exact I1.fpOk (Nat.le_refl _) (I1.hok.fresh (Nat.le_refl _))
def iRng1 (ta : TA) : TI := fun σ H R => ta σ H fun vs H1 => ∃ j : Int, vs = [.int j] ∧ -(2 ^ 62) ≤ j ∧ j < 2 ^ 62 ∧ R (Itr 0 j.toNat) H1
def iRng2 (ta : TA) : TI := fun σ H R => ta σ H fun vs H1 => ∃ i j : Int, vs = [.int i, .int j] ∧ (-(2 ^ 62) ≤ i ∧ i < 2 ^ 62 ∧ -(2 ^ 62) ≤ j ∧ j < 2 ^ 62) ∧ R (Itr i (j - i).toNat) H1
theorem pi_range1 {a : Expr} {ta : TA} {p pos : Pos} (hg : Gl X "range") (hm : X.mg "range" = none) (ha : PA X [a] ta) (hs : starEach [a] X.env = [(false, eval a X.env)] := by rfl) : PI X tg (.Call (.Name "range" p) [a] [] pos) (iRng1 ta) := by
  intro pins s σ H R I h
  refine Call_ (ld_blt I hg hm boot_range (PyProof.Rows.callWith_type1 (thn (ha pos pins s σ H _ I h) fun us s1 ⟨vs, H1, I1, r1, q1⟩ => ?_) hs rfl))
  obtain ⟨j, e, q1, q2, q⟩ := q1
  subst e
  cases r1 with
  | cons r rr =>
    cases rr
    obtain ⟨t, rfl⟩ := r
    exact call_range_1 (range_it I1 (by omega) (by omega) q1 q2 (by simpa using q))
/-! ### for -/
/-- W: the invariant by the turn and a measure; N: what the body is to reach -/
def tFor (wi : TI) (g : TG) (tb : TS) : TS := fun D σ H => wi σ H fun J H1 => ∃ W : Nat → Nat → St → Hp → Prop, (∃ m, W 0 m σ H1) ∧ ∀ i m σ H, W i m σ H →
  (J.stop i H ∧ D.nx σ H) ∨ (J.go i H ∧ ∃ N : St → Hp → Prop, (∀ σ' H', N σ' H' → ∃ m', m' < m ∧ W (i + 1) m' σ' H') ∧ ∀ x H', J.yld i H x H' → g x σ H' fun σ2 H2 => tb { D with nx := N, ct := N, bk := D.nx } σ2 H2)
/-- the records at fp as they stand -/
def pinsAt (fp : List Addr) (h : Heap) : List (Addr × Obj) := fp.filterMap fun b => (h.get? b).map fun o => (b, o)
theorem mem_pinsAt {fp : List Addr} {h : Heap} {b : Addr} {o : Obj} (hb : b ∈ fp) (e : h.get? b = some o) : (b, o) ∈ pinsAt fp h := List.mem_filterMap.mpr ⟨b, hb, by rw [e]; rfl⟩
theorem of_pinsAt {fp : List Addr} {h : Heap} {p : Addr × Obj} (hp : p ∈ pinsAt fp h) : p.1 ∈ fp ∧ h.get? p.1 = some p.2 := by
  obtain ⟨b, hb, e⟩ := List.mem_filterMap.mp hp
  cases q : h.get? b with
  | none => rw [q] at e; cases e
  | some o =>
    rw [q] at e
    have e' : (b, o) = p := Option.some.inj e
    subst e'
    exact ⟨hb, q⟩
theorem Inv.pinned {pins : List (Addr × Obj)} {σ : St} {H : Hp} {s : Shared} {fp : List Addr} (I : Inv X pins σ H s) (hf : ∀ b ∈ fp, FpOk X pins H b) (ho : ∀ b ∈ fp, ∃ o, s.heap.get? b = some o ∧ ∀ v, o.data ≠ .cell v) : Inv X (pins ++ pinsAt fp s.heap) σ H s :=
  I.pins_of fun p hp => (List.mem_append.mp hp).elim (fun z => I.pin p (List.mem_append_right _ z)) fun z => by
    obtain ⟨hb, e⟩ := of_pinsAt z
    obtain ⟨f0, f1, f2, _⟩ := hf p.1 hb
    obtain ⟨o, e', d⟩ := ho p.1 hb
    rw [e] at e'; cases e'
    exact ⟨e, f0, f1, f2, d⟩
theorem Inv.unpinned {pins pl : List (Addr × Obj)} {σ : St} {H : Hp} {s : Shared} (I : Inv X (pins ++ pl) σ H s) : Inv X pins σ H s := I.pins_of fun p hp => I.pin p (List.mem_append_right _ (List.mem_append_left _ hp))
theorem ps_for {iter : Expr} {body : List Stmt} {wi : TI} {g : TG} {tb : TS} {pos : Pos} (hp : PassesOwn (model X.prog X.w) X.A X.env X.xe) (hc : X.calm = true) (hi : PI X tg iter wi) (hg : PG X tg g) (hb : PSs X body tb)
    (hs : ∀ x, foldedSetIterable iter X.env x = pure x := by intro _; rfl) : PS X (.For tg iter body [] pos) (tFor wi g tb) := by
  intro pins s σ H D I h
  refine wpAny_For (thn (hi pins s σ H _ I h) fun v s1 h1 => thn h1 fun itv s2 h2 => ?_) hs
  obtain ⟨it, fp, tn, J, H2, e, I2, T, st2, f2, W, ⟨m0, w0⟩, turn⟩ := h2
  subst e
  -- what stays true of the iterator's objects through the loop
  have stat : ∀ {H' : Hp}, (∀ b ∈ fp, H' b = none) → ∀ b ∈ fp, FpOk X pins H' b := fun hn b hb => ⟨hn b hb, (f2 b hb).2⟩
  refine codeAny_forLoop_any (fun n s' => ∃ i σ' H', Inv X pins σ' H' s' ∧ tn i s'.heap ∧ (∀ b ∈ fp, H' b = none) ∧ W i n σ' H') ?_ m0 ⟨0, σ, H2, I2, st2, fun b hb => (f2 b hb).1, w0⟩
  rintro n s3 ⟨i, σ3, H3, I3, st3, fr3, w3⟩
  rcases turn i n σ3 H3 w3 with ⟨stop, qn⟩ | ⟨go, N, hN, step⟩
  · refine wpAny_passesOwn hp (thn (T.done X rfl rfl rfl hc i pins s3 σ3 H3 X.xe I3 (stat fr3) st3 stop) fun r s4 ⟨hr, I4⟩ => ?_)
    subst hr
    exact wpAny_execs_nil ⟨σ3, H3, I4, qn⟩
  · refine wpAny_passesOwn hp (thn (T.item X rfl rfl rfl hc i pins s3 σ3 H3 X.xe I3 (stat fr3) st3 go) fun r s4 ⟨u, hr, h4⟩ => ?_)
    subst hr
    refine wpAny_passesOwn hp (thn h4 fun _ s5 ⟨x, H5, I5, r5, y5, st5, fr5⟩ => ?_)
    have I5' := I5.pinned (stat fr5) (T.obj _ _ st5)
    refine wpAny_passesOwn hp (thn (hg _ s5 σ3 H5 x u _ I5' r5 (step x H5 y5)) fun _ s6 ⟨σ6, H6, I6, q6⟩ => ?_)
    refine wpAny_passesOwn hp (thn (hb _ s6 σ6 H6 _ I6 q6) fun f s7 q7 => ?_)
    have again : ∀ {σ7 : St} {H7 : Hp}, Inv X (pins ++ pinsAt fp s5.heap) σ7 H7 s7 → N σ7 H7 → ∃ m, m < n ∧ ∃ i σ' H', Inv X pins σ' H' s7 ∧ tn i s7.heap ∧ (∀ b ∈ fp, H' b = none) ∧ W i m σ' H' := fun {σ7 H7} I7 n7 => by
      obtain ⟨m', hm, w7⟩ := hN σ7 H7 n7
      refine ⟨m', hm, i + 1, σ7, H7, I7.unpinned, T.keep _ _ _ st5 fun b hb o e => (I7.pin (b, o) (List.mem_append_right _ (List.mem_append_right _ (mem_pinsAt hb e)))).1, fun b hb => ?_, w7⟩
      obtain ⟨o, e, d⟩ := T.obj _ _ st5 b hb
      exact (I7.pin (b, o) (List.mem_append_right _ (List.mem_append_right _ (mem_pinsAt hb e)))).2.1
    cases f with
    | next => obtain ⟨σ7, H7, I7, n7⟩ := q7; exact again I7 n7
    | cont => obtain ⟨σ7, H7, I7, n7⟩ := q7; exact again I7 n7
    | brk => obtain ⟨σ7, H7, I7, q7⟩ := q7; exact ⟨σ7, H7, I7.unpinned, q7⟩
    | ret v => obtain ⟨x7, σ7, H7, I7, r7, q7⟩ := q7; exact ⟨x7, σ7, H7, I7.unpinned, r7, q7⟩
end

/-! ### the forms one uses -/
end L2

namespace L2
open PySem PySem.Spec PyProof.Rows

abbrev R2 := V → V → Hp → VK → Prop
/-- a two-place operation on values: f is binaryOp op, inplaceOp op or compareOp op -/
def OpR (X : Cx) (f : Value → Value → Sem Value) (r : R2) : Prop :=
  ∀ (pins : List (Addr × Obj)) (s : Shared) (σ : St) (H : Hp) (x y : V) (v u : Value) (Q : VK), Inv X pins σ H s → RelV x v → RelV y u → r x y H Q →
    wpAny (model X.prog X.w) X.A (f v u) (EP X pins σ Q) X.xe s
/-- a one-place operation -/
def UnR (X : Cx) (f : Value → Sem Value) (r : V → Hp → VK → Prop) : Prop :=
  ∀ (pins : List (Addr × Obj)) (s : Shared) (σ : St) (H : Hp) (x : V) (v : Value) (Q : VK), Inv X pins σ H s → RelV x v → r x H Q →
    wpAny (model X.prog X.w) X.A (f v) (EP X pins σ Q) X.xe s
/-- a call of a value that is known (a builtin, a type) with values -/
def CallR (X : Cx) (f : Value) (r : List V → Hp → VK → Prop) : Prop :=
  ∀ (pins : List (Addr × Obj)) (s : Shared) (σ : St) (H : Hp) (xs : List V) (us : List Value) (Q : VK), Inv X pins σ H s → Vals xs us → r xs H Q →
    wpAny (model X.prog X.w) X.A (call f us) (EP X pins σ Q) X.xe s
def tOp (r : R2) (ta tb : TE) : TE := fun σ H Q => ta σ H fun x H1 => tb σ H1 fun y H2 => r x y H2 Q
def tUn (r : V → Hp → VK → Prop) (ta : TE) : TE := fun σ H Q => ta σ H fun x H1 => r x H1 Q
/-- ints in, under C, and a value out -/
def rI (C : Int → Int → Prop) (g : Int → Int → V) : R2 := fun x y H Q => ∃ i j, x = .int i ∧ y = .int j ∧ C i j ∧ Q (g i j) H
def rI0 (g : Int → Int → V) : R2 := fun x y H Q => ∃ i j, x = .int i ∧ y = .int j ∧ Q (g i j) H
def rU (g : Int → V) : V → Hp → VK → Prop := fun x H Q => ∃ i, x = .int i ∧ Q (g i) H

section
variable {X : Cx} {a b c : Expr} {ta tb tc : TE} {pos : Pos}

theorem binT (ha : PE X a ta) (hb : PE X b tb) {pins : List (Addr × Obj)} {s : Shared} {σ : St} {H : Hp} {R : V → V → Hp → Prop} (I : Inv X pins σ H s)
    (h : ta σ H fun x H1 => tb σ H1 fun y H2 => R x y H2) {Q : Value → Shared → Prop} {f : Value → Value → Sem Value}
    (hf : ∀ v u s2 x y H2, Inv X pins σ H2 s2 → RelV x v → RelV y u → R x y H2 → wpAny (model X.prog X.w) X.A (f v u) Q X.xe s2) :
    wpAny (model X.prog X.w) X.A (eval a X.env) (fun v s₁ => wpAny (model X.prog X.w) X.A (eval b X.env) (fun u s₂ => wpAny (model X.prog X.w) X.A (f v u) Q X.xe s₂) X.xe s₁) X.xe s := by
  refine thn (ha pins s σ H _ I h) fun v s1 ⟨x, H1, I1, r1, q1⟩ => ?_
  refine thn (hb pins s1 σ H1 _ I1 q1) fun u s2 ⟨y, H2, I2, r2, q2⟩ => ?_
  exact hf v u s2 x y H2 I2 r1 r2 q2

theorem pe_op {op : Operator} {r : R2} (ho : OpR X (binaryOp op) r) (ha : PE X a ta) (hb : PE X b tb) : PE X (.BinOp a op b pos) (tOp r ta tb) := by
  intro pins s σ H Q I h
  exact wpAny_BinOp (binT ha hb I h fun v u s2 x y H2 I2 rx ry q => ho pins s2 σ H2 x y v u Q I2 rx ry q)
theorem pe_un {op : UnaryOp} {r : V → Hp → VK → Prop} (ho : UnR X (unaryOp op) r) (ha : PE X a ta) : PE X (.UnaryOp op a pos) (tUn r ta) := by
  intro pins s σ H Q I h
  exact UnaryOp_ (thn (ha pins s σ H _ I h) fun v s1 ⟨x, H1, I1, r1, q1⟩ => ho pins s1 σ H1 x v Q I1 r1 q1)
/-! ### ints -/
theorem opI {f : Value → Value → Sem Value} {C : Int → Int → Prop} {g : Int → Int → Int}
    (rule : ∀ (i j : Int) (t u : Tok) (s : Shared) (Q : Value → Shared → Prop) (E : Value → Shared → Prop), C i j → Q (.int (g i j) s.toks) { s with toks := s.toks + 1 } → wpAny (model X.prog X.w) X.A (f (.int i t) (.int j u)) Q E s) :
    OpR X f (rI C fun i j => .int (g i j)) := by
  intro pins s σ H x y v u Q I rx ry h
  obtain ⟨i, j, rfl, rfl, hc, q⟩ := h
  obtain ⟨t, rfl⟩ := rx
  obtain ⟨t', rfl⟩ := ry
  exact rule i j t t' s _ _ hc ⟨.int (g i j), H, I.tok _, ⟨_, rfl⟩, q⟩
theorem opI0 {f : Value → Value → Sem Value} {g : Int → Int → Int}
    (rule : ∀ (i j : Int) (t u : Tok) (s : Shared) (Q : Value → Shared → Prop) (E : Value → Shared → Prop), Q (.int (g i j) s.toks) { s with toks := s.toks + 1 } → wpAny (model X.prog X.w) X.A (f (.int i t) (.int j u)) Q E s) :
    OpR X f (rI0 fun i j => .int (g i j)) := by
  intro pins s σ H x y v u Q I rx ry h
  obtain ⟨i, j, rfl, rfl, q⟩ := h
  obtain ⟨t, rfl⟩ := rx
  obtain ⟨t', rfl⟩ := ry
  exact rule i j t t' s _ _ ⟨.int (g i j), H, I.tok _, ⟨_, rfl⟩, q⟩
theorem opB0 {f : Value → Value → Sem Value} {g : Int → Int → Bool}
    (rule : ∀ (i j : Int) (t u : Tok) (s : Shared) (Q : Value → Shared → Prop) (E : Value → Shared → Prop), Q (.bool (g i j)) s → wpAny (model X.prog X.w) X.A (f (.int i t) (.int j u)) Q E s) :
    OpR X f (rI0 fun i j => .bl (g i j)) := by
  intro pins s σ H x y v u Q I rx ry h
  obtain ⟨i, j, rfl, rfl, q⟩ := h
  obtain ⟨t, rfl⟩ := rx
  obtain ⟨t', rfl⟩ := ry
  exact rule i j t t' s _ _ ⟨.bl (g i j), H, I, rfl, q⟩

def CDiv (i j : Int) : Prop := 0 < j ∧ j < 1073741824
def CPow (i j : Int) : Prop := 0 ≤ j ∧ j ≤ 1000000 ∧ i.natAbs < 2 ^ 64
def CMul (i j : Int) : Prop := (-(2 ^ 64) < i ∧ i < 2 ^ 64) ∨ (-(2 ^ 64) < j ∧ j < 2 ^ 64)
theorem CMul.ok {i j : Int} (h : CMul i j) : IntMulOk i j := by
  rcases h with ⟨h1, h2⟩ | ⟨h1, h2⟩
  · exact .of_left (intBits_le_64 h1 h2)
  · exact .of_right (intBits_le_64 h1 h2)
theorem op_add : OpR X (binaryOp .Add) (rI0 fun i j => .int (i + j)) := opI0 fun _ _ _ _ _ _ _ q => add_int q
theorem op_sub : OpR X (binaryOp .Sub) (rI0 fun i j => .int (i - j)) := opI0 fun _ _ _ _ _ _ _ q => sub_int q
theorem op_mul : OpR X (binaryOp .Mult) (rI CMul fun i j => .int (i * j)) := opI fun _ _ _ _ _ _ _ hc q => mul_int q hc.ok
/-- // by a positive divisor -/
theorem op_fdiv : OpR X (binaryOp .FloorDiv) (rI CDiv fun i j => .int (i / j)) := opI fun i j _ _ _ _ _ hc q => by
  have h1 : (0 : Int) < j := hc.1
  have h2 : j < 1073741824 := hc.2
  exact floordiv_int (by omega) (by rw [Int.fdiv_eq_ediv_of_nonneg i (by omega)]; exact q) (.inl (PyProof.noPylong_small (by omega)))
/-- % by a positive divisor of any size -/
theorem op_mod : OpR X (binaryOp .Mod) (rI (fun _ j => 0 < j) fun i j => .int (i % j)) := opI fun i j _ _ _ _ _ hc q => by
  have h1 : (0 : Int) < j := hc
  exact mod_int' (by omega) (by rw [Int.fmod_eq_emod_of_nonneg i (by omega)]; exact q)
theorem op_pow : OpR X (binaryOp .Pow) (rI CPow fun i j => .int (i ^ j.toNat)) := opI fun _ _ _ _ _ _ _ hc q => pow_int_small hc.1 hc.2.1 hc.2.2 q
theorem unI {f : Value → Sem Value} {g : Int → Int}
    (rule : ∀ (i : Int) (t : Tok) (s : Shared) (Q : Value → Shared → Prop) (E : Value → Shared → Prop), Q (.int (g i) s.toks) { s with toks := s.toks + 1 } → wpAny (model X.prog X.w) X.A (f (.int i t)) Q E s) :
    UnR X f (rU fun i => .int (g i)) := by
  intro pins s σ H x v Q I rx h
  obtain ⟨i, rfl, q⟩ := h
  obtain ⟨t, rfl⟩ := rx
  exact rule i t s _ _ ⟨.int (g i), H, I.tok _, ⟨_, rfl⟩, q⟩
theorem un_neg : UnR X (unaryOp .USub) (rU fun i => .int (-i)) := unI fun _ _ _ _ _ q => neg_int q
/-! ### bools among ints: n += (a < b) -/
end

/-! ### comparisons -/
/-- the scalars that == tells apart as data does -/
def scal : V → V → Bool
  | .non, .non => true | .non, .int _ => true | .int _, .non => true | .non, .bl _ => true | .bl _, .non => true | .non, .str _ => true | .str _, .non => true
  | .int _, .int _ => true | .bl _, .bl _ => true | .str _, .str _ => true | .byt _, .byt _ => true
  | .int _, .str _ => true | .str _, .int _ => true | .bl _, .str _ => true | .str _, .bl _ => true
  | _, _ => false
def rEq : R2 := fun x y H Q => scal x y = true ∧ Q (.bl (decide (x = y))) H
def rNe : R2 := fun x y H Q => scal x y = true ∧ Q (.bl (!decide (x = y))) H

theorem dec_int {i j : Int} : decide (V.int i = V.int j) = (i == j) := by
  rw [Bool.eq_iff_iff]
  simp
theorem dec_bl {i j : Bool} : decide (V.bl i = V.bl j) = (i == j) := by
  rw [Bool.eq_iff_iff]
  simp
theorem dec_str {i j : Str} : decide (V.str i = V.str j) = (i == j) := by
  rw [Bool.eq_iff_iff]
  simp
theorem dec_byt {i j : Array UInt8} : decide (V.byt i = V.byt j) = (i.toList == j.toList) := by
  rw [Bool.eq_iff_iff]
  cases i
  cases j
  simp

section
variable {X : Cx} {a b c : Expr} {ta tb tc : TE} {pos : Pos}
theorem fin_bl {pins : List (Addr × Obj)} {σ : St} {H : Hp} {s : Shared} {Q : VK} {k k' : Bool} (I : Inv X pins σ H s) (q : Q (.bl k) H) (e : k = k') : EP X pins σ Q (.bool k') s := by
  subst e
  exact ⟨.bl k, H, I, rfl, q⟩
theorem op_eq : OpR X (compareOp .Eq) rEq := by
  intro pins s σ H x y v u Q I rx ry h
  obtain ⟨hs, q⟩ := h
  cases x with
  | non =>
    cases rx
    cases y with
    | non => cases ry; exact PySem.EqNone.eq_none_none (fin_bl I q (by simp))
    | bl j => cases ry; exact PySem.EqNone.eq_none_bool (fin_bl I q (by simp))
    | int j => obtain ⟨t', rfl⟩ := ry; exact PySem.EqNone.eq_none_int (fin_bl I q (by simp))
    | str j => obtain ⟨t', rfl⟩ := ry; exact PySem.EqNone.eq_none_str (fin_bl I q (by simp))
    | _ => exact absurd (show false = true from hs) Bool.false_ne_true
  | bl i =>
    cases rx
    cases y with
    | non => cases ry; exact PySem.EqNone.eq_bool_none (fin_bl I q (by simp))
    | bl j => cases ry; exact eq_bool (fin_bl I q dec_bl)
    | str j => obtain ⟨t', rfl⟩ := ry; exact PySem.EqMixed.eq_bool_str (fin_bl I q (by simp))
    | _ => exact absurd (show false = true from hs) Bool.false_ne_true
  | int i =>
    obtain ⟨t, rfl⟩ := rx
    cases y with
    | non => cases ry; exact PySem.EqNone.eq_int_none (fin_bl I q (by simp))
    | int j => obtain ⟨t', rfl⟩ := ry; exact eq_int (fin_bl I q dec_int)
    | str j => obtain ⟨t', rfl⟩ := ry; exact PySem.EqMixed.eq_int_str (fin_bl I q (by simp))
    | _ => exact absurd (show false = true from hs) Bool.false_ne_true
  | str i =>
    obtain ⟨t, rfl⟩ := rx
    cases y with
    | non => cases ry; exact PySem.EqNone.eq_str_none (fin_bl I q (by simp))
    | bl j => cases ry; exact PySem.EqMixed.eq_str_bool (fin_bl I q (by simp))
    | int j => obtain ⟨t', rfl⟩ := ry; exact PySem.EqMixed.eq_str_int (fin_bl I q (by simp))
    | str j => obtain ⟨t', rfl⟩ := ry; exact eq_str (fin_bl I q dec_str)
    | _ => exact absurd (show false = true from hs) Bool.false_ne_true
  | byt i =>
    obtain ⟨t, rfl⟩ := rx
    cases y with
    | byt j => obtain ⟨t', rfl⟩ := ry; exact PySem.W.eq_bytes (fin_bl I q dec_byt)
    | _ => exact absurd (show false = true from hs) Bool.false_ne_true
  | _ => cases y <;> exact absurd (show false = true from hs) Bool.false_ne_true
theorem op_ne : OpR X (compareOp .NotEq) rNe := by
  intro pins s σ H x y v u Q I rx ry h
  obtain ⟨hs, q⟩ := h
  cases x with
  | non =>
    cases rx
    cases y with
    | non => cases ry; exact PySem.EqNone.ne_none_none (fin_bl I q (by simp))
    | bl j => cases ry; exact PySem.EqNone.ne_none_bool (fin_bl I q (by simp))
    | int j => obtain ⟨t', rfl⟩ := ry; exact PySem.EqNone.ne_none_int (fin_bl I q (by simp))
    | str j => obtain ⟨t', rfl⟩ := ry; exact PySem.EqNone.ne_none_str (fin_bl I q (by simp))
    | _ => exact absurd (show false = true from hs) Bool.false_ne_true
  | bl i =>
    cases rx
    cases y with
    | non => cases ry; exact PySem.EqNone.ne_bool_none (fin_bl I q (by simp))
    | bl j => cases ry; exact ne_bool (fin_bl I q (congrArg not dec_bl))
    | str j => obtain ⟨t', rfl⟩ := ry; exact PySem.EqMixed.ne_bool_str (fin_bl I q (by simp))
    | _ => exact absurd (show false = true from hs) Bool.false_ne_true
  | int i =>
    obtain ⟨t, rfl⟩ := rx
    cases y with
    | non => cases ry; exact PySem.EqNone.ne_int_none (fin_bl I q (by simp))
    | int j => obtain ⟨t', rfl⟩ := ry; exact ne_int (fin_bl I q (congrArg not dec_int))
    | str j => obtain ⟨t', rfl⟩ := ry; exact PySem.EqMixed.ne_int_str (fin_bl I q (by simp))
    | _ => exact absurd (show false = true from hs) Bool.false_ne_true
  | str i =>
    obtain ⟨t, rfl⟩ := rx
    cases y with
    | non => cases ry; exact PySem.EqNone.ne_str_none (fin_bl I q (by simp))
    | bl j => cases ry; exact PySem.EqMixed.ne_str_bool (fin_bl I q (by simp))
    | int j => obtain ⟨t', rfl⟩ := ry; exact PySem.EqMixed.ne_str_int (fin_bl I q (by simp))
    | str j => obtain ⟨t', rfl⟩ := ry; exact ne_str (fin_bl I q (congrArg not dec_str))
    | _ => exact absurd (show false = true from hs) Bool.false_ne_true
  | byt i =>
    obtain ⟨t, rfl⟩ := rx
    cases y with
    | byt j => obtain ⟨t', rfl⟩ := ry; exact PySem.W.ne_bytes (fin_bl I q (congrArg not dec_byt))
    | _ => exact absurd (show false = true from hs) Bool.false_ne_true
  | _ => cases y <;> exact absurd (show false = true from hs) Bool.false_ne_true

theorem op_lt : OpR X (compareOp .Lt) (rI0 fun i j => .bl (decide (i < j))) := opB0 fun _ _ _ _ _ _ _ q => lt_int q
theorem op_gt : OpR X (compareOp .Gt) (rI0 fun i j => .bl (decide (j < i))) := opB0 fun _ _ _ _ _ _ _ q => gt_int q
theorem op_ge : OpR X (compareOp .GtE) (rI0 fun i j => .bl (decide (j ≤ i))) := opB0 fun _ _ _ _ _ _ _ q => ge_int q
/-- the one string within the other -/
theorem op_in_str : OpR X (compareOp .In) (fun x y H Q => ∃ i j, x = .str i ∧ y = .str j ∧ Q (.bl (!(Builtin.Str.occurrences j i 0 j.length 1).isEmpty)) H) := by
  intro pins s σ H x y v u Q I rx ry h
  obtain ⟨i, j, rfl, rfl, q⟩ := h
  obtain ⟨t, rfl⟩ := rx
  obtain ⟨t', rfl⟩ := ry
  exact in_str (fin_bl I q rfl)

/-- two rules for one operation: by cases -/
theorem OpR.or {f : Value → Value → Sem Value} {r r' : R2} (h : OpR X f r) (h' : OpR X f r') : OpR X f (fun x y H Q => r x y H Q ∨ r' x y H Q) := by
  intro pins s σ H x y v u Q I rx ry q
  rcases q with q | q
  · exact h pins s σ H x y v u Q I rx ry q
  · exact h' pins s σ H x y v u Q I rx ry q

theorem nomark (b : Expr) {op : CmpOp} (h : op ≠ .In := by decide) (h2 : op ≠ .NotIn := by decide) : behindInMarks op b = false := by
  have e1 : (op == CmpOp.In) = false := by cases op <;> first | rfl | exact absurd rfl h
  have e2 : (op == CmpOp.NotIn) = false := by cases op <;> first | rfl | exact absurd rfl h2
  cases b <;> simp [behindInMarks, e1, e2]
/-- a comparison as a value; hm: nomark b, or (for in, not in) by with_unfolding_all rfl -/
theorem pe_cmpR {op : CmpOp} {r : R2} (ho : OpR X (compareOp op) r) (ha : PE X a ta) (hb : PE X b tb) (hm : behindInMarks op b = false) : PE X (.Compare a [op] [b] pos) (tOp r ta tb) := by
  intro pins s σ H Q I h
  exact wpAny_Compare1 (binT ha hb I h fun v u s2 x y H2 I2 rx ry q => ho pins s2 σ H2 x y v u Q I2 rx ry q) hm
/-- a reading of a value as a test -/
def tTest (t : TE) : TT := fun σ H Q => t σ H fun x H' => ∃ k, x = .bl k ∧ Q k H'
theorem pt_cmpR {op : CmpOp} {r : R2} (ho : OpR X (compareOp op) r) (ha : PE X a ta) (hb : PE X b tb) (hm : behindInMarks op b = false) : PT X (.Compare a [op] [b] pos) (tTest (tOp r ta tb)) := by
  intro pins s σ H Q I h
  refine wpAny_isTrue_Compare1 (thn (ha pins s σ H _ I h) fun v s1 ⟨x, H1, I1, r1, q1⟩ => thn (hb pins s1 σ H1 _ I1 q1) fun u s2 ⟨y, H2, I2, r2, q2⟩ =>
    thn (ho pins s2 σ H2 x y v u _ I2 r1 r2 q2) fun c s3 ⟨z, H3, I3, r3, k, e, q3⟩ => ?_) hm
  subst e
  cases r3
  exact wpAny_truthy_bool ⟨H3, I3, q3⟩
/-- a op1 b op2 c -/
def tChain (r r' : R2) (ta tb tc : TE) : TE := fun σ H Q => ta σ H fun x H1 => tb σ H1 fun y H2 => r x y H2 fun z H3 => ∃ k, z = .bl k ∧
  (if k = true then tc σ H3 fun w' H4 => r' y w' H4 Q else Q (.bl false) H3)
/-! ### truth -/
theorem line63 : (sizeLine : Nat) < 2 ^ 63 := by rw [sizeLine_eq]; decide
/-! ### strs and bytes -/
theorem op_add_str : OpR X (binaryOp .Add) (fun x y H Q => ∃ i j, x = .str i ∧ y = .str j ∧ i.length + j.length ≤ sizeLine ∧ Q (.str (i ++ j)) H) := by
  intro pins s σ H x y v u Q I rx ry h
  obtain ⟨i, j, rfl, rfl, hz, q⟩ := h
  obtain ⟨t, rfl⟩ := rx
  obtain ⟨t', rfl⟩ := ry
  exact add_str (fun t' tk => ⟨.str (i ++ j), H, I.tok _, ⟨_, rfl⟩, q⟩) hz
/-! ### scalar builtins, by CallR -/
theorem vals1 {x : V} {us : List Value} (r : Vals [x] us) : ∃ u, us = [u] ∧ RelV x u := by
  cases r with
  | cons r1 r2 => cases r2; exact ⟨_, rfl, r1⟩
theorem vals2 {x y : V} {us : List Value} (r : Vals [x, y] us) : ∃ u w', us = [u, w'] ∧ RelV x u ∧ RelV y w' := by
  cases r with
  | cons r1 r2 =>
    cases r2 with
    | cons r3 r4 => cases r4; exact ⟨_, _, rfl, r1, r3⟩
theorem call_abs : CallR X (.builtin "abs") (fun xs H Q => ∃ i, xs = [.int i] ∧ Q (.int (if i < 0 then -i else i)) H) := by
  intro pins s σ H xs us Q I r h
  obtain ⟨i, rfl, q⟩ := h
  obtain ⟨u, rfl, t, rfl⟩ := vals1 r
  exact call_abs_int fun u tk => ⟨.int (if i < 0 then -i else i), H, I.tok _, ⟨_, rfl⟩, q⟩
theorem call_min2 (hc : X.calm = true) : CallR X (.builtin "min") (fun xs H Q => ∃ i j, xs = [.int i, .int j] ∧ Q (.int (if j < i then j else i)) H) := by
  intro pins s σ H xs us Q I r h
  obtain ⟨i, j, rfl, q⟩ := h
  obtain ⟨u, w', rfl, ⟨t, rfl⟩, ⟨t', rfl⟩⟩ := vals2 r
  refine min_two_ints (I.ok.hd hc) fun h' tk k => ⟨_, H, I.kept k, ?_, q⟩
  by_cases hj : j < i
  · rw [if_pos hj, if_pos hj]; exact ⟨_, rfl⟩
  · rw [if_neg hj, if_neg hj]; exact ⟨_, rfl⟩
end
end L2

namespace L2
open PySem PySem.Spec PyProof.Rows

/-! ### an instance, its attributes a map -/
structure ObjM (h : Heap) (x dx C : Addr) (mA : Str → Option Value) : Prop where
  obj : h.get? x = some (PySem.W.instObj C dx)
  ns : h.Ns1 dx mA
  ne : dx ≠ x

theorem lookIn_ns {h : Heap} {dx : Addr} {mA : Str → Option Value} (n : h.Ns1 dx mA) : ∃ od, h.get? dx = some od ∧ ∀ name, PySem.W.lookIn name od = some (mA name) := by
  obtain ⟨o, es, ep, ho, hd, hk, _, hm⟩ := n
  refine ⟨o, ho, fun name => ?_⟩
  have e := hm name
  unfold nsFind findBy at e
  rw [← Array.find?_toList] at e
  unfold PySem.W.lookIn
  rw [hd]
  dsimp only
  split
  · rename_i y q
    rw [q] at e
    exact congrArg some e
  · rename_i q
    rw [q] at e
    have a : es.toList.any (·.refKey) = false := by
      rw [List.any_eq_false]
      intro y hy
      obtain ⟨z, t, hkey⟩ := hk y (Array.mem_toList_iff.mp hy)
      simp [DictEntry.refKey, hkey]
    have a' : ¬ es.toList.any (·.refKey) = true := by rw [a]; exact Bool.false_ne_true
    rw [if_neg a']
    exact congrArg some e

theorem ObjM.look {h : Heap} {x dx C : Addr} {mA : Str → Option Value} (I : ObjM h x dx C mA) : ∃ od, PySem.W.InstAt h x (PySem.W.instObj C dx) C (some od) ∧ ∀ name, PySem.W.lookIn name od = some (mA name) :=
  let ⟨od, ho, hl⟩ := lookIn_ns I.ns
  ⟨od, ⟨I.obj, rfl, rfl, ho⟩, hl⟩

section
variable {prog : Program} {w : World} {A : Around} {E : Value → Shared → Prop} {s : Shared} {K : PySem.W.Frag} {x dx C f : Addr} {mA : Str → Option Value} {name : Str} {v : Value}

end

/-! ### the attributes as a list of pairs -/
section
variable {P : Program} {w : World} {H H' : Hp} {h h' : Heap} {a C dx : Addr} {fs fs' : List (Str × V)}
theorem ins_get (hok : HOk P w H h) (e : H a = some (.ins C dx fs)) : ∃ mA, ObjM h a dx C mA ∧ (∀ f, RelO (fs.lookup f) (mA f)) ∧ PySem.Within mA (fs.map (·.1)) ∧ fs.length ≤ 1000 ∧ H dx = some (.own a) := by
  obtain ⟨d, z, ne, ob, mA, n, r, q⟩ := (show ObjOk P w H h a (.ins C dx fs) from hok a _ e)
  exact ⟨mA, ⟨ob, n, ne⟩, r, q, z, d⟩
end

/-! ### what of the text a class must have -/
structure Cls (K : PySem.W.Frag) (C : Addr) : Prop where
  pg : PySem.W.plainGet K C Str.empty = true
  hd : PySem.W.hasDictIn K C = true
  po : PySem.W.plainOver K C = true
  sa : PySem.W.findIn K (.ref C) "__setattr__" = some (some (.builtin "object.__setattr__"))
theorem Cls.get {K : PySem.W.Frag} {C : Addr} (c : Cls K C) (f : Str) : PySem.W.plainGet K C f = true := c.pg
/-- a constant of the class -/
structure Con (K : PySem.W.Frag) (C : Addr) (f : Str) (v : V) (u : Value) : Prop where
  at_ : PySem.W.findIn K (.ref C) f = some (some u)
  rel : RelV v u
  get : PySem.W.specialIn K u "__get__" = some none
  cp : PySem.W.copiedNames.contains f = false
/-- a method: a plain def of the class or of one above it -/
structure Meth (K : PySem.W.Frag) (C : Addr) (m : Str) (f : Addr) : Prop where
  at_ : PySem.W.findIn K (.ref C) m = some (some (.ref f))
  fn : PySem.W.isFn K (.ref f) = true
  kp : PySem.W.keepIn K (.ref f) = true

section
variable {X : Cx} {pins : List (Addr × Obj)} {σ : St} {H : Hp} {s : Shared} {a C dx : Addr} {fs : List (Str × V)} {f : Str} {v : V} {A : Around} {E : Value → Shared → Prop}

/-- a new instance, tracked, without attributes -/
theorem Inv.made (I : Inv X pins σ H s) : Inv X pins σ (upd (upd H s.heap.objs.size (.own (s.heap.objs.size + 1))) (s.heap.objs.size + 1) (.ins C s.heap.objs.size []))
    { s with heap := (s.heap.push PySem.W.emptyDict).push (PySem.W.instObj C s.heap.objs.size) } := by
  have e1 : (s.heap.push PySem.W.emptyDict).get? s.heap.objs.size = some PySem.W.emptyDict := Heap.get?_push_size s.heap rfl
  have e2 : ((s.heap.push PySem.W.emptyDict).push (PySem.W.instObj C s.heap.objs.size)).get? (s.heap.objs.size + 1) = some (PySem.W.instObj C s.heap.objs.size) := by
    have := Heap.get?_push_size (s.heap.push PySem.W.emptyDict) (o := PySem.W.instObj C s.heap.objs.size) rfl
    rwa [Heap.size_push] at this
  have e3 : (s.heap.push PySem.W.emptyDict).Ns s.heap.objs.size (fun _ => none) := ⟨PySem.W.emptyDict, #[], _, e1, rfl, (fun e he => absurd he (by simp)), fun _ => rfl⟩
  have I1 := I.laid (a := s.heap.objs.size) (o := .own (s.heap.objs.size + 1)) (h' := s.heap.push PySem.W.emptyDict) (t' := s.toks) (fun b u q => Heap.get?_push_of_some _ q) (Nat.le_refl _) ⟨_, e1⟩
  refine I1.laid (a := s.heap.objs.size + 1) (o := .ins C s.heap.objs.size []) (t' := s.toks) (fun b u q => Heap.get?_push_of_some _ q) (Nat.le_of_eq (Heap.size_push _ _)) ?_
  have ne : s.heap.objs.size ≠ s.heap.objs.size + 1 := Nat.ne_of_lt (Nat.lt_succ_self _)
  refine ⟨by rw [upd_ne ne, upd_same], Nat.zero_le _, ne, e2, fun _ => none, (Heap.Ns1.of_empty e3).at fun o q => Heap.get?_push_of_some _ q, fun _ => True.intro, fun y hy => absurd rfl hy⟩

end

/-! ### readings and rules -/
section
variable {X : Cx} {o e value : Expr} {f : Str} {pos pos' tpos : Pos} {ta tv : TE}
end

/-! ### isinstance -/
section
variable {X : Cx} {pins : List (Addr × Obj)} {σ : St} {H : Hp} {s : Shared} {A : Around} {E : Value → Shared → Prop} {Q : Value → Shared → Prop} {c : Value} {b : Bool}
/-- the type of a value, as the fragment's deciders take it; for an instance its class -/
inductive TyOf (K : PySem.W.Frag) (H : Hp) : V → Value → Prop where
  | non : TyOf K H .non (.type "NoneType")
  | bl (x : Bool) : TyOf K H (.bl x) (.type "bool")
  | int (i : Int) : TyOf K H (.int i) (.type "int")
  | str (x : Str) : TyOf K H (.str x) (.type "str")
  | flt (x : UInt64) : TyOf K H (.flt x) (.type "float")
  | lst {a : Addr} {xs : List V} (e : H a = some (.lst xs)) : TyOf K H (.ref a) (.type "list")
  | frz {a : Addr} {o : Obj} {xs : List V} (e : H a = some (.frz o (.lst xs))) : TyOf K H (.ref a) (.type "list")
  | tup {a : Addr} {xs : List V} (e : H a = some (.tup xs)) : TyOf K H (.ref a) (.type "tuple")
  | dK {a : Addr} {kvs : List (Key × V)} (e : H a = some (.dK kvs)) : TyOf K H (.ref a) (.type "dict")
  | dT {a : Addr} {kvs : List (List Key × V)} (e : H a = some (.dT kvs)) : TyOf K H (.ref a) (.type "dict")
  | ins {a C dx : Addr} {fs : List (Str × V)} (e : H a = some (.ins C dx fs)) (cl : Cls K C) (ha : PySem.W.findIn K (.ref C) "__class__" = some (some (.builtin "object.__class__")))
      (hn : PySem.W.specialIn K (.builtin "object.__class__") "__get__" = some (some (.builtin "getset_descriptor.__get__"))) (htk : PySem.W.takesIn K (.builtin "object.__class__") = some true)
      (hm : PySem.W.mroIn K C (.type "object") = some true) : TyOf K H (.ref a) (.ref C)
/-- isinstance(x, c) for one class c, a built-in or an own one: kitOne's answer -/
theorem isinst_ok {x : V} {u t : Value} (I : Inv X pins σ H s) (rx : RelV x u) (ty : TyOf X.K H x t) (e : PySem.W.kitOne X.K t c = some b) (h : ∀ tk, Q (.bool b) { s with toks := tk }) :
    wpAny (model X.prog X.w) A (call (.builtin "isinstance") [u, c]) Q E s := by
  cases ty with
  | non => cases (show u = Value.none from rx); exact PySem.W.kia_one PySem.W.kitx_none I.kIn True.intro e (fun z => nomatch z) h
  | bl y => cases (show u = Value.bool y from rx); exact PySem.W.kia_one PySem.W.kitx_bool I.kIn True.intro e (fun z => nomatch z) h
  | int i => obtain ⟨t, q⟩ := (show ∃ t, u = Value.int i t from rx); cases q; exact PySem.W.kia_one PySem.W.kitx_int I.kIn True.intro e (fun z => nomatch z) h
  | str y => obtain ⟨t, q⟩ := (show ∃ t, u = Value.str y t from rx); cases q; exact PySem.W.kia_one PySem.W.kitx_str I.kIn True.intro e (fun z => nomatch z) h
  | flt y => obtain ⟨t, q⟩ := (show ∃ t, u = Value.float y t from rx); cases q; exact PySem.W.kia_one PySem.W.kitx_float I.kIn True.intro e (fun z => nomatch z) h
  | @lst a xs ea =>
    cases (show u = Value.ref a from rx)
    obtain ⟨_, _, n, _, h1⟩ := (show ObjOk X.prog X.w H s.heap a (.lst xs) from I.hok a _ ea)
    exact PySem.W.kia_one PySem.W.kitx_list I.kIn ⟨_, h1, rfl⟩ e (fun z => nomatch z) h
  | @frz a ob xs ea =>
    cases (show u = Value.ref a from rx)
    obtain ⟨_, _, _, n, _, h1⟩ := (show ObjOk X.prog X.w H s.heap a (.frz ob (.lst xs)) from I.hok a _ ea)
    exact PySem.W.kia_one PySem.W.kitx_list I.kIn ⟨_, h1, rfl⟩ e (fun z => nomatch z) h
  | @tup a xs ea =>
    cases (show u = Value.ref a from rx)
    obtain ⟨_, _, _, p⟩ := (show ObjOk X.prog X.w H s.heap a (.tup xs) from I.hok a _ ea)
    obtain ⟨o, h1, h2, _⟩ := p
    exact PySem.W.kia_one PySem.W.kitx_tuple I.kIn ⟨o, h1, h2⟩ e (fun z => nomatch z) h
  | @dK a kvs ea =>
    cases (show u = Value.ref a from rx)
    obtain ⟨_, _, vs, _, p⟩ := (show ObjOk X.prog X.w H s.heap a (.dK kvs) from I.hok a _ ea)
    obtain ⟨o, es, ep, h1, h2, _⟩ := p
    exact PySem.W.kia_one PySem.W.kitx_dict I.kIn ⟨o, h1, h2.1⟩ e (fun z => nomatch z) h
  | @dT a kvs ea =>
    cases (show u = Value.ref a from rx)
    obtain ⟨_, _, xs, _, o, es, ep, h1, h2, _⟩ := (show ObjOk X.prog X.w H s.heap a (.dT kvs) from I.hok a _ ea)
    exact PySem.W.kia_one PySem.W.kitx_dict I.kIn ⟨o, h1, h2.1⟩ e (fun z => nomatch z) h
  | @ins a C dx fs ea cl ha hn htk hm =>
    cases (show u = Value.ref a from rx)
    obtain ⟨mA, O, _⟩ := ins_get I.hok ea
    obtain ⟨od, J, _⟩ := O.look
    exact PySem.W.kia_one (PySem.W.kitx_own (cl.get _) cl.hd ha hn htk hm) I.kIn J e (fun z => nomatch z) h
end
end L2

namespace L2
open PySem PySem.Spec PyProof.Rows

/-! ### room -/
structure Room (k : Nat) (A : Around) : Prop where
  hd : A.handled = none
  dp : A.depth + 3 * k + 5 < recursionLimit
  un : A.units + 16 * k + 200 < cLine
theorem Room.mono {j k : Nat} {A : Around} (r : Room k A) (h : j ≤ k) : Room j A := ⟨r.hd, by have := r.dp; omega, by have := r.un; omega⟩
theorem Room.deeper {k : Nat} {A : Around} (r : Room (k + 1) A) (env : Env) : Room k (A.deeper env) :=
  ⟨r.hd, by have := r.dp; show A.depth + 1 + 3 * k + 5 < _; omega, by have := r.un; show A.units + 3 + 16 * k + 200 < _; omega⟩
theorem Room.in1 {k : Nat} {A : Around} (r : Room (k + 1) A) : Room k A.in1 :=
  ⟨r.hd, by have := r.dp; show A.depth + 3 * k + 5 < _; omega, by have := r.un; show A.units + 1 + 16 * k + 200 < _; omega⟩
theorem Room.depth {k : Nat} {A : Around} (r : Room k A) : A.depth < recursionLimit := by have := r.dp; omega
theorem Room.units {k : Nat} {A : Around} (r : Room k A) : A.units + 64 < cLine := by have := r.un; omega
/-! ### argument lists and displays -/
def tNil : TA := fun _ H Q => Q [] H
def tCons (ta : TE) (tr : TA) : TA := fun σ H Q => ta σ H fun x H1 => tr σ H1 fun xs H2 => Q (x :: xs) H2
section
variable {X : Cx} {e : Expr} {es : List Expr} {te : TE} {t : TA} {pos : Pos}
theorem pa_nil : PA X [] tNil := fun _ _ _ _ H Q I h => Calls.spliced_nil ⟨[], H, I, .nil, h⟩
theorem pa_cons (ha : PE X e te) (hr : PA X es t) (hs : starEach (e :: es) X.env = (false, eval e X.env) :: starEach es X.env := by rfl) : PA X (e :: es) (tCons te t) := by
  intro pos pins s σ H Q I h
  rw [hs]
  show wpAny _ _ (spliced ((false, eval e X.env) :: backTo pos (starEach es X.env))) _ _ s
  refine Calls.spliced_cons (thn (ha pins s σ H _ I h) fun u s1 ⟨x, H1, I1, r1, q1⟩ => ?_)
  exact thn (hr pos pins s1 σ H1 _ I1 q1) fun us s2 ⟨xs, H2, I2, r2, q2⟩ => ⟨x :: xs, H2, I2, .cons r1 r2, q2⟩

/-- a tuple, a list of written items -/
def tTup (t : TA) : TE := fun σ H Q => t σ H fun xs H1 => xs.length ≤ sizeLine ∧ ∀ p, H1 p = none → Q (.ref p) (upd H1 p (.tup xs))
def tLst (t : TA) : TE := fun σ H Q => t σ H fun xs H1 => xs.length ≤ sizeLine ∧ ∀ p, H1 p = none → Q (.ref p) (upd H1 p (.lst xs))
theorem pe_tup {x1} (h : PA X es t) : PE X (.Tuple es x1 pos) (tTup t) := by
  intro pins s σ H Q I hq
  refine wpAny_Tuple_spliced (thn (h pos pins s σ H _ I hq) fun us s1 ⟨xs, H1, I1, r, z, q⟩ => ⟨by rw [← r.length]; exact z, ?_⟩)
  have hf : H1 s1.heap.objs.size = none := I1.hok.fresh (Nat.le_refl _)
  refine ⟨.ref s1.heap.objs.size, upd H1 s1.heap.objs.size (.tup xs), I1.laid (t' := s1.toks) (fun b u e => Heap.get?_push_of_some _ e) (Nat.le_refl _) ?_, rfl, q _ hf⟩
  exact ⟨z, us, r, ⟨_, Heap.get?_push_size _ rfl, rfl, _, rfl⟩⟩
theorem pe_lst (h : PA X es t) : PE X (.List es pos) (tLst t) := by
  intro pins s σ H Q I hq
  refine wpAny_List_spliced (thn (h pos pins s σ H _ I hq) fun us s1 ⟨xs, H1, I1, r, z, q⟩ => ⟨by rw [← r.length]; exact z, ?_⟩)
  have hf : H1 s1.heap.objs.size = none := I1.hok.fresh (Nat.le_refl _)
  refine ⟨.ref s1.heap.objs.size, upd H1 s1.heap.objs.size (.lst xs), I1.laid (t' := s1.toks) (fun b u e => Heap.get?_push_of_some _ e) (Nat.le_refl _) ?_, rfl, q _ hf⟩
  exact ⟨z, us, 0, r, Heap.get?_push_size _ rfl⟩
end

/-! ### what a def promises -/
/-- a def's promise: the bound arguments in the parameters' order, the heap, the wanted end, the wanted exception -/
abbrev Sp := List V → Hp → VK → XK → Prop
/-- how an exception lies behind a call (file 08 gives it): the callers' frames, abstract heap and state ahead of the call, the wish, the exception, the state -/
abbrev CXT := List Env → Hp → Shared → XK → Value → Shared → Prop

/-- the state at a call -/
structure Env0 (P : Program) (w : World) (K : PySem.W.Frag) (mg : Str → Option Value) (base : Heap) (A : Around) (outer : List Env) (s : Shared) (H : Hp) : Prop where
  frames : A.frames = some outer
  mod : Mod K mg base
  bs : ∀ b o, base.get? b = some o → s.heap.get? b = some o ∧ H b = none
  bsz : base.objs.size ≤ s.heap.objs.size
  funs : s.heap.FunFrames base outer
  frf : ∀ b ∈ frs outer, H b = none
  hok : HOk P w H s.heap
  bare : AllBare s.gens
/-- a call's end -/
def CE (outer : List Env) (P : Program) (w : World) (H : Hp) (s : Shared) (Q : VK) (u : Value) (s' : Shared) : Prop :=
  ∃ v H', s'.os = s.os ∧ AllBare s'.gens ∧ Un (frs outer) [] H H' s.heap s'.heap ∧ HOk P w H' s'.heap ∧ RelV v u ∧ Q v H'
def CR (CX : CXT) (outer : List Env) (P : Program) (w : World) (H : Hp) (s : Shared) (Q : VK) (E : XK) (r : Result) (s' : Shared) : Prop :=
  match r with
  | .ok (.ret u) => CE outer P w H s Q u s'
  | .ok _ => False
  | .error e => CX outer H s E e s'
structure FnOk (P : Program) (w : World) (K : PySem.W.Frag) (mg : Str → Option Value) (base : Heap) (CX : CXT) (k : Nat) (f : Addr) (fd : FuncData) (ps : List Str) (sp : Sp) : Prop where
  len : ∀ vs H Q E, sp vs H Q E → vs.length = ps.length
  run : ∀ (A : Around) (outer : List Env) (s : Shared) (H : Hp) (args : Args) (us : List Value) (vs : List V) (Q : VK) (E : XK), Room k A → Env0 P w K mg base A outer s H → BindsTo s fd args (ps.zip us) → Vals vs us → sp vs H Q E →
    codeAny (model P w) A (.call (.ref f) args) (CR CX outer P w H s Q E) s
theorem FnOk.mono {P : Program} {w : World} {K : PySem.W.Frag} {mg : Str → Option Value} {base : Heap} {CX : CXT} {j k : Nat} {f : Addr} {fd : FuncData} {ps : List Str} {sp : Sp} (F : FnOk P w K mg base CX j f fd ps sp) (h : j ≤ k) :
    FnOk P w K mg base CX k f fd ps sp := ⟨F.len, fun A outer s H args us vs Q E hr => F.run A outer s H args us vs Q E (hr.mono h)⟩
/-- a weaker promise -/
theorem FnOk.imp {P : Program} {w : World} {K : PySem.W.Frag} {mg : Str → Option Value} {base : Heap} {CX : CXT} {k : Nat} {f : Addr} {fd : FuncData} {ps : List Str} {sp sp' : Sp} (F : FnOk P w K mg base CX k f fd ps sp)
    (h : ∀ vs H Q E, sp' vs H Q E → sp vs H Q E) : FnOk P w K mg base CX k f fd ps sp' :=
  ⟨fun vs H Q E q => F.len vs H Q E (h _ _ _ _ q), fun A outer s H args us vs Q E hr he hb hv hs => F.run A outer s H args us vs Q E hr he hb hv (h _ _ _ _ hs)⟩

theorem Env0.in1 {P : Program} {w : World} {K : PySem.W.Frag} {mg : Str → Option Value} {base : Heap} {A : Around} {outer : List Env} {s : Shared} {H : Hp} (e : Env0 P w K mg base A outer s H) :
    Env0 P w K mg base A.in1 outer s H := ⟨e.frames, e.mod, e.bs, e.bsz, e.funs, e.frf, e.hok, e.bare⟩

section
variable {X : Cx} {pins : List (Addr × Obj)} {σ : St} {H : Hp} {s s' : Shared}
/-- from a body: what a callee wants -/
theorem Inv.env0 (I : Inv X pins σ H s) : Env0 X.prog X.w X.K X.mg X.base X.A X.stack s H :=
  ⟨I.ok.frames, I.ok.mod, I.bs, Nat.le_trans I.ok.bsz I.sz, I.stack, I.stkFree, I.hok, I.bare⟩
/-- behind a call -/
theorem Inv.after {Q : VK} {u : Value} (I : Inv X pins σ H s) (h : CE X.stack X.prog X.w H s Q u s') : EP X pins σ Q u s' := by
  obtain ⟨v, H', os, bare, un, hok, r, q⟩ := h
  obtain ⟨hh, g, d, t, os'⟩ := s'
  obtain rfl : os' = s.os := os
  exact ⟨v, H', I.call (h' := hh) (g' := g) (d' := d) (t' := t) (ch := []) un hok bare (fun b z => absurd z (by simp)), r, q⟩
end

/-! ### calls -/
/-- f(..): the written arguments, then the defaults dvs; E: what is wanted of an exception -/
def tCall (sp : Sp) (dvs : List V) (E : XK) (t : TA) : TE := fun σ H Q => t σ H fun vs H1 => sp (vs ++ dvs) H1 Q E
/-- how the parameters are bound: us the positional arguments, kw the keywords' values by name, ds the defaults that fill up -/
def Binds (K : PySem.W.Frag) (fd : FuncData) (ps : List Str) (ds : List Value) : Prop :=
  ∀ (s : Shared) (us : List Value), K.In s.heap → (us ++ ds).length = ps.length → BindsTo s fd ⟨us, []⟩ (ps.zip (us ++ ds))
/-- every parameter is given -/
theorem Binds.all {K : PySem.W.Frag} {fd : FuncData} {ps : List Str} (h : ∀ us : List Value, us.length = ps.length → bindArgs fd ⟨us, []⟩ = pure (ps.zip us)) : Binds K fd ps [] := fun s us _ hl => by
  rw [List.append_nil] at hl ⊢
  exact .of_eq (h us hl)

/-- an exception of a callee reaches what this body wants of exceptions -/
def Passes (CX : CXT) (X : Cx) (E : XK) : Prop := ∀ (pins : List (Addr × Obj)) (σ : St) (H : Hp) (s : Shared) (e : Value) (s' : Shared), Inv X pins σ H s → CX X.stack H s E e s' → X.xe e s'

section
variable {X : Cx} {CX : CXT} {k : Nat} {f C : Addr} {fd : FuncData} {ps : List Str} {sp : Sp} {dvs : List V} {ds : List Value} {E : XK} {x m : Str} {p pos apos : Pos} {e o : Expr} {es : List Expr} {ta : TE} {t : TA}

/-- the callee runs -/
theorem run_fn {pins : List (Addr × Obj)} {σ : St} {H : Hp} {s : Shared} {Q : VK} {us : List Value} {vs : List V} (F : FnOk X.prog X.w X.K X.mg X.base CX k f fd ps sp) (hr : Room k X.A) (hb : Binds X.K fd ps ds) (hd : Vals dvs ds) (hx : Passes CX X E)
    (I : Inv X pins σ H s) (r : Vals vs us) (h : sp (vs ++ dvs) H Q E) : wpAny (model X.prog X.w) X.A (call (.ref f) us) (EP X pins σ Q) X.xe s := by
  have r2 : Vals (vs ++ dvs) (us ++ ds) := r.append hd
  have hl : (us ++ ds).length = ps.length := by rw [← r2.length]; exact F.len _ _ _ _ h
  refine wpAny_call (codeAny_mono (F.run X.A X.stack s H ⟨us, []⟩ (us ++ ds) (vs ++ dvs) Q E hr I.env0 (hb s us I.kIn hl) r2 h) fun r s' hq => ?_)
  cases r with
  | error e => exact hx pins σ H s e s' I hq
  | ok fl =>
    cases fl with
    | ret u => exact I.after hq
    | next => exact False.elim hq
    | brk => exact False.elim hq
    | cont => exact False.elim hq

theorem pe_call (F : FnOk X.prog X.w X.K X.mg X.base CX k f fd ps sp) (hr : Room k X.A) (hg : Gl X x) (hm : X.mg x = some (.ref f)) (hk : PySem.W.keepIn X.K (.ref f) = true) (hb : Binds X.K fd ps ds) (hd : Vals dvs ds) (hx : Passes CX X E)
    (ha : PA X (e :: es) t) (hdb : (x == ("__debug__" : Str)) = false := by decide) (he : starEach (e :: es) X.env = (false, eval e X.env) :: starEach es X.env := by rfl) (hpl : (backTo pos (starEach es X.env)).any (·.1) = false := by rfl) :
    PE X (.Call (.Name x p) (e :: es) [] pos) (tCall sp dvs E t) := by
  intro pins s σ H Q I h
  refine wpAny_Call_Name_kw (ld_glob I hg hm ?_ hdb)
  refine PySem.W.callWith_K (h₀ := X.base) I.ok.mod.kin hk (thn (ha pos pins s σ H _ I h) fun us s1 ⟨vs, H1, I1, r, q⟩ => ⟨I1.kIn, ?_⟩) he hpl
  exact run_fn F hr hb hd hx I1 r q
/-- what a class must have to be made -/
structure Mk (K : PySem.W.Frag) (C f : Addr) : Prop where
  makes : PySem.W.makesIn K C = true
  init : PySem.W.findIn K (.ref C) "__init__" = some (some (.ref f))
  fn : PySem.W.isFn K (.ref f) = true
  kp : PySem.W.keepIn K (.ref C) = true

end

/-! ### keywords -/
section
variable {X : Cx} {CX : CXT} {k : Nat} {f C : Addr} {fd : FuncData} {ps ks : List Str} {sp : Sp} {E : XK} {x m : Str} {p pos apos kpos : Pos} {e o : Expr} {es : List Expr} {kws : List Keyword} {te ta : TE} {t tk : TA} {nm : Option Str}
/-- how a call with keywords binds: g puts the positional values us and the keywords' values ws (names ks) in the parameters' order, defaults among them -/
structure KBinds (K : PySem.W.Frag) (fd : FuncData) (ps ks : List Str) (g : List Value → List Value → List Value) (gV : List V → List V → List V) : Prop where
  to : ∀ (s : Shared) (us ws : List Value), K.In s.heap → (g us ws).length = ps.length → BindsTo s fd ⟨us, ks.zip ws⟩ (ps.zip (g us ws))
  rel : ∀ {vs : List V} {us : List Value} {zs : List V} {ws : List Value}, Vals vs us → Vals zs ws → Vals (gV vs zs) (g us ws)
variable {g : List Value → List Value → List Value} {gV : List V → List V → List V}
end

/-! ### a def's body keeps its promise -/
/-- names: the parameters first -/
structure FnScope (N P : List Str) (sc : Scope) : Prop where
  kind : sc.kind = .function
  co : sc.isCoroutine = false
  gen : sc.isGenerator = false
  nd : N.Nodup
  pre : N.take P.length = P
  par : ∀ x ∈ P, sc.names.lookup x = some .local ∨ sc.names.lookup x = some .cell
  nofree : ∀ y ∈ sc.names, y.2 ≠ .free

theorem bindL_out {kindOf : Str → Option NameKind} {x : Str} : ∀ {binds : List (Str × Value)} {m : Str → Option Value}, (∀ v, (x, v) ∉ binds) → bindL kindOf binds m x = m x
  | [], _, _ => rfl
  | (n, v) :: r, m, h => by
    unfold bindL
    rw [bindL_out fun w hw => h w (List.mem_cons_of_mem _ hw)]
    split
    · have : x ≠ n := by rintro rfl; exact h v List.mem_cons_self
      simp [this]
    · rfl
theorem bindC_out {kindOf : Str → Option NameKind} {x : Str} : ∀ {binds : List (Str × Value)} {m : Str → Option Value}, (∀ v, (x, v) ∉ binds) → bindC kindOf binds m x = m x
  | [], _, _ => rfl
  | (n, v) :: r, m, h => by
    unfold bindC
    rw [bindC_out fun w hw => h w (List.mem_cons_of_mem _ hw)]
    split
    · rfl
    · have : x ≠ n := by rintro rfl; exact h v List.mem_cons_self
      simp [this]
theorem bindL_get {kindOf : Str → Option NameKind} {x : Str} {v : Value} : ∀ {P : List Str} {vs : List Value} {i : Nat} {m : Str → Option Value}, P.Nodup → P[i]? = some x → vs[i]? = some v → kindOf x = some .local →
    bindL kindOf (P.zip vs) m x = some v
  | [], _, _, _, _, h, _, _ => by simp at h
  | _ :: _, [], _, _, _, _, h, _ => by simp at h
  | p :: P, w :: vs, 0, m, nd, h1, h2, hk => by
    simp at h1 h2; subst h1; subst h2
    show bindL kindOf ((p, w) :: P.zip vs) m p = _
    unfold bindL
    rw [bindL_out fun v hv => (List.nodup_cons.mp nd).1 (List.of_mem_zip hv).1, if_pos hk]
    simp
  | p :: P, w :: vs, i + 1, m, nd, h1, h2, hk => by
    show bindL kindOf ((p, w) :: P.zip vs) m x = _
    unfold bindL
    exact bindL_get (i := i) (List.nodup_cons.mp nd).2 (by simpa using h1) (by simpa using h2) hk
theorem bindC_get {kindOf : Str → Option NameKind} {x : Str} {v : Value} : ∀ {P : List Str} {vs : List Value} {i : Nat} {m : Str → Option Value}, P.Nodup → P[i]? = some x → vs[i]? = some v → kindOf x ≠ some .local →
    bindC kindOf (P.zip vs) m x = some v
  | [], _, _, _, _, h, _, _ => by simp at h
  | _ :: _, [], _, _, _, _, h, _ => by simp at h
  | p :: P, w :: vs, 0, m, nd, h1, h2, hk => by
    simp at h1 h2; subst h1; subst h2
    show bindC kindOf ((p, w) :: P.zip vs) m p = _
    unfold bindC
    rw [bindC_out fun v hv => (List.nodup_cons.mp nd).1 (List.of_mem_zip hv).1, if_neg hk]
    simp
  | p :: P, w :: vs, i + 1, m, nd, h1, h2, hk => by
    show bindC kindOf ((p, w) :: P.zip vs) m x = _
    unfold bindC
    exact bindC_get (i := i) (List.nodup_cons.mp nd).2 (by simpa using h1) (by simpa using h2) hk

/-- the names' values at the entry -/
def start (N : List Str) (vs : List V) : St := vs.map some ++ List.replicate (N.length - vs.length) none

/-- the context of a def's body, at its entry; an exception leaves the frame, then lies as CX says -/
def cxOf (CX : CXT) (P : Program) (w : World) (K : PySem.W.Frag) (mg : Str → Option Value) (base : Heap) (N : List Str) (qual : Str) (scope : Scope) (f : Addr) (cd : Value) (A : Around) (outer : List Env) (s : Shared) (H : Hp) (E : XK) : Cx where
  prog := P
  w := w
  K := K
  mg := mg
  base := base
  A := A.deeper (envOfC qual scope s.heap.objs.size f cd)
  N := N
  s₀ := s
  H₀ := H
  env := envOfC qual scope s.heap.objs.size f cd
  outer := outer
  stack := envOfC qual scope s.heap.objs.size f cd :: outer
  ex := []
  calm := true
  fn := fun _ => true
  pn := []
  xe := fun e s' => wpAny (model P w) (A.deeper (envOfC qual scope s.heap.objs.size f cd)) (leaving (envOfC qual scope s.heap.objs.size f cd) e) (fun _ s'' => CX outer H s E e s'') (fun e' s'' => CX outer H s E e' s'') s'

theorem cell_has {sc : Scope} {n : Nat} {x : Str} (h : sc.names.lookup x = some .cell) : ∃ c, (cellsFrom n sc.names []).lookup x = some c := by
  have q := PySem.W.cellsFrom_some sc.names n [] (.inl h)
  exact Option.isSome_iff_exists.mp q

theorem inv_start {CX : CXT} {P : Program} {w : World} {K : PySem.W.Frag} {mg : Str → Option Value} {base : Heap} {N ps : List Str} {qual : Str} {scope : Scope} {f : Addr} {cd : Value} {A : Around} {outer : List Env} {s s1 : Shared} {H : Hp} {E : XK} {us : List Value} {vs : List V}
    (S : FnScope N ps scope) (hd : A.handled = none) (e0 : Env0 P w K mg base A outer s H) (hl : vs.length = ps.length) (r : Vals vs us)
    (x : InCallC s s.heap.objs.size (bindL (envOfC qual scope s.heap.objs.size f cd).kindOf (ps.zip us) fun _ => none) (cellsFrom (s.heap.objs.size + 1) scope.names []) (bindC (envOfC qual scope s.heap.objs.size f cd).kindOf (ps.zip us) fun _ => none) s1) :
    Inv (cxOf CX P w K mg base N qual scope f cd A outer s H E) [] (start N vs) H s1 := by
  have hpl : ps.length ≤ N.length := by have := congrArg List.length S.pre; rw [List.length_take] at this; omega
  obtain ⟨h1, tk, rfl, hk⟩ := x.done
  have noA : ∀ b : Addr, b ∉ (cxOf CX P w K mg base N qual scope f cd A outer s H E).ex := fun b z => absurd (show b ∈ ([] : List Addr) from z) (by simp)
  refine ⟨⟨e0.mod, S.kind, rfl, rfl, Nat.le_refl _, fun y z c h1 h2 => ?_, fun y hy => ?_, fun y c _ h => ?_, fun _ => hd, Around.frames_deeper e0.frames, .inr ⟨rfl, rfl⟩, fun b z => absurd z (noA b), e0.bs, e0.bsz, fun b _ _ => noA b, fun b z => absurd z (noA b), e0.funs, e0.frf⟩,
    rfl, e0.bare, Un.kept hk, ⟨_, x.toInCall.ns, fun i y v h1 h2 h3 => ?_⟩, fun y c h => ⟨_, x.cell y c h⟩, e0.hok.fresh (Nat.le_refl _), fun y c h => ?_, fun p hp => absurd (show p ∈ ([] : List (Addr × Obj)) from hp) (by simp), e0.hok.kept hk, ?_⟩
  · exact name_of_addr x.apart (PySem.mem_of_lookup h1) (PySem.mem_of_lookup h2)
  · have hy : scope.names.lookup y = some .cell ∨ scope.names.lookup y = some .free := hy
    rcases hy with hy | hy
    · exact cell_has hy
    · exact absurd rfl (S.nofree _ (PySem.mem_of_lookup hy))
  · exact Nat.le_of_lt (x.above y c (PySem.mem_of_lookup h))
  · have hi : i < vs.length := by
      unfold start at h2
      by_cases hi : i < vs.length
      · exact hi
      · rw [List.getElem?_append_right (by simpa using hi)] at h2
        rw [List.getElem?_replicate] at h2
        split at h2 <;> cases h2
    have ha : vs[i]? = some v := by
      unfold start at h2
      rw [List.getElem?_append_left (by simpa using hi), List.getElem?_map] at h2
      cases e : vs[i]? with
      | none => rw [e] at h2; cases h2
      | some a => rw [e] at h2; cases h2; rfl
    obtain ⟨u, hu, rv⟩ := r.get ha
    have hp : ps[i]? = some y := by
      rw [← S.pre, List.getElem?_take_of_lt (by omega)]; exact h1
    have ndP : ps.Nodup := by rw [← S.pre]; exact S.nd.sublist (List.take_sublist _ _)
    refine ⟨u, rv, ?_⟩
    rcases S.par y (List.mem_of_getElem? hp) with k | k
    · exact .inl ⟨k, bindL_get ndP hp hu k⟩
    · obtain ⟨c, e⟩ := cell_has (n := s.heap.objs.size + 1) k
      refine .inr ⟨.inl k, c, e, ?_⟩
      have q := x.cell y c e
      rw [bindC_get ndP hp hu (by show scope.names.lookup y ≠ _; rw [k]; decide)] at q
      exact q
  · exact e0.hok.fresh (Nat.le_of_lt (x.above y c (PySem.mem_of_lookup h)))
  · unfold start
    show _ = N.length
    rw [List.length_append, List.length_map, List.length_replicate]
    omega

/-- THE RULE: a def (or a method) of the text, by its body. The body's reading t is chosen for each entry; it is run at the parameters' values -/
theorem fn_of {CX : CXT} {P : Program} {w : World} {K : PySem.W.Frag} {mg : Str → Option Value} {base : Heap} {k : Nat} {f : Addr} {name qual : Str} {params : Arguments} {body : List Stmt} {scope : Scope} {dV kV doc pm cdv ct oc : Value} {an od : Option Addr}
    {osl : Array (Option Value)} {N ps : List Str} {sp : Sp} (lk : K.lookup f = some ⟨oc, od, .func (PySem.W.fnOf name qual params body scope dV kV doc pm an cdv ct), osl⟩) (hcd : PySem.W.codeIn K cdv qual = true) (S : FnScope N ps scope)
    (len : ∀ vs H Q E, sp vs H Q E → vs.length = ps.length)
    (hbody : ∀ (A : Around) (outer : List Env) (s : Shared) (H : Hp) (vs : List V) (Q : VK) (E : XK), Room k (A.deeper (envOfC qual scope s.heap.objs.size f cdv)) → sp vs H Q E →
      ∃ t, PSs (cxOf CX P w K mg base N qual scope f cdv A outer s H E) body t ∧ t { nx := fun _ H' => Q .non H', rt := Q } (start N vs) H) :
    FnOk P w K mg base CX (k + 1) f (PySem.W.fnOf name qual params body scope dV kV doc pm an cdv ct) ps sp := by
  refine ⟨len, fun A outer s H args us vs Q E hr e0 hb r hsp => ?_⟩
  have hl := len _ _ _ _ hsp
  have KX : K.In s.heap := e0.mod.kin.keeps fun b o e => (e0.bs b o e).1
  have lim : s.heap.NoLimit := e0.mod.nolimit.keeps fun b o e => (e0.bs b o e).1
  have hkind : ∀ y ∈ ps.zip us, scope.names.lookup y.1 = some .local ∨ (scope.names.lookup y.1 = some .cell ∧ ((cellsFrom (s.heap.objs.size + 1) scope.names []).lookup y.1).isSome = true) := fun ⟨n, v⟩ hy => by
    rcases S.par n (List.of_mem_zip hy).1 with q | q
    · exact .inl q
    · exact .inr ⟨q, PySem.W.cellsFrom_some _ _ _ (.inl q)⟩
  refine codeAny_call_function hr.depth (KX _ _ lk) rfl S.co S.gen rfl (PySem.W.codeRec_of KX hcd) (hb _ _ _ _ ?_)
  refine wpAny_newFunctionEnv_cells S.kind hkind fun env he s1 x => ?_
  subst he
  refine ⟨lim.keeps x.toInCall.keep, codeAny_func ?_⟩
  obtain ⟨t, ht, hq⟩ := hbody A outer s H vs Q E (hr.deeper _) hsp
  have I : Inv (cxOf CX P w K mg base N qual scope f cdv A outer s H E) [] (start N vs) H s1 := inv_start S hr.hd e0 hl r x
  refine wpAny_mono (ht [] s1 (start N vs) H _ I hq) (fun fl s' hs => ?_) fun e s' hs => hs
  have fin : ∀ {σ' : St} {H' : Hp} {v : V} {u : Value}, Inv (cxOf CX P w K mg base N qual scope f cdv A outer s H E) [] σ' H' s' → RelV v u → Q v H' → CE outer P w H s Q u s' :=
    fun {σ' H' v u} J rv q => ⟨v, H', J.os, J.bare, J.base, J.hok, rv, q⟩
  cases fl with
  | ret u =>
    obtain ⟨v, σ', H', J, rv, q⟩ := hs
    exact fin J rv q
  | next =>
    obtain ⟨σ', H', J, q⟩ := hs
    exact fin (v := V.non) (u := Value.none) J rfl q
  | brk =>
    obtain ⟨_, _, _, q⟩ := hs
    exact False.elim q
  | cont =>
    obtain ⟨_, _, _, q⟩ := hs
    exact False.elim q
end L2

namespace L2
open PySem PySem.Spec PyProof.Rows
section
variable {X : Cx} {x : Str} {p pos : Pos} {e : Expr} {es : List Expr} {t : TA} {id T : String} {r : List V → Hp → VK → Prop}

def tCB (r : List V → Hp → VK → Prop) (t : TA) : TE := fun σ H Q => t σ H fun vs H1 => r vs H1 Q
/-- f(e, ..), f a built-in function -/
theorem pe_callB (hc : CallR X (.builtin id) r) (hg : Gl X x) (hm : X.mg x = none) (hv : bootBuiltins x = some (.builtin id)) (ha : PA X (e :: es) t) (hn : x ≠ "__name__" := by decide) (hdb : (x == ("__debug__" : Str)) = false := by decide)
    (he : starEach (e :: es) X.env = (false, eval e X.env) :: starEach es X.env := by rfl) (hpl : (backTo pos (starEach es X.env)).any (·.1) = false := by rfl) : PE X (.Call (.Name x p) (e :: es) [] pos) (tCB r t) := by
  intro pins s σ H Q I h
  refine wpAny_Call_Name_kw (ld_blt I hg hm hv ?_ hn hdb)
  exact PyProof.Rows.callWith_builtin1 (thn (ha pos pins s σ H _ I h) fun us s1 ⟨vs, H1, I1, r1, q1⟩ => hc pins s1 σ H1 vs us Q I1 r1 q1) he hpl
/-- T(e, ..), T a built-in type -/
theorem pe_callTy (hc : CallR X (.type T) r) (hg : Gl X x) (hm : X.mg x = none) (hv : bootBuiltins x = some (.type T)) (ha : PA X (e :: es) t) (hn : x ≠ "__name__" := by decide) (hdb : (x == ("__debug__" : Str)) = false := by decide)
    (he : starEach (e :: es) X.env = (false, eval e X.env) :: starEach es X.env := by rfl) (hpl : (backTo pos (starEach es X.env)).any (·.1) = false := by rfl) : PE X (.Call (.Name x p) (e :: es) [] pos) (tCB r t) := by
  intro pins s σ H Q I h
  refine wpAny_Call_Name_kw (ld_blt I hg hm hv ?_ hn hdb)
  exact PyProof.Rows.callWith_type1 (thn (ha pos pins s σ H _ I h) fun us s1 ⟨vs, H1, I1, r1, q1⟩ => hc pins s1 σ H1 vs us Q I1 r1 q1) he hpl
end
end L2

namespace HT
open PySem PyProof.Rows

section
open PySem.SeqAt
open PySem.AutoSeq1 (wpAny_loadPart')
open PySem.MeetsSeq PySem.MeetsSeq2 PySem.MeetsSeq3

end

section
variable {prog : Program} {w : World} {A : Around} {E : Value → Shared → Prop} {s : Shared}

/-- t + u, t not empty -/
theorem cat_tup {t b : Addr} {vs ws : List Value} {Q : Value → Shared → Prop} (ht : IsTup s.heap t vs.toArray) (hb : IsTup s.heap b ws.toArray) (hv : vs ≠ [])
    (h1 : ws = [] → Q (.ref t) s) (h2 : ws ≠ [] → Q (.ref s.heap.objs.size) { s with heap := s.heap.push { cls := .type "tuple", data := .seq (vs ++ ws).toArray } })
    (hsz : vs.length + ws.length ≤ sizeLine) : wpAny (model prog w) A (binaryOp .Add (.ref t) (.ref b)) Q E s := by
  obtain ⟨⟨cls, dd, data, sl⟩, ho, hc, n, hd⟩ := id ht
  obtain ⟨⟨cls2, dd2, data2, sl2⟩, ho2, hc2, n2, hd2⟩ := id hb
  simp only at hc hd hc2 hd2
  subst hc hd hc2 hd2
  have e : vs.toArray ++ ws.toArray = (vs ++ ws).toArray := by simp
  by_cases hw : ws = []
  · exact concat_meets ⟨_, ho, rfl⟩ ⟨_, ho2, rfl⟩ noFill_tuple_add seq_tuple_add PySem.F.slot_tuple_add PySem.F.entry_tuple_add (PySem.F.args_tuple_add_2 _ _)
      (tuple_addW1 t b vs.toArray ws.toArray n n2 dd dd2 sl sl2 (by simpa using hv) (by simp [hw])) ⟨ho, ho2, h1 hw⟩
  · refine concat_meets ⟨_, ho, rfl⟩ ⟨_, ho2, rfl⟩ noFill_tuple_add seq_tuple_add PySem.F.slot_tuple_add PySem.F.entry_tuple_add (PySem.F.args_tuple_add_2 _ _)
      (tuple_addW2 t b vs.toArray ws.toArray n n2 dd dd2 sl sl2 (by simpa using hv) (by simpa using hw) (by rw [List.size_toArray, List.size_toArray]; exact hsz)) ⟨ho, ho2, ?_⟩
    rw [e]
    exact h2 hw

/-! ### t[a:b], not the whole -/
/-- a slice's bound as a place among n (d where it is left out) -/
def sIx (n d : Nat) : Option Int → Nat
  | none => d
  | some v => if v < 0 then (v + (n : Int)).toNat else min v.toNat n
theorem sIx_none (n d : Nat) : sIx n d none = d := rfl
theorem sIx_nat (n d k : Nat) : sIx n d (some (k : Int)) = min k n := by
  show (if (k : Int) < 0 then ((k : Int) + (n : Int)).toNat else min (k : Int).toNat n) = min k n
  rw [if_neg (by omega), Int.toNat_natCast]
theorem sIx_le (n d : Nat) (hd : d ≤ n) (o : Option Int) : sIx n d o ≤ n := by
  cases o with
  | none => exact hd
  | some v =>
    show (if v < 0 then (v + (n : Int)).toNat else min v.toNat n) ≤ n
    by_cases hv : v < 0
    · rw [if_pos hv]; omega
    · rw [if_neg hv]; exact Nat.min_le_right _ _
theorem clip_eq (v : Int) (n d : Nat) : (if v < 0 then max (v + (n : Int)) 0 else min v (n : Int)) = ((sIx n d (some v) : Nat) : Int) := by
  show (if v < 0 then max (v + (n : Int)) 0 else min v (n : Int)) = (((if v < 0 then (v + (n : Int)).toNat else min v.toNat n) : Nat) : Int)
  by_cases hv : v < 0
  · simp only [if_pos hv]; omega
  · simp only [if_neg hv]; omega
theorem adjust_gen (lo hi : Option Int) (n : Nat) : Builtin.Slice.sliceAdjust lo hi 1 (n : Int) = (((sIx n 0 lo : Nat) : Int), ((sIx n n hi : Nat) : Int)) := by
  have h1 : ¬ ((1 : Int) < 0) := by omega
  unfold Builtin.Slice.sliceAdjust
  simp only [h1, if_false]
  refine Prod.ext ?_ ?_
  · cases lo with
    | none => rfl
    | some v => exact clip_eq v n 0
  · cases hi with
    | none => rfl
    | some v => exact clip_eq v n n
theorem places_gen (i j : Nat) : Builtin.Slice.slicePlaces (i : Int) (j : Int) 1 = j - i := by
  unfold Builtin.Slice.slicePlaces
  have h1 : (1 : Int) > 0 := by omega
  simp only [h1, if_true, Int.ediv_one]
  split <;> omega
theorem slicePart_ {v : Value} {o : Option Int} {Q : Option Int → Shared → Prop} (p : IsPart v o) (h : Q o s) : wpAny (model prog w) A (Builtin.Slice.slicePartIndex v) Q E s := by
  cases p with
  | none => exact slicePart_none h
  | int i t => exact slicePart_int h
theorem sliceApplied_gen {sl : Addr} {vl vu : Value} {lo hi : Option Int} {n : Nat} {Q : Int × Int × Nat → Shared → Prop} (hs : s.heap.IsSliceOf sl vl vu .none) (pl : IsPart vl lo) (pu : IsPart vu hi)
    (h : Q (((sIx n 0 lo : Nat) : Int), 1, sIx n n hi - sIx n 0 lo) s) : wpAny (model prog w) A (Builtin.Slice.sliceApplied (.ref sl) (pure (n : Int))) Q E s := by
  obtain ⟨os, hos, hcs, hds⟩ := id hs
  unfold Builtin.Slice.sliceApplied Builtin.Slice.sliceFields
  refine wpAny_bind (wpAny_bind (wpAny_field hos hds (x := vl) rfl (wpAny_bind (wpAny_field hos hds (x := vu) rfl (wpAny_bind (wpAny_field hos hds (x := .none) rfl (wpAny_pure ?_)))))))
  refine wpAny_bind (slicePart_none ?_)
  show wpAny _ _ (if ((1 : Int) == 0) = true then _ else _) _ _ s
  rw [if_neg (by decide)]
  refine wpAny_bind (slicePart_ pl (wpAny_bind (slicePart_ pu (wpAny_bind (wpAny_pure ?_)))))
  show wpAny _ _ (match Builtin.Slice.sliceAdjust lo hi 1 (n : Int) with | (lo, hi) => pure (lo, (1 : Int), Builtin.Slice.slicePlaces lo hi 1)) _ _ s
  rw [adjust_gen lo hi n]
  show wpAny _ _ (pure (((sIx n 0 lo : Nat) : Int), (1 : Int), Builtin.Slice.slicePlaces ((sIx n 0 lo : Nat) : Int) ((sIx n n hi : Nat) : Int) 1)) _ _ s
  rw [places_gen]
  exact wpAny_pure h
theorem pick_gen (xs : Array Value) (i k : Nat) : ((List.range k).filterMap fun (m : Nat) => xs[((i : Int) + (m : Int) * 1).toNat]?).toArray = ((xs.toList.drop i).take k).toArray := by
  have e : (fun (m : Nat) => xs[((i : Int) + (m : Int) * 1).toNat]?) = fun m => xs[i + m]? := by
    funext m
    have : ((i : Int) + (m : Int) * 1).toNat = i + m := by omega
    rw [this]
  rw [e]
  have := pick_run xs i k
  rw [List.filterMap_map] at this
  have e2 : ((fun x => xs[x]?) ∘ fun x => i + x) = fun m => xs[i + m]? := rfl
  rw [e2] at this
  rw [this]

theorem getItem_tuple_cut {t sl : Addr} {items : Array Value} {vl vu : Value} {lo hi : Option Int} {Q : Value → Shared → Prop} (ht : IsTup s.heap t items) (hs : s.heap.IsSliceOf sl vl vu .none) (pl : IsPart vl lo) (pu : IsPart vu hi)
    (hw : ¬ (sIx items.size 0 lo = 0 ∧ sIx items.size items.size hi = items.size))
    (h : Q (.ref s.heap.objs.size) { s with heap := s.heap.push { cls := .type "tuple", data := .seq ((items.toList.drop (sIx items.size 0 lo)).take (sIx items.size items.size hi - sIx items.size 0 lo)).toArray } })
    (hsz : items.size ≤ sizeLine) : wpAny (model prog w) A (getItem (.ref t) (.ref sl)) Q E s := by
  have htake : sizeOk (.seq ((items.toList.drop (sIx items.size 0 lo)).take (sIx items.size items.size hi - sIx items.size 0 lo)).toArray) := by
    show ((items.toList.drop (sIx items.size 0 lo)).take (sIx items.size items.size hi - sIx items.size 0 lo)).toArray.size ≤ sizeLine
    rw [List.size_toArray, List.length_take, List.length_drop, Array.length_toList]
    omega
  have hj : sIx items.size items.size hi ≤ items.size := sIx_le _ _ (Nat.le_refl _) hi
  obtain ⟨os, hos, hcs, hds⟩ := id hs
  have hTs : s.TypeIs (.ref sl) "slice" := ⟨os, hos, hcs⟩
  unfold getItem
  try with_reducible refine wpAny_holding ?_
  first | refine wpAny_bind (wpAny_pure ?_) | skip
  refine wpAny_bind (wpAny_sequenceKey ht.typeIs (by decide) ?_)
  refine wpAny_bind (wpAny_callSpecial?_slot (name := Str.ofString "__getitem__") ht.typeIs PyProof.Rows.slot_tuple_getitem
    (wpAny_call_entry PyProof.Rows.slot_tuple_getitem ht.typeIs entry_tuple_getitem ?_ (args_tuple_getitem _ _)))
  show wpAny _ _ (Builtin.Tuple.tupleItemsOf (.ref t) >>= _) _ _ s
  refine wpAny_bind (tupleItemsOf_ ht ?_)
  refine wpAny_bind (wpAny_typeOf hTs ?_)
  rw [if_pos (by decide)]
  refine wpAny_bind (sliceApplied_gen hs pl pu ?_)
  have hno : ¬ ((((sIx items.size 0 lo : Nat) : Int) == 0 && (1 : Int) == 1 && (sIx items.size items.size hi - sIx items.size 0 lo) == items.size) = true) := by
    intro q
    rw [Bool.and_eq_true, Bool.and_eq_true] at q
    have q1 : ((sIx items.size 0 lo : Nat) : Int) = 0 := eq_of_beq q.1.1
    have q2 : sIx items.size items.size hi - sIx items.size 0 lo = items.size := eq_of_beq q.2
    exact hw ⟨by omega, by omega⟩
  show wpAny _ _ (if (((sIx items.size 0 lo : Nat) : Int) == 0 && (1 : Int) == 1 && (sIx items.size items.size hi - sIx items.size 0 lo) == items.size) = true then _ else _) _ _ s
  rw [if_neg hno, pick_gen]
  first
    | exact wpAny_bind (m := Builtin.Tuple.tupleExact _) (wpAny_newObj_type (wpAny_pure ⟨_, rfl, wpAny_pure h⟩) htake)
    | exact wpAny_bind (m := Builtin.Tuple.tupleExact _) (wpAny_newObj_type (wpAny_bind (wpAny_pure (wpAny_pure ⟨_, rfl, wpAny_pure h⟩))) htake)
    | exact wpAny_bind (wpAny_bind (m := Builtin.Tuple.tupleExact _) (wpAny_newObj_type (wpAny_pure (wpAny_pure ⟨_, rfl, wpAny_pure h⟩)) htake))
    | exact wpAny_bind (wpAny_bind (m := Builtin.Tuple.tupleExact _) (wpAny_newObj_type (wpAny_pure ⟨_, rfl, wpAny_pure h⟩) htake))
end
end HT

namespace L2
open PySem PySem.Spec PyProof.Rows

/-! ### the parts of a slice -/
abbrev TO := St → Hp → (Option Int → Hp → Prop) → Prop
/-- a slice's part (left out, or an int) -/
def PO (X : Cx) (e : Option Expr) (t : TO) : Prop :=
  ∀ (pins : List (Addr × Obj)) (s : Shared) (σ : St) (H : Hp) (Q : Option Int → Hp → Prop), Inv X pins σ H s → t σ H Q →
    wpAny (model X.prog X.w) X.A (evalPart e X.env) (fun u s' => ∃ o H', Inv X pins σ H' s' ∧ IsPart u o ∧ Q o H') X.xe s
def tNoPart : TO := fun _ H Q => Q none H
def tPart (t : TE) : TO := fun σ H Q => t σ H fun x H1 => ∃ i, x = .int i ∧ Q (some i) H1

section
variable {X : Cx} {e : Expr} {te : TE} {lo hi : Option Expr} {tl th : TO} {pos p2 : Pos}

theorem po_none : PO X none tNoPart := by
  intro pins s σ H Q I h
  rw [evalPart_none]
  exact wpAny_pure ⟨none, H, I, .none, h⟩
theorem po_some (h : PE X e te) : PO X (some e) (tPart te) := by
  intro pins s σ H Q I hw
  rw [evalPart_some]
  refine thn (h pins s σ H _ I hw) fun u s1 ⟨x, H1, I1, r1, q1⟩ => ?_
  obtain ⟨i, rfl, q⟩ := q1
  obtain ⟨t, rfl⟩ := r1
  exact ⟨some i, H1, I1, .int i t, q⟩

/-- what a slice of a value is, by values: the slice object stands at sl -/
def SlR (X : Cx) (r : V → Option Int → Option Int → Hp → VK → Prop) : Prop :=
  ∀ (pins : List (Addr × Obj)) (s : Shared) (σ : St) (H : Hp) (x : V) (v vl vu : Value) (lo hi : Option Int) (sl : Addr) (Q : VK), Inv X pins σ H s → RelV x v → s.heap.IsSliceOf sl vl vu .none → IsPart vl lo → IsPart vu hi → r x lo hi H Q →
    ∃ T id, typeLookup (.type T) "__getitem__" = pure (some (.builtin id)) ∧ s.TypeIs v T ∧ wpAny (model X.prog X.w) X.A (getItem v (.ref sl)) (EP X pins σ Q) X.xe s
theorem SlR.or {r r' : V → Option Int → Option Int → Hp → VK → Prop} (h : SlR X r) (h' : SlR X r') : SlR X (fun x lo hi H Q => r x lo hi H Q ∨ r' x lo hi H Q) := by
  intro pins s σ H x v vl vu lo hi sl Q I rx hs pl pu q
  rcases q with q | q
  · exact h pins s σ H x v vl vu lo hi sl Q I rx hs pl pu q
  · exact h' pins s σ H x v vl vu lo hi sl Q I rx hs pl pu q
def tSl (r : V → Option Int → Option Int → Hp → VK → Prop) (te : TE) (tl th : TO) : TE := fun σ H Q => te σ H fun x H1 => tl σ H1 fun l H2 => th σ H2 fun u H3 => r x l u H3 Q
/-- a[lo:hi], any a -/
theorem pe_slice {r : V → Option Int → Option Int → Hp → VK → Prop} (hr : SlR X r) (he : PE X e te) (hl : PO X lo tl) (hu : PO X hi th) : PE X (.Subscript e (.Slice lo hi none p2) pos) (tSl r te tl th) := by
  intro pins s σ H Q I h
  refine Subscript_ (thn (he pins s σ H _ I h) fun v s1 ⟨x, H1, I1, r1, q1⟩ => ?_)
  refine wpAny_Slice (thn (hl pins s1 σ H1 _ I1 q1) fun vl s2 ⟨l, H2, I2, pl, q2⟩ => thn (hu pins s2 σ H2 _ I2 q2) fun vu s3 ⟨u, H3, I3, pu, q3⟩ => ?_)
  rw [evalPart_none]
  refine wpAny_pure ?_
  have I4 : Inv X pins σ H3 { s3 with heap := s3.heap.push { cls := .type "slice", data := .fields #[vl, vu, .none] } } := I3.kept (t' := s3.toks) fun b ob q => Heap.get?_push_of_some _ q
  obtain ⟨T, id, hT, ht, hg⟩ := hr pins { s3 with heap := s3.heap.push { cls := .type "slice", data := .fields #[vl, vu, .none] } } σ H3 x v vl vu l u s3.heap.objs.size Q I4 r1 (Heap.IsSliceOf.new ..) pl pu q3
  show wpAny (model X.prog X.w) X.A (subscriptTail e (.Slice lo hi none p2) v (.ref s3.heap.objs.size)) (EP X pins σ Q) X.xe { s3 with heap := s3.heap.push { cls := .type "slice", data := .fields #[vl, vu, .none] } }
  exact tail_any (ops := [.ref s3.heap.objs.size, v]) ht hT hg (by with_unfolding_all rfl)

/-- the items of xs[lo:hi] -/
def cutV (xs : List V) (lo hi : Option Int) : List V := (xs.drop (HT.sIx xs.length 0 lo)).take (HT.sIx xs.length xs.length hi - HT.sIx xs.length 0 lo)
theorem cutV_length (xs : List V) (lo hi : Option Int) : (cutV xs lo hi).length ≤ xs.length := by
  unfold cutV
  rw [List.length_take, List.length_drop]
  omega
/-- t[lo:hi], not the whole of it (the whole would be t itself) -/
def rSlT (K : PySem.W.Frag) : V → Option Int → Option Int → Hp → VK → Prop := fun x lo hi H Q => ∃ a xs, x = .ref a ∧ SqT K H a xs ∧
  ¬ (HT.sIx xs.length 0 lo = 0 ∧ HT.sIx xs.length xs.length hi = xs.length) ∧ ∀ p, H p = none → Q (.ref p) (upd H p (.tup (cutV xs lo hi)))
theorem sl_tup : SlR X (rSlT X.K) := by
  intro pins s σ H x v vl vu lo hi sl Q I rx hs pl pu h
  obtain ⟨a, xs, rfl, hx, hw, q⟩ := h
  cases rx
  obtain ⟨its, r, ht, hz⟩ := I.tuple hx
  have hlen : its.toArray.size = xs.length := by rw [List.size_toArray]; exact r.length.symm
  refine ⟨"tuple", _, PyProof.Rows.slot_tuple_getitem.lookup, ht.typeIs, ?_⟩
  refine HT.getItem_tuple_cut ht hs pl pu (by rw [hlen]; exact hw) ?_ (by rw [hlen]; exact hz)
  rw [hlen]
  refine ⟨.ref s.heap.objs.size, _, I.laid (t' := s.toks) (o := .tup (cutV xs lo hi)) (fun b ob q => Heap.get?_push_of_some _ q) (Nat.le_refl _) ?_, rfl, q _ (I.hok.fresh (Nat.le_refl _))⟩
  exact ⟨Nat.le_trans (cutV_length xs lo hi) hz, _, (r.drop (HT.sIx xs.length 0 lo)).take (HT.sIx xs.length xs.length hi - HT.sIx xs.length 0 lo), IsTup.new _ _⟩

/-! ### t < u, t + u -/
theorem Vals.nil_iff {xs : List V} {us : List Value} (r : Vals xs us) : us = [] ↔ xs = [] := by
  cases r with
  | nil => simp
  | cons _ _ => simp
end
end L2

namespace L2
open PySem PySem.Spec PyProof.Rows

/-! ### places -/
/-- the place that an index of any sign means -/
def ixN (n : Nat) (i : Int) : Option Nat := if 0 ≤ i then (if i < n then some i.toNat else none) else if -(n : Int) ≤ i then some (i + n).toNat else none
def atI {α : Type} (xs : List α) (i : Int) : Option α := (ixN xs.length i).bind fun j => xs[j]?
theorem ixN_seq {n : Nat} {i : Int} {j : Nat} (h : ixN n i = some j) : seqIndex? i n = some j ∧ j < n ∧ -(n : Int) ≤ i ∧ i < n := by
  unfold ixN at h
  by_cases h0 : 0 ≤ i
  · rw [if_pos h0] at h
    by_cases h1 : i < n
    · rw [if_pos h1] at h
      have e : i.toNat = j := Option.some.inj h
      exact ⟨by rw [seqIndex_of h0 h1, e], by omega, by omega, h1⟩
    · rw [if_neg h1] at h; cases h
  · rw [if_neg h0] at h
    by_cases h1 : -(n : Int) ≤ i
    · rw [if_pos h1] at h
      have e : (i + n).toNat = j := Option.some.inj h
      exact ⟨by rw [seqIndex_neg (by omega) h1, e], by omega, h1, by omega⟩
    · rw [if_neg h1] at h; cases h
theorem atI_get {α : Type} {xs : List α} {i : Int} {v : α} (h : atI xs i = some v) : ∃ j, seqIndex? i xs.length = some j ∧ xs[j]? = some v ∧ j < xs.length ∧ -(xs.length : Int) ≤ i ∧ i < xs.length := by
  unfold atI at h
  cases e : ixN xs.length i with
  | none => rw [e] at h; cases h
  | some j =>
    rw [e] at h
    obtain ⟨h1, h2, h3, h4⟩ := ixN_seq e
    exact ⟨j, h1, h, h2, h3, h4⟩
theorem atI_nat {α : Type} {xs : List α} {j : Nat} {v : α} (h : xs[j]? = some v) : atI xs (j : Int) = some v := by
  have hj : j < xs.length := (List.getElem?_eq_some_iff.mp h).1
  have e : ixN xs.length (j : Int) = some j := by
    unfold ixN
    rw [if_pos (by omega), if_pos (by omega)]; simp
  unfold atI; rw [e]; exact h
/-! ### what may be subscripted -/
/-- what stands as an index of a plain subscript -/
def PlainIx (b : Expr) : Prop := ∀ o i, subscripted b false o i = operate [o, i] (getItem o i)
/-- a subscript by values -/
def IxR (X : Cx) (r : R2) : Prop :=
  ∀ (value slice : Expr) (pins : List (Addr × Obj)) (s : Shared) (σ : St) (H : Hp) (x y : V) (v u : Value) (Q : VK), Inv X pins σ H s → RelV x v → RelV y u → r x y H Q →
    subscripted slice false v u = operate [v, u] (getItem v u) → wpAny (model X.prog X.w) X.A (subscriptTail value slice v u) (EP X pins σ Q) X.xe s
/-- a call of a builtin's method by values: the receiver, the arguments -/
def MtR (X : Cx) (id : String) (r : V → List V → Hp → VK → Prop) : Prop :=
  ∀ (pins : List (Addr × Obj)) (s : Shared) (σ : St) (H : Hp) (x : V) (xs : List V) (v : Value) (us : List Value) (Q : VK), Inv X pins σ H s → RelV x v → Vals xs us → r x xs H Q →
    wpAny (model X.prog X.w) X.A (call (.builtin id) (v :: us)) (EP X pins σ Q) X.xe s
section
variable {X : Cx} {a b : Expr} {ta tb : TE} {pos : Pos}
theorem IxR.or {r r' : R2} (h : IxR X r) (h' : IxR X r') : IxR X (fun x y H Q => r x y H Q ∨ r' x y H Q) := by
  intro value slice pins s σ H x y v u Q I rx ry q hs
  rcases q with q | q
  · exact h value slice pins s σ H x y v u Q I rx ry q hs
  · exact h' value slice pins s σ H x y v u Q I rx ry q hs
theorem MtR.or {id : String} {r r' : V → List V → Hp → VK → Prop} (h : MtR X id r) (h' : MtR X id r') : MtR X id (fun x xs H Q => r x xs H Q ∨ r' x xs H Q) := by
  intro pins s σ H x xs v us Q I rx rs q
  rcases q with q | q
  · exact h pins s σ H x xs v us Q I rx rs q
  · exact h' pins s σ H x xs v us Q I rx rs q
/-- a[b] -/
theorem pe_ix {r : R2} (hr : IxR X r) (ha : PE X a ta) (hb : PE X b tb) (hs : PlainIx b) : PE X (.Subscript a b pos) (tOp r ta tb) := by
  intro pins s σ H Q I h
  exact Subscript_ (binT ha hb I h fun v u s2 x y H2 I2 rx ry q => hr a b pins s2 σ H2 x y v u Q I2 rx ry q (hs _ _))

def rIxL (K : PySem.W.Frag) : R2 := fun x y H Q => ∃ p xs i v, x = .ref p ∧ y = .int i ∧ SqL K H p xs ∧ atI xs i = some v ∧ Q v H
def rIxT (K : PySem.W.Frag) : R2 := fun x y H Q => ∃ p xs i v, x = .ref p ∧ y = .int i ∧ SqT K H p xs ∧ atI xs i = some v ∧ Q v H
def rIxS : R2 := fun x y H Q => ∃ z i c, x = .str z ∧ y = .int i ∧ z.length ≤ sizeLine ∧ atI z.cps.toList i = some c ∧ Q (.str ⟨#[c]⟩) H
theorem ix_list : IxR X (rIxL X.K) := by
  intro value slice pins s σ H x y v u Q I rx ry h hs
  obtain ⟨p, xs, i, z, rfl, rfl, hq, he, q⟩ := h
  cases rx
  obtain ⟨t, rfl⟩ := ry
  obtain ⟨its, r, pl, hz⟩ := I.list hq
  obtain ⟨j, h1, h2, h3, h4, h5⟩ := atI_get he
  obtain ⟨w, ew, rw'⟩ := r.get h2
  have hl := r.length
  have hn := line63
  have fin : EP X pins σ Q w s := ⟨z, H, I, rw', q⟩
  by_cases h0 : 0 ≤ i
  · have hj : i.toNat = j := by
      rw [seqIndex_of h0 h5] at h1
      exact Option.some.inj h1
    exact item_listR pl.isList h0 (by omega) (by rw [hj]; simpa using ew) fin hs
  · have hj : (i + (its.toArray.size : Int)).toNat = j := by
      rw [seqIndex_neg (by omega) h4] at h1
      rw [List.size_toArray, ← hl]
      exact Option.some.inj h1
    exact subscriptTail_builtinR (x := w) pl.isList.typeIs slot_list_getitem.lookup
      (wpAny_getItem_list_neg (Q := fun r s' => r = w ∧ EP X pins σ Q r s') pl.isList (by omega) (by rw [List.size_toArray] <;> omega) (by omega) (by rw [hj]; simpa using ew) ⟨rfl, fin⟩) hs
theorem ix_tup : IxR X (rIxT X.K) := by
  intro value slice pins s σ H x y v u Q I rx ry h hs
  obtain ⟨p, xs, i, z, rfl, rfl, hq, he, q⟩ := h
  cases rx
  obtain ⟨t, rfl⟩ := ry
  obtain ⟨its, r, pl, hz⟩ := I.tuple hq
  obtain ⟨j, h1, h2, h3, h4, h5⟩ := atI_get he
  obtain ⟨w, ew, rw'⟩ := r.get h2
  have hl := r.length
  have hn := line63
  have fin : EP X pins σ Q w s := ⟨z, H, I, rw', q⟩
  exact subscriptTail_builtinR (x := w) pl.typeIs slot_tuple_getitem.lookup
    (getItem_tuple (j := j) (Q := fun r s' => r = w ∧ EP X pins σ Q r s') pl (by omega) (by omega) (by rw [List.size_toArray, ← hl]; exact h1) (by simpa using ew) ⟨rfl, fin⟩) hs
theorem ix_str : IxR X rIxS := by
  intro value slice pins s σ H x y v u Q I rx ry h hs
  obtain ⟨z, i, c, rfl, rfl, hz, he, q⟩ := h
  obtain ⟨t, rfl⟩ := rx
  obtain ⟨t', rfl⟩ := ry
  obtain ⟨j, h1, h2, h3, h4, h5⟩ := atI_get he
  have hl : z.cps.toList.length = z.length := by simp [Str.length]
  rw [hl] at h1 h4 h5
  have hn := line63
  exact tail_any (typeIs_str s z t) slot_str_getitem.lookup (getItem_str (c := c) (by
    have e1 : decide (i < -(2 ^ 63 : Int)) = false := decide_eq_false (by omega)
    have e2 : decide (i ≥ 2 ^ 63) = false := decide_eq_false (by omega)
    rw [e1, e2, Bool.or_false]) (by rw [h1]; simpa using h2) ⟨.str ⟨#[c]⟩, H, I.tok _, ⟨_, rfl⟩, q⟩) hs
/-! ### xs[i] = v, any sign -/
/-- the list's object behind a store -/
theorem mapSeq_set (its : List Value) (n j : Nat) (u : Value) : Obj.mapSeq (·.setIfInBounds j u) { cls := .type "list", data := .seq its.toArray n } = { cls := .type "list", data := .seq (its.set j u).toArray n } := by
  simp [Obj.mapSeq]
theorem Inv.lst {pins : List (Addr × Obj)} {σ : St} {H : Hp} {s : Shared} {p : Addr} {xs : List V} (I : Inv X pins σ H s) (h : H p = some (.lst xs)) :
    ∃ (its : List Value) (n : Nat), Vals xs its ∧ s.heap.get? p = some { cls := .type "list", data := .seq its.toArray n } ∧ xs.length ≤ sizeLine := by
  obtain ⟨z, its, n, r, e⟩ := I.hok p _ h
  exact ⟨its, n, r, e, z⟩
/-- the list at p is written by an update of its object -/
theorem Inv.lstUpd {pins : List (Addr × Obj)} {σ : St} {H : Hp} {s : Shared} {p : Addr} {xs ys : List V} {its its' : List Value} {n n' : Nat} {f : Obj → Obj} (I : Inv X pins σ H s) (h : H p = some (.lst xs))
    (ho : s.heap.get? p = some { cls := .type "list", data := .seq its.toArray n }) (hf : f { cls := .type "list", data := .seq its.toArray n } = { cls := .type "list", data := .seq its'.toArray n' }) (r : Vals ys its') (hz : ys.length ≤ sizeLine) (t : Nat) :
    Inv X pins σ (upd H p (.lst ys)) { s with heap := s.heap.update p f, toks := t } := by
  have e : (s.heap.update p f).get? p = some { cls := .type "list", data := .seq its'.toArray n' } := by
    rw [Heap.get?_update_self f ho (by rw [hf] <;> rfl), hf]
  refine I.write (x := p) (e := p) (by rw [h]; trivial) (.inl rfl) (fun b u hb q => (Heap.get?_update_other _ _ (Ne.symm hb)).trans q) ⟨_, e⟩ ?_
  exact ⟨hz, its', n', r, e⟩
def rSetL : V → V → V → Hp → (Hp → Prop) → Prop := fun o i v H Q => ∃ p xs k j, o = .ref p ∧ i = .int k ∧ H p = some (.lst xs) ∧ ixN xs.length k = some j ∧ Q (upd H p (.lst (xs.set j v)))
theorem set_list : PSet X rSetL := by
  intro pins s σ H o i v ov iv u Q I ro ri rv h
  obtain ⟨p, xs, k, j, rfl, rfl, hp, hj, q⟩ := h
  cases ro
  obtain ⟨t, rfl⟩ := ri
  obtain ⟨its, n, r, ho, hz⟩ := I.lst hp
  obtain ⟨h1, h2, h3, h4⟩ := ixN_seq hj
  have hl := r.length
  have hn := line63
  have I' : Inv X pins σ (upd H p (.lst (xs.set j v))) { s with heap := s.heap.update p (Obj.mapSeq (·.setIfInBounds j u)) } :=
    I.lstUpd hp ho (mapSeq_set its n j u) (r.set rv j) (by rw [List.length_set]; exact hz) s.toks
  by_cases h0 : 0 ≤ k
  · have hk : k.toNat = j := by
      rw [seqIndex_of h0 h4] at h1
      exact Option.some.inj h1
    exact PySem.W.ki_setAt ho h0 (by omega) (by rw [List.size_toArray, ← hl]; exact h4) (by rw [hk]; exact ⟨_, I', q⟩)
  · have hk : (k + (its.toArray.size : Int)).toNat = j := by
      rw [seqIndex_neg (by omega) h3] at h1
      rw [List.size_toArray, ← hl]
      exact Option.some.inj h1
    exact PySem.W.ki_setBack ho (by omega) (by rw [List.size_toArray, ← hl]; exact h3) (by omega) (by rw [hk]; exact ⟨_, I', q⟩)

/-! ### slices -/
theorem slice_bounds (lo hi : Option Int) (n : Nat) : (sliceBounds lo hi none n).1 = ((HT.sIx n 0 lo : Nat) : Int) ∧ (sliceBounds lo hi none n).2.1 = ((HT.sIx n n hi : Nat) : Int) ∧ (sliceBounds lo hi none n).2.2 = 1 := by
  refine ⟨?_, ?_, rfl⟩
  · cases lo with
    | none => simp [sliceBounds, HT.sIx]
    | some i =>
      simp only [sliceBounds, HT.sIx, Option.getD_none, show (1 : Int) > 0 by decide, if_true]
      by_cases h : i < 0
      · simp only [h, if_true] <;> omega
      · simp only [h, if_false] <;> omega
  · cases hi with
    | none => simp [sliceBounds, HT.sIx]
    | some i =>
      simp only [sliceBounds, HT.sIx, Option.getD_none, show (1 : Int) > 0 by decide, if_true]
      by_cases h : i < 0
      · simp only [h, if_true] <;> omega
      · simp only [h, if_false] <;> omega
theorem slicePick_cut (its : List Value) (lo hi : Option Int) : slicePick its.toArray lo hi none = ((its.drop (HT.sIx its.length 0 lo)).take (HT.sIx its.length its.length hi - HT.sIx its.length 0 lo)).toArray := by
  obtain ⟨h1, h2, h3⟩ := slice_bounds lo hi its.toArray.size
  unfold slicePick
  rw [h1, h2, h3]
  simp only [sliceRange_one, pick_run, List.size_toArray] <;> rfl
/-- xs[lo:hi] of a list: a new list -/
def rSlL (K : PySem.W.Frag) : V → Option Int → Option Int → Hp → VK → Prop := fun x lo hi H Q => ∃ a xs, x = .ref a ∧ SqL K H a xs ∧ ∀ p, H p = none → Q (.ref p) (upd H p (.lst (cutV xs lo hi)))
theorem sl_list : SlR X (rSlL X.K) := by
  intro pins s σ H x v vl vu lo hi sl Q I rx hs pl pu h
  obtain ⟨a, xs, rfl, hx, q⟩ := h
  cases rx
  obtain ⟨its, r, ht, hz⟩ := I.list hx
  have hlen := r.length
  refine ⟨"list", _, slot_list_getitem.lookup, ht.isList.typeIs, ?_⟩
  refine wpAny_getItem_list_slice ht.isList hs pl pu .none (by simp) ?_ (by rw [List.size_toArray] <;> omega)
  rw [slicePick_cut, ← hlen]
  refine ⟨.ref s.heap.objs.size, _, I.laid (t' := s.toks) (o := .lst (cutV xs lo hi)) (fun b ob q => Heap.get?_push_of_some _ q) (Nat.le_refl _) ?_, rfl, q _ (I.hok.fresh (Nat.le_refl _))⟩
  exact ⟨Nat.le_trans (cutV_length xs lo hi) hz, _, 0, (r.drop (HT.sIx xs.length 0 lo)).take (HT.sIx xs.length xs.length hi - HT.sIx xs.length 0 lo), Heap.get?_push_size _ rfl⟩

/-! ### in, not in: flat items -/
def flatV : V → Bool
  | .non => true
  | .bl _ => true
  | .int _ => true
  | .str _ => true
  | _ => false
/-- == of flat values -/
def eqV : V → V → Bool
  | .non, .non => true
  | .bl a, .bl b => a == b
  | .bl a, .int b => (if a then 1 else 0) == b
  | .int a, .bl b => a == (if b then 1 else 0)
  | .int a, .int b => a == b
  | .str a, .str b => a == b
  | _, _ => false
theorem eqAt_V {A : Around} {s : Shared} {y x : V} {u v : Value} (ry : RelV y u) (rx : RelV x v) (fy : flatV y = true) (fx : flatV x = true) : SeqAt.EqAt A s u v (eqV y x) := by
  cases y with
  | non =>
    cases ry
    cases x with
    | non => cases rx; exact SeqAt.EqAt.same _
    | bl b => cases rx; exact SeqAt.EqAt.none_bool b
    | int b => obtain ⟨t, rfl⟩ := rx; exact SeqAt.EqAt.none_int b t
    | str b => obtain ⟨t, rfl⟩ := rx; exact SeqAt.EqAt.none_str b t
    | _ => exact absurd (show false = true from fx) Bool.false_ne_true
  | bl a =>
    cases ry
    cases x with
    | non => cases rx; exact SeqAt.EqAt.bool_none a
    | bl b => cases rx; exact SeqAt.EqAt.bool_bool a b
    | int b => obtain ⟨t, rfl⟩ := rx; exact SeqAt.EqAt.bool_int a b t
    | str b => obtain ⟨t, rfl⟩ := rx; exact SeqAt.EqAt.bool_str a b t
    | _ => exact absurd (show false = true from fx) Bool.false_ne_true
  | int a =>
    obtain ⟨t', rfl⟩ := ry
    cases x with
    | non => cases rx; exact SeqAt.EqAt.int_none a t'
    | bl b => cases rx; exact SeqAt.EqAt.int_bool a t' b
    | int b => obtain ⟨t, rfl⟩ := rx; exact SeqAt.EqAt.int_int a t' b t
    | str b => obtain ⟨t, rfl⟩ := rx; exact SeqAt.EqAt.int_str a t' b t
    | _ => exact absurd (show false = true from fx) Bool.false_ne_true
  | str a =>
    obtain ⟨t', rfl⟩ := ry
    cases x with
    | non => cases rx; exact SeqAt.EqAt.str_none a t'
    | bl b => cases rx; exact SeqAt.EqAt.str_bool a t' b
    | int b => obtain ⟨t, rfl⟩ := rx; exact SeqAt.EqAt.str_int a t' b t
    | str b => obtain ⟨t, rfl⟩ := rx; exact SeqAt.EqAt.str_str a t' b t
    | _ => exact absurd (show false = true from fx) Bool.false_ne_true
  | _ => exact absurd (show false = true from fy) Bool.false_ne_true
/-- the items' answers, read off the values (a value's own answer does not lean on its token) -/
def eqU (x : V) (u : Value) : Bool := match u with
  | .none => eqV .non x
  | .bool b => eqV (.bl b) x
  | .int i _ => eqV (.int i) x
  | .str z _ => eqV (.str z) x
  | _ => false
theorem eqU_of {x y : V} {u : Value} (r : RelV y u) (f : flatV y = true) : eqU x u = eqV y x := by
  cases y with
  | non => cases r; rfl
  | bl b => cases r; rfl
  | int i => obtain ⟨t, rfl⟩ := r; rfl
  | str z => obtain ⟨t, rfl⟩ := r; rfl
  | _ => exact absurd (show false = true from f) Bool.false_ne_true
theorem any_eqU {x : V} : ∀ {xs : List V} {us : List Value}, Vals xs us → xs.all flatV = true → us.any (eqU x) = xs.any fun y => eqV y x
  | _, _, .nil, _ => rfl
  | y :: xs, u :: us, .cons r t, f => by
    rw [List.all_cons, Bool.and_eq_true] at f
    rw [List.any_cons, List.any_cons, eqU_of r f.1, any_eqU t f.2]
theorem mem_eqAt {A : Around} {s : Shared} {x : V} {v : Value} (rx : RelV x v) (fx : flatV x = true) : ∀ {xs : List V} {us : List Value}, Vals xs us → xs.all flatV = true → ∀ u ∈ us, SeqAt.EqAt A s u v (eqU x u)
  | _, _, .nil, _ => fun u hu => by cases hu
  | y :: xs, u :: us, .cons r t, f => fun u' hu => by
    rw [List.all_cons, Bool.and_eq_true] at f
    rcases List.mem_cons.mp hu with rfl | hu
    · rw [eqU_of r f.1]; exact eqAt_V r rx f.1 fx
    · exact mem_eqAt rx fx t f.2 u' hu
def inV (x : V) (xs : List V) : Bool := xs.any fun y => eqV y x
/-- x in a list or tuple of flat items -/
def rIn (K : PySem.W.Frag) (neg : Bool) : R2 := fun x y H Q => ∃ p xs, y = .ref p ∧ (SqL K H p xs ∨ SqT K H p xs) ∧ flatV x = true ∧ xs.all flatV = true ∧ Q (.bl (if neg then !inV x xs else inV x xs)) H
theorem op_in_seq : OpR X (compareOp .In) (rIn X.K false) := by
  intro pins s σ H x y v u Q I rx ry h
  obtain ⟨p, xs, rfl, hq, fx, fs, q⟩ := h
  cases ry
  rcases hq with hq | hq
  · obtain ⟨its, r, pl, hz⟩ := I.list hq
    refine SeqAt.in_listAt (eqU x) pl.isList (fun w hw => mem_eqAt rx fx r fs w (by simpa using hw)) ⟨.bl _, H, I, rfl, ?_⟩
    rw [show its.toArray.any (eqU x) = its.any (eqU x) by simp, any_eqU r fs]
    exact q
  · obtain ⟨its, r, pl, hz⟩ := I.tuple hq
    refine SeqAt.in_tupleAt (eqU x) pl (fun w hw => mem_eqAt rx fx r fs w (by simpa using hw)) ⟨.bl _, H, I, rfl, ?_⟩
    rw [show its.toArray.any (eqU x) = its.any (eqU x) by simp, any_eqU r fs]
    exact q
theorem op_notIn_seq : OpR X (compareOp .NotIn) (rIn X.K true) := by
  intro pins s σ H x y v u Q I rx ry h
  obtain ⟨p, xs, rfl, hq, fx, fs, q⟩ := h
  cases ry
  rcases hq with hq | hq
  · obtain ⟨its, r, pl, hz⟩ := I.list hq
    refine SeqAt.notIn_listAt (eqU x) pl.isList (fun w hw => mem_eqAt rx fx r fs w (by simpa using hw)) ⟨.bl _, H, I, rfl, ?_⟩
    rw [show its.toArray.any (eqU x) = its.any (eqU x) by simp, any_eqU r fs]
    exact q
  · obtain ⟨its, r, pl, hz⟩ := I.tuple hq
    refine SeqAt.notIn_tupleAt (eqU x) pl (fun w hw => mem_eqAt rx fx r fs w (by simpa using hw)) ⟨.bl _, H, I, rfl, ?_⟩
    rw [show its.toArray.any (eqU x) = its.any (eqU x) by simp, any_eqU r fs]
    exact q
/-! ### len, list(x), tuple(x) of any list or tuple that is read -/
theorem call_len_seq : CallR X (.builtin "len") (fun xs H Q => ∃ p ys, xs = [.ref p] ∧ (SqL X.K H p ys ∨ SqT X.K H p ys) ∧ Q (.int ys.length) H) := by
  intro pins s σ H xs us Q I r h
  obtain ⟨p, ys, rfl, hq, q⟩ := h
  obtain ⟨u, rfl, rx⟩ := vals1 r
  cases rx
  have hn := line63
  rcases hq with hq | hq
  · obtain ⟨its, r', pl, hz⟩ := I.list hq
    have hlen := r'.length
    exact Calls.call_len_list pl.isList (by simp only [List.size_toArray] <;> omega) ⟨.int ys.length, H, I.tok _, ⟨s.toks + 1, by rw [List.size_toArray, hlen]⟩, q⟩
  · obtain ⟨its, r', pl, hz⟩ := I.tuple hq
    have hlen := r'.length
    exact len_tuple pl (by simp only [List.size_toArray] <;> omega) ⟨.int ys.length, H, I.tok _, ⟨s.toks + 1, by rw [List.size_toArray, hlen]⟩, q⟩
theorem call_len_str : CallR X (.builtin "len") (fun xs H Q => ∃ z, xs = [.str z] ∧ z.length ≤ sizeLine ∧ Q (.int z.length) H) := by
  intro pins s σ H xs us Q I r h
  obtain ⟨z, rfl, hz, q⟩ := h
  obtain ⟨u, rfl, t, rfl⟩ := vals1 r
  have hn := line63
  exact len_str (by omega) ⟨.int z.length, H, I.tok _, ⟨_, rfl⟩, q⟩
theorem CallR.or {f : Value} {r r' : List V → Hp → VK → Prop} (h : CallR X f r) (h' : CallR X f r') : CallR X f (fun xs H Q => r xs H Q ∨ r' xs H Q) := by
  intro pins s σ H xs us Q I rs q
  rcases q with q | q
  · exact h pins s σ H xs us Q I rs q
  · exact h' pins s σ H xs us Q I rs q
theorem call_list_of : CallR X (.type "list") (fun xs H Q => ∃ p ys, xs = [.ref p] ∧ (SqL X.K H p ys ∨ SqT X.K H p ys) ∧ ∀ l, H l = none → Q (.ref l) (upd H l (.lst ys))) := by
  intro pins s σ H xs us Q I r h
  obtain ⟨p, ys, rfl, hq, q⟩ := h
  obtain ⟨u, rfl, rx⟩ := vals1 r
  cases rx
  have fin : ∀ (its : List Value), Vals ys its → ys.length ≤ sizeLine → ∀ (h' : Heap) (c' : Nat), (∀ b o', s.heap.get? b = some o' → h'.get? b = some o') →
      h'.get? s.heap.objs.size = some { cls := .type "list", dict := none, data := .seq its.toArray c', slots := #[] } → EP X pins σ Q (.ref s.heap.objs.size) { s with heap := h' } := fun its r' hz h' c' kp e =>
    ⟨.ref s.heap.objs.size, _, I.laid (t' := s.toks) kp (Nat.le_refl _) (show ObjOk X.prog X.w _ h' _ (.lst ys) from ⟨hz, its, c', r', e⟩), rfl, q _ (I.hok.fresh (Nat.le_refl _))⟩
  rcases hq with hq | hq
  · obtain ⟨its, r', pl, hz⟩ := I.list hq
    have hlen := r'.length
    obtain ⟨o, ho, hc, n, hd⟩ := pl.isList
    exact call_list_seq p (.inl rfl) ho hc hd (fun h' c' kp e => fin its r' hz h' c' kp e) (by simp only [List.size_toArray] <;> omega)
  · obtain ⟨its, r', pl, hz⟩ := I.tuple hq
    have hlen := r'.length
    obtain ⟨o, ho, hc, n, hd⟩ := pl
    exact call_list_seq p (.inr rfl) ho hc hd (fun h' c' kp e => fin its r' hz h' c' kp e) (by simp only [List.size_toArray] <;> omega)
theorem call_tuple_of : CallR X (.type "tuple") (fun xs H Q => ∃ p ys, xs = [.ref p] ∧ ((SqL X.K H p ys ∧ ∀ l, H l = none → Q (.ref l) (upd H l (.tup ys))) ∨ (SqT X.K H p ys ∧ Q (.ref p) H))) := by
  intro pins s σ H xs us Q I r h
  obtain ⟨p, ys, rfl, h⟩ := h
  obtain ⟨u, rfl, rx⟩ := vals1 r
  cases rx
  rcases h with ⟨hq, q⟩ | ⟨hq, q⟩
  · obtain ⟨its, r', pl, hz⟩ := I.list hq
    have hlen := r'.length
    refine call_tuple_list pl.isList (fun h' kp => ?_) (by simp only [List.size_toArray] <;> omega)
    have I1 : Inv X pins σ H { s with heap := h' } := I.kept (t' := s.toks) kp
    have I2 : Inv X pins σ (upd H h'.objs.size (.tup ys)) { s with heap := h'.push { cls := .type "tuple", data := .seq its.toArray } } :=
      I1.laid (t' := s.toks) (fun b o e => Heap.get?_push_of_some _ e) (Nat.le_refl _) (show ObjOk X.prog X.w _ _ _ (.tup ys) from ⟨hz, its, r', IsTup.new _ _⟩)
    exact ⟨.ref h'.objs.size, _, I2, rfl, q _ (I1.hok.fresh (Nat.le_refl _))⟩
  · obtain ⟨its, r', pl, hz⟩ := I.tuple hq
    exact call_tuple_same pl ⟨.ref p, H, I, rfl, q⟩

/-! ### the call of a builtin's method: o.m(..) -/
/-- the value is of that builtin type -/
def tyV (K : PySem.W.Frag) (T : String) (x : V) (H : Hp) : Prop := match x with
  | .str _ => T = "str"
  | .int _ => T = "int"
  | .ref p => (T = "list" ∧ ∃ xs, SqL K H p xs) ∨ (T = "tuple" ∧ ∃ o, K.lookup p = some o ∧ o.cls = .type "tuple" ∧ o.dict = none) ∨
      (T = "dict" ∧ ((∃ kvs, H p = some (.dK kvs)) ∨ ∃ kvs, H p = some (.dT kvs))) ∨ (T = "set" ∧ ∃ S n, H p = some (.set S n))
  | _ => False
theorem tyV_is {pins : List (Addr × Obj)} {σ : St} {H : Hp} {s : Shared} {T : String} {x : V} {v : Value} (I : Inv X pins σ H s) (r : RelV x v) (ty : tyV X.K T x H) :
    s.TypeIs v T ∧ ∀ a, v = .ref a → ∃ ob, s.heap.get? a = some ob ∧ ob.dict = none := by
  cases x with
  | str z =>
    obtain ⟨t, rfl⟩ := r
    cases (show T = "str" from ty)
    exact ⟨typeIs_str s z t, fun _ e => nomatch e⟩
  | int i =>
    obtain ⟨t, rfl⟩ := r
    cases (show T = "int" from ty)
    exact ⟨typeIs_int s i t, fun _ e => nomatch e⟩
  | ref p =>
    cases r
    rcases ty with ⟨rfl, xs, hq⟩ | ⟨rfl, o, hk, hc, hd⟩ | ⟨rfl, hk⟩ | ⟨rfl, S, n, hk⟩
    · obtain ⟨its, _, pl, _⟩ := I.list hq
      refine ⟨pl.isList.typeIs, fun a e => ?_⟩
      cases e
      obtain ⟨o, n, e, c, hd, _⟩ := pl
      exact ⟨o, e, hd⟩
    · refine ⟨⟨o, I.kIn p o hk, hc⟩, fun a e => ?_⟩
      cases e
      exact ⟨o, I.kIn _ o hk, hd⟩
    · have z : ∃ o, s.heap.get? p = some o ∧ o.ExactDict := by
        rcases hk with ⟨kvs, hk⟩ | ⟨kvs, hk⟩
        · obtain ⟨_, _, _, _, o, _, _, e, ex, _⟩ := I.hok p _ hk
          exact ⟨o, e, ex⟩
        · obtain ⟨_, _, _, _, o, _, _, e, ex, _⟩ := I.hok p _ hk
          exact ⟨o, e, ex⟩
      obtain ⟨o, e, ex⟩ := z
      refine ⟨⟨o, e, ex.1⟩, fun a e2 => ?_⟩
      cases e2
      exact ⟨o, e, ex.2.1⟩
    · obtain ⟨o, _, _, _, e, ex, _⟩ := I.hok p _ hk
      refine ⟨⟨o, e, ex.1⟩, fun a e2 => ?_⟩
      cases e2
      exact ⟨o, e, ex.2.1⟩
  | _ => exact False.elim ty
def tBM0 (K : PySem.W.Frag) (T : String) (r : V → List V → Hp → VK → Prop) (to : TE) : TE := fun σ H Q => to σ H fun x H1 => tyV K T x H1 ∧ r x [] H1 Q
def tBM (K : PySem.W.Frag) (T : String) (r : V → List V → Hp → VK → Prop) (to : TE) (t : TA) : TE := fun σ H Q => to σ H fun x H1 => tyV K T x H1 ∧ t σ H1 fun xs H2 => r x xs H2 Q
variable {o e : Expr} {es : List Expr} {to : TE} {t : TA} {name : Str} {apos cpos : Pos} {T id : String} {r : V → List V → Hp → VK → Prop}
theorem pe_bm (pa : PlainAttrs T) (slot : Slot T name id) (hty : typeOf (.builtin id) = pure (.type "method_descriptor")) (hm : MtR X id r) (ho : PE X o to) (ha : PA X (e :: es) t)
    (hbase : attributeBase o name X.env (eval o X.env) = eval o X.env := by rfl)
    (hfew : ((backTo cpos (starEach (e :: es) X.env)).all (fun x => !x.1) && (backToKw cpos (keywordEach [] X.env)).all (fun x => x.1.isSome)
      && decide ((e :: es).length + ([] : List Keyword).length + (if ([] : List Keyword).isEmpty then 0 else 1) < 30)) = true := by rfl)
    (hline : (apos.endLine == cpos.line) = true := by rfl) (hs : starEach (e :: es) X.env = (false, eval e X.env) :: starEach es X.env := by rfl) (hplain : (backTo cpos (starEach es X.env)).any (·.1) = false := by rfl) :
    PE X (.Call (.Attribute o name apos) (e :: es) [] cpos) (tBM X.K T r to t) := by
  intro pins s σ H Q I h
  refine wpAny_Call_method_late hbase hfew hline rfl (thn (ho pins s σ H _ I h) fun v s1 ⟨x, H1, I1, r1, ty, q1⟩ => ?_)
  obtain ⟨h1, h2⟩ := tyV_is I1 r1 ty
  refine ⟨T, id, pa, slot, hty, h1, h2, ?_⟩
  have hA := ha cpos pins s1 σ H1 _ I1 q1
  rw [hs] at hA ⊢
  refine Calls.callWith_builtin (by show (false || (backTo cpos (starEach es X.env)).any (·.1)) = false; rw [hplain] <;> rfl) (Calls.evalArgs_plain ?_)
  exact thn hA fun us s2 ⟨vs, H2, I2, r2, q2⟩ => hm pins s2 σ H2 x vs v us Q I2 r1 r2 q2
/- xs.append(e), list.index on a module's tuple .. are MtR facts of 06m -/
end
end L2

namespace L2
open PySem PySem.Spec PyProof.Rows

def MtM (X : Cx) (id : String) (r : V → List V → Hp → VK → Prop) : Prop :=
  ∀ (pins : List (Addr × Obj)) (s : Shared) (σ : St) (H : Hp) (x : V) (xs : List V) (v : Value) (us : List Value) (Q : VK), Inv X pins σ H s → RelV x v → Vals xs us → r x xs H Q →
    wpAny (model X.prog X.w) X.A (call (.builtin id) (v :: us)) (EP X pins σ Q) X.xe s

/-! ### lists of values -/
theorem Vals.one : ∀ {x : V} {us : List Value}, Vals [x] us → ∃ u, us = [u] ∧ RelV x u
  | _, _, .cons r .nil => ⟨_, rfl, r⟩
theorem Vals.two : ∀ {x y : V} {us : List Value}, Vals [x, y] us → ∃ u v, us = [u, v] ∧ RelV x u ∧ RelV y v
  | _, _, _, .cons r (.cons q .nil) => ⟨_, _, rfl, r, q⟩
theorem Vals.zero : ∀ {us : List Value}, Vals [] us → us = []
  | _, .nil => rfl
theorem Vals.eraseIdx : ∀ {xs : List V} {us : List Value} (i : Nat), Vals xs us → Vals (xs.eraseIdx i) (us.eraseIdx i)
  | _, _, _, .nil => .nil
  | _, _, 0, .cons _ t => t
  | _, _, i + 1, .cons r t => .cons r (Vals.eraseIdx i t)
theorem Vals.reverse {xs : List V} {us : List Value} (h : Vals xs us) : Vals xs.reverse us.reverse := by
  induction h with
  | nil => exact .nil
  | cons r t ih => rw [List.reverse_cons, List.reverse_cons]; exact Vals.append ih (.cons r .nil)
theorem Vals.rep {xs : List V} {us : List Value} (h : Vals xs us) : ∀ k : Nat, Vals (List.replicate k xs).flatten (List.replicate k us).flatten
  | 0 => .nil
  | k + 1 => by
    rw [List.replicate_succ, List.replicate_succ, List.flatten_cons, List.flatten_cons]
    exact Vals.append h (Vals.rep h k)
theorem len_erase {α : Type} : ∀ (l : List α) (i : Nat), (l.eraseIdx i).length ≤ l.length
  | [], _ => Nat.le_refl _
  | _ :: _, 0 => Nat.le_succ _
  | _ :: r, i + 1 => Nat.succ_le_succ (len_erase r i)
section
variable {X : Cx} {pins : List (Addr × Obj)} {σ : St} {H : Hp} {s : Shared} {l b : Addr} {xs ys zs : List V}

/-! ### the two steps: a tracked list is rewritten, a new list is laid -/
theorem Inv.lset {its its' : List Value} {n : Nat} {f : Array Value → Array Value} {t' : Nat} (I : Inv X pins σ H s) (hH : H l = some (.lst xs))
    (e : s.heap.get? l = some { cls := .type "list", data := .seq its.toArray n }) (hf : f its.toArray = its'.toArray) (hv : Vals ys its') (hz : ys.length ≤ sizeLine) :
    Inv X pins σ (upd H l (.lst ys)) { s with heap := s.heap.update l (Obj.mapSeq f), toks := t' } := by
  have q := PySem.IsL.update e f
  rw [hf] at q
  refine I.write (x := l) (e := l) (by rw [hH]; exact trivial) (.inl rfl) (fun b' u hb hu => (Heap.get?_update_other s.heap (Obj.mapSeq f) (Ne.symm hb)).trans hu) ⟨_, q⟩ ?_
  exact ⟨hz, its', _, hv, q⟩
theorem Inv.lnew {its : List Value} {t' : Nat} (I : Inv X pins σ H s) (hv : Vals ys its) (hz : ys.length ≤ sizeLine) :
    Inv X pins σ (upd H s.heap.objs.size (.lst ys)) { s with heap := s.heap.push { cls := .type "list", data := .seq its.toArray }, toks := t' } :=
  I.laid (fun _ _ q => Heap.get?_push_of_some _ q) (Nat.le_refl _) ⟨hz, its, 0, hv, Heap.get?_push_size _ rfl⟩
theorem Inv.fresh (I : Inv X pins σ H s) : H s.heap.objs.size = none := I.hok.fresh (Nat.le_refl _)
theorem Inv.lstM (I : Inv X pins σ H s) (hH : H l = some (.lst xs)) : xs.length ≤ sizeLine ∧ ∃ (its : List Value) (n : Nat), Vals xs its ∧ xs.length = its.length ∧ s.heap.get? l = some { cls := .type "list", data := .seq its.toArray n } := by
  obtain ⟨z, its, n, r, e⟩ := I.hok l _ hH
  exact ⟨z, its, n, r, r.length, e⟩

end

section
variable {X : Cx}

/-! ### methods -/
def rAppend : V → List V → Hp → VK → Prop := fun x vs H Q => ∃ l xs y, x = .ref l ∧ vs = [y] ∧ H l = some (.lst xs) ∧ xs.length < sizeLine ∧ Q .non (upd H l (.lst (xs ++ [y])))
theorem mt_append : MtM X "list.append" rAppend := by
  intro pins s σ H x vs v us Q I rx rv h
  obtain ⟨l, xs, y, rfl, rfl, hH, hz, q⟩ := h
  cases rx
  obtain ⟨u, rfl, ru⟩ := rv.one
  obtain ⟨z, its, n, r, hl, e⟩ := I.lstM hH
  refine call_meets F.slot_list_append ⟨_, e, rfl⟩ F.entry_list_append (F.args_list_append_2 _ _) (PySem.list_append l its.toArray n u (by rw [List.size_toArray]; omega)) ⟨e, ?_⟩
  refine ⟨.non, _, I.lset (its' := its ++ [u]) hH e (by simp) (r.append (.cons ru .nil)) ?_, rfl, q⟩
  rw [List.length_append, List.length_singleton]
  omega

def rPopAt : V → List V → Hp → VK → Prop := fun x vs H Q => ∃ l xs i k y, x = .ref l ∧ vs = [.int i] ∧ H l = some (.lst xs) ∧ -(2 ^ 63) ≤ i ∧ i < 2 ^ 63 ∧ seqIndex? i xs.length = some k ∧ xs[k]? = some y ∧ Q y (upd H l (.lst (xs.eraseIdx k)))
theorem mt_popAt : MtM X "list.pop" rPopAt := by
  intro pins s σ H x vs v us Q I rx rv h
  obtain ⟨l, xs, i, k, y, rfl, rfl, hH, h1, h2, hk, hy, q⟩ := h
  cases rx
  obtain ⟨u, rfl, ru⟩ := rv.one
  obtain ⟨t, rfl⟩ := ru
  obtain ⟨z, its, n, r, hl, e⟩ := I.lstM hH
  obtain ⟨w, hw, rw'⟩ := r.get hy
  refine call_meets F.slot_list_pop ⟨_, e, rfl⟩ F.entry_list_pop (F.args_list_pop_2 _ _)
    (MeetsSeq.list_pop_at l its.toArray n i t k w (fitsIndex_both h1 h2) (by rw [List.size_toArray, ← hl]; exact hk) (by rw [← Array.getElem?_toList]; exact hw) (by rw [List.size_toArray]; omega)) ⟨e, ?_⟩
  refine ⟨y, _, I.lset (its' := its.eraseIdx k) hH e ?_ (r.eraseIdx k) ?_, rw', q⟩
  · show its.toArray.eraseIdxIfInBounds k = (its.eraseIdx k).toArray
    rw [List.eraseIdxIfInBounds_toArray]
  · have := len_erase xs k
    omega

/-! ### list + list, list += list, list * int -/
def rCat : R2 := fun x y H Q => ∃ l b xs zs, x = .ref l ∧ y = .ref b ∧ H l = some (.lst xs) ∧ H b = some (.lst zs) ∧ xs.length + zs.length ≤ sizeLine ∧ ∀ p, H p = none → Q (.ref p) (upd H p (.lst (xs ++ zs)))
theorem op_cat : OpR X (binaryOp .Add) rCat := by
  intro pins s σ H x y v u Q I rx ry h
  obtain ⟨l, b, xs, zs, rfl, rfl, hH, hB, hz, q⟩ := h
  cases rx
  cases ry
  obtain ⟨z, its, n, r, hl, e⟩ := I.lstM hH
  obtain ⟨z2, its2, n2, r2, hl2, e2⟩ := I.lstM hB
  refine PySem.P.add_list e e2 ?_ (by rw [List.size_toArray, List.size_toArray]; omega)
  have ea : its.toArray ++ its2.toArray = (its ++ its2).toArray := by simp
  rw [ea]
  exact ⟨.ref _, _, I.lnew (t' := s.toks) (r.append r2) (by rw [List.length_append]; omega), rfl, q _ I.fresh⟩
/-! ### del xs[i] -/
end

/-! ### xs[a:b] = ys -/
section
variable {prog : Program} {w : World} {A : Around} {E : Value → Shared → Prop} {s : Shared}
end

section
variable {X : Cx}
end
end L2

namespace Att
open PySem PySem.W PySem.Calls PyProof.Rows

/-! ### the script -/
theorem ints_of_wellAll {P : Params} {h : Heap} : ∀ (ns : List Int) (vs : List Value), WellAll P h vs (ns.map WData.int) → IntsAre vs ns := by
  intro ns
  induction ns with
  | nil =>
    intro vs w
    rw [List.map_nil] at w
    cases w
    exact .nil
  | cons n ns ih =>
    intro vs w
    rw [List.map_cons] at w
    cases w with
    | cons a b =>
      cases a
      exact .cons _ _ (ih _ b)

theorem script_of {l : OpenLaw} {n : Nat} (hn : l.most = some n) {P : Params} {h : Heap} {args : List WData} {vals : List Value}
    (hpre : l.row.toRowW.claim.pre args = true) (hwl : WellAll P h vals args) :
    ∃ a vs ns, vals = [Value.ref a] ∧ args = [WData.list (ns.map WData.int)] ∧ h.get? a = some { cls := .type "list", data := .seq vs.toArray } ∧ IntsAre vs ns ∧ ns.length ≤ n := by
  have hsh : WShape.hasAll [] args [.list .int] = true := (pre_splitW hpre).1
  have hc : l.pre.holds [] { args := args } = true := (pre_splitW hpre).2
  obtain ⟨d, r, rfl, h1, h2⟩ := hasAllW_cons hsh
  obtain rfl := hasAllW_nil h2
  obtain ⟨xs, rfl, h3⟩ := hasW_list h1
  obtain ⟨ns, rfl⟩ := items_int h3
  have hlen : ns.length ≤ n := by
    unfold OpenLaw.pre at hc
    have h4 : (WTm.not (.lt (.lit (.int (n : Int))) (.len (.arg 0)))).holds [] { args := [.list (ns.map .int)] } = true := by
      have h4 := (holds_andW hc).1
      rw [hn] at h4
      exact h4
    have h5 := condW_of h4 (w_not (w_lt w_lit (w_len_list (w_arg rfl))))
    rw [List.length_map] at h5
    refine Nat.le_of_not_lt fun q => ?_
    have q' : (n : Int) < ((ns.length : Nat) : Int) := by omega
    first
      | (rw [decide_eq_true q'] at h5; exact absurd h5 (by decide))
      | (simp at h5; omega)
  cases hwl with
  | cons w1 w2 =>
    cases w2
    cases w1 with
    | list ho hall => exact ⟨_, _, ns, rfl, rfl, ho, ints_of_wellAll ns _ hall, hlen⟩

theorem post_true (l : OpenLaw) (args : List WData) : l.row.toRowW.claim.post args (.bool true) args = true :=
  postW_of (r := l.row.toRowW) (X := (true == true))
    (show WShape.has [] (.bool true) .bool = true by first | rfl | decide | simp [WShape.has, WShape.arms, WShape.armsAll])
    (show (WTm.eq .res (.lit (.bool true))).value [] { args := args, res := some (.bool true), after := args } = some (.bool (true == true)) from w_eq_bool (w_res rfl) w_lit) rfl

/-! ### the attachment: holds_open's last premise (the goal 'hc' behind k_head) from a wpAny of the law's body -/
/-- the same from a codeAny of the CALL (for a layer whose function contracts speak of calls) -/
theorem attach_call {l : OpenLaw} {n : Nat} {q : Program} {loose : List Str} {XP : (Str → Option Value) → Heap → Prop} {YP : World → Heap → Prop} {d : DefRec}
    (hn : l.most = some n) (hdf : d.params.defaults = [])
    (call : ∀ (w : World) (s₀ s₁ : Shared) (mg mb : Str → Option Value) (fa : Addr) (o : Obj) (pm cd doc : Value) (a : Addr) (vs : List Value) (ns : List Int),
      Ground q loose [] XP w s₀ mg mb s₁.heap → YP w s₁.heap →
      s₁.heap.get? fa = some o → o.data = .func (docDef d.name d.params d.body d.scope pm cd doc) → s₁.heap.CodeRec cd d.name → mg d.name = some (.ref fa) →
      s₁.heap.get? a = some { cls := .type "list", data := .seq vs.toArray } → IntsAre vs ns → ns.length ≤ n → s₁.gens = #[] →
      codeAny (model l.prog w) callerA (.call (.ref fa) ⟨[.ref a], []⟩) (fun r s' => r = .ok (.ret (.bool true)) ∧ OldK s₁.heap s'.heap ∧ s'.os = s₁.os ∧ AllBare s'.gens) s₁) :
    WalkO q loose XP YP l.row.toRowW d [] (fun f vs => PySem.call f vs) := by
  intro w s₀ s₁ mg mb G Y fa o pm cd doc dV kV ho hd hcd hD hmg hg args vals as hpre hlay hrd hwl hlo
  obtain rfl : dV = .none := Dflts.none hD hdf
  obtain rfl : kV = .none := Dflts.noKw hD
  obtain ⟨a, vs, ns, rfl, rfl, hobj, hints, hlen⟩ := script_of hn hpre hwl
  refine enter_call (codeAny_mono (call w s₀ s₁ mg mb fa o pm cd doc a vs ns G Y ho (fd_plain hd) hcd hmg hobj hints hlen hg) fun r s' hq => ?_)
  obtain ⟨rfl, h2, h3, h4⟩ := hq
  exact ⟨.inl ⟨.bool true, .bool true, [], rfl, fun _ => rfl, .bool true, post_true l _, fun _ => ⟨List.Pairwise.nil, fun _ hm => (nomatch hm)⟩⟩, h2, h3, h4⟩

/-! ### rules over ANY heap (no ledger) from facts about the written part K: the library's own take a ledger (News) for what they write -/
section
variable {prog : Program} {w : World} {A : Around} {E : Value → Shared → Prop} {s : Shared} {K : Frag}

/-! the whole heap as the ledger: makes every rule that writes through a ledger a rule over any heap -/
def ledger (h : Heap) (L d : Addr) : List (Addr × Obj) := (List.range h.objs.size).filterMap fun a => if a = L ∨ a = d then none else (h.get? a).map fun o => (a, o)
end
end Att

namespace L2
open PySem PySem.Spec PyProof.Rows

theorem vals_ints : ∀ {vs : List Value} {ns : List Int}, IntsAre vs ns → Vals (ns.map V.int) vs
  | _, _, .nil => .nil
  | _, _, .cons n t h => .cons ⟨t, rfl⟩ (vals_ints h)

/-- nothing is tracked but the script, known to the object (or it is an object of the module) -/
def Only (H : Hp) : Prop := ∀ b, H b = none ∨ ∃ o xs, H b = some (.frz o (.lst xs))

/-- THE HEAD: the law's promise, at the heap behind the top. F, the promise of the law's def, may use that base is part of the heap (so K.In base, base.Ns mainGlobals mg stand in Mod) -/
theorem law_call {P : Program} {w : World} {K : PySem.W.Frag} {mg mb : Str → Option Value} {CX : CXT} {k : Nat} {fa a : Addr} {fd : FuncData} {x : Str} {sp : Sp} {s₁ : Shared} {vs : List Value} {ns : List Int}
    (KX : K.In s₁.heap) (hns : s₁.heap.Ns mainGlobals mg) (hb : s₁.heap.Ns builtinsNs mb) (hbb : ∀ x : Str, x ≠ "__name__" → mb x = bootBuiltins x) (hlim : s₁.heap.NoLimit) (hg : s₁.gens = #[])
    (ha : s₁.heap.get? a = some { cls := .type "list", data := .seq vs.toArray }) (hi : IntsAre vs ns) (hl : ns.length ≤ sizeLine) (hr : Room k callerA)
    (F : ∀ base : Heap, K.In base → base.Ns mainGlobals mg → FnOk P w K mg base CX k fa fd [x] sp) (hbind : ∀ (s : Shared) (u : Value), BindsTo s fd ⟨[u], []⟩ [(x, u)])
    (hsp : ∀ H : Hp, Only H → SqL K H a (ns.map V.int) → sp [.ref a] H (fun v _ => v = .bl true) fun _ _ _ => False)
    (hCX : ∀ H e s', CX [] H s₁ (fun _ _ _ => False) e s' → False) :
    codeAny (model P w) callerA (.call (.ref fa) ⟨[.ref a], []⟩) (fun r s' => r = .ok (.ret (.bool true)) ∧ OldK s₁.heap s'.heap ∧ s'.os = s₁.os ∧ AllBare s'.gens) s₁ := by
  have rv := vals_ints hi
  have lenV := hi.length
  -- from an abstract heap in which nothing but the script may be tracked
  have core : ∀ H : Hp, Only H → SqL K H a (ns.map V.int) → HOk P w H s₁.heap → (∀ b, H b ≠ none → b = a) → (H a ≠ none → K.lookup a = none) →
      codeAny (model P w) callerA (.call (.ref fa) ⟨[.ref a], []⟩) (fun r s' => r = .ok (.ret (.bool true)) ∧ OldK s₁.heap s'.heap ∧ s'.os = s₁.os ∧ AllBare s'.gens) s₁ := by
    intro H hO hS hok hA hK
    have base_of : ∀ {b : Addr} {o : Obj}, s₁.heap.get? b = some o → H b = none → (hidT s₁.heap H).get? b = some o := fun e n => hidT_get e n
    have noA : ∀ {b : Addr} {o : Obj} {es : Array DictEntry} {ep : Nat}, s₁.heap.get? b = some o → o.data = .dict es ep → H b = none := fun {b o es ep} e d => by
      cases q : H b with
      | none => rfl
      | some u =>
        have e' : b = a := hA b (by rw [q]; simp)
        subst e'
        rw [ha] at e; cases e
        have d' : Data.seq vs.toArray _ = Data.dict es ep := d
        cases d'
    have nsK : ∀ {b : Addr} {m : Str → Option Value}, s₁.heap.Ns b m → (hidT s₁.heap H).Ns b m := fun {b m} ⟨o, es, ep, e, d, r⟩ => ⟨o, es, ep, base_of e (noA e d), d, r⟩
    have hKb : K.In (hidT s₁.heap H) := fun b o e => base_of (KX b o e) (by
      cases q : H b with
      | none => rfl
      | some u =>
        have e' : b = a := hA b (by rw [q]; simp)
        subst e'
        rw [hK (by rw [q]; simp)] at e; cases e)
    have hM : Mod K mg (hidT s₁.heap H) := ⟨hKb, nsK hns, ⟨mb, nsK hb, hbb⟩, let ⟨mc, h1, h2⟩ := hlim; ⟨mc, nsK h1, h2⟩⟩
    have e0 : Env0 P w K mg (hidT s₁.heap H) callerA [] s₁ H := ⟨rfl, hM, fun b o e => of_hidT e, Nat.le_of_eq (hidT_size _ _), trivial, fun b hb => absurd (show b ∈ ([] : List Addr) from hb) (by simp), hok, .of_eq hg⟩
    refine codeAny_mono ((F _ hKb (nsK hns)).run callerA [] s₁ H ⟨[.ref a], []⟩ [.ref a] [.ref a] _ _ hr e0 (hbind s₁ (.ref a)) (.cons rfl .nil) (hsp H hO hS)) fun r s' h => ?_
    cases r with
    | error e => exact (hCX H e s' h).elim
    | ok fl =>
      cases fl with
      | next => exact False.elim h
      | brk => exact False.elim h
      | cont => exact False.elim h
      | ret u =>
        obtain ⟨v, H', os, bare, un, hok', r', q⟩ := h
        have q' : v = .bl true := q
        subst q'
        obtain rfl : u = Value.bool true := r'
        refine ⟨rfl, OldK.of_keep fun b o e => ?_, os, bare⟩
        cases q : H b with
        | none => exact un.keep b o e q (by intro z; exact absurd (show b ∈ ([] : List Addr) from z) (by simp)) (by simp)
        | some u =>
          rcases hO b with z | ⟨ob, xs, z⟩
          · rw [q] at z; cases z
          · have z2 := un.frzs b ob _ z
            obtain ⟨e1, _⟩ := hok b _ z
            obtain ⟨e2, _⟩ := hok' b _ z2
            rw [e] at e1; cases e1
            exact e2
  cases hk : K.lookup a with
  | some o =>
    -- the script is one of the module's own objects
    have e := KX a o hk
    rw [ha] at e
    cases e
    refine core (fun _ => none) (fun _ => .inl rfl) (.inr ⟨_, vs.toArray, _, hk, rfl, rfl, rfl, by rw [List.size_toArray, lenV]; exact hl, by simpa using rv⟩) (fun b u z => by have z' : (none : Option HO) = some u := z; cases z') (fun b z => absurd rfl z) fun z => absurd rfl z
  | none =>
    refine core (fun b => if b = a then some (.frz { cls := .type "list", data := .seq vs.toArray } (.lst (ns.map V.int))) else none) (fun b => ?_) (.inl (.inr ⟨{ cls := .type "list", data := .seq vs.toArray }, if_pos rfl⟩)) (fun b u z => ?_) (fun b z => ?_) fun _ => hk
    · by_cases hb : b = a
      · exact .inr ⟨_, _, if_pos hb⟩
      · exact .inl (if_neg hb)
    · by_cases hb : b = a
      · have z' := (if_pos hb).symm.trans z
        cases z'
        subst hb
        exact ⟨ha, by rw [List.length_map]; exact hl, vs, _, rv, ha⟩
      · have z' := (if_neg hb).symm.trans z
        cases z'
    · by_cases hb : b = a
      · exact hb
      · exact absurd (if_neg hb) z
end L2

namespace L2
open PySem PySem.Spec PyProof.Rows

abbrev KOf {K : PySem.W.Frag} {h : Heap} (_ : K.In h) : PySem.W.Frag := K

/-- the goal that k_head leaves (case hc), from the law's promise. F gives the function object fd (K's own) once, then the promise over every base -/
theorem walk_of {l : PySem.W.OpenLaw} {n k : Nat} {q : Program} {loose : List Str} {XP : (Str → Option Value) → Heap → Prop} {YP : World → Heap → Prop} {d : DefRec} {K : Params → PySem.W.Frag} {CX : World → CXT} {sp : World → Sp} {x : Str}
    (hn : l.most = some n) (hn2 : n ≤ sizeLine) (hdf : d.params.defaults = []) (hr : Room k callerA)
    (hY : ∀ (w : World) (h : Heap), YP w h → (K w.params).In h)
    (F : ∀ (w : World) (mg : Str → Option Value) (fa : Addr) (h : Heap), (K w.params).In h → h.Ns mainGlobals mg → mg d.name = some (.ref fa) →
      ∃ fd : FuncData, (∀ (s : Shared) (u : Value), BindsTo s fd ⟨[u], []⟩ [(x, u)]) ∧
        ∀ base : Heap, (K w.params).In base → base.Ns mainGlobals mg → FnOk l.prog w (K w.params) mg base (CX w) k fa fd [x] (sp w))
    (hsp : ∀ (w : World) (H : Hp) (a : Addr) (ns : List Int), ns.length ≤ n → Only H → SqL (K w.params) H a (ns.map V.int) → sp w [.ref a] H (fun v _ => v = .bl true) fun _ _ _ => False)
    (hCX : ∀ (w : World) (H : Hp) (s : Shared) (e : Value) (s' : Shared), CX w [] H s (fun _ _ _ => False) e s' → False) :
    PySem.W.WalkO q loose XP YP l.row.toRowW d [] (fun f vs => PySem.call f vs) := by
  refine Att.attach_call hn hdf fun w s₀ s₁ mg mb fa o pm cd doc a vs ns G Y ho hd hcd hmg hobj hints hlen hg => ?_
  have KX := hY w _ Y
  obtain ⟨fd, hb, hF⟩ := F w mg fa _ KX G.T.g hmg
  exact law_call KX G.T.g G.T.b G.T.builtins G.T.nolimit hg hobj hints (Nat.le_trans hlen hn2) hr hF hb (fun H hO hS => hsp w H a ns hlen hO hS) fun H e s' => hCX w H s₁ e s'
end L2

/- THE LAST THEOREM (shape; LID, My.* are yours):
   My.Adr: a structure of the addresses that your layer names (classes, functions); My.Txt K t: a structure (Prop) of the equations over K;
   My.txt_mk : {K} {implicit addresses ..} (e1 : nsIn K mainGlobals "law" = some (some (.ref f))) (e2 : K.lookup f = some ⟨oc, od, .func (fnOf "law" "law" params body scope dV kV doc pm an cdv ct), sl⟩) (e3 : codeIn K cdv "law" = true) .. : ∃ t, My.Txt K t

set_option maxRecDepth 100000 in
set_option maxHeartbeats 0 in
theorem PySem.Challenge.cw_LID_holds : PySem.Challenge.rw_LID.Holds := by
  w_on; o_law; k_head; (case hw => w_witness2)
  k_fill
  refine L2.walk_of (l := PySem.Challenge.rw_LID) (n := 63) (k := 40) (x := "script") (CX := fun w => ..) (sp := fun _ => My.sp_law) rfl (by decide) rfl ⟨rfl, by decide, by decide⟩ (fun w h Y => PySem.W.kIn_of Y) ?F ?S ?C
  case F =>
    intro w mg fa h KX G hmg
    have T : ∃ t, My.Txt (L2.KOf KX) t := by
      dsimp only [L2.KOf]                          -- K must stand as «<heap const> w.params» for k_is
      refine' My.txt_mk ?e1 ?e2 ?e3 ..
      (case e1 => PySem.W.k_is)                    -- in the order: a name -> its address -> its object -> its parts
      (case e2 => PySem.W.k_is)
      ..
    obtain ⟨t, T⟩ := T
    have e0 := hmg.symm.trans (PySem.W.mg_of KX G T.law)
    cases e0                                       -- fa is the law's own address
    exact ⟨_, fun s u => .of_eq rfl, fun base kb nb => My.law_fn T kb nb⟩     -- if «.of_eq rfl» comes too early: refine' ⟨_, ?b, fun base kb nb => My.law_fn T kb nb⟩; exact fun s u => .of_eq rfl
  case S => exact fun w H a ns hl hO hS => ..
  case C => exact ..
(the tactic k_is has no namespace: write k_is) -/

/-! SHORT WORDS over the layer: a def of the text, its body, what a loop and a test want. -/
namespace L2
open PySem PySem.Spec PyProof.Rows

/-! ### the text by places -/
def defArgs (s : Stmt) : Arguments := match s with
  | .FunctionDef _ a _ _ _ _ _ _ _ _ => a
  | _ => { posonlyargs := [], args := [], vararg := none, kwonlyargs := [], kw_defaults := [], kwarg := none, defaults := [] }
def defBody (s : Stmt) : List Stmt := match s with
  | .FunctionDef _ _ b _ _ _ _ _ _ _ => b
  | _ => []
def defScope (s : Stmt) : Scope := match s with
  | .FunctionDef _ _ _ _ _ _ sc _ _ _ => sc
  | _ => { kind := .function, names := [], isGenerator := false, isCoroutine := false }

/-! ### no exception leaves a def -/
abbrev CX0 : CXT := fun _ _ _ _ _ _ => False
abbrev E0 : XK := fun _ _ _ => False
theorem pass0 {X : Cx} : Passes CX0 X E0 := fun _ _ _ _ _ _ _ h => h.elim

/-! ### a def (or method) of the text as it stands behind the top -/
structure Fun (K : PySem.W.Frag) (x qual : Str) (st : Stmt) (f : Addr) (fd : FuncData) : Prop where
  ex : ∃ (oc : Value) (od : Option Addr) (kV doc pm : Value) (an : Option Addr) (cdv ct : Value) (osl : Array (Option Value)),
    fd = PySem.W.fnOf x qual (defArgs st) (defBody st) (defScope st) .none kV doc pm an cdv ct ∧ K.lookup f = some ⟨oc, od, .func fd, osl⟩ ∧ PySem.W.codeIn K cdv qual = true
  kp : PySem.W.keepIn K (.ref f) = true
section
variable {P : Program} {w : World} {K : PySem.W.Frag} {mg : Str → Option Value} {base : Heap}
/-- THE RULE for a def: its body as a term of rules, and the reading of that term -/
theorem Fun.ok {x qual : Str} {st : Stmt} {f : Addr} {fd : FuncData} {N ps : List Str} {k : Nat} {sp : Sp} (F : Fun K x qual st f fd) (S : FnScope N ps (defScope st)) (len : ∀ vs H Q E, sp vs H Q E → vs.length = ps.length)
    (hbody : ∀ (cdv : Value) (A : Around) (outer : List Env) (s : Shared) (H : Hp) (vs : List V) (Q : VK) (E : XK), Room k (A.deeper (envOfC qual (defScope st) s.heap.objs.size f cdv)) → sp vs H Q E →
      ∃ t, PSs (cxOf CX0 P w K mg base N qual (defScope st) f cdv A outer s H E).nox (defBody st) t ∧ t { nx := fun _ H' => Q .non H', rt := Q } (start N vs) H) : FnOk P w K mg base CX0 (k + 1) f fd ps sp := by
  obtain ⟨oc, od, kV, doc, pm, an, cdv, ct, osl, rfl, lk, hcd⟩ := F.ex
  refine fn_of lk hcd S len fun A outer s H vs Q E hr hsp => ?_
  obtain ⟨t, h, q⟩ := hbody cdv A outer s H vs Q E hr hsp
  exact ⟨t, h.nox, q⟩
/-- how its arguments bind (no defaults): h is «fun _ _ _ _ _ _ us hl => match us, hl with | [_, _], _ => rfl», one _ a parameter -/
theorem Fun.binds {x qual : Str} {st : Stmt} {f : Addr} {fd : FuncData} {ps : List Str} (F : Fun K x qual st f fd)
    (h : ∀ (kV doc pm : Value) (an : Option Addr) (cdv ct : Value) (us : List Value), us.length = ps.length → bindArgs (PySem.W.fnOf x qual (defArgs st) (defBody st) (defScope st) .none kV doc pm an cdv ct) ⟨us, []⟩ = pure (ps.zip us)) : Binds K fd ps [] := by
  obtain ⟨oc, od, kV, doc, pm, an, cdv, ct, osl, rfl, lk, hcd⟩ := F.ex
  exact .all (h kV doc pm an cdv ct)
theorem fun_mk {x qual : Str} {st : Stmt} {f : Addr} {oc : Value} {od an : Option Addr} {osl : Array (Option Value)} {kV doc pm cdv ct : Value} (l : K.lookup f = some ⟨oc, od, .func (PySem.W.fnOf x qual (defArgs st) (defBody st) (defScope st) .none kV doc pm an cdv ct), osl⟩)
    (c : PySem.W.codeIn K cdv qual = true) (k : PySem.W.keepIn K (.ref f) = true) : Fun K x qual st f (PySem.W.fnOf x qual (defArgs st) (defBody st) (defScope st) .none kV doc pm an cdv ct) := ⟨⟨oc, od, kV, doc, pm, an, cdv, ct, osl, rfl, l, c⟩, k⟩
end
theorem small1000 {n : Nat} (h : n ≤ 1000) : n < sizeLine := Nat.lt_of_le_of_lt h (by decide)

/-! ### expressions in short: the name that stands in the i-th slot -/
section
variable {X : Cx}
theorem pv (i : Nat) {x : Str} {pos : Pos} (hN : X.N[i]? = some x := by rfl) (hv : Vis X.env.scope x := by first | exact Or.inl rfl | exact Or.inr (Or.inl rfl) | exact Or.inr (Or.inr rfl)) (hd : (x == ("__debug__" : Str)) = false := by decide)
    (hcd : (x == ("__classdict__" : Str)) = false := by decide) : PE X (.Name x pos) (tVar i) := pe_var hN hv hd hcd
end

/-! ### tests -/
theorem iteF {A B : Prop} (h : B) : if false = true then A else B := by
  rw [if_neg Bool.false_ne_true]
  exact h
theorem iteT {A B : Prop} (h : A) : if true = true then A else B := by
  rw [if_pos rfl]
  exact h
theorem ite2 {c A B : Prop} [Decidable c] (h1 : c → A) (h2 : ¬ c → B) : if c then A else B := by
  by_cases h : c
  · rw [if_pos h]
    exact h1 h
  · rw [if_neg h]
    exact h2 h
theorem iteNS {c A B : Prop} [Decidable c] (hc : c) (h : B) : if (!decide c) = true then A else B := by
  rw [decide_eq_true hc]
  exact iteF h

/-! ### heaps -/
/-- all that was tracked is as it was -/
def Same (H H' : Hp) : Prop := ∀ b o, H b = some o → H' b = some o
theorem Same.refl (H : Hp) : Same H H := fun _ _ h => h
theorem Same.trans {H H1 H2 : Hp} (a : Same H H1) (b : Same H1 H2) : Same H H2 := fun c o h => b c o (a c o h)
theorem Same.free {H H' : Hp} (e : Same H H') {l : Addr} (h : H' l = Option.none) : H l = Option.none := by
  cases q : H l with
  | none => rfl
  | some o =>
    rw [e l o q] at h
    cases h
theorem Same.seq {K : PySem.W.Frag} {H H' : Hp} {a : Addr} {xs : List V} (e : Same H H') (h : SqL K H a xs) : SqL K H' a xs := by
  rcases h with (h | ⟨o, h⟩) | h
  · exact .inl (.inl (e _ _ h))
  · exact .inl (.inr ⟨o, e _ _ h⟩)
  · exact .inr h

end L2

set_option maxHeartbeats 4000000
namespace L2
open PySem PySem.Spec PyProof.Rows

/-! ### A. big numbers -/
def CDivB (_ j : Int) : Prop := 0 < j ∧ j.natAbs.log2 < 9000
def CMulB (i j : Int) : Prop := i.natAbs.log2 < 1000000 ∧ j.natAbs.log2 < 1000000
theorem bits_of_log {i : Int} (h : i.natAbs.log2 < 1000000) : Builtin.Int.intBits i ≤ 2 ^ 20 := by
  have e : (2 : Nat) ^ 20 = 1048576 := by decide
  rw [e]
  unfold Builtin.Int.intBits
  split <;> omega
section
variable {X : Cx}
theorem op_fdivB : OpR X (binaryOp .FloorDiv) (rI CDivB fun i j => .int (i / j)) := opI fun i j _ _ _ _ _ hc q => by
  have h1 : (0 : Int) < j := hc.1
  exact floordiv_int (by omega) (by rw [Int.fdiv_eq_ediv_of_nonneg i (by omega)]; exact q) (.inl (PyProof.noPylong_of_log2 hc.2))
theorem op_mulB : OpR X (binaryOp .Mult) (rI CMulB fun i j => .int (i * j)) := opI fun _ _ _ _ _ _ _ hc q => mul_int q (.of_bits (bits_of_log hc.1) (bits_of_log hc.2))
end
theorem log2_lt_of {n k : Nat} (h : n < 2 ^ k) (hk : 0 < k) : n.log2 < k := by
  rcases Nat.eq_zero_or_pos n with h0 | hp
  · rw [h0]; exact hk
  · exact (Nat.log2_lt (Nat.ne_of_gt hp)).mpr h

/-! ### B. records that turn, a new object laid, an object taken over -/
section
variable {X : Cx} {pins : List (Addr × Obj)} {σ : St} {H : Hp} {s : Shared} {h' : Heap} {ch : List Addr} {a : Addr} {o : HO}
theorem Inv.chg {t' : Nat} (I : Inv X pins σ H s) (hch : ∀ b ∈ ch, FpOk X pins H b) (k : ∀ b u, b ∉ ch → s.heap.get? b = some u → h'.get? b = some u) : Inv X pins σ H { s with heap := h', toks := t' } := by
  have nch : ∀ b u, H b = some u → b ∉ ch := fun b u e z => by rw [(hch b z).1] at e; cases e
  refine I.step (g' := s.gens) (d' := s.drawn) (ch := ch) (fun b hb => ?_) (fun b u _ _ hc e _ => k b u hc e) (fun b u _ _ hc e _ => ⟨u.slots, k b u hc e⟩) (fun _ _ _ _ n => n)
    (fun b u hc e => ⟨u, k b u hc e⟩) (fun _ _ e => e) (fun _ _ _ e => e) (fun b ps e => ⟨#[], by rw [e]; simp⟩) (fun m hm => ?_) (fun b u e => ?_) I.bare
  · obtain ⟨_, f1, _, f3, f4, f5⟩ := hch b hb
    exact ⟨f3, f1, f4, f5⟩
  · obtain ⟨u, es, ep, ho, r⟩ := hm
    exact ⟨u, es, ep, k _ u (fun z => (hch _ z).2.1 rfl) ho, r⟩
  · refine (I.hok b u e).stay (fun c v hc q => k c v ?_ q) (fun _ q => q) fun _ _ q => q
    rcases hc with z | z
    · rw [z]; exact nch b u e
    · exact nch c _ z
theorem Inv.chgLaid {t' : Nat} (I : Inv X pins σ H s) (hch : ∀ b ∈ ch, FpOk X pins H b) (k : ∀ b u, b ∉ ch → s.heap.get? b = some u → h'.get? b = some u) (hp : s.heap.objs.size ≤ a)
    (new : ObjOk X.prog X.w (upd H a o) h' a o) : Inv X pins σ (upd H a o) { s with heap := h', toks := t' } := by
  have nch : ∀ b u, H b = some u → b ∉ ch := fun b u e z => by rw [(hch b z).1] at e; cases e
  have hn : H a = none := I.hok.fresh hp
  refine I.step (g' := s.gens) (d' := s.drawn) (ch := ch) (fun b hb => ?_) (fun b u _ _ hc e _ => k b u hc e) (fun b u _ _ hc e _ => ⟨u.slots, k b u hc e⟩)
    (fun b u _ e n => by rw [upd_ne (Nat.ne_of_lt (Nat.lt_of_lt_of_le (Heap.lt_size e) hp))]; exact n)
    (fun b u hc e => ⟨u, k b u hc e⟩) (fun b xs e => by rw [upd_ne (ne_of_none e hn)]; exact e) (fun b u v e => by rw [upd_ne (ne_of_none e hn)]; exact e) (fun b ps e => ⟨#[], by rw [upd_ne (ne_of_none e hn), e]; simp⟩) (fun m hm => ?_) (fun b u e => ?_) I.bare
  · obtain ⟨_, f1, _, f3, f4, f5⟩ := hch b hb
    exact ⟨f3, f1, f4, f5⟩
  · obtain ⟨u, es, ep, ho, r⟩ := hm
    exact ⟨u, es, ep, k _ u (fun z => (hch _ z).2.1 rfl) ho, r⟩
  · by_cases hb : b = a
    · subst hb; rw [upd_same] at e; cases e; exact new
    · rw [upd_ne hb] at e
      refine (I.hok b u e).stay (fun c v hc q => k c v ?_ q) (fun c q => by rw [upd_ne (ne_of_none q hn)]; exact q) fun c xs q => by rw [upd_ne (ne_of_none q hn)]; exact q
      rcases hc with z | z
      · rw [z]; exact nch b u e
      · exact nch c _ z
/-- an object that is there untracked is tracked from now on -/
theorem Inv.track (I : Inv X pins σ H s) (f : FpOk X pins H a) (new : ObjOk X.prog X.w (upd H a o) s.heap a o) : Inv X pins σ (upd H a o) s := by
  obtain ⟨hn, f1, _, f3, f4, f5⟩ := f
  have z : Inv X pins σ (upd H a o) { s with heap := s.heap, gens := s.gens, drawn := s.drawn, toks := s.toks } := by
    refine I.step (g' := s.gens) (d' := s.drawn) (ch := [a]) (fun b hb => ?_) (fun b u _ _ _ e _ => e) (fun b u _ _ _ e _ => ⟨u.slots, e⟩)
      (fun b u hc e n => by rw [upd_ne (fun z => hc (by simp [z]))]; exact n)
      (fun b u _ e => ⟨u, e⟩) (fun b xs e => by rw [upd_ne (ne_of_none e hn)]; exact e) (fun b u v e => by rw [upd_ne (ne_of_none e hn)]; exact e) (fun b ps e => ⟨#[], by rw [upd_ne (ne_of_none e hn), e]; simp⟩) (fun m hm => hm) (fun b u e => ?_) I.bare
    · have e : b = a := by simpa using hb
      subst e
      exact ⟨f3, f1, f4, f5⟩
    · by_cases hb : b = a
      · subst hb; rw [upd_same] at e; cases e; exact new
      · rw [upd_ne hb] at e
        exact (I.hok b u e).stay (fun c v hc q => q) (fun c q => by rw [upd_ne (ne_of_none q hn)]; exact q) fun c xs q => by rw [upd_ne (ne_of_none q hn)]; exact q
  exact z
end
end L2

namespace L2
open PySem PySem.Spec PyProof.Rows
section
variable {prog : Program} {w : World} {A : Around} {E : Value → Shared → Prop} {s : Shared}
theorem nextOf_tuple_item {it l : Addr} {i : Nat} {items} {x : Value} {Q : Value → Shared → Prop} (hit : s.heap.IsTupleIter it l i)
    (hl : s.heap.IsTuple l items) (hx : items[i]? = some x)
    (hQ : ∀ h', h'.IsTupleIter it l (i + 1) → Heap.SameBut it s.heap h' → Q x { s with heap := h' }) :
    wpAny (model prog w) A (Builtin.SmallTypes.nextOf (.ref it)) Q E s := by
  obtain ⟨o, ho, hc, hd⟩ := id hit
  obtain ⟨ol, hol, _, nl, hdl⟩ := hl
  unfold Builtin.SmallTypes.nextOf
  refine wpAny_bind (wpAny_callSpecial?_slot (name := Str.ofString "__next__") hit.typeIs F.slot_tuple_iterator_next
    (wpAny_call_entry F.slot_tuple_iterator_next hit.typeIs F.entry_tuple_iterator_next ?_ (F.args_tuple_iterator_next_1 _)))
  show wpAny _ _ (field (.ref it) 0 >>= _) _ _ s
  refine wpAny_bind (wpAny_field ho hd (x := .ref l) rfl ?_)
  show wpAny _ _ (if (Value.ref l == Value.none) = true then _ else _) _ _ s
  rw [if_neg (show ¬ ((Value.ref l == Value.none) = true) from Bool.false_ne_true)]
  show wpAny _ _ (field (.ref it) 1 >>= _) _ _ s
  refine wpAny_bind (wpAny_field ho hd (x := .int i 0) rfl ?_)
  show wpAny _ _ (seqItems? (.ref l) >>= _) _ _ s
  refine wpAny_bind (wpAny_seqItems hol hdl ?_)
  simp only [Int.toNat_natCast, hx]
  refine wpAny_bind (wpAny_setField ho hd (by simp) (wpAny_pure ⟨x, rfl, wpAny_pure (hQ _ ?_ (Heap.SameBut.update ..))⟩))
  exact ⟨_, Heap.get?_update_self _ ho (Obj.isFreed_of_fields (Obj.data_mapFields hd _)), (Obj.cls_mapFields ..).trans hc, by
    rw [Obj.data_mapFields hd]; simp [rawInt]⟩
theorem nextOf_tuple_end {it l : Addr} {i : Nat} {items} {Q : Value → Shared → Prop} (hh : A.handled = none)
    (hit : s.heap.IsTupleIter it l i) (hl : s.heap.IsTuple l items) (hx : items[i]? = none)
    (hE : ∀ h' e, Heap.ExtBut it s.heap h' → (∃ o, h'.get? e = some o ∧ o.cls = .type "StopIteration") → E (.ref e) { s with heap := h' }) :
    wpAny (model prog w) A (Builtin.SmallTypes.nextOf (.ref it)) Q E s := by
  obtain ⟨o, ho, hc, hd⟩ := id hit
  obtain ⟨ol, hol, _, nl, hdl⟩ := hl
  unfold Builtin.SmallTypes.nextOf
  refine wpAny_bind (wpAny_callSpecial?_slot (name := Str.ofString "__next__") hit.typeIs F.slot_tuple_iterator_next
    (wpAny_call_entry F.slot_tuple_iterator_next hit.typeIs F.entry_tuple_iterator_next ?_ (F.args_tuple_iterator_next_1 _)))
  show wpAny _ _ (field (.ref it) 0 >>= _) _ _ s
  refine wpAny_bind (wpAny_field ho hd (x := .ref l) rfl ?_)
  show wpAny _ _ (if (Value.ref l == Value.none) = true then _ else _) _ _ s
  rw [if_neg (show ¬ ((Value.ref l == Value.none) = true) from Bool.false_ne_true)]
  show wpAny _ _ (field (.ref it) 1 >>= _) _ _ s
  refine wpAny_bind (wpAny_field ho hd (x := .int i 0) rfl ?_)
  show wpAny _ _ (seqItems? (.ref l) >>= _) _ _ s
  refine wpAny_bind (wpAny_seqItems hol hdl ?_)
  simp only [Int.toNat_natCast, hx]
  refine wpAny_bind (wpAny_rule (wpAny_bind (wpAny_setField ho hd (by simp) ?_)))
  show wpAny _ _ (newExc (.type "StopIteration") [] >>= _) _ _ _
  refine wpAny_bind ?_
  simp only [newExc, newTuple]
  refine wpAny_bind (wpAny_newObj_type ?_ (by size_fits))
  refine wpAny_bind (m := firstArgMember _ _) (wpAny_of_eq (a := Value.none) (by first | rfl | (simp only [firstArgMember]; rfl)) ?_)
  refine wpAny_newObj_type ?_ (by size_fits)
  simp only [raiseNew]
  refine wpAny_bind (wpAny_handled ?_)
  first | rw [show A.in1.handled = none from hh] | rw [hh]
  refine wpAny_bind (wpAny_pure (wpAny_throw ?_))
  exact hE _ _ (((Heap.SameBut.update ..).extBut.push _).push _) ⟨_, Heap.get?_push_size _ rfl, rfl⟩
end

/-- one source of a zip: the iterator at it over the sequence at l -/
structure Src (it l : Addr) (IT : Nat → Heap → Prop) (SL : Array Value → Heap → Prop) : Prop where
  obj : ∀ i h, IT i h → ∃ o, h.get? it = some o ∧ ∀ v, o.data ≠ .cell v
  fr : ∀ i (h h' : Heap), IT i h → (∀ o, h.get? it = some o → h'.get? it = some o) → IT i h'
  frS : ∀ xs (h h' : Heap), SL xs h → (∀ o, h.get? l = some o → h'.get? l = some o) → SL xs h'
  item : ∀ (prog : Program) (w : World) (A : Around) (i : Nat) (s : Shared) (xs : Array Value) (x : Value) (Q : Value → Shared → Prop) (E : Value → Shared → Prop), IT i s.heap → SL xs s.heap → xs[i]? = some x →
    (∀ h', IT (i + 1) h' → Heap.SameBut it s.heap h' → Q x { s with heap := h' }) → wpAny (model prog w) A (Builtin.SmallTypes.nextOf (.ref it)) Q E s
  done : ∀ (prog : Program) (w : World) (A : Around) (i : Nat) (s : Shared) (xs : Array Value) (Q : Value → Shared → Prop) (E : Value → Shared → Prop), A.handled = none → IT i s.heap → SL xs s.heap → xs[i]? = none →
    (∀ h' e, Heap.ExtBut it s.heap h' → (∃ o, h'.get? e = some o ∧ o.cls = .type "StopIteration") → E (.ref e) { s with heap := h' }) → wpAny (model prog w) A (Builtin.SmallTypes.nextOf (.ref it)) Q E s
theorem Src.list (it l : Addr) : Src it l (fun i h => h.IsListIter it l i) (fun xs h => h.IsList l xs) where
  obj := fun i h st => by
    obtain ⟨o, e, c, d⟩ := st
    exact ⟨o, e, fun v z => by rw [d] at z; cases z⟩
  fr := fun i h h' st k => st.at fun o e => k o e
  frS := fun xs h h' st k => st.at fun o e => k o e
  item := fun prog w A i s xs x Q E st hl hx hQ => wpAny_nextOf_list_item st hl hx hQ
  done := fun prog w A i s xs Q E hh st hl hx hE => wpAny_nextOf_list_end hh st hl hx hE
theorem Src.tuple (it l : Addr) : Src it l (fun i h => h.IsTupleIter it l i) (fun xs h => h.IsTuple l xs) where
  obj := fun i h st => by
    obtain ⟨o, e, c, d⟩ := st
    exact ⟨o, e, fun v z => by rw [d] at z; cases z⟩
  fr := fun i h h' ⟨o, e, r⟩ k => ⟨o, k o e, r⟩
  frS := fun xs h h' ⟨o, e, r⟩ k => ⟨o, k o e, r⟩
  item := fun prog w A i s xs x Q E st hl hx hQ => nextOf_tuple_item st hl hx hQ
  done := fun prog w A i s xs Q E hh st hl hx hE => nextOf_tuple_end hh st hl hx hE

section
variable {prog : Program} {w : World} {A : Around} {E : Value → Shared → Prop} {s : Shared} {z TI TO i1 i2 l1 l2 : Addr} {IT1 IT2 : Nat → Heap → Prop} {SL1 SL2 : Array Value → Heap → Prop} {k : Nat} {xs ys : Array Value} {x y a b : Value}

theorem Src.bt {it l c : Addr} {IT : Nat → Heap → Prop} {SL : Array Value → Heap → Prop} (S : Src it l IT SL) {i : Nat} {h h' : Heap} (st : IT i h) (hs : Heap.SameBut c h h') (n : it ≠ c) : IT i h' := S.fr i h h' st fun o e => hs.extBut _ _ n e
theorem Src.bs {it l c : Addr} {IT : Nat → Heap → Prop} {SL : Array Value → Heap → Prop} (S : Src it l IT SL) {xs : Array Value} {h h' : Heap} (st : SL xs h) (hs : Heap.SameBut c h h') (n : l ≠ c) : SL xs h' := S.frS xs h h' st fun o e => hs.extBut _ _ n e

theorem zipS_item {Q : Value → Shared → Prop} (D : ZipApart z TI TO i1 i2 l1 l2) (S1 : Src i1 l1 IT1 SL1) (S2 : Src i2 l2 IT2 SL2)
    (hz : IsZip s.heap z TI TO .none) (hTI : IsPair s.heap TI (.ref i1) (.ref i2)) (hTO : IsPair s.heap TO a b)
    (h1 : IT1 k s.heap) (h2 : IT2 k s.heap) (hl1 : SL1 xs s.heap) (hl2 : SL2 ys s.heap) (hx : xs[k]? = some x) (hy : ys[k]? = some y)
    (hQ : ∀ h', IsZip h' z TI TO (rawInt s.heap.objs.size) → IsPair h' TO x y → IT1 (k + 1) h' → IT2 (k + 1) h' → IsPair h' s.heap.objs.size x y → h'.objs.size = s.heap.objs.size + 1 →
      (∀ c o, c ≠ z → c ≠ TO → c ≠ i1 → c ≠ i2 → s.heap.get? c = some o → h'.get? c = some o) → Q (.ref s.heap.objs.size) { s with heap := h' }) :
    wpAny (model prog w) A (Builtin.«zip.__next__» ⟨[.ref z], []⟩) (fun fin s' => ∃ v, fin = .done (.ret v) ∧ Q v s') E s := by
  show wpAny _ _ (field (.ref z) 2 >>= _) _ _ _
  refine wpAny_bind (wpAny_field hz rfl (x := .bool false) rfl ?_)
  show wpAny _ _ (field (.ref z) 3 >>= _) _ _ _
  refine wpAny_bind (wpAny_field hz rfl (x := .ref TI) rfl ?_)
  refine wpAny_bind (wpAny_seqItems hTI rfl ?_)
  show wpAny _ _ (Builtin.SmallTypes.ownedTupleIsFree (.ref z) >>= _) _ _ _
  refine wpAny_bind ?_
  unfold Builtin.SmallTypes.ownedTupleIsFree
  refine wpAny_bind (wpAny_field hz rfl (x := .none) rfl (wpAny_pure ?_))
  simp only [if_true]
  refine wpAny_bind (wpAny_rule ?_)
  refine wpAny_bind (wpAny_field hz rfl (x := .ref TO) rfl ?_)
  refine wpAny_bind (wpAny_setField_rec hz (by simp) fun h₁ hz₁ hs₁ => ?_)
  replace hz₁ : IsZip h₁ z TI TO .ellipsis := hz₁
  refine wpAny_bind ?_
  simp only [List.zipIdx_cons, List.zipIdx_nil, List.forIn_cons, List.forIn_nil]
  refine wpAny_bind (wpAny_bind (wpAny_onRaise ?_))
  show wpAny _ _ (Builtin.SmallTypes.nextOf (.ref i1) >>= _) _ _ _
  refine wpAny_bind (S1.item _ _ _ k _ xs x _ _ (S1.bt h1 hs₁ D.i1z) (S1.bs hl1 hs₁ D.l1z) hx fun h₂ h1₂ hs₂ => wpAny_pure ?_)
  have hTO₂ : IsPair h₂ TO a b := hs₂.extBut _ _ D.TOi1 (hs₁.extBut _ _ D.TOz hTO)
  refine wpAny_bind (wpAny_seqItems hTO₂ rfl ?_)
  refine wpAny_bind (wpAny_updateSeq_pair hTO₂ fun h₃ hTO₃ hs₃ => ?_)
  replace hTO₃ : IsPair h₃ TO x b := hTO₃
  refine wpAny_bind (wpAny_letGo (wpAny_pure ?_))
  refine wpAny_bind (wpAny_bind (wpAny_onRaise ?_))
  show wpAny _ _ (Builtin.SmallTypes.nextOf (.ref i2) >>= _) _ _ _
  refine wpAny_bind (S2.item _ _ _ k _ ys y _ _ (S2.bt (S2.bt (S2.bt h2 hs₁ D.i2z) hs₂ D.i12.symm) hs₃ D.TOi2.symm)
    (S2.bs (S2.bs (S2.bs hl2 hs₁ D.l2z) hs₂ D.l2i1) hs₃ D.l2TO) hy fun h₄ h2₄ hs₄ => wpAny_pure ?_)
  have hTO₄ : IsPair h₄ TO x b := hs₄.extBut _ _ D.TOi2 hTO₃
  refine wpAny_bind (wpAny_seqItems hTO₄ rfl ?_)
  refine wpAny_bind (wpAny_updateSeq_pair hTO₄ fun h₅ hTO₅ hs₅ => ?_)
  replace hTO₅ : IsPair h₅ TO x y := hTO₅
  refine wpAny_bind (wpAny_letGo (wpAny_pure (wpAny_pure ?_)))
  refine wpAny_bind (wpAny_seqItems hTO₅ rfl ?_)
  refine wpAny_bind (wpAny_newTuple ?_)
  have hsz : h₅.objs.size = s.heap.objs.size := by rw [hs₅.1, hs₄.1, hs₃.1, hs₂.1, hs₁.1]
  have hz₅ : IsZip h₅ z TI TO .ellipsis := hs₅.extBut _ _ D.TOz.symm (hs₄.extBut _ _ D.i2z.symm (hs₃.extBut _ _ D.TOz.symm (hs₂.extBut _ _ D.i1z.symm hz₁)))
  have hk₅ : ∀ c o, c ≠ z → c ≠ TO → c ≠ i1 → c ≠ i2 → s.heap.get? c = some o → h₅.get? c = some o := fun c o c1 c2 c3 c4 e =>
    hs₅.extBut _ _ c2 (hs₄.extBut _ _ c4 (hs₃.extBut _ _ c2 (hs₂.extBut _ _ c3 (hs₁.extBut _ _ c1 e))))
  have h1₅ : IT1 (k + 1) h₅ := S1.bt (S1.bt (S1.bt h1₂ hs₃ D.TOi1.symm) hs₄ D.i12) hs₅ D.TOi1.symm
  have h2₅ : IT2 (k + 1) h₅ := S2.bt h2₄ hs₅ D.TOi2.symm
  have hzlt : z < h₅.objs.size := Heap.lt_size hz₅
  have hTOlt : TO < h₅.objs.size := Heap.lt_size hTO₅
  show wpAny _ _ (Builtin.SmallTypes.ownedTupleHandOut (.ref z) (.ref h₅.objs.size) >>= _) _ _ _
  refine wpAny_bind ?_
  unfold Builtin.SmallTypes.ownedTupleHandOut
  have hz₆ : IsZip (h₅.push { cls := .type "tuple", data := .seq #[x, y] }) z TI TO .ellipsis := Heap.get?_push_of_some _ hz₅
  refine wpAny_bind (wpAny_setField_rec hz₆ (by simp) fun h₇ hz₇ hs₇ => ?_)
  replace hz₇ : IsZip h₇ z TI TO (rawInt h₅.objs.size) := hz₇
  refine wpAny_setField_rec hz₇ (by simp) fun h₈ hz₈ hs₈ => ?_
  replace hz₈ : IsZip h₈ z TI TO (rawInt h₅.objs.size) := hz₈
  have up : ∀ c o, c ≠ z → h₅.get? c = some o → h₈.get? c = some o := fun c o c1 e => hs₈.extBut _ _ c1 (hs₇.extBut _ _ c1 (Heap.get?_push_of_some _ e))
  have hT₈ : IsPair h₈ h₅.objs.size x y := hs₈.extBut _ _ (Nat.ne_of_gt hzlt) (hs₇.extBut _ _ (Nat.ne_of_gt hzlt) (Heap.get?_push_size _ rfl))
  have hz8 : h₈.objs.size = h₅.objs.size + 1 := by rw [hs₈.1, hs₇.1, Heap.size_push]
  rw [hsz] at hz₈ hT₈ hz8
  refine wpAny_pure ⟨_, rfl, ?_⟩
  show Q (.ref h₅.objs.size) _
  rw [hsz]
  exact hQ h₈ hz₈ (up _ _ D.TOz hTO₅) (S1.fr _ _ _ h1₅ fun o e => up _ o D.i1z e) (S2.fr _ _ _ h2₅ fun o e => up _ o D.i2z e) hT₈ hz8 fun c o c1 c2 c3 c4 e => up c o c1 (hk₅ c o c1 c2 c3 c4 e)

theorem zipS_end {Q : Fin → Shared → Prop} (hh : A.handled = none) (D : ZipApart z TI TO i1 i2 l1 l2) (S1 : Src i1 l1 IT1 SL1) (S2 : Src i2 l2 IT2 SL2)
    (hz : IsZip s.heap z TI TO .none) (hTI : IsPair s.heap TI (.ref i1) (.ref i2)) (hTO : IsPair s.heap TO a b)
    (h1 : IT1 k s.heap) (h2 : IT2 k s.heap) (hl1 : SL1 xs s.heap) (hl2 : SL2 ys s.heap) (hend : xs[k]? = none ∨ ys[k]? = none)
    (hE : ∀ h' e, (∀ c o, c ≠ z → c ≠ TO → c ≠ i1 → c ≠ i2 → s.heap.get? c = some o → h'.get? c = some o) → (∃ o, h'.get? e = some o ∧ o.cls = .type "StopIteration") → E (.ref e) { s with heap := h' }) :
    wpAny (model prog w) A (Builtin.«zip.__next__» ⟨[.ref z], []⟩) Q E s := by
  show wpAny _ _ (field (.ref z) 2 >>= _) _ _ _
  refine wpAny_bind (wpAny_field hz rfl (x := .bool false) rfl ?_)
  show wpAny _ _ (field (.ref z) 3 >>= _) _ _ _
  refine wpAny_bind (wpAny_field hz rfl (x := .ref TI) rfl ?_)
  refine wpAny_bind (wpAny_seqItems hTI rfl ?_)
  show wpAny _ _ (Builtin.SmallTypes.ownedTupleIsFree (.ref z) >>= _) _ _ _
  refine wpAny_bind ?_
  unfold Builtin.SmallTypes.ownedTupleIsFree
  refine wpAny_bind (wpAny_field hz rfl (x := .none) rfl (wpAny_pure ?_))
  simp only [if_true]
  refine wpAny_bind (wpAny_rule ?_)
  refine wpAny_bind (wpAny_field hz rfl (x := .ref TO) rfl ?_)
  refine wpAny_bind (wpAny_setField_rec hz (by simp) fun h₁ hz₁ hs₁ => ?_)
  replace hz₁ : IsZip h₁ z TI TO .ellipsis := hz₁
  refine wpAny_bind ?_
  simp only [List.zipIdx_cons, List.zipIdx_nil, List.forIn_cons, List.forIn_nil]
  refine wpAny_bind (wpAny_bind (wpAny_onRaise ?_))
  show wpAny _ _ (Builtin.SmallTypes.nextOf (.ref i1) >>= _) _ _ _
  cases hx : xs[k]? with
  | none =>
    refine wpAny_bind (S1.done _ _ _ k _ xs _ _ hh (S1.bt h1 hs₁ D.i1z) (S1.bs hl1 hs₁ D.l1z) hx fun h₂ e hs₂ he => ?_)
    obtain ⟨oe, hoe, hce⟩ := he
    have hz₂ : IsZip h₂ z TI TO .ellipsis := hs₂ _ _ D.i1z.symm hz₁
    have hez : e ≠ z := fun x => by subst x; rw [hz₂] at hoe; cases hoe; simp at hce
    refine wpAny_setField_rec hz₂ (by simp) fun h₃ _ hs₃ => hE h₃ e (fun c o c1 _ c3 _ x => hs₃.extBut _ _ c1 (hs₂ _ _ c3 (hs₁.extBut _ _ c1 x))) ⟨oe, hs₃.extBut _ _ hez hoe, hce⟩
  | some x =>
    have hy : ys[k]? = none := by rcases hend with h | h; rw [hx] at h; cases h; exact h
    refine wpAny_bind (S1.item _ _ _ k _ xs x _ _ (S1.bt h1 hs₁ D.i1z) (S1.bs hl1 hs₁ D.l1z) hx fun h₂ h1₂ hs₂ => wpAny_pure ?_)
    have hTO₂ : IsPair h₂ TO a b := hs₂.extBut _ _ D.TOi1 (hs₁.extBut _ _ D.TOz hTO)
    refine wpAny_bind (wpAny_seqItems hTO₂ rfl ?_)
    refine wpAny_bind (wpAny_updateSeq_pair hTO₂ fun h₃ hTO₃ hs₃ => ?_)
    refine wpAny_bind (wpAny_letGo (wpAny_pure ?_))
    refine wpAny_bind (wpAny_bind (wpAny_onRaise ?_))
    show wpAny _ _ (Builtin.SmallTypes.nextOf (.ref i2) >>= _) _ _ _
    refine wpAny_bind (S2.done _ _ _ k _ ys _ _ hh (S2.bt (S2.bt (S2.bt h2 hs₁ D.i2z) hs₂ D.i12.symm) hs₃ D.TOi2.symm)
      (S2.bs (S2.bs (S2.bs hl2 hs₁ D.l2z) hs₂ D.l2i1) hs₃ D.l2TO) hy fun h₄ e hs₄ he => ?_)
    obtain ⟨oe, hoe, hce⟩ := he
    have hz₄ : IsZip h₄ z TI TO .ellipsis := hs₄ _ _ D.i2z.symm (hs₃.extBut _ _ D.TOz.symm (hs₂.extBut _ _ D.i1z.symm hz₁))
    have hez : e ≠ z := fun x => by subst x; rw [hz₄] at hoe; cases hoe; simp at hce
    refine wpAny_setField_rec hz₄ (by simp) fun h₅ _ hs₅ => hE h₅ e (fun c o c1 c2 c3 c4 x => hs₅.extBut _ _ c1 (hs₄ _ _ c4 (hs₃.extBut _ _ c2 (hs₂.extBut _ _ c3 (hs₁.extBut _ _ c1 x))))) ⟨oe, hs₅.extBut _ _ hez hoe, hce⟩

theorem pyNext_zipS_item {Q : Option Value → Shared → Prop} (D : ZipApart z TI TO i1 i2 l1 l2) (S1 : Src i1 l1 IT1 SL1) (S2 : Src i2 l2 IT2 SL2)
    (hz : IsZip s.heap z TI TO .none) (hTI : IsPair s.heap TI (.ref i1) (.ref i2)) (hTO : IsPair s.heap TO a b)
    (h1 : IT1 k s.heap) (h2 : IT2 k s.heap) (hl1 : SL1 xs s.heap) (hl2 : SL2 ys s.heap) (hx : xs[k]? = some x) (hy : ys[k]? = some y)
    (hQ : ∀ h', IsZip h' z TI TO (rawInt s.heap.objs.size) → IsPair h' TO x y → IT1 (k + 1) h' → IT2 (k + 1) h' → IsPair h' s.heap.objs.size x y → h'.objs.size = s.heap.objs.size + 1 →
      (∀ c o, c ≠ z → c ≠ TO → c ≠ i1 → c ≠ i2 → s.heap.get? c = some o → h'.get? c = some o) → Q (some (.ref s.heap.objs.size)) { s with heap := h' }) :
    wpAny (model prog w) A (pyNext (.ref z)) Q E s := by
  have hT : s.TypeIs (.ref z) "zip" := ⟨_, hz, rfl⟩
  unfold pyNext
  exact wpAny_bind (wpAny_attempt (wpAny_callSpecial?_slot (name := Str.ofString "__next__") hT F.slot_zip_next
    (wpAny_call_entry F.slot_zip_next hT F.entry_zip_next
      (zipS_item D S1 S2 hz hTI hTO h1 h2 hl1 hl2 hx hy fun h' a1 a2 a3 a4 a5 a6 a7 => wpAny_pure (hQ h' a1 a2 a3 a4 a5 a6 a7)) (F.args_zip_next_1 _))))
theorem pyNext_zipS_end {Q : Option Value → Shared → Prop} (hh : A.handled = none) (D : ZipApart z TI TO i1 i2 l1 l2) (S1 : Src i1 l1 IT1 SL1) (S2 : Src i2 l2 IT2 SL2)
    (hz : IsZip s.heap z TI TO .none) (hTI : IsPair s.heap TI (.ref i1) (.ref i2)) (hTO : IsPair s.heap TO a b)
    (h1 : IT1 k s.heap) (h2 : IT2 k s.heap) (hl1 : SL1 xs s.heap) (hl2 : SL2 ys s.heap) (hend : xs[k]? = none ∨ ys[k]? = none)
    (hQ : ∀ h', (∀ c o, c ≠ z → c ≠ TO → c ≠ i1 → c ≠ i2 → s.heap.get? c = some o → h'.get? c = some o) → Q none { s with heap := h' }) : wpAny (model prog w) A (pyNext (.ref z)) Q E s := by
  have hT : s.TypeIs (.ref z) "zip" := ⟨_, hz, rfl⟩
  unfold pyNext
  refine wpAny_bind (wpAny_attempt (wpAny_callSpecial?_slot (name := Str.ofString "__next__") hT F.slot_zip_next
    (wpAny_call_entry F.slot_zip_next hT F.entry_zip_next (zipS_end hh D S1 S2 hz hTI hTO h1 h2 hl1 hl2 hend fun h' e hk he => ?_) (F.args_zip_next_1 _))))
  obtain ⟨o, ho, hc⟩ := he
  refine wpAny_bind (wpAny_isInstance (T := "StopIteration") (b := true) ⟨o, ho, hc⟩ isSubtype_stop ?_)
  exact wpAny_pure (hQ _ hk)
end

/-! ### zip over two lists, or two tuples -/
def Itz (S1 S2 : Hp → List V → Prop) : It :=
  ⟨fun i H => ∃ xs ys u v, S1 H xs ∧ S2 H ys ∧ xs[i]? = some u ∧ ys[i]? = some v,
   fun i H x H' => ∃ T u v, x = .ref T ∧ H T = none ∧ H' = upd H T (.tup [u, v]) ∧ ∀ xs ys, S1 H xs → S2 H ys → xs[i]? = some u ∧ ys[i]? = some v,
   fun i H => ∃ xs ys, S1 H xs ∧ S2 H ys ∧ (xs.length ≤ i ∨ ys.length ≤ i)⟩
/-- what the source is, by the abstract heap -/
structure SrcV (K : PySem.W.Frag) (SL : Array Value → Heap → Prop) (SV : Hp → List V → Prop) : Prop where
  val : ∀ (X : Cx), X.K = K → ∀ (pins : List (Addr × Obj)) (σ : St) (H : Hp) (s : Shared) (xs : List V), Inv X pins σ H s → SV H xs → ∃ its : List Value, Vals xs its ∧ SL its.toArray s.heap
  inj : ∀ (X : Cx), X.K = K → ∀ (pins : List (Addr × Obj)) (σ : St) (H : Hp) (s : Shared) (xs ys : List V), Inv X pins σ H s → SV H xs → SV H ys → xs = ys
theorem SrcV.list (K : PySem.W.Frag) (l : Addr) : SrcV K (fun xs h => h.IsList l xs) (fun H xs => SqL K H l xs) where
  val := fun X hK pins σ H s xs I h => by
    subst hK
    obtain ⟨its, rv, p, _⟩ := I.list h
    exact ⟨its, rv, p.isList⟩
  inj := fun X hK pins σ H s xs ys I h h' => by
    subst hK
    exact I.list_inj h h'
theorem SrcV.tuple (K : PySem.W.Frag) (l : Addr) : SrcV K (fun xs h => h.IsTuple l xs) (fun H xs => SqT K H l xs) where
  val := fun X hK pins σ H s xs I h => by
    subst hK
    obtain ⟨its, rv, p, _⟩ := I.tuple h
    exact ⟨its, rv, p⟩
  inj := fun X hK pins σ H s xs ys I h h' => by
    subst hK
    exact I.tuple_inj h h'
theorem turn_zip {P : Program} {w : World} {K : PySem.W.Frag} {es : List Expr} {kk : Nat} {pos : Pos} {z TI TO i1 i2 l1 l2 : Addr} {IT1 IT2 : Nat → Heap → Prop} {SL1 SL2 : Array Value → Heap → Prop} {SV1 SV2 : Hp → List V → Prop}
    (D : ZipApart z TI TO i1 i2 l1 l2) (S1 : Src i1 l1 IT1 SL1) (S2 : Src i2 l2 IT2 SL2) (V1 : SrcV K SL1 SV1) (V2 : SrcV K SL2 SV2) :
    Turn P w K (.Tuple es kk pos) (Itz SV1 SV2) [z, TI, TO, i1, i2] z (fun i h => IsZip h z TI TO .none ∧ IsPair h TI (.ref i1) (.ref i2) ∧ (∃ a b, IsPair h TO a b) ∧ IT1 i h ∧ IT2 i h) where
  mem := by simp
  obj := fun i h st b hb => by
    obtain ⟨hz, hTI, ⟨a, c, hTO⟩, h1, h2⟩ := st
    simp only [List.mem_cons, List.not_mem_nil, or_false] at hb
    rcases hb with rfl | rfl | rfl | rfl | rfl
    · exact ⟨_, hz, fun v e => by cases e⟩
    · exact ⟨_, hTI, fun v e => by cases e⟩
    · exact ⟨_, hTO, fun v e => by cases e⟩
    · exact S1.obj _ _ h1
    · exact S2.obj _ _ h2
  keep := fun i h h' st k => by
    obtain ⟨hz, hTI, ⟨a, c, hTO⟩, h1, h2⟩ := st
    exact ⟨k z (by simp) _ hz, k TI (by simp) _ hTI, ⟨a, c, k TO (by simp) _ hTO⟩, S1.fr _ _ _ h1 fun o e => k i1 (by simp) o e, S2.fr _ _ _ h2 fun o e => k i2 (by simp) o e⟩
  item := by
    intro X hP hw hK hc i pins s σ H E I hf st hg
    obtain ⟨xs, ys, u, v, q1, q2, e1, e2⟩ := hg
    obtain ⟨its, rv, p1⟩ := V1.val X hK pins σ H s xs I q1
    obtain ⟨jts, rw', p2⟩ := V2.val X hK pins σ H s ys I q2
    obtain ⟨a1, b1, r1⟩ := rv.get e1
    obtain ⟨a2, b2, r2⟩ := rw'.get e2
    obtain ⟨hz, hTI, ⟨a, c, hTO⟩, h1, h2⟩ := id st
    subst hP hw
    refine pyNext_zipS_item D S1 S2 hz hTI hTO h1 h2 p1 p2 (x := a1) (y := a2) (by simpa using b1) (by simpa using b2) fun h' g1 g2 g3 g4 g5 g6 g7 => ?_
    refine ⟨_, rfl, wpAny_letOwnedTupleGo_zip g1 fun h'' g1' hs' => ?_⟩
    have ne : ∀ {b : Addr} {o : Obj}, s.heap.get? b = some o → s.heap.objs.size ≠ b := fun e => Nat.ne_of_gt (Heap.lt_size e)
    have kk : ∀ b o, b ∉ [z, TO, i1, i2] → s.heap.get? b = some o → h''.get? b = some o := fun b o hb e => by
      simp only [List.mem_cons, List.not_mem_nil, or_false, not_or] at hb
      exact hs'.extBut _ _ hb.1 (g7 b o hb.1 hb.2.1 hb.2.2.1 hb.2.2.2 e)
    have hT : h''.get? s.heap.objs.size = some { cls := .type "tuple", data := .seq #[a1, a2] } := hs'.extBut _ _ (ne hz) g5
    have hch : ∀ b ∈ [z, TO, i1, i2], FpOk X pins H b := fun b hb => hf b (by
      simp only [List.mem_cons, List.not_mem_nil, or_false] at hb ⊢
      rcases hb with rfl | rfl | rfl | rfl <;> simp)
    have new : ObjOk X.prog X.w (upd H s.heap.objs.size (.tup [u, v])) h'' s.heap.objs.size (.tup [u, v]) :=
      ⟨by show 2 ≤ sizeLine; decide, [a1, a2], .cons r1 (.cons r2 .nil), _, hT, rfl, _, rfl⟩
    have I1 : Inv X pins σ (upd H s.heap.objs.size (.tup [u, v])) { s with heap := h'', toks := s.toks } := I.chgLaid hch kk (Nat.le_refl _) new
    have hn : H s.heap.objs.size = none := I.hok.fresh (Nat.le_refl _)
    refine ⟨.ref s.heap.objs.size, _, I1, rfl, ⟨_, u, v, rfl, hn, rfl, fun xs' ys' w1 w2 => ?_⟩, ⟨g1', ?_, ⟨a1, a2, hs'.extBut _ _ D.TOz g2⟩, S1.bt g3 hs' D.i1z, S2.bt g4 hs' D.i2z⟩, fun b hb => ?_⟩
    · rw [V1.inj X hK pins σ H s xs' xs I w1 q1, V2.inj X hK pins σ H s ys' ys I w2 q2]
      exact ⟨e1, e2⟩
    · exact kk TI _ (by simp only [List.mem_cons, List.not_mem_nil, or_false, not_or]; exact ⟨D.TIz, D.TITO, D.TIi1, D.TIi2⟩) hTI
    · obtain ⟨o, ho, _⟩ := (show ∃ o, s.heap.get? b = some o ∧ ∀ v, o.data ≠ .cell v from by
        simp only [List.mem_cons, List.not_mem_nil, or_false] at hb
        rcases hb with rfl | rfl | rfl | rfl | rfl
        · exact ⟨_, hz, fun v e => by cases e⟩
        · exact ⟨_, hTI, fun v e => by cases e⟩
        · exact ⟨_, hTO, fun v e => by cases e⟩
        · exact S1.obj _ _ h1
        · exact S2.obj _ _ h2)
      rw [upd_ne (Ne.symm (ne ho))]
      exact (hf b hb).1
  done := by
    intro X hP hw hK hc i pins s σ H E I hf st hg
    obtain ⟨xs, ys, q1, q2, e⟩ := hg
    obtain ⟨its, rv, p1⟩ := V1.val X hK pins σ H s xs I q1
    obtain ⟨jts, rw', p2⟩ := V2.val X hK pins σ H s ys I q2
    have l1 := rv.length
    have l2 := rw'.length
    obtain ⟨hz, hTI, ⟨a, c, hTO⟩, h1, h2⟩ := id st
    subst hP hw
    refine pyNext_zipS_end (I.ok.hd hc) D S1 S2 hz hTI hTO h1 h2 p1 p2 (by simp; omega) fun h' g7 => ⟨rfl, ?_⟩
    have hch : ∀ b ∈ [z, TO, i1, i2], FpOk X pins H b := fun b hb => hf b (by
      simp only [List.mem_cons, List.not_mem_nil, or_false] at hb ⊢
      rcases hb with rfl | rfl | rfl | rfl <;> simp)
    exact I.chg (t' := s.toks) hch fun b o hb e => by
      simp only [List.mem_cons, List.not_mem_nil, or_false, not_or] at hb
      exact g7 b o hb.1 hb.2.1 hb.2.2.1 hb.2.2.2 e
  self := fun _ _ _ _ _ st h => wpAny_pyIter_zip st.1 h

/-! ### the call zip(a, b) -/
abbrev zipT1 (h : Heap) (l1 : Addr) : Heap := h.push { cls := .type "tuple_iterator", data := .fields #[.ref l1, .int 0 0] }
abbrev zipT2 (h : Heap) (l1 l2 : Addr) : Heap := (zipT1 h l1).push { cls := .type "tuple_iterator", data := .fields #[.ref l2, .int 0 0] }
abbrev zipT3 (h : Heap) (l1 l2 : Addr) : Heap := (zipT2 h l1 l2).push { cls := .type "tuple", data := .seq #[.ref h.objs.size, .ref (zipT1 h l1).objs.size] }
abbrev zipT4 (h : Heap) (l1 l2 : Addr) : Heap := (zipT3 h l1 l2).push { cls := .type "tuple", data := .seq #[.none, .none] }
abbrev zipT5 (h : Heap) (l1 l2 : Addr) : Heap := (zipT4 h l1 l2).push { cls := .type "zip", data := .fields #[.none, .bool false, .bool false, .ref (zipT2 h l1 l2).objs.size, .ref (zipT3 h l1 l2).objs.size] }
theorem meets_zipT (l1 l2 : Addr) (xs ys : Array Value) :
    Meets (Builtin.«zip.__new__» ⟨[.type "zip", .ref l1, .ref l2], []⟩) (fun _ R s => s.heap.IsTuple l1 xs ∧ s.heap.IsTuple l2 ys ∧
      R (.ok (.ret (.ref (zipT4 s.heap l1 l2).objs.size))) { s with heap := zipT5 s.heap l1 l2 }) :=
  .of_wp fun prog w A R s h => by
    obtain ⟨hp, g, d, tk, os⟩ := s; obtain ⟨hl1, hl2, h⟩ := h
    have hsub := sub_zip
    have hL1 : Heap.IsTuple (Shared.heap ⟨hp, g, d, tk, os⟩) l1 xs := hl1
    have hL2 : Heap.IsTuple (Shared.heap ⟨hp.push { cls := .type "tuple_iterator", data := .fields #[.ref l1, .int 0 0] }, g, d, tk, os⟩) l2 ys := Heap.IsTuple.push hl2 _
    wp_walk using wpAny_pyIter_tuple hL1, wpAny_pyIter_tuple hL2
    exact ⟨_, rfl, h⟩
theorem call_zipT {prog : Program} {w : World} {A : Around} {E : Value → Shared → Prop} {s : Shared} {l1 l2 : Addr} {xs ys : Array Value} {Q : Value → Shared → Prop} (hl1 : s.heap.IsTuple l1 xs) (hl2 : s.heap.IsTuple l2 ys)
    (h : ∀ h', IsZip h' (s.heap.objs.size + 4) (s.heap.objs.size + 2) (s.heap.objs.size + 3) .none → IsPair h' (s.heap.objs.size + 2) (.ref s.heap.objs.size) (.ref (s.heap.objs.size + 1)) →
      IsPair h' (s.heap.objs.size + 3) .none .none → h'.IsTupleIter s.heap.objs.size l1 0 → h'.IsTupleIter (s.heap.objs.size + 1) l2 0 → h'.objs.size = s.heap.objs.size + 5 →
      (∀ c o, s.heap.get? c = some o → h'.get? c = some o) → Q (.ref (s.heap.objs.size + 4)) { s with heap := h' }) :
    wpAny (model prog w) A (call (.type "zip") [.ref l1, .ref l2]) Q E s := by
  refine callType_new F.called_zip (by decide) (F.typeCall_zip_2 _ _) (F.newCall_zip_2 _ _) (fun obj => F.args_object_init_3 obj _ _) F.entry_zip_new
    (meets_zipT l1 l2 xs ys) ⟨hl1, hl2, ?_⟩
  have z1 : (zipT1 s.heap l1).objs.size = s.heap.objs.size + 1 := Heap.size_push ..
  have z2 : (zipT2 s.heap l1 l2).objs.size = s.heap.objs.size + 2 := by rw [Heap.size_push, z1]
  have z3 : (zipT3 s.heap l1 l2).objs.size = s.heap.objs.size + 3 := by rw [Heap.size_push, z2]
  have z4 : (zipT4 s.heap l1 l2).objs.size = s.heap.objs.size + 4 := by rw [Heap.size_push, z3]
  have z5 : (zipT5 s.heap l1 l2).objs.size = s.heap.objs.size + 5 := by rw [Heap.size_push, z4]
  have g5 : (zipT5 s.heap l1 l2).get? (zipT4 s.heap l1 l2).objs.size = some _ := Heap.get?_push_size _ rfl
  have g4 : (zipT5 s.heap l1 l2).get? (zipT3 s.heap l1 l2).objs.size = some _ := Heap.get?_push_of_some _ (Heap.get?_push_size _ rfl)
  have g3 : (zipT5 s.heap l1 l2).get? (zipT2 s.heap l1 l2).objs.size = some _ := Heap.get?_push_of_some _ (Heap.get?_push_of_some _ (Heap.get?_push_size _ rfl))
  have g2 : (zipT5 s.heap l1 l2).get? (zipT1 s.heap l1).objs.size = some _ := Heap.get?_push_of_some _ (Heap.get?_push_of_some _ (Heap.get?_push_of_some _ (Heap.get?_push_size _ rfl)))
  have g1 : (zipT5 s.heap l1 l2).get? s.heap.objs.size = some _ := Heap.get?_push_of_some _ (Heap.get?_push_of_some _ (Heap.get?_push_of_some _ (Heap.get?_push_of_some _ (Heap.get?_push_size _ rfl))))
  show _ ∧ _
  rw [z2, z3, z4] at g5
  rw [z1, z2] at g3
  rw [z3] at g4
  rw [z1] at g2
  rw [z4]
  exact ⟨⟨_, g5, rfl⟩, h _ g5 g3 g4 ⟨_, g1, rfl, rfl⟩ ⟨_, g2, rfl, rfl⟩ z5 fun c o x =>
    Heap.get?_push_of_some _ (Heap.get?_push_of_some _ (Heap.get?_push_of_some _ (Heap.get?_push_of_some _ (Heap.get?_push_of_some _ x))))⟩

section
variable {X : Cx} {es : List Expr} {kk : Nat} {tpos : Pos}
theorem zip_apart {n l1 l2 : Nat} (h1 : l1 < n) (h2 : l2 < n) : ZipApart (n + 4) (n + 2) (n + 3) n (n + 1) l1 l2 := by
  refine ⟨?_, ?_, ?_, ?_, ?_, ?_, ?_, ?_, ?_, ?_, ?_, ?_, ?_, ?_, ?_, ?_, ?_, ?_⟩
  all_goals intro e
  · have e' : (n + 2 : Nat) = n + 4 := e; omega
  · have e' : (n + 3 : Nat) = n + 4 := e; omega
  · have e' : (n : Nat) = n + 4 := e; omega
  · have e' : (n + 1 : Nat) = n + 4 := e; omega
  · have e' : (n + 2 : Nat) = n + 3 := e; omega
  · have e' : (n + 2 : Nat) = n := e; omega
  · have e' : (n + 2 : Nat) = n + 1 := e; omega
  · have e' : (n + 3 : Nat) = n := e; omega
  · have e' : (n + 3 : Nat) = n + 1 := e; omega
  · have e' : (n : Nat) = n + 1 := e; omega
  · have e' : (l1 : Nat) = n + 4 := e; omega
  · have e' : (l1 : Nat) = n + 3 := e; omega
  · have e' : (l1 : Nat) = n := e; omega
  · have e' : (l1 : Nat) = n + 1 := e; omega
  · have e' : (l2 : Nat) = n + 4 := e; omega
  · have e' : (l2 : Nat) = n + 3 := e; omega
  · have e' : (l2 : Nat) = n := e; omega
  · have e' : (l2 : Nat) = n + 1 := e; omega
/-- zip of two lists, of two tuples -/
def iZip (K : PySem.W.Frag) (ta : TA) : TI := fun σ H R => ta σ H fun vs H1 => ∃ a b, vs = [.ref a, .ref b] ∧
  ((∃ xs ys, SqL K H1 a xs ∧ SqL K H1 b ys ∧ R (Itz (fun H xs => SqL K H a xs) (fun H ys => SqL K H b ys)) H1) ∨
   (∃ xs ys, SqT K H1 a xs ∧ SqT K H1 b ys ∧ R (Itz (fun H xs => SqT K H a xs) (fun H ys => SqT K H b ys)) H1))
theorem pi_zip {a b : Expr} {ta : TA} {p pos : Pos} (hg : Gl X "zip") (hm : X.mg "zip" = none) (ha : PA X [a, b] ta) (hs : starEach [a, b] X.env = [(false, eval a X.env), (false, eval b X.env)] := by rfl) (hs2 : starEach [b] X.env = [(false, eval b X.env)] := by rfl)
    (hv : bootBuiltins "zip" = some (.type "zip") := by first | rfl | decide +kernel) :
    PI X (.Tuple es kk tpos) (.Call (.Name "zip" p) [a, b] [] pos) (iZip X.K ta) := by
  intro pins s σ H R I h
  refine Call_ (ld_blt I hg hm hv (PyProof.Rows.callWith_type1 (thn (ha pos pins s σ H _ I h) fun us s1 ⟨vs, H1, I1, r1, q1⟩ => ?_) (by rw [hs, hs2]) (by rw [hs2]; rfl)))
  obtain ⟨l1, l2, e, q⟩ := q1
  subst e
  obtain ⟨u1, u2, rfl, e1, e2⟩ := vals2 r1
  cases e1
  cases e2
  have fp : ∀ (h' : Heap) (H' : Hp), (∀ b, s1.heap.objs.size ≤ b → H' b = none) → ∀ b ∈ [s1.heap.objs.size + 4, s1.heap.objs.size + 2, s1.heap.objs.size + 3, s1.heap.objs.size, s1.heap.objs.size + 1], FpOk X pins H' b := fun h' H' hn b hb => by
    simp only [List.mem_cons, List.not_mem_nil, or_false] at hb
    have hle : s1.heap.objs.size ≤ b := by omega
    exact I1.fpOk hle (hn b hle)
  rcases q with ⟨xs, ys, q1, q2, q⟩ | ⟨xs, ys, q1, q2, q⟩
  · obtain ⟨its, rv, p1, _⟩ := I1.list q1
    obtain ⟨jts, rw', p2, _⟩ := I1.list q2
    have lt1 : l1 < s1.heap.objs.size := by obtain ⟨_, e, _⟩ := p1.isList; exact Heap.lt_size e
    have lt2 : l2 < s1.heap.objs.size := by obtain ⟨_, e, _⟩ := p2.isList; exact Heap.lt_size e
    refine call_zip_2 p1.isList p2.isList fun h' g1 g2 g3 g4 g5 g6 g7 => ?_
    refine wpAny_pyIter_zip g1 ?_
    exact ⟨_, _, _, _, H1, rfl, I1.kept (t' := s1.toks) g7, turn_zip (zip_apart lt1 lt2) (Src.list _ l1) (Src.list _ l2) (SrcV.list X.K l1) (SrcV.list X.K l2), ⟨g1, g2, ⟨_, _, g3⟩, g4, g5⟩, fp h' H1 fun b hb => I1.hok.fresh hb, q⟩
  · obtain ⟨its, rv, p1, _⟩ := I1.tuple q1
    obtain ⟨jts, rw', p2, _⟩ := I1.tuple q2
    have lt1 : l1 < s1.heap.objs.size := by obtain ⟨_, e, _⟩ := p1; exact Heap.lt_size e
    have lt2 : l2 < s1.heap.objs.size := by obtain ⟨_, e, _⟩ := p2; exact Heap.lt_size e
    refine call_zipT (show s1.heap.IsTuple l1 its.toArray from p1) (show s1.heap.IsTuple l2 jts.toArray from p2) fun h' g1 g2 g3 g4 g5 g6 g7 => ?_
    refine wpAny_pyIter_zip g1 ?_
    exact ⟨_, _, _, _, H1, rfl, I1.kept (t' := s1.toks) g7, turn_zip (zip_apart lt1 lt2) (Src.tuple _ l1) (Src.tuple _ l2) (SrcV.tuple X.K l1) (SrcV.tuple X.K l2), ⟨g1, g2, ⟨_, _, g3⟩, g4, g5⟩, fp h' H1 fun b hb => I1.hok.fresh hb, q⟩
end
end L2

namespace L2
open PySem PySem.Spec PyProof.Rows

/-! ### D. comprehensions: the block's scope -/
theorem relabel_free {env : Env} : ∀ {names : List (Str × NameKind)} {x : Str}, names.lookup x = some .free →
    (names.map fun (n, k) => if (k == NameKind.free && env.scope.kind == .function && env.kindOf n == some .cell) then (n, NameKind.cell) else (n, k)).lookup x = some .cell ∨
    (names.map fun (n, k) => if (k == NameKind.free && env.scope.kind == .function && env.kindOf n == some .cell) then (n, NameKind.cell) else (n, k)).lookup x = some .free
  | [], _, h => by simp at h
  | (n, k) :: r, x, h => by
    have ih := @relabel_free env r x
    show List.lookup x ((if (k == NameKind.free && env.scope.kind == .function && env.kindOf n == some .cell) = true then (n, NameKind.cell) else (n, k)) :: _) = _ ∨ List.lookup x ((if (k == NameKind.free && env.scope.kind == .function && env.kindOf n == some .cell) = true then (n, NameKind.cell) else (n, k)) :: _) = _
    cases hx : x == n with
    | true =>
      simp only [List.lookup_cons, hx] at h
      by_cases hc : (k == NameKind.free && env.scope.kind == .function && env.kindOf n == some .cell) = true
      · rw [if_pos hc]; left; simp only [List.lookup_cons, hx]
      · rw [if_neg hc]; right; simp only [List.lookup_cons, hx]; exact h
    | false =>
      simp only [List.lookup_cons, hx] at h
      by_cases hc : (k == NameKind.free && env.scope.kind == .function && env.kindOf n == some .cell) = true
      · rw [if_pos hc]; simp only [List.lookup_cons, hx]; exact ih h
      · rw [if_neg hc]; simp only [List.lookup_cons, hx]; exact ih h
theorem relabel_inv {env : Env} : ∀ {names : List (Str × NameKind)} {x : Str} {j : NameKind}, (j = .cell ∨ j = .free) →
    (names.map fun (n, k) => if (k == NameKind.free && env.scope.kind == .function && env.kindOf n == some .cell) then (n, NameKind.cell) else (n, k)).lookup x = some j → names.lookup x = some .cell ∨ names.lookup x = some .free
  | [], _, _, _, h => by simp at h
  | (n, k) :: r, x, j, hj, h => by
    have ih := @relabel_inv env r x j hj
    replace h : List.lookup x ((if (k == NameKind.free && env.scope.kind == .function && env.kindOf n == some .cell) = true then (n, NameKind.cell) else (n, k)) :: (r.map fun (n, k) => if (k == NameKind.free && env.scope.kind == .function && env.kindOf n == some .cell) then (n, NameKind.cell) else (n, k))) = some j := h
    cases hx : x == n with
    | true =>
      simp only [List.lookup_cons, hx]
      by_cases hc : (k == NameKind.free && env.scope.kind == .function && env.kindOf n == some .cell) = true
      · right
        simp only [Bool.and_eq_true] at hc
        exact congrArg some (beq_iff_eq.mp hc.1.1)
      · rw [if_neg hc] at h
        simp only [List.lookup_cons, hx] at h
        cases h
        rcases hj with rfl | rfl
        · exact .inl rfl
        · exact .inr rfl
    | false =>
      simp only [List.lookup_cons, hx]
      by_cases hc : (k == NameKind.free && env.scope.kind == .function && env.kindOf n == some .cell) = true
      · rw [if_pos hc] at h; simp only [List.lookup_cons, hx] at h; exact ih h
      · rw [if_neg hc] at h; simp only [List.lookup_cons, hx] at h; exact ih h

def clos (cells : List (Str × Addr)) : List (Str × NameKind) → List (Str × Addr) → List (Str × Addr)
  | [], acc => acc
  | (n, k) :: r, acc => clos cells r (if (k == NameKind.free) = true then (n, (cells.lookup n).getD 0) :: acc else acc)
theorem clos_loop {env : Env} : ∀ (names : List (Str × NameKind)) (acc : List (Str × Addr)), (∀ y ∈ names, y.2 = .free → ∃ c, env.cells.lookup y.1 = some c) →
    (forIn names acc (fun (x : Str × NameKind) (cs : List (Str × Addr)) => match x with | (name, kind) => if (kind == NameKind.free) = true then (do let a ← cellOf env name; pure (ForInStep.yield ((name, a) :: cs))) else pure (ForInStep.yield cs)) : Sem (List (Str × Addr))) = pure (clos env.cells names acc)
  | [], acc, _ => rfl
  | (n, k) :: r, acc, h => by
    rw [List.forIn_cons]
    have hr := fun acc => clos_loop r acc fun y hy => h y (List.mem_cons_of_mem _ hy)
    by_cases hk : (k == NameKind.free) = true
    · obtain ⟨c, hc⟩ := h (n, k) List.mem_cons_self (beq_iff_eq.mp hk)
      have e : cellOf env n = pure c := by unfold cellOf; rw [hc]
      simp only [hk, if_true, e, pure_bind, clos, hc, Option.getD_some]
      exact hr _
    · simp only [hk, if_false, pure_bind, clos]
      exact hr _
theorem closureFor_clos {scope : Scope} {env : Env} (h : ∀ y ∈ scope.names, y.2 = .free → ∃ c, env.cells.lookup y.1 = some c) : closureFor scope env = pure (clos env.cells scope.names []) := by
  have e := clos_loop scope.names [] h
  unfold closureFor
  simp only [e]
  first | rfl | simp
theorem clos_get {cells : List (Str × Addr)} {x : Str} : ∀ (names : List (Str × NameKind)) (acc : List (Str × Addr)), ((x, NameKind.free) ∈ names ∨ acc.lookup x = some ((cells.lookup x).getD 0)) →
    (clos cells names acc).lookup x = some ((cells.lookup x).getD 0)
  | [], acc, h => by
    rcases h with h | h
    · cases h
    · exact h
  | (n, k) :: r, acc, h => by
    unfold clos
    refine clos_get r _ ?_
    by_cases hk : (k == NameKind.free) = true
    · rw [if_pos hk]
      by_cases hx : x = n
      · right; subst hx; simp
      · rcases h with h | h
        · rcases List.mem_cons.mp h with e | e
          · cases e; exact absurd rfl hx
          · exact .inl e
        · right
          have hx' : (x == n) = false := by simpa using hx
          simp only [List.lookup_cons, hx']
          exact h
    · rw [if_neg hk]
      rcases h with h | h
      · rcases List.mem_cons.mp h with e | e
        · cases e; exact absurd rfl hk
        · exact .inl e
      · exact .inr h
theorem clos_inv {cells : List (Str × Addr)} {x : Str} {c : Addr} : ∀ (names : List (Str × NameKind)) (acc : List (Str × Addr)), (clos cells names acc).lookup x = some c →
    acc.lookup x = some c ∨ ((x, NameKind.free) ∈ names ∧ c = (cells.lookup x).getD 0)
  | [], acc, h => .inl h
  | (n, k) :: r, acc, h => by
    unfold clos at h
    rcases clos_inv r _ h with q | ⟨q, e⟩
    · by_cases hk : (k == NameKind.free) = true
      · rw [if_pos hk] at q
        cases hx : x == n with
        | true =>
          simp only [List.lookup_cons, hx] at q
          have hx' : x = n := by simpa using hx
          subst hx'
          have hk' : k = .free := beq_iff_eq.mp hk
          subst hk'
          exact .inr ⟨List.mem_cons_self, (Option.some.inj q).symm⟩
        | false =>
          simp only [List.lookup_cons, hx] at q
          exact .inl q
      · rw [if_neg hk] at q
        exact .inl q
    · exact .inr ⟨List.mem_cons_of_mem _ q, e⟩

/-- the scope of a block: its own names, and the names from around by their slots there -/
structure CompScope (N : List Str) (osc scope : Scope) (own : List Str) (fre : List (Nat × Str)) : Prop where
  kind : scope.kind = .function
  ocell : ∀ y ∈ scope.names, y.2 ≠ .cell
  locs : ∀ y ∈ scope.names, y.2 = .local → scope.names.lookup y.1 = some .local
  frees : ∀ y ∈ scope.names, y.2 = .free → osc.names.lookup y.1 = some .cell ∨ osc.names.lookup y.1 = some .free
  fres : ∀ p ∈ fre, N[p.1]? = some p.2 ∧ scope.names.lookup p.2 = some .free
def startC (n : Nat) (fre : List (Nat × Str)) (σ : St) : St := List.replicate n none ++ fre.map fun p => (σ[p.1]?).join
def cxC (X : Cx) (N' : List Str) (scope : Scope) (cl : List (Str × Addr)) (C : Addr) (s₂ : Shared) (H₂ : Hp) (fp : List Addr) : Cx where
  prog := X.prog
  w := X.w
  K := X.K
  mg := X.mg
  base := X.base
  A := X.A
  N := N'
  s₀ := s₂
  H₀ := H₂
  env := compEnvC scope cl C X.env
  outer := X.stack
  stack := X.stack
  ex := fp
  fn := fun _ => false
  calm := X.calm
  pn := []
  xe := fun _ _ => False

section
variable {X : Cx} {pins : List (Addr × Obj)} {σ : St} {H : Hp} {s : Shared} {scope : Scope} {own : List Str} {fre : List (Nat × Str)} {fp : List Addr} {C D : Addr} {h1 : Heap} {m : Str → Option Value}
theorem Inv.clos_cells (I : Inv X pins σ H s) (S : CompScope X.N X.env.scope scope own fre) : ∀ y ∈ scope.names, y.2 = .free → ∃ c, X.env.cells.lookup y.1 = some c := fun y hy e => I.ok.has y.1 (S.frees y hy e)
theorem Inv.clos_sub (I : Inv X pins σ H s) (S : CompScope X.N X.env.scope scope own fre) {x : Str} {c : Addr} (h : (clos X.env.cells scope.names []).lookup x = some c) : X.env.cells.lookup x = some c := by
  rcases clos_inv _ _ h with q | ⟨q, e⟩
  · cases q
  · obtain ⟨c', hc⟩ := I.clos_cells S _ q rfl
    rw [hc] at e ⊢
    exact congrArg some e.symm
theorem inv_comp {tk : Nat} (I : Inv X pins σ H s) (S : CompScope X.N X.env.scope scope own fre) (hfp : ∀ b ∈ fp, FpOk X pins H b) (hfo : ∀ b ∈ fp, ∃ o, s.heap.get? b = some o)
    (old : ∀ b o, s.heap.get? b = some o → h1.get? b = some o) (hC : s.heap.objs.size ≤ C) (hns : h1.Ns C m) (hD : s.heap.objs.size ≤ D) (hDC : D ≠ C) (hDo : h1.get? D = some (LCg.lst [])) :
    Inv (cxC X (own ++ fre.map (·.2)) scope (clos X.env.cells scope.names []) C s H fp) [(D, LCg.lst [])] (startC own.length fre σ) H { s with heap := h1, toks := tk } := by
  have sub := fun {x : Str} {c : Addr} => I.clos_sub (x := x) (c := c) S
  have lt : ∀ b ∈ fp, b < s.heap.objs.size := fun b hb => by obtain ⟨o, e⟩ := hfo b hb; exact Heap.lt_size e
  have clt : ∀ x c, X.env.cells.lookup x = some c → c < s.heap.objs.size := fun x c e => by obtain ⟨v, q⟩ := I.cell x c e; exact q.lt
  refine ⟨⟨I.ok.mod, S.kind, I.ok.glob, I.ok.blt, hC, fun x y c e1 e2 => I.ok.inj x y c (sub e1) (sub e2), fun x hx => ?_, fun x c z => absurd z (by show ¬ (false = true); decide), I.ok.hd, I.ok.frames, .inl rfl, fun b hb => ?_, I.bs, Nat.le_trans I.ok.bsz I.sz, fun b o e hb => ?_, fun b hb => ?_, I.stack, I.stkFree⟩,
    rfl, I.bare, Un.kept old, ⟨m, hns, fun i x v e1 e2 e3 => ?_⟩, fun x c e => ?_, I.hok.fresh hC, fun x c e => I.freeC x c (sub e), fun p hp => ?_, I.hok.kept old, ?_⟩
  · have hx' : scope.names.lookup x = some .cell ∨ scope.names.lookup x = some .free := by
      rcases hx with z | z
      · exact relabel_inv (.inl rfl) z
      · exact relabel_inv (.inr rfl) z
    rcases hx' with z | z
    · exact absurd rfl (S.ocell _ (PySem.mem_of_lookup z))
    · exact ⟨_, clos_get _ _ (.inl (PySem.mem_of_lookup z))⟩
  · exact ⟨Nat.ne_of_lt (Nat.lt_of_lt_of_le (lt b hb) hC), fun x c e => (hfp b hb).2.2.2.2.1 x c (sub e)⟩
  · obtain ⟨_, _, _, f3, _⟩ := hfp b hb
    rcases f3 with z | z
    · exact I.ok.noex b o e z
    · exact absurd (Nat.lt_of_lt_of_le (Heap.lt_size e) (Nat.le_trans I.ok.bsz z)) (Nat.lt_irrefl _)
  · intro z
    rcases List.mem_cons.mp (I.stkSub b z) with q | q
    · exact (hfp b hb).2.1 q
    · exact (hfp b hb).2.2.1 q
  · have hi : own.length ≤ i := by
      rcases Nat.lt_or_ge i own.length with z | z
      · unfold startC at e2
        rw [List.getElem?_append_left (by simpa using z), List.getElem?_replicate] at e2
        split at e2 <;> cases e2
      · exact z
    unfold startC at e2
    rw [List.getElem?_append_right (by simpa using hi), List.getElem?_map, List.length_replicate] at e2
    replace e1 : (own ++ fre.map (·.2))[i]? = some x := e1
    rw [List.getElem?_append_right hi, List.getElem?_map] at e1
    cases q : fre[i - own.length]? with
    | none => rw [q] at e1; cases e1
    | some p =>
      rw [q] at e1 e2
      have e1' : p.2 = x := Option.some.inj e1
      have e2' : (σ[p.1]?).join = some v := Option.some.inj e2
      subst e1'
      have e4 : σ[p.1]? = some (some v) := by
        cases r : σ[p.1]? with
        | none => rw [r] at e2'; cases e2'
        | some w => rw [r] at e2'; exact congrArg some e2'
      obtain ⟨n1, n2⟩ := S.fres p (List.mem_of_getElem? q)
      have hm := PySem.mem_of_lookup n2
      have kd := S.frees _ hm rfl
      obtain ⟨m2, hn2, hl2⟩ := I.loc
      obtain ⟨u, ru, lk⟩ := hl2 p.1 p.2 v n1 e4 (.inr kd)
      refine ⟨u, ru, ?_⟩
      rcases lk with ⟨z, _⟩ | ⟨_, c, hc, hcell⟩
      · have z' : X.env.scope.names.lookup p.2 = some .local := z
        rcases kd with k | k
        · have k' : X.env.scope.names.lookup p.2 = some .cell := k
          rw [z'] at k'; cases k'
        · have k' : X.env.scope.names.lookup p.2 = some .free := k
          rw [z'] at k'; cases k'
      · refine .inr ⟨relabel_free n2, c, ?_, ?_⟩
        · have := clos_get (cells := X.env.cells) (x := p.2) scope.names [] (.inl hm)
          rw [hc] at this
          exact this
        · obtain ⟨o, ho, hd⟩ := hcell
          exact ⟨o, old _ _ ho, hd⟩
  · obtain ⟨v, o, ho, hd⟩ := I.cell x c (sub e)
    exact ⟨v, o, old _ _ ho, hd⟩
  · have e : p = (D, LCg.lst []) := by
      have hp' : p ∈ [(D, LCg.lst [])] := hp
      simpa using hp'
    subst e
    refine ⟨hDo, I.hok.fresh hD, hDC, fun z => ?_, fun v z => by cases z⟩
    rcases List.mem_cons.mp (I.stkSub D z) with q | q
    · exact absurd I.lt (Nat.not_lt.mpr (by rw [← q]; exact hD))
    · exact I.nofs hD q
  · unfold startC
    show _ = (own ++ fre.map (·.2)).length
    simp
end

theorem compLoop_gen {prog : Program} {w : World} {A : Around} {R : Result → Shared → Prop} {s : Shared} {elt target iter : Expr} {ifs : List Expr} {scope : Scope} {pos : Pos} {it acc : Value} {env : Env} (I : Nat → Shared → Prop)
    (turn : ∀ n s, I n s → wpAny (model prog w) A (pyNext it) (fun r s₁ => match r with
      | none => R (.ok .next) s₁
      | some v => wpAny (model prog w) A (letOwnedTupleGo target it v) (fun _ s₁' => wpAny (model prog w) A (assign target env v) (fun _ s₂ =>
          wpAny (model prog w) A (forIn ifs true fun c r => if r = true then do let ok ← isTrue c env (eval c env); pure (ForInStep.yield ok) else pure (ForInStep.yield r)) (fun ok s₃ =>
            if ok = true then wpAny (model prog w) A (eval elt env) (fun x s₄ =>
              wpAny (model prog w) A (call (.builtin "list.append") [acc, x]) (fun _ s₅ => ∃ m, m < n ∧ I m s₅) (notedBy (model prog w) A env fun e s' => R (.error e) s') s₄) (notedBy (model prog w) A env fun e s' => R (.error e) s') s₃
            else ∃ m, m < n ∧ I m s₃) (notedBy (model prog w) A env fun e s' => R (.error e) s') s₂) (notedBy (model prog w) A env fun e s' => R (.error e) s') s₁') (notedBy (model prog w) A env fun e s' => R (.error e) s') s₁) (notedBy (model prog w) A env fun e s' => R (.error e) s') s)
    (n : Nat) (h : I n s) :
    codeAny (model prog w) A (.compLoop (.ListComp elt [⟨target, iter, ifs, 0⟩] scope pos) 0 it acc env) R s := by
  refine codeAny_loop rfl I (fun n s hI => ?_) n h
  show wpAny _ A ((compTurn (.ListComp elt [⟨target, iter, ifs, 0⟩] scope pos) 0 it acc env).onRaise (fun x => do noteFrame x env; theTreesLotGoes x)) _ _ s
  refine wpAny_noted ?_
  rw [compTurn_list]
  refine wpAny_bind (wpAny_standAt (wpAny_bind (wpAny_mono (turn n s hI) (fun r s₁ h₁ => ?_) fun _ _ h' => h')))
  cases r with
  | none => exact wpAny_pure h₁
  | some v =>
    refine wpAny_bind (wpAny_mono h₁ (fun _ s₁' h₁' => ?_) fun _ _ h' => h')
    refine wpAny_bind (wpAny_mono h₁' (fun _ s₂ h₂ => wpAny_bind (wpAny_mono h₂ (fun ok s₃ h₃ => ?_) fun _ _ h' => h')) fun _ _ h' => h')
    cases ok with
    | false => exact wpAny_pure ⟨rfl, h₃⟩
    | true =>
      exact wpAny_bind (wpAny_bind (wpAny_mono h₃ (fun x s₄ h₄ => wpAny_bind (wpAny_mono h₄ (fun _ s₅ h₅ => wpAny_pure (wpAny_pure ⟨rfl, h₅⟩)) fun _ _ h' => h')) fun _ _ h' => h'))

/-! ### the tests of a block -/
def PTs (X : Cx) (ifs : List Expr) (t : TT) : Prop :=
  ∀ (pins : List (Addr × Obj)) (s : Shared) (σ : St) (H : Hp) (Q : Bool → Hp → Prop), Inv X pins σ H s → t σ H Q →
    wpAny (model X.prog X.w) X.A (forIn ifs true fun c r => if r = true then do let ok ← isTrue c X.env (eval c X.env); pure (ForInStep.yield ok) else pure (ForInStep.yield r)) (TP X pins σ Q) X.xe s
def tYes : TT := fun _ H Q => Q true H
theorem pts_nil {X : Cx} : PTs X [] tYes := fun _ _ _ H _ I h => wpAny_tests_nil ⟨H, I, h⟩
theorem pts_one {X : Cx} {c : Expr} {t : TT} (h : PT X c t) : PTs X [c] t := fun pins s σ H Q I hw => wpAny_tests_one (h pins s σ H Q I hw)

/-- what is wanted of a comprehension's turns; Fin: of the list and the heap at the end -/
def CompT (J : It) (g : TG) (tt : TT) (te : TE) (Fin : List V → Hp → Prop) (σ₀ : St) (H1 : Hp) : Prop :=
  ∃ W : Nat → Nat → List V → St → Hp → Prop, (∃ m, W 0 m [] σ₀ H1) ∧ ∀ i m ys σ' H', W i m ys σ' H' → (J.stop i H' ∧ Fin ys H') ∨
    (J.go i H' ∧ ys.length < sizeLine ∧ ∀ x H2, J.yld i H' x H2 → g x σ' H2 fun σ3 H3 => tt σ3 H3 fun b H4 => if b = true then te σ3 H4 fun y H5 => ∃ m', m' < m ∧ W (i + 1) m' (ys ++ [y]) σ3 H5 else ∃ m', m' < m ∧ W (i + 1) m' ys σ3 H4)
def tComp (n : Nat) (fre : List (Nat × Str)) (wi : TI) (g : TG) (tt : TT) (te : TE) : TE := fun σ H Q => wi σ H fun J H1 => CompT J g tt te (fun ys H' => ∀ D, H' D = none → Q (.ref D) (upd H' D (.lst ys))) (startC n fre σ) H1

section
variable {X : Cx} {pins : List (Addr × Obj)} {σ : St} {scope : Scope} {own : List Str} {fre : List (Nat × Str)} {elt tg iter : Expr} {ifs : List Expr} {pos : Pos} {wi : TI} {g : TG} {tt : TT} {te : TE}

theorem comp_block {s2 : Shared} {H2 : Hp} {it : Addr} {fp : List Addr} {tn : Nat → Heap → Prop} {J : It} {Fin : List V → Hp → Prop} {RR : Value → Addr → Result → Shared → Prop} {E : Value → Shared → Prop}
    (hc : X.calm = true) (S : CompScope X.N X.env.scope scope own fre) (I2 : Inv X pins σ H2 s2) (T : Turn X.prog X.w X.K tg J fp it tn) (st2 : tn 0 s2.heap) (f2 : ∀ b ∈ fp, FpOk X pins H2 b)
    (hg : ∀ cl C s₂ H₂ fp, PG (cxC X (own ++ fre.map (·.2)) scope cl C s₂ H₂ fp) tg g) (ht : ∀ cl C s₂ H₂ fp, PTs (cxC X (own ++ fre.map (·.2)) scope cl C s₂ H₂ fp) ifs tt) (he : ∀ cl C s₂ H₂ fp, PE (cxC X (own ++ fre.map (·.2)) scope cl C s₂ H₂ fp) elt te)
    (turns : CompT J g tt te Fin (startC own.length fre σ) H2)
    (hend : ∀ (D C : Addr) (s' : Shared) (H' : Hp) (ys : List V) (its : List Value) (m : Str → Option Value), s2.heap.objs.size ≤ D → s2.heap.objs.size ≤ C → D ≠ C → Inv X pins σ H' s' → H' D = none → H' C = none → s'.heap.get? D = some (LCg.lst its) → s'.heap.Ns C m → Vals ys its → ys.length ≤ sizeLine → Fin ys H' → RR (.ref D) C (.ok .next) s') :
    wpAny (model X.prog X.w) X.A (newList []) (fun acc s₃ => wpAny (model X.prog X.w) X.A (newFunctionEnv scope X.env.globals (clos X.env.cells scope.names []) [] X.env.qual none .none (some X.env)) (fun cenv s₄ =>
      codeAny (model X.prog X.w) X.A (.compStart (.ListComp elt [⟨tg, iter, ifs, 0⟩] scope pos) 0 (.ref it) acc { cenv with scope := relabel scope X.env }) (RR acc cenv.locals) s₄) E s₃) E s2 := by
  obtain ⟨W, ⟨m0, w0⟩, turn⟩ := turns
  refine wpAny_newObj_type (wpAny_newFunctionEnv S.ocell (by intro y hy; simp at hy) (fun h₁ hns₁ hsb₁ => ?_) S.kind)
  dsimp only at hns₁ hsb₁ ⊢
  generalize hH2 : s2.heap.push { cls := .type "list", dict := none, data := .seq ([] : List Value).toArray } = HH at hns₁ hsb₁ ⊢
  have hC : HH.objs.size = s2.heap.objs.size + 1 := by rw [← hH2, Heap.size_push]
  have hDC : s2.heap.objs.size ≠ HH.objs.size := by rw [hC]; exact Nat.ne_of_lt (Nat.lt_succ_self _)
  have hCle : s2.heap.objs.size ≤ HH.objs.size := by rw [hC]; exact Nat.le_succ _
  have old : ∀ b o, s2.heap.get? b = some o → h₁.get? b = some o := fun b o e =>
    hsb₁.extBut b o (by rw [hC]; exact Nat.ne_of_lt (Nat.lt_succ_of_lt (Heap.lt_size e))) (Heap.get?_push_of_some _ (hH2 ▸ Heap.get?_push_of_some _ e))
  have hacc : h₁.get? s2.heap.objs.size = some (LCg.lst []) := hsb₁.extBut _ _ hDC (Heap.get?_push_of_some _ (hH2 ▸ Heap.get?_push_size _ rfl))
  have hfo : ∀ b ∈ fp, ∃ o, s2.heap.get? b = some o := fun b hb => by obtain ⟨o, e, _⟩ := T.obj _ _ st2 b hb; exact ⟨o, e⟩
  have flt : ∀ b ∈ fp, b < s2.heap.objs.size := fun b hb => by obtain ⟨o, e⟩ := hfo b hb; exact Heap.lt_size e
  have I1 := inv_comp (tk := s2.toks + ([] : List (Str × Value)).length) I2 S f2 hfo old hCle hns₁ (Nat.le_refl _) hDC hacc
  generalize hX' : cxC X (own ++ fre.map (·.2)) scope (clos X.env.cells scope.names []) HH.objs.size s2 H2 fp = X' at I1
  have eP : X'.prog = X.prog := by rw [← hX']; rfl
  have eW : X'.w = X.w := by rw [← hX']; rfl
  have eK : X'.K = X.K := by rw [← hX']; rfl
  have eA : X'.A = X.A := by rw [← hX']; rfl
  have eE : X'.env = compEnvC scope (clos X.env.cells scope.names []) HH.objs.size X.env := by rw [← hX']; rfl
  have eX : X'.xe = fun _ _ => False := by rw [← hX']; rfl
  have ePn : X'.pn = [] := by rw [← hX']; rfl
  have eC : X'.calm = true := by rw [← hX']; exact hc
  have eS : X'.s₀ = s2 := by rw [← hX']; rfl
  have eH : X'.H₀ = H2 := by rw [← hX']; rfl
  have eF : X'.fs = frs X.stack := by rw [← hX']; rfl
  have eEx : X'.ex = fp := by rw [← hX']; rfl
  have hg' : PG X' tg g := by rw [← hX']; exact hg _ _ _ _ _
  have ht' : PTs X' ifs tt := by rw [← hX']; exact ht _ _ _ _ _
  have he' : PE X' elt te := by rw [← hX']; exact he _ _ _ _ _
  have ccell : ∀ x c, X'.env.cells.lookup x = some c → c < s2.heap.objs.size := fun x c e => by
    rw [eE] at e
    obtain ⟨v, q⟩ := I2.cell x c (I2.clos_sub S e)
    exact q.lt
  have stat : ∀ {H' : Hp} {o : Obj}, (∀ b ∈ fp, H' b = none) → ∀ b ∈ fp, FpOk X' [(s2.heap.objs.size, o)] H' b := fun {H' o} hn b hb => by
    refine ⟨hn b hb, ?_, ?_, .inl (by rw [eEx]; exact hb), fun x c e => ?_, fun p hp => ?_⟩
    · rw [eE]; exact Nat.ne_of_lt (Nat.lt_of_lt_of_le (flt b hb) hCle)
    · rw [eF]; intro z
      rcases List.mem_cons.mp (I2.stkSub b z) with q | q
      · exact (f2 b hb).2.1 q
      · exact (f2 b hb).2.2.1 q
    · rw [eE] at e
      exact (f2 b hb).2.2.2.2.1 x c (I2.clos_sub S e)
    · rw [ePn] at hp
      have e : p = (s2.heap.objs.size, o) := by simpa using hp
      rw [e]
      exact Nat.ne_of_gt (flt b hb)
  have statD : ∀ {H' : Hp}, H' s2.heap.objs.size = none → FpOk X' [] H' s2.heap.objs.size := fun {H'} hn => by
    refine ⟨hn, ?_, ?_, .inr (by rw [eS]; exact Nat.le_refl _), fun x c e => Nat.ne_of_lt (ccell x c e), fun p hp => ?_⟩
    · rw [eE]; exact hDC
    · rw [eF]; intro z
      rcases List.mem_cons.mp (I2.stkSub _ z) with q | q
      · exact absurd I2.lt (by rw [← q]; exact Nat.lt_irrefl _)
      · exact I2.nofs (Nat.le_refl _) q
    · rw [ePn] at hp; cases hp
  have loop : ∀ s₃ : Shared, s₃ = { s2 with heap := h₁, toks := s2.toks + ([] : List (Str × Value)).length } →
      codeAny (model X.prog X.w) X.A (.compLoop (.ListComp elt [⟨tg, iter, ifs, 0⟩] scope pos) 0 (.ref it) (.ref s2.heap.objs.size) (compEnvC scope (clos X.env.cells scope.names []) HH.objs.size X.env))
        (RR (.ref s2.heap.objs.size) HH.objs.size) s₃ := by
    rintro s₃ rfl
    rw [← eE]
    refine compLoop_gen (fun n s' => ∃ i ys its σ' H', Inv X' [(s2.heap.objs.size, LCg.lst its)] σ' H' s' ∧ Vals ys its ∧ ys.length ≤ sizeLine ∧ tn i s'.heap ∧ (∀ b ∈ fp, H' b = none) ∧ W i n ys σ' H') ?_ m0
      ⟨0, [], [], _, H2, I1, .nil, Nat.zero_le _, T.keep _ _ _ st2 fun b _ o e => old b o e, fun b hb => (f2 b hb).1, w0⟩
    rintro n s3 ⟨i, ys, its, σ3, H3, I3, rv, hlen, st3, fr3, w3⟩
    have pD := I3.pin (s2.heap.objs.size, LCg.lst its) (by rw [ePn]; simp)
    rcases turn i n ys σ3 H3 w3 with ⟨stop, fin⟩ | ⟨go, hz, step⟩
    · have dn := T.done X' eP eW eK eC i _ s3 σ3 H3 (notedBy (model X.prog X.w) X.A X'.env fun e s' => RR (.ref s2.heap.objs.size) HH.objs.size (.error e) s') I3 (stat fr3) st3 stop
      rw [eA] at dn
      refine wpAny_mono dn (fun r s4 ⟨hr, I4⟩ => ?_) fun _ _ z => z
      subst hr
      have pD4 := I4.pin (s2.heap.objs.size, LCg.lst its) (by rw [ePn]; simp)
      obtain ⟨m4, hn4, _⟩ := I4.loc
      have b4 : Un (frs X.stack) fp H2 H3 s2.heap s4.heap := by
        have z := I4.base
        rw [eF, eEx, eH, eS] at z
        exact z
      have o4 : s4.os = s2.os := by have z := I4.os; rw [eS] at z; exact z
      have k4 : HOk X.prog X.w H3 s4.heap := by have z := I4.hok; rw [eP, eW] at z; exact z
      have Io : Inv X pins σ H3 s4 := I2.call' o4 b4 k4 I4.bare fun b hb => by
        obtain ⟨_, f1, _, f3, f4, f5⟩ := f2 b hb
        exact ⟨f3, f1, f4, f5⟩
      refine hend _ _ s4 H3 ys its m4 (Nat.le_refl _) hCle hDC Io pD4.2.1 ?_ pD4.1 ?_ rv hlen fin
      · have z := I4.free; rw [eE] at z; exact z
      · rw [eE] at hn4; exact hn4
    · have itm := T.item X' eP eW eK eC i _ s3 σ3 H3 (notedBy (model X.prog X.w) X.A X'.env fun e s' => RR (.ref s2.heap.objs.size) HH.objs.size (.error e) s') I3 (stat fr3) st3 go
      rw [eA] at itm
      refine wpAny_mono itm (fun r s4 ⟨u, hr, h4⟩ => ?_) fun _ _ z => z
      subst hr
      refine wpAny_mono h4 (fun _ s5 ⟨x, H5, I5, r5, y5, st5, fr5⟩ => ?_) fun _ _ z => z
      have I5' := I5.pinned (stat fr5) (T.obj _ _ st5)
      have as := hg' _ s5 σ3 H5 x u _ I5' r5 (step x H5 y5)
      rw [eP, eW, eA] at as
      refine wpAny_mono as (fun _ s6 ⟨σ6, H6, I6, q6⟩ => ?_) (fun _ _ z => by rw [eX] at z; exact z.elim)
      have ts := ht' _ s6 σ6 H6 _ I6 q6
      rw [eP, eW, eA] at ts
      refine wpAny_mono ts (fun b s7 ⟨H7, I7, q7⟩ => ?_) (fun _ _ z => by rw [eX] at z; exact z.elim)
      have back : ∀ {σ8 : St} {H8 : Hp} {s8 : Shared}, Inv X' ([(s2.heap.objs.size, LCg.lst its)] ++ pinsAt fp s5.heap) σ8 H8 s8 → tn (i + 1) s8.heap ∧ (∀ b ∈ fp, H8 b = none) ∧ s8.heap.get? s2.heap.objs.size = some (LCg.lst its) ∧ H8 s2.heap.objs.size = none := fun {σ8 H8 s8} I8 => by
        refine ⟨T.keep _ _ _ st5 fun b hb o e => (I8.pin (b, o) (List.mem_append_right _ (List.mem_append_right _ (mem_pinsAt hb e)))).1, fun b hb => ?_, ?_⟩
        · obtain ⟨o, e, d⟩ := T.obj _ _ st5 b hb
          exact (I8.pin (b, o) (List.mem_append_right _ (List.mem_append_right _ (mem_pinsAt hb e)))).2.1
        · have z := I8.pin (s2.heap.objs.size, LCg.lst its) (List.mem_append_right _ (List.mem_append_left _ (by simp)))
          exact ⟨z.1, z.2.1⟩
      cases b with
      | false =>
        rw [if_neg Bool.false_ne_true]
        rw [if_neg Bool.false_ne_true] at q7
        obtain ⟨m', hm', w7⟩ := q7
        obtain ⟨b1, b2, b3, b4⟩ := back I7
        exact ⟨m', hm', i + 1, ys, its, σ6, H7, I7.unpinned, rv, hlen, b1, b2, w7⟩
      | true =>
        rw [if_pos rfl]
        rw [if_pos rfl] at q7
        have el := he' _ s7 σ6 H7 _ I7 q7
        rw [eP, eW, eA] at el
        refine wpAny_mono el (fun yv s8 ⟨y, H8, I8, r8, q8⟩ => ?_) (fun _ _ z => by rw [eX] at z; exact z.elim)
        obtain ⟨m', hm', w8⟩ := q8
        obtain ⟨b1, b2, b3, b4⟩ := back I8
        have hl := rv.length
        refine append_at (hsz := by show its.toArray.size ≤ sizeLine; rw [List.size_toArray, ← hl]; exact hlen) b3 fun h9 hs9 hD9 => ?_
        have J0 : Inv X' [] σ6 H8 s8 := I8.pins_of fun p hp => absurd hp (by simp)
        have J1 : Inv X' [] σ6 H8 { s8 with heap := h9, toks := s8.toks } := J0.chg (ch := [s2.heap.objs.size]) (fun b hb => by
          have e : b = s2.heap.objs.size := by simpa using hb
          rw [e]; exact statD b4) fun b o hb e => hs9.extBut _ _ (by simpa using hb) e
        have hD9' : h9.get? s2.heap.objs.size = some (LCg.lst (its ++ [yv])) := hD9.trans (congrArg some (LCg.lst_snoc its yv))
        have J2 : Inv X' [(s2.heap.objs.size, LCg.lst (its ++ [yv]))] σ6 H8 { s8 with heap := h9, toks := s8.toks } := J1.pins_of fun p hp => by
          have e : p = (s2.heap.objs.size, LCg.lst (its ++ [yv])) := by simpa using hp
          rw [e]
          have z := statD b4
          exact ⟨hD9', b4, z.2.1, z.2.2.1, fun v q => by cases q⟩
        refine ⟨m', hm', i + 1, ys ++ [y], its ++ [yv], σ6, H8, J2, rv.append (.cons r8 .nil), by rw [List.length_append, List.length_singleton]; exact hz, ?_, b2, w8⟩
        exact T.keep _ _ _ b1 fun b hb o e => hs9.extBut _ _ (Nat.ne_of_lt (flt b hb)) e
  exact codeAny_compStart_list (loop _ rfl) (T.self X.A 0 _ _ _ (T.keep _ _ _ st2 fun b _ o e => old b o e) (loop _ rfl))

/-- [elt for tg in iter if ..] -/
theorem pe_lcomp (hc : X.calm = true) (S : CompScope X.N X.env.scope scope own fre) (hi : PI X tg iter wi)
    (hg : ∀ cl C s₂ H₂ fp, PG (cxC X (own ++ fre.map (·.2)) scope cl C s₂ H₂ fp) tg g) (ht : ∀ cl C s₂ H₂ fp, PTs (cxC X (own ++ fre.map (·.2)) scope cl C s₂ H₂ fp) ifs tt) (he : ∀ cl C s₂ H₂ fp, PE (cxC X (own ++ fre.map (·.2)) scope cl C s₂ H₂ fp) elt te)
    (hs : ∀ x, foldedSetIterable iter X.env x = pure x := by intro _; rfl) : PE X (.ListComp elt [⟨tg, iter, ifs, 0⟩] scope pos) (tComp own.length fre wi g tt te) := by
  intro pins s σ H Q I h
  rw [eval_ListComp]
  refine wpAny_comprehension_free (use := none) rfl hs (closureFor_clos (I.clos_cells S)) S.kind S.locs (thn (hi pins s σ H _ I h) fun v s1 h1 => thn h1 fun itv s2 h2 => ?_)
  obtain ⟨it, fp, tn, J, H2, e, I2, T, st2, f2, turns⟩ := h2
  subst e
  refine comp_block (RR := fun acc C => compPost (model X.prog X.w) X.A X.xe none (EP X pins σ Q) acc C) hc S I2 T st2 f2 hg ht he turns ?_
  intro D C s' H' ys its m hD hC hDC Io nD nC oD nsC rv hlen fin
  refine ⟨m, nsC, fun h' hs' => ?_⟩
  have J1 : Inv X pins σ H' { s' with heap := h', toks := s'.toks } := Io.chg (ch := [C]) (fun b hb => by
    have e : b = C := by simpa using hb
    rw [e]; exact I2.fpOk hC nC) fun b o hb e => hs'.extBut _ _ (by simpa using hb) e
  have J2 := J1.track (o := .lst ys) (I2.fpOk hD nD) ⟨hlen, its, _, rv, hs'.extBut _ _ hDC oD⟩
  exact ⟨.ref D, _, J2, rfl, fin D nD⟩
/-- name = [..], stored ahead of the block's end -/
theorem ps_lcomp {iy : Nat} {y : Str} {py spos : Pos} (hc : X.calm = true) (hN : X.N.Nodup) (hi' : X.N[iy]? = some y) (hy : X.env.scope.names.lookup y = some .local) (S : CompScope X.N X.env.scope scope own fre) (hi : PI X tg iter wi)
    (hg : ∀ cl C s₂ H₂ fp, PG (cxC X (own ++ fre.map (·.2)) scope cl C s₂ H₂ fp) tg g) (ht : ∀ cl C s₂ H₂ fp, PTs (cxC X (own ++ fre.map (·.2)) scope cl C s₂ H₂ fp) ifs tt) (he : ∀ cl C s₂ H₂ fp, PE (cxC X (own ++ fre.map (·.2)) scope cl C s₂ H₂ fp) elt te)
    (hsw : swapsWith (.ListComp elt [⟨tg, iter, ifs, 0⟩] scope pos) (some (.Name y py)) spos.line X.env = pure true)
    (hs : ∀ x, foldedSetIterable iter X.env x = pure x := by intro _; rfl) : PS X (.Assign [.Name y py] (.ListComp elt [⟨tg, iter, ifs, 0⟩] scope pos) spos) (tAsg (tComp own.length fre wi g tt te) (gName iy)) := by
  intro pins s σ H D I h
  rw [exec_Assign_Name_used _ _ _ _ hsw]
  refine wpAny_bind (wpAny_standAt (wpAny_bind ?_))
  show wpAny _ _ (do let _ ← comprehension (.ListComp elt [⟨tg, iter, ifs, 0⟩] scope pos) scope X.env _ (newList []) false (eval iter X.env) (some (assign (.Name y py) X.env))) _ _ s
  refine wpAny_bind (wpAny_mono (wpAny_comprehension_free (use := some (assign (.Name y py) X.env)) (Q := fun _ s' => SP X pins D .next s') rfl hs (closureFor_clos (I.clos_cells S)) S.kind S.locs
    (thn (hi pins s σ H _ I h) fun v s1 h1 => thn h1 fun itv s2 h2 => ?_)) (fun _ s' hq => wpAny_pure (wpAny_pure hq)) fun _ _ e => e)
  obtain ⟨it, fp, tn, J, H2, e, I2, T, st2, f2, turns⟩ := h2
  subst e
  refine comp_block (RR := fun acc C => compPost (model X.prog X.w) X.A X.xe (some (assign (.Name y py) X.env)) (fun _ s' => SP X pins D .next s') acc C) hc S I2 T st2 f2 hg ht he turns ?_
  intro D' C s' H' ys its m hD hC hDC Io nD nC oD nsC rv hlen fin
  have J2 := Io.track (o := .lst ys) (I2.fpOk hD nD) ⟨hlen, its, _, rv, oD⟩
  have fC : FpOk X pins (upd H' D' (.lst ys)) C := I2.fpOk hC (by rw [upd_ne (Ne.symm hDC)]; exact nC)
  show wpAny _ _ (assign (.Name y py) X.env (.ref D')) _ _ _
  refine wpAny_assign_Name (store_ok2 (v := .ref D') J2 hN hi' (.inl hy) rfl (fun s5 I5 ⟨a, sb, ha⟩ => ?_) (.inr hy))
  have hCa : C ≠ a := by
    rcases ha with z | z
    · rw [z]; exact fC.2.1
    · exact Ne.symm (fC.2.2.2.2.1 _ _ z)
  refine ⟨m, nsC.sameBut sb hCa, fun h' hs' => ?_⟩
  have J3 : Inv X pins (σ.set iy (some (.ref D'))) (upd H' D' (.lst ys)) { s5 with heap := h', toks := s5.toks } := I5.chg (ch := [C]) (fun b hb => by
    have e : b = C := by simpa using hb
    rw [e]; exact fC) fun b o hb e => hs'.extBut _ _ (by simpa using hb) e
  exact ⟨_, _, J3, fin D' nD⟩
end
end L2

namespace L2
open PySem PySem.Spec PyProof.Rows

/-! ### E. isinstance over the built-in kinds -/
/-- kind t is kind T, or below it -/
def isTy (t T : String) : Bool := t == T || (t == "bool" && T == "int")
def kinds : List String := ["NoneType", "bool", "int", "str", "list", "tuple", "dict"]
theorem kit_kinds (K : PySem.W.Frag) : ∀ t ∈ kinds, ∀ T ∈ ["bool", "int", "str", "list", "tuple", "dict"], PySem.W.kitOne K (.type t) (.type T) = some (isTy t T) := by
  intro t ht T hT
  simp only [kinds, List.mem_cons, List.not_mem_nil, or_false] at ht hT
  rcases ht with rfl | rfl | rfl | rfl | rfl | rfl | rfl <;> rcases hT with rfl | rfl | rfl | rfl | rfl | rfl <;> first | rfl | kernel_rfl
/-- the kind of a value -/
def Knd (K : PySem.W.Frag) (H : Hp) (x : V) (t : String) : Prop := TyOf K H x (.type t) ∧ t ∈ kinds
section
variable {X : Cx} {pins : List (Addr × Obj)} {σ : St} {H : Hp} {s : Shared} {A : Around} {E : Value → Shared → Prop} {Q : Value → Shared → Prop}
theorem isinst_tup {x : V} {u : Value} {t : String} {tp : Addr} {dd : Option Addr} {its : List Value} {n : Nat} {sl : Array (Option Value)} {b : Bool} (I : Inv X pins σ H s) (rx : RelV x u) (k : Knd X.K H x t)
    (htp : s.heap.get? tp = some ⟨.type "tuple", dd, .seq its.toArray n, sl⟩) (e : PySem.W.kitAny X.K (.type t) its = some b) (h : ∀ tk, Q (.bool b) { s with toks := tk }) :
    wpAny (model X.prog X.w) A (call (.builtin "isinstance") [u, .ref tp]) Q E s := by
  obtain ⟨ty, hk⟩ := k
  cases ty with
  | non => cases (show u = Value.none from rx); exact PySem.W.kia_tup PySem.W.kitx_none I.kIn True.intro htp e (fun z => nomatch z) h
  | bl y => cases (show u = Value.bool y from rx); exact PySem.W.kia_tup PySem.W.kitx_bool I.kIn True.intro htp e (fun z => nomatch z) h
  | int i => obtain ⟨t, q⟩ := (show ∃ t, u = Value.int i t from rx); cases q; exact PySem.W.kia_tup PySem.W.kitx_int I.kIn True.intro htp e (fun z => nomatch z) h
  | str y => obtain ⟨t, q⟩ := (show ∃ t, u = Value.str y t from rx); cases q; exact PySem.W.kia_tup PySem.W.kitx_str I.kIn True.intro htp e (fun z => nomatch z) h
  | flt y => exact absurd hk (by decide)
  | @lst a xs ea =>
    cases (show u = Value.ref a from rx)
    obtain ⟨_, _, n, _, h1⟩ := (show ObjOk X.prog X.w H s.heap a (.lst xs) from I.hok a _ ea)
    exact PySem.W.kia_tup PySem.W.kitx_list I.kIn ⟨_, h1, rfl⟩ htp e (fun z => nomatch z) h
  | @frz a ob xs ea =>
    cases (show u = Value.ref a from rx)
    obtain ⟨_, _, _, n, _, h1⟩ := (show ObjOk X.prog X.w H s.heap a (.frz ob (.lst xs)) from I.hok a _ ea)
    exact PySem.W.kia_tup PySem.W.kitx_list I.kIn ⟨_, h1, rfl⟩ htp e (fun z => nomatch z) h
  | @tup a xs ea =>
    cases (show u = Value.ref a from rx)
    obtain ⟨_, _, _, p⟩ := (show ObjOk X.prog X.w H s.heap a (.tup xs) from I.hok a _ ea)
    obtain ⟨o, h1, h2, _⟩ := p
    exact PySem.W.kia_tup PySem.W.kitx_tuple I.kIn ⟨o, h1, h2⟩ htp e (fun z => nomatch z) h
  | @dK a kvs ea =>
    cases (show u = Value.ref a from rx)
    obtain ⟨_, _, vs, _, p⟩ := (show ObjOk X.prog X.w H s.heap a (.dK kvs) from I.hok a _ ea)
    obtain ⟨o, es, ep, h1, h2, _⟩ := p
    exact PySem.W.kia_tup PySem.W.kitx_dict I.kIn ⟨o, h1, h2.1⟩ htp e (fun z => nomatch z) h
  | @dT a kvs ea =>
    cases (show u = Value.ref a from rx)
    obtain ⟨_, _, xs, _, o, es, ep, h1, h2, _⟩ := (show ObjOk X.prog X.w H s.heap a (.dT kvs) from I.hok a _ ea)
    exact PySem.W.kia_tup PySem.W.kitx_dict I.kIn ⟨o, h1, h2.1⟩ htp e (fun z => nomatch z) h
end
theorem kitAny_kinds (K : PySem.W.Frag) {t : String} (ht : t ∈ kinds) : ∀ (Ts : List String), (∀ T ∈ Ts, T ∈ ["bool", "int", "str", "list", "tuple", "dict"]) → PySem.W.kitAny K (.type t) (Ts.map Value.type) = some (Ts.any (isTy t))
  | [], _ => rfl
  | T :: r, h => by
    show (match PySem.W.kitOne K (.type t) (.type T) with
      | some true => some true
      | some false => PySem.W.kitAny K (.type t) (r.map Value.type)
      | none => none) = _
    rw [kit_kinds K t ht T (h T List.mem_cons_self), List.any_cons]
    cases isTy t T with
    | true => rfl
    | false => exact kitAny_kinds K ht r fun T' hT' => h T' (List.mem_cons_of_mem _ hT')
theorem vals_ty : ∀ {Ts : List String} {us : List Value}, Vals (Ts.map V.ty) us → us = Ts.map Value.type
  | [], _, .nil => rfl
  | T :: r, _, .cons h t => by
    have e := vals_ty (Ts := r) t
    cases (show _ = Value.type T from h)
    rw [e]; rfl
section
variable {X : Cx}
/-- isinstance(x, T) -/
def rIsi (K : PySem.W.Frag) : List V → Hp → VK → Prop := fun xs H Q => ∃ x T t, xs = [x, .ty T] ∧ Knd K H x t ∧ T ∈ ["bool", "int", "str", "list", "tuple", "dict"] ∧ Q (.bl (isTy t T)) H
theorem call_isi : CallR X (.builtin "isinstance") (rIsi X.K) := by
  intro pins s σ H xs us Q I r h
  obtain ⟨x, T, t, rfl, k, hT, q⟩ := h
  obtain ⟨u1, u2, rfl, r1, r2⟩ := vals2 r
  cases (show u2 = Value.type T from r2)
  exact isinst_ok I r1 k.1 (kit_kinds X.K t k.2 T hT) fun tk => ⟨.bl _, H, I.tok _, rfl, q⟩
/-- isinstance(x, (T, U)) -/
def rIsiT (K : PySem.W.Frag) : List V → Hp → VK → Prop := fun xs H Q => ∃ (x : V) (p : Addr) (Ts : List String) (t : String), xs = [x, .ref p] ∧ SqT K H p (Ts.map V.ty) ∧ Knd K H x t ∧ (∀ T ∈ Ts, T ∈ ["bool", "int", "str", "list", "tuple", "dict"]) ∧ Q (.bl (Ts.any (isTy t))) H
theorem call_isiT : CallR X (.builtin "isinstance") (rIsiT X.K) := by
  intro pins s σ H xs us Q I r h
  obtain ⟨x, p, Ts, t, rfl, hp, k, hT, q⟩ := h
  obtain ⟨u1, u2, rfl, r1, r2⟩ := vals2 r
  cases (show u2 = Value.ref p from r2)
  obtain ⟨its, rv, ⟨o, ho, hc, n, hd⟩, _⟩ := I.tuple hp
  have e := vals_ty rv
  subst e
  obtain ⟨c, d, dt, sl⟩ := o
  cases (show c = _ from hc)
  cases (show dt = _ from hd)
  exact isinst_tup I r1 k ho (kitAny_kinds X.K k.2 Ts hT) fun tk => ⟨.bl _, H, I.tok _, rfl, q⟩

/-! ### all(list of bools) -/
def rAll (K : PySem.W.Frag) : List V → Hp → VK → Prop := fun xs H Q => ∃ (p : Addr) (bs : List Bool), xs = [.ref p] ∧ SqL K H p (bs.map V.bl) ∧ Q (.bl (bs.all id)) H
theorem vals_bl : ∀ {bs : List Bool} {us : List Value}, Vals (bs.map V.bl) us → us = bs.map Value.bool
  | [], _, .nil => rfl
  | T :: r, _, .cons h t => by
    have e := vals_bl (bs := r) t
    cases (show _ = Value.bool T from h)
    rw [e]; rfl
theorem range_all (bs : List Bool) : (List.range bs.length).all (fun i => bs.getD i true) = bs.all id := by
  induction bs with
  | nil => rfl
  | cons b r ih =>
    rw [List.length_cons, List.range_succ_eq_map, List.all_cons, List.all_map, List.all_cons]
    show (b && (List.range r.length).all _) = _
    rw [← ih]; rfl
theorem call_allL (hc : X.calm = true) : CallR X (.builtin "all") (rAll X.K) := by
  intro pins s σ H xs us Q I r h
  obtain ⟨p, bs, rfl, hp, q⟩ := h
  obtain ⟨u1, rfl, r1⟩ := vals1 r
  cases (show u1 = Value.ref p from r1)
  obtain ⟨its, rv, pl, hz⟩ := I.list hp
  have e := vals_bl rv
  subst e
  have hlt : p < s.heap.objs.size := by obtain ⟨_, e, _⟩ := pl.isList; exact Heap.lt_size e
  refine call_all_walk (wpAny_pyIter_list pl.isList ?_)
  refine ⟨s.heap.objs.size, _, _, _, _, _, fun i => bs.getD i true, rfl, Walks.list (A := X.A.in1) (show X.A.in1.handled = none from I.ok.hd hc) _ p (Nat.ne_of_lt hlt) (bs.map Value.bool).toArray, ⟨⟨_, Heap.get?_push_size _ rfl, rfl, rfl⟩, pl.isList.push _⟩, ?_, fun h' tk hk => ?_⟩
  · intro i v A' Q' E' hv hq
    have hv' : (bs.map Value.bool)[i]? = some v := by simpa using hv
    rw [List.getElem?_map] at hv'
    cases e : bs[i]? with
    | none => rw [e] at hv'; cases hv'
    | some b =>
      rw [e] at hv'
      cases hv'
      refine wpAny_truthy_bool ?_
      have : bs.getD i true = b := by rw [List.getD_eq_getElem?_getD, e]; rfl
      replace hq : Q' (bs.getD i true) A' := hq
      rw [this] at hq
      exact hq
  · have e : (List.range (bs.map Value.bool).toArray.size).all (fun i => bs.getD i true) = bs.all id := by
      rw [List.size_toArray, List.length_map]
      exact range_all bs
    rw [e]
    refine ⟨.bl _, H, I.kept (t' := tk) fun b o e => hk b o (fun z => ?_) (Heap.get?_push_of_some _ e), rfl, q⟩
    have z' : b = s.heap.objs.size := by simpa using z
    exact absurd (Heap.lt_size e) (by rw [z']; exact Nat.lt_irrefl _)
end
end L2

namespace L2
open PySem PySem.Spec PyProof.Rows

/-! ### F. defs of the text by their names; a cut between two statements -/
/-- the def called x, with its promise -/
def Cal (P : Program) (w : World) (K : PySem.W.Frag) (mg : Str → Option Value) (base : Heap) (x : Str) (k : Nat) (ps : List Str) (sp : Sp) : Prop :=
  ∃ (f : Addr) (fd : FuncData), FnOk P w K mg base CX0 k f fd ps sp ∧ mg x = some (.ref f) ∧ PySem.W.keepIn K (.ref f) = true ∧ Binds K fd ps []
theorem Cal.mono {P : Program} {w : World} {K : PySem.W.Frag} {mg : Str → Option Value} {base : Heap} {x : Str} {j k : Nat} {ps : List Str} {sp : Sp} (c : Cal P w K mg base x j ps sp) (h : j ≤ k) : Cal P w K mg base x k ps sp := by
  obtain ⟨f, fd, F, a, b, d⟩ := c
  exact ⟨f, fd, F.mono h, a, b, d⟩
section
variable {X : Cx} {k : Nat} {ps : List Str} {sp : Sp} {x : Str} {p pos : Pos} {e : Expr} {es : List Expr} {t : TA} {st : Stmt} {rest : List Stmt} {t1 u1 : TS}
theorem pe_callC (c : Cal X.prog X.w X.K X.mg X.base x k ps sp) (hr : Room k X.A) (hg : Gl X x) (ha : PA X (e :: es) t) (hdb : (x == ("__debug__" : Str)) = false := by decide) (he : starEach (e :: es) X.env = (false, eval e X.env) :: starEach es X.env := by rfl) (hpl : (backTo pos (starEach es X.env)).any (·.1) = false := by rfl) :
    PE X (.Call (.Name x p) (e :: es) [] pos) (tCall sp [] E0 t) := by
  obtain ⟨f, fd, F, hm, hk, hb⟩ := c
  exact pe_call F hr hg hm hk hb .nil pass0 ha hdb he hpl
def tCut (t u : TS) : TS := fun D σ H => ∃ mid : St → Hp → Prop, t { D with nx := mid } σ H ∧ ∀ σ' H', mid σ' H' → u D σ' H'
theorem pss_cut (h1 : PS X st t1) (h2 : PSs X rest u1) : PSs X (st :: rest) (tCut t1 u1) := by
  intro pins s σ H D I h
  obtain ⟨mid, h, hm⟩ := h
  refine wpAny_execs_cons (thn (h1 pins s σ H { D with nx := mid } I h) fun f s1 q => ?_)
  cases f with
  | next =>
    obtain ⟨σ', H', I', q⟩ := q
    exact h2 pins s1 σ' H' D I' (hm _ _ q)
  | ret v => exact q
  | brk => exact q
  | cont => exact q
end

/-! ### G. data as it lies in the heap -/
inductive Dt where
  | int (i : Int) | bl (b : Bool) | str (x : Str) | non | lst (xs : List Dt) | tup (xs : List Dt)
mutual
inductive Rep (H : Hp) : V → Dt → Prop where
  | int (i : Int) : Rep H (.int i) (.int i)
  | bl (b : Bool) : Rep H (.bl b) (.bl b)
  | str (x : Str) : Rep H (.str x) (.str x)
  | non : Rep H .non .non
  | lst {a : Addr} {vs : List V} {ds : List Dt} : H a = some (.lst vs) → Reps H vs ds → Rep H (.ref a) (.lst ds)
  | tup {a : Addr} {vs : List V} {ds : List Dt} : H a = some (.tup vs) → Reps H vs ds → Rep H (.ref a) (.tup ds)
inductive Reps (H : Hp) : List V → List Dt → Prop where
  | nil : Reps H [] []
  | cons {v : V} {d : Dt} {vs : List V} {ds : List Dt} : Rep H v d → Reps H vs ds → Reps H (v :: vs) (d :: ds)
end
theorem Reps.length {H : Hp} : ∀ {vs : List V} {ds : List Dt}, Reps H vs ds → vs.length = ds.length
  | _, _, .nil => rfl
  | _, _, .cons _ t => by rw [List.length_cons, List.length_cons, Reps.length t]
theorem Reps.get {H : Hp} : ∀ {vs : List V} {ds : List Dt} {i : Nat} {v : V}, Reps H vs ds → vs[i]? = some v → ∃ d, ds[i]? = some d ∧ Rep H v d
  | _, _, _, _, .nil, e => by simp at e
  | _, _, 0, _, .cons r _, e => by simp at e; subst e; exact ⟨_, rfl, r⟩
  | _, _, i + 1, v, .cons _ t, e => by
    obtain ⟨d, h1, h2⟩ := Reps.get (i := i) (v := v) t (by simpa using e)
    exact ⟨d, by simpa using h1, h2⟩
theorem Rep.mono {H H' : Hp} (s : Same H H') {v : V} {d : Dt} (h : Rep H v d) : Rep H' v d :=
  Rep.rec (motive_1 := fun v d _ => Rep H' v d) (motive_2 := fun vs ds _ => Reps H' vs ds) (fun i => .int i) (fun b => .bl b) (fun x => .str x) .non (fun e _ ih => .lst (s _ _ e) ih) (fun e _ ih => .tup (s _ _ e) ih) .nil (fun _ _ ih1 ih2 => .cons ih1 ih2) h
theorem Reps.mono {H H' : Hp} (s : Same H H') : ∀ {vs : List V} {ds : List Dt}, Reps H vs ds → Reps H' vs ds
  | _, _, .nil => .nil
  | _, _, .cons r t => .cons (Rep.mono s r) (Reps.mono s t)
mutual
def Dt.depth : Dt → Nat
  | .lst xs => depths xs + 1
  | .tup xs => depths xs + 1
  | _ => 0
def depths : List Dt → Nat
  | [] => 0
  | d :: r => max d.depth (depths r)
end
mutual
def Dt.wide : Dt → Nat
  | .lst xs => max xs.length (wides xs)
  | .tup xs => max xs.length (wides xs)
  | _ => 0
def wides : List Dt → Nat
  | [] => 0
  | d :: r => max d.wide (wides r)
end
theorem wide_le : ∀ {ds : List Dt} {i : Nat} {d : Dt}, ds[i]? = some d → d.wide ≤ wides ds
  | [], _, _, e => by simp at e
  | x :: r, 0, d, e => by simp at e; subst e; exact Nat.le_max_left _ _
  | x :: r, i + 1, d, e => Nat.le_trans (wide_le (ds := r) (i := i) (by simpa using e)) (Nat.le_max_right _ _)
theorem depth_le : ∀ {ds : List Dt} {i : Nat} {d : Dt}, ds[i]? = some d → d.depth ≤ depths ds
  | [], _, _, e => by simp at e
  | x :: r, 0, d, e => by simp at e; subst e; exact Nat.le_max_left _ _
  | x :: r, i + 1, d, e => Nat.le_trans (depth_le (ds := r) (i := i) (by simpa using e)) (Nat.le_max_right _ _)
end L2

namespace L2
open PySem PySem.Spec PyProof.Rows
/-! ### H. the built-in names that the text does not bind -/
theorem bb_len : bootBuiltins "len" = some (.builtin "len") := by decide +kernel
theorem bb_abs : bootBuiltins "abs" = some (.builtin "abs") := by decide +kernel
theorem bb_all : bootBuiltins "all" = some (.builtin "all") := by decide +kernel
theorem bb_isinstance : bootBuiltins "isinstance" = some (.builtin "isinstance") := by decide +kernel
theorem bb_sorted : bootBuiltins "sorted" = some (.builtin "sorted") := by decide +kernel
theorem bb_list : bootBuiltins "list" = some (.type "list") := by decide +kernel
theorem bb_tuple : bootBuiltins "tuple" = some (.type "tuple") := by decide +kernel
theorem bb_bool : bootBuiltins "bool" = some (.type "bool") := by decide +kernel
theorem bb_int : bootBuiltins "int" = some (.type "int") := by decide +kernel
theorem bb_str : bootBuiltins "str" = some (.type "str") := by decide +kernel
theorem bb_set : bootBuiltins "set" = some (.type "set") := by decide +kernel
structure Blt (mg : Str → Option Value) : Prop where
  z_len : mg "len" = none
  z_abs : mg "abs" = none
  z_all : mg "all" = none
  z_isinstance : mg "isinstance" = none
  z_zip : mg "zip" = none
  z_list : mg "list" = none
  z_tuple : mg "tuple" = none
  z_bool : mg "bool" = none
  z_int : mg "int" = none
  z_str : mg "str" = none
  z_range : mg "range" = none
  z_sorted : mg "sorted" = none
  z_set : mg "set" = none

/-! ### heaps -/
theorem same_upd {H : Hp} {p : Addr} {o : HO} (h : H p = none) : Same H (upd H p o) := fun b u e => by rw [upd_ne (ne_of_none e h)]; exact e
/-- all but d is as it was -/
def But (d : Addr) (H H' : Hp) : Prop := ∀ b o, b ≠ d → H b = some o → H' b = some o
theorem But.refl {d : Addr} {H : Hp} : But d H H := fun _ _ _ e => e
theorem But.trans {d : Addr} {H H1 H2 : Hp} (a : But d H H1) (b : But d H1 H2) : But d H H2 := fun c o n e => b c o n (a c o n e)
theorem Same.but {d : Addr} {H H' : Hp} (a : Same H H') : But d H H' := fun c o _ e => a c o e
theorem but_upd {d : Addr} {H : Hp} {o : HO} : But d H (upd H d o) := fun b u n e => by rw [upd_ne n]; exact e

/-! ### the draws -/
/-- the drawing list at d: the script's cells, the place, the rest, the seed -/
def DrawAt (H : Hp) (d : Addr) : Prop := ∃ (c : Addr) (ns : List Int) (a : Nat) (r e : Int), H d = some (.lst [.ref c, .int a, .int r, .int e]) ∧ H c = some (.lst (ns.map V.int)) ∧ 0 ≤ r ∧ 0 ≤ e
theorem DrawAt.same {H H' : Hp} {d : Addr} (s : Same H H') (h : DrawAt H d) : DrawAt H' d := by
  obtain ⟨c, ns, a, r, e, h1, h2, h3, h4⟩ := h
  exact ⟨c, ns, a, r, e, s _ _ h1, s _ _ h2, h3, h4⟩
theorem draw_ne {H : Hp} {c d : Addr} {ns : List Int} {a : Nat} {r e : Int} (h1 : H d = some (.lst [.ref c, .int a, .int r, .int e])) (h2 : H c = some (.lst (ns.map V.int))) : c ≠ d := by
  intro z
  subst z
  rw [h1] at h2
  have q := Option.some.inj h2
  injection q with q
  cases ns with
  | nil => cases q
  | cons n r => injection q with q _; cases q
theorem DrawAt.ne_tup {H : Hp} {d p : Addr} {xs : List V} (h : DrawAt H d) (e : H p = some (.tup xs)) : p ≠ d := by
  obtain ⟨c, ns, a, r, e', h1, _⟩ := h
  exact ne_of e h1 (by intro z; cases z)
/-- behind a store into the drawing list -/
theorem DrawAt.put {H : Hp} {c d : Addr} {ns : List Int} {a : Nat} {r e : Int} {o : HO} (h1 : H d = some o) (h2 : H c = some (.lst (ns.map V.int))) (hn : c ≠ d) (hr : 0 ≤ r) (he : 0 ≤ e) : DrawAt (upd H d (.lst [.ref c, .int a, .int r, .int e])) d :=
  ⟨c, ns, a, r, e, upd_same, by rw [upd_ne hn]; exact h2, hr, he⟩
/-- same: two that are alike -/
def spSame (n : Nat) : Sp := fun vs H Q _ => ∃ f u dd, vs = [f, u] ∧ Rep H f dd ∧ Rep H u dd ∧ dd.depth ≤ n ∧ dd.wide ≤ 1000 ∧ ∀ H', Same H H' → Q (.bl true) H'
end L2

namespace L2
open PySem PySem.Spec PyProof.Rows
/-! ### S. steps of a reading, one a rule -/
section
variable {σ : St} {H : Hp} {Q : VK} {R : Bool → Hp → Prop} {D : Ends} {K : PySem.W.Frag}
theorem i_var {i : Nat} {v : V} (h : σ[i]? = some (some v)) (q : Q v H) : tVar i σ H Q := ⟨v, h, q⟩
theorem i_tC {v : V} (q : Q v H) : tC v σ H Q := q
theorem i_op {r : R2} {ta tb : TE} (q : ta σ H fun x H1 => tb σ H1 fun y H2 => r x y H2 Q) : tOp r ta tb σ H Q := q
theorem i_un {r : V → Hp → VK → Prop} {ta : TE} (q : ta σ H fun x H1 => r x H1 Q) : tUn r ta σ H Q := q
theorem i_rI0 {g : Int → Int → V} {i j : Int} (q : Q (g i j) H) : rI0 g (.int i) (.int j) H Q := ⟨i, j, rfl, rfl, q⟩
theorem i_rI {C : Int → Int → Prop} {g : Int → Int → V} {i j : Int} (c : C i j) (q : Q (g i j) H) : rI C g (.int i) (.int j) H Q := ⟨i, j, rfl, rfl, c, q⟩
theorem i_rU {g : Int → V} {i : Int} (q : Q (g i) H) : rU g (.int i) H Q := ⟨i, rfl, q⟩
theorem i_rEq {x y : V} (s : scal x y = true) (q : Q (.bl (decide (x = y))) H) : rEq x y H Q := ⟨s, q⟩
theorem i_rNe {x y : V} (s : scal x y = true) (q : Q (.bl (!decide (x = y))) H) : rNe x y H Q := ⟨s, q⟩
theorem i_test {t : TE} (q : t σ H fun x H' => ∃ k, x = .bl k ∧ R k H') : tTest t σ H R := q
theorem i_tB {t : TE} (q : t σ H fun x H' => ∃ k, x = .bl k ∧ R k H') : tB t σ H R := q
theorem i_bl {k : Bool} {P : Bool → Prop} (q : P k) : ∃ k', V.bl k = .bl k' ∧ P k' := ⟨k, rfl, q⟩
theorem i_and {t u : TT} (q : t σ H fun c H1 => if c = true then u σ H1 R else R false H1) : tAnd t u σ H R := q
theorem i_or {t u : TT} (q : t σ H fun c H1 => if c = true then R true H1 else u σ H1 R) : tOr t u σ H R := q
theorem i_not {t : TT} (q : t σ H fun c H1 => R (!c) H1) : tNot t σ H R := q
theorem i_andV {ta tb : TE} (q : ta σ H fun x H1 => ∃ c, x = .bl c ∧ if c = true then tb σ H1 Q else Q (.bl false) H1) : tAndV ta tb σ H Q := q
theorem i_orV {ta tb : TE} (q : ta σ H fun x H1 => ∃ c, x = .bl c ∧ if c = true then Q (.bl true) H1 else tb σ H1 Q) : tOrV ta tb σ H Q := q
theorem i_notV {ta : TE} (q : ta σ H fun x H1 => ∃ c, x = .bl c ∧ Q (.bl (!c)) H1) : tNotV ta σ H Q := q
theorem i_isN {ta : TE} (q : ta σ H fun x H1 => Q (.bl (decide (x = .non))) H1) : tIsN ta σ H Q := q
theorem i_notN {ta : TE} (q : ta σ H fun x H1 => Q (.bl (!decide (x = .non))) H1) : tNotN ta σ H Q := q
theorem i_ifE {t : TT} {ta tb : TE} (q : t σ H fun c H1 => if c = true then ta σ H1 Q else tb σ H1 Q) : tIf t ta tb σ H Q := q
theorem i_seq {t u : TS} (q : t { D with nx := u D } σ H) : tSeq t u D σ H := q
theorem i_asg {te : TE} {g : TG} (q : te σ H fun x H1 => g x σ H1 D.nx) : tAsg te g D σ H := q
theorem i_name {i : Nat} {v : V} {N : St → Hp → Prop} (q : N (σ.set i (some v)) H) : gName i v σ H N := q
theorem i_ret {te : TE} (q : te σ H D.rt) : tRet te D σ H := q
theorem i_if {c : TT} {t u : TS} (q : c σ H fun b H1 => if b = true then t D σ H1 else u D σ H1) : tIfS c t u D σ H := q
theorem i_next (q : D.nx σ H) : tNext D σ H := q
theorem i_drop {te : TE} (q : te σ H fun _ H1 => D.nx σ H1) : tDrop te D σ H := q
theorem i_cons {ta : TE} {tr : TA} {N : List V → Hp → Prop} (q : ta σ H fun x H1 => tr σ H1 fun xs H2 => N (x :: xs) H2) : tCons ta tr σ H N := q
theorem i_nil {N : List V → Hp → Prop} (q : N [] H) : tNil σ H N := q
theorem i_cb {r : List V → Hp → VK → Prop} {t : TA} (q : t σ H fun vs H1 => r vs H1 Q) : tCB r t σ H Q := q
theorem i_call {sp : Sp} {E : XK} {t : TA} (q : t σ H fun vs H1 => sp (vs ++ []) H1 Q E) : tCall sp [] E t σ H Q := q
theorem i_tup {t : TA} (q : t σ H fun xs H1 => xs.length ≤ sizeLine ∧ ∀ p, H1 p = none → Q (.ref p) (upd H1 p (.tup xs))) : tTup t σ H Q := q
theorem i_lst {t : TA} (q : t σ H fun xs H1 => xs.length ≤ sizeLine ∧ ∀ p, H1 p = none → Q (.ref p) (upd H1 p (.lst xs))) : tLst t σ H Q := q
theorem i_ixL {p : Addr} {xs : List V} {i : Int} {v : V} (h : SqL K H p xs) (e : atI xs i = some v) (q : Q v H) : rIxL K (.ref p) (.int i) H Q := ⟨p, xs, i, v, rfl, rfl, h, e, q⟩
theorem i_ixT {p : Addr} {xs : List V} {i : Int} {v : V} (h : SqT K H p xs) (e : atI xs i = some v) (q : Q v H) : rIxT K (.ref p) (.int i) H Q := ⟨p, xs, i, v, rfl, rfl, h, e, q⟩
theorem i_gsub {to ti : TE} {t : TSet} {v : V} {N : St → Hp → Prop} (q : to σ H fun o H1 => ti σ H1 fun i H2 => t o i v H2 fun H3 => N σ H3) : gSub to ti t v σ H N := q
theorem i_setL {p : Addr} {xs : List V} {k : Int} {j : Nat} {v : V} {N : Hp → Prop} (h : H p = some (.lst xs)) (e : ixN xs.length k = some j) (q : N (upd H p (.lst (xs.set j v)))) : rSetL (.ref p) (.int k) v H N := ⟨p, xs, k, j, rfl, rfl, h, e, q⟩
theorem i_gtup {n : Nat} {t : TGs} {a : Addr} {xs : List V} {N : St → Hp → Prop} (h : SqT K H a xs) (l : xs.length = n) (q : t xs σ H N) : gTup K n t (.ref a) σ H N := ⟨a, xs, rfl, h, l, q⟩
theorem i_gcons {t : TG} {u : TGs} {v : V} {r : List V} {N : St → Hp → Prop} (q : t v σ H fun σ' H' => u r σ' H' N) : gCons t u (v :: r) σ H N := ⟨v, r, rfl, q⟩
theorem i_gnil {N : St → Hp → Prop} (q : N σ H) : gNil [] σ H N := ⟨rfl, q⟩
theorem i_yes (q : R true H) : tYes σ H R := q
theorem i_slice {r : V → Option Int → Option Int → Hp → VK → Prop} {te : TE} {tl th : TO} (q : te σ H fun x H1 => tl σ H1 fun l H2 => th σ H2 fun u H3 => r x l u H3 Q) : tSl r te tl th σ H Q := q
theorem i_nopart {N : Option Int → Hp → Prop} (q : N none H) : tNoPart σ H N := q
theorem i_part {t : TE} {N : Option Int → Hp → Prop} (q : t σ H fun x H1 => ∃ i, x = .int i ∧ N (some i) H1) : tPart t σ H N := q
theorem i_int {i : Int} {P : Int → Prop} (q : P i) : ∃ j, V.int i = .int j ∧ P j := ⟨i, rfl, q⟩
theorem i_slL {a : Addr} {xs : List V} {lo hi : Option Int} (h : SqL K H a xs) (q : ∀ p, H p = none → Q (.ref p) (upd H p (.lst (cutV xs lo hi)))) : rSlL K (.ref a) lo hi H Q := ⟨a, xs, rfl, h, q⟩
theorem i_comp {n : Nat} {fre : List (Nat × Str)} {wi : TI} {g : TG} {tt : TT} {te : TE} (q : wi σ H fun J H1 => CompT J g tt te (fun ys H' => ∀ D, H' D = none → Q (.ref D) (upd H' D (.lst ys))) (startC n fre σ) H1) : tComp n fre wi g tt te σ H Q := q
theorem i_zip {ta : TA} {N : It → Hp → Prop} (q : ta σ H fun vs H1 => ∃ a b, vs = [.ref a, .ref b] ∧
  ((∃ xs ys, SqL K H1 a xs ∧ SqL K H1 b ys ∧ N (Itz (fun H xs => SqL K H a xs) (fun H ys => SqL K H b ys)) H1) ∨
   (∃ xs ys, SqT K H1 a xs ∧ SqT K H1 b ys ∧ N (Itz (fun H xs => SqT K H a xs) (fun H ys => SqT K H b ys)) H1))) : iZip K ta σ H N := q
theorem i_itL {tl : TE} {N : It → Hp → Prop} (q : tl σ H fun x H1 => ∃ a, x = .ref a ∧ (∃ xs, SqL K H1 a xs) ∧ N (Itl K a) H1) : iList K tl σ H N := q
theorem i_itT {tl : TE} {N : It → Hp → Prop} (q : tl σ H fun x H1 => ∃ a, x = .ref a ∧ (∃ xs, SqT K H1 a xs) ∧ N (Itt K a) H1) : iTup K tl σ H N := q
theorem i_rng1 {ta : TA} {N : It → Hp → Prop} (q : ta σ H fun vs H1 => ∃ j : Int, vs = [.int j] ∧ -(2 ^ 62) ≤ j ∧ j < 2 ^ 62 ∧ N (Itr 0 j.toNat) H1) : iRng1 ta σ H N := q
/-! named readings of calls -/
def rLen (K : PySem.W.Frag) : List V → Hp → VK → Prop := fun xs H Q => ∃ p ys, xs = [.ref p] ∧ (SqL K H p ys ∨ SqT K H p ys) ∧ Q (.int ys.length) H
def rAbs : List V → Hp → VK → Prop := fun xs H Q => ∃ i, xs = [.int i] ∧ Q (.int (if i < 0 then -i else i)) H
def rListOf (K : PySem.W.Frag) : List V → Hp → VK → Prop := fun xs H Q => ∃ p ys, xs = [.ref p] ∧ (SqL K H p ys ∨ SqT K H p ys) ∧ ∀ l, H l = none → Q (.ref l) (upd H l (.lst ys))
theorem i_len {p : Addr} {ys : List V} (h : SqL K H p ys) (q : Q (.int ys.length) H) : rLen K [.ref p] H Q := ⟨p, ys, rfl, .inl h, q⟩
theorem i_lenT {p : Addr} {ys : List V} (h : SqT K H p ys) (q : Q (.int ys.length) H) : rLen K [.ref p] H Q := ⟨p, ys, rfl, .inr h, q⟩
theorem i_abs {i : Int} (q : Q (.int (if i < 0 then -i else i)) H) : rAbs [.int i] H Q := ⟨i, rfl, q⟩
theorem i_list {p : Addr} {ys : List V} (h : SqL K H p ys) (q : ∀ l, H l = none → Q (.ref l) (upd H l (.lst ys))) : rListOf K [.ref p] H Q := ⟨p, ys, rfl, .inl h, q⟩
theorem i_isi {x : V} {T t : String} (k : Knd K H x t) (hT : T ∈ ["bool", "int", "str", "list", "tuple", "dict"]) (q : Q (.bl (isTy t T)) H) : rIsi K [x, .ty T] H Q := ⟨x, T, t, rfl, k, hT, q⟩
end
section
variable {X : Cx}
theorem call_absR : CallR X (.builtin "abs") rAbs := call_abs
end
/-! the rules that read sequences, the written part named -/
section
variable {X : Cx} {K : PySem.W.Frag}
theorem ixL (h : X.K = K) : IxR X (rIxL K) := by subst h; exact ix_list
theorem ixT (h : X.K = K) : IxR X (rIxT K) := by subst h; exact ix_tup
theorem slL (h : X.K = K) : SlR X (rSlL K) := by subst h; exact sl_list
theorem cLen (h : X.K = K) : CallR X (.builtin "len") (rLen K) := by subst h; exact call_len_seq
theorem cList (h : X.K = K) : CallR X (.type "list") (rListOf K) := by subst h; exact call_list_of
theorem cIsi (h : X.K = K) : CallR X (.builtin "isinstance") (rIsi K) := by subst h; exact call_isi
theorem cIsiT (h : X.K = K) : CallR X (.builtin "isinstance") (rIsiT K) := by subst h; exact call_isiT
theorem cAll (h : X.K = K) (hc : X.calm = true) : CallR X (.builtin "all") (rAll K) := by subst h; exact call_allL hc
theorem oIn (h : X.K = K) : OpR X (compareOp .In) (rIn K false) := by subst h; exact op_in_seq
theorem oNotIn (h : X.K = K) : OpR X (compareOp .NotIn) (rIn K true) := by subst h; exact op_notIn_seq
theorem piL {tg l : Expr} {tl : TE} (h : X.K = K) (hl : PE X l tl) : PI X tg l (iList K tl) := by subst h; exact pi_list hl
theorem piT {tg l : Expr} {tl : TE} (h : X.K = K) (hl : PE X l tl) : PI X tg l (iTup K tl) := by subst h; exact pi_tup hl
theorem piZ {es : List Expr} {kk : Nat} {tpos : Pos} {a b : Expr} {ta : TA} {p pos : Pos} (h : X.K = K) (hg : Gl X "zip") (hm : X.mg "zip" = none) (ha : PA X [a, b] ta) (hs : starEach [a, b] X.env = [(false, eval a X.env), (false, eval b X.env)] := by rfl) (hs2 : starEach [b] X.env = [(false, eval b X.env)] := by rfl) :
    PI X (.Tuple es kk tpos) (.Call (.Name "zip" p) [a, b] [] pos) (iZip K ta) := by subst h; exact pi_zip hg hm ha hs hs2
theorem pgT {es : List Expr} {k : Nat} {t : TGs} {n : Nat} {pos : Pos} (h : X.K = K) (hc : X.calm = true) (hh : PGs X es t)
    (hn : (assignEach es X.env).length = n := by rfl) (hst : (assignEach es X.env).findIdx? (·.1) = none := by rfl) : PG X (.Tuple es k pos) (gTup K n t) := by subst h; exact pg_tup hc hh hn hst
end
theorem cdivB {i j : Int} (h : 0 < j) (h2 : j.natAbs < 2 ^ 500) : CDivB i j := ⟨h, Nat.lt_trans (log2_lt_of h2 (by decide)) (by decide)⟩
end L2

namespace L2
open PySem
/-! ### T. sets of ints: the table -/
def Rise (xs : Array Nat) : Prop := xs.toList.Pairwise (· < ·)
theorem Rise.lt {xs : Array Nat} (h : Rise xs) (d : Nat) : ∀ a b, a < b → b < xs.size → xs.getD a d < xs.getD b d := fun a b hab hb => by
  have := (List.pairwise_iff_getElem.mp h) a b (by simpa using Nat.lt_trans hab hb) (by simpa using hb) hab
  simpa [Array.getD, hb, Nat.lt_trans hab hb] using this
theorem below_go {xs : Array Nat} {j : Nat} (hs : ∀ a b, a < b → b < xs.size → xs.getD a j < xs.getD b j) : ∀ (fuel lo hi : Nat), hi - lo ≤ fuel → lo ≤ hi → hi ≤ xs.size → (∀ i, i < lo → xs.getD i j < j) → (∀ i, hi ≤ i → i < xs.size → j ≤ xs.getD i j) →
    SetTable.below.go xs j fuel lo hi ≤ xs.size ∧ (∀ i, i < SetTable.below.go xs j fuel lo hi → xs.getD i j < j) ∧ (∀ i, SetTable.below.go xs j fuel lo hi ≤ i → i < xs.size → j ≤ xs.getD i j)
  | 0, lo, hi, hf, hl, hh, h1, h2 => by
    unfold SetTable.below.go
    exact ⟨by omega, h1, fun i a b => h2 i (by omega) b⟩
  | fuel + 1, lo, hi, hf, hl, hh, h1, h2 => by
    unfold SetTable.below.go
    by_cases hlt : lo < hi
    · rw [if_pos hlt]
      dsimp only
      by_cases hm : xs.getD ((lo + hi) / 2) j < j
      · rw [if_pos hm]
        refine below_go hs fuel _ _ (by omega) (by omega) hh (fun i hi' => ?_) h2
        by_cases e : i = (lo + hi) / 2
        · rw [e]; exact hm
        · exact Nat.lt_trans (hs i ((lo + hi) / 2) (by omega) (by omega)) hm
      · rw [if_neg hm]
        refine below_go hs fuel _ _ (by omega) (by omega) (by omega) h1 (fun i hi' hsz => ?_)
        by_cases e : i = (lo + hi) / 2
        · rw [e]; omega
        · have := hs ((lo + hi) / 2) i (by omega) hsz
          omega
    · rw [if_neg hlt]
      exact ⟨by omega, h1, fun i a b => h2 i (by omega) b⟩
theorem below_spec {xs : Array Nat} (h : Rise xs) (j : Nat) : SetTable.below xs j ≤ xs.size ∧ (∀ i, i < SetTable.below xs j → xs.getD i j < j) ∧ (∀ i, SetTable.below xs j ≤ i → i < xs.size → j ≤ xs.getD i j) := by
  unfold SetTable.below
  exact below_go (h.lt j) xs.size 0 xs.size (by omega) (Nat.zero_le _) (Nat.le_refl _) (fun i hi => absurd hi (Nat.not_lt_zero _)) (fun i a b => absurd b (by omega))
/-- the place of the first that is not below j -/
theorem below_of {xs : Array Nat} (h : Rise xs) {j k : Nat} (hk : k ≤ xs.size) (h1 : ∀ i, i < k → xs.getD i j < j) (h2 : ∀ i, k ≤ i → i < xs.size → j ≤ xs.getD i j) : SetTable.below xs j = k := by
  obtain ⟨b0, b1, b2⟩ := below_spec h j
  rcases Nat.lt_trichotomy (SetTable.below xs j) k with z | z | z
  · have := b2 _ (Nat.le_refl _) (by omega)
    have := h1 _ z
    omega
  · exact z
  · have := h2 k (Nat.le_refl _) (by omega)
    have := b1 _ z
    omega
theorem below_zero {xs : Array Nat} (h : Rise xs) : SetTable.below xs 0 = 0 := below_of h (Nat.zero_le _) (fun i hi => absurd hi (Nat.not_lt_zero _)) fun _ _ _ => Nat.zero_le _
theorem below_next {xs : Array Nat} (h : Rise xs) {i j : Nat} (e : xs[i]? = some j) : SetTable.below xs (j + 1) = i + 1 := by
  obtain ⟨hi, ej⟩ := Array.getElem?_eq_some_iff.mp e
  have g : ∀ d, xs.getD i d = j := fun d => by simp [Array.getD, hi, ej]
  refine below_of h (by omega) (fun k hk => ?_) fun k hk hs => ?_
  · rcases Nat.lt_or_ge k i with z | z
    · have := h.lt (j + 1) k i z hi
      rw [g] at this
      omega
    · have z' : k = i := by omega
      rw [z', g]; omega
  · have := h.lt (j + 1) i k (by omega) hs
    rw [g] at this
    omega
theorem put_rise {t : SetTable} {j : Nat} (h : Rise t.place) (hn : t.place[SetTable.below t.place j]? ≠ some j) : Rise (t.put j).1.place := by
  obtain ⟨b0, b1, b2⟩ := below_spec h j
  show Rise (SetTable.insertAt t.place (SetTable.below t.place j) j)
  generalize SetTable.below t.place j = p at *
  unfold Rise
  rw [SetTable.toList_insertAt]
  have hp : t.place.toList.Pairwise (· < ·) := h
  have hp' := hp
  rw [← List.take_append_drop p t.place.toList, List.pairwise_append] at hp'
  obtain ⟨q1, q2, q3⟩ := hp'
  have lo : ∀ a ∈ t.place.toList.take p, a < j := fun a ha => by
    obtain ⟨i, hi, e⟩ := List.getElem_of_mem ha
    rw [List.length_take] at hi
    rw [List.getElem_take] at e
    have := b1 i (by omega)
    have hs : i < t.place.size := by simp at hi; omega
    simp [Array.getD, hs] at this
    rw [← e]
    simpa using this
  have hi' : ∀ a ∈ t.place.toList.drop p, j < a := fun a ha => by
    obtain ⟨i, hi, e⟩ := List.getElem_of_mem ha
    rw [List.length_drop] at hi
    rw [List.getElem_drop] at e
    have hs : p + i < t.place.size := by simp at hi; omega
    have c := b2 (p + i) (by omega) hs
    simp [Array.getD, hs] at c
    have e' : t.place[p + i] = a := by simpa using e
    rw [e'] at c
    rcases Nat.lt_or_ge j a with z | z
    · exact z
    · have z' : a = j := by omega
      subst z'
      exfalso
      have hp0 : p < t.place.size := by omega
      have c0 := b2 p (Nat.le_refl _) hp0
      simp [Array.getD, hp0] at c0
      rcases Nat.eq_zero_or_pos i with i0 | i0
      · subst i0
        exact hn (by rw [Array.getElem?_eq_getElem hp0]; exact congrArg some (by simpa using e'))
      · have := h.lt 0 p (p + i) (by omega) hs
        simp [Array.getD, hs, hp0] at this
        rw [e'] at this
        omega
  rw [List.pairwise_append]
  refine ⟨q1, List.pairwise_cons.mpr ⟨hi', q2⟩, fun a ha b hb => ?_⟩
  rcases List.mem_cons.mp hb with rfl | hb
  · exact lo a ha
  · exact q3 a ha b hb
theorem probe_go {t : SetTable} {h : Int} {j : Nat} {dm : Option Nat} : ∀ (fuel : Nat) (p : SetTable.Probe), (∀ d, p.dummy = some d → t.slot d = .dummy) → SetTable.probe.go t (fun _ => h + 1) h fuel p = some (.empty j dm) →
    t.slot j = .empty ∧ ∀ d, dm = some d → t.slot d = .dummy
  | 0, p, _, e => by unfold SetTable.probe.go at e; cases e
  | fuel + 1, p, hp, e => by
    unfold SetTable.probe.go at e
    have adv : ∀ q : SetTable.Probe, (t.advance q).dummy = q.dummy := fun q => by unfold SetTable.advance; split <;> rfl
    split at e
    · rename_i hs
      have e' := Option.some.inj e
      injection e' with e1 e2
      subst e1; subst e2
      exact ⟨hs, hp⟩
    · rename_i hs
      refine probe_go fuel _ (fun d hd => ?_) e
      rw [adv] at hd
      have hd' : some p.j = some d := hd
      cases hd'
      exact hs
    · rename_i i hs
      split at e
      · cases e
      · refine probe_go fuel _ (fun d hd => ?_) e
        rw [adv] at hd
        exact hp d hd
theorem slot_live {t : SetTable} {j : Nat} (h : t.slot j = .empty ∨ t.slot j = .dummy) : t.place[SetTable.below t.place j]? ≠ some j := fun e => by
  unfold SetTable.slot at h
  dsimp only at h
  rw [e] at h
  simp at h
theorem freeSlot_live {t : SetTable} {h : Int} {j : Nat} {d : Bool} (e : t.freeSlot h = some (j, d)) : t.place[SetTable.below t.place j]? ≠ some j := by
  unfold SetTable.freeSlot at e
  split at e
  · rename_i j' dm hp
    have q := probe_go (10 * SetTable.turns t.mask) _ (fun d hd => by cases hd) hp
    have e' := Option.some.inj e
    injection e' with e1 _
    subst e1
    cases dm with
    | none => exact slot_live (.inl q.1)
    | some d => exact slot_live (.inr (q.2 d rfl))
  · cases e
theorem rise_range (n : Nat) : Rise (Array.range n) := by
  unfold Rise
  rw [Array.toList_range]
  exact List.pairwise_lt_range
theorem standIn_rise (t : SetTable) (n : Nat) : Rise (t.standIn n).place := rise_range n
theorem layNew_rise {t : SetTable} {es : Array (Int × Value)} {h : Int} {x : Value} (r : Rise t.place) : Rise (layNew t es h x).2.1.place ∧ (layNew t es h x).2.1.led = t.led := by
  unfold layNew
  split
  · rename_i slot wd e
    dsimp only
    unfold SetTable.orStandIn
    split
    · exact ⟨put_rise r (freeSlot_live e), rfl⟩
    · exact ⟨standIn_rise _ _, rfl⟩
  · exact ⟨standIn_rise _ _, rfl⟩
theorem laid_rise {mask finger moves : Nat} {led plain : Bool} {hs : Array Int} {t : SetTable} {o : Array Nat} (e : SetTable.laid mask finger moves led plain hs = some (t, o)) : Rise t.place ∧ t.led = led := by
  unfold SetTable.laid at e
  cases q : SetTable.layClean mask hs with
  | none => rw [q] at e; cases e
  | some owner =>
    rw [q] at e
    have e' := Option.some.inj e
    injection e' with e1 _
    subst e1
    refine ⟨?_, rfl⟩
    unfold Rise
    dsimp only
    rw [List.pairwise_map]
    refine List.Pairwise.filterMap _ (fun a a' hlt b hb b' hb' => ?_) (List.pairwise_lt_range (n := mask + 1))
    cases q1 : owner.getD a none with
    | none => rw [q1] at hb; cases hb
    | some v =>
      rw [q1] at hb
      cases q2 : owner.getD a' none with
      | none => rw [q2] at hb'; cases hb'
      | some v' =>
        rw [q2] at hb'
        cases hb
        cases hb'
        exact hlt
theorem relayAll_rise {t : SetTable} {es : Array (Int × Value)} {n : Nat} : Rise (relayAll t es n).2.1.place ∧ (relayAll t es n).2.1.led = t.led := by
  unfold relayAll
  split
  · rename_i t' order e
    dsimp only
    split
    · exact laid_rise e
    · exact ⟨standIn_rise _ _, rfl⟩
  · exact ⟨standIn_rise _ _, rfl⟩
end L2

namespace L2
open PySem PySem.Spec PyProof.Rows
/-! ### sets of ints: what stands in the heap -/
def bt (w : World) : Bool := w.params.followText "set-order"
def keyOf (e : Int × Value) : Int := match e.2 with
  | .int k _ => k
  | _ => 0
def EntOk (e : Int × Value) : Prop := ∃ k tok, e = (hashInt k, Value.int k tok)
/-- the set at a holds the ints ks, in the table's order -/
def SetG (w : World) (h : Heap) (a : Addr) (ks : List Int) : Prop := ∃ (o : Obj) (es : Array (Int × Value)) (ep : Nat) (t : SetTable), h.get? a = some o ∧ o.ExactSet ∧ o.data = .set es ep t ∧
  es.toList.map keyOf = ks ∧ (∀ e ∈ es.toList, EntOk e) ∧ ks.Nodup ∧ ks.length < scanBound ∧ t.fits es.size = true ∧ Rise t.place ∧ (t.led = true ∨ bt w = true)
theorem SetG.at {w : World} {h h' : Heap} {a : Addr} {ks : List Int} (g : SetG w h a ks) (k : ∀ o, h.get? a = some o → h'.get? a = some o) : SetG w h' a ks := by
  obtain ⟨o, es, ep, t, e, r⟩ := g
  exact ⟨o, es, ep, t, k o e, r⟩
theorem SetG.lt {w : World} {h : Heap} {a : Addr} {ks : List Int} (g : SetG w h a ks) : a < h.objs.size := by
  obtain ⟨o, es, ep, t, e, r⟩ := g
  exact Heap.lt_size e
section
variable {prog : Program} {w : World} {A : Around} {E : Value → Shared → Prop} {s : Shared}
theorem ents_elems {l : List (Int × Value)} (h : ∀ e ∈ l, EntOk e) : ElemsOf (intKind prog w) l := fun e he => by
  obtain ⟨k, tok, rfl⟩ := h e he
  exact ⟨⟨k, intKind_is _ _ _ _, rfl⟩, rfl⟩
theorem is_key {e : Int × Value} (h : EntOk e) (k : Int) : (intKind prog w).is k e.2 = decide (keyOf e = k) := by
  obtain ⟨k', tok, rfl⟩ := h
  show Value.isInt k (.int k' tok) = _
  by_cases z : k' = k
  · subst z; simp [Value.isInt, keyOf]
  · rw [decide_eq_false (by exact z)]
    simp [Value.isInt, z]
theorem find_none {l : List (Int × Value)} (h : ∀ e ∈ l, EntOk e) {k : Int} : l.findIdx? (fun e => (intKind prog w).is k e.2) = none ↔ k ∉ l.map keyOf := by
  rw [List.findIdx?_eq_none_iff]
  constructor
  · intro q hm
    obtain ⟨e, he, ek⟩ := List.mem_map.mp hm
    have := q e he
    rw [is_key (h e he), decide_eq_true ek] at this
    cases this
  · intro q e he
    rw [is_key (h e he)]
    exact decide_eq_false fun ek => q (List.mem_map.mpr ⟨e, he, ek⟩)
theorem storeG {h : Heap} {a : Addr} {o : Obj} {es : Array (Int × Value)} {ep : Nat} {t : SetTable} (ho : h.get? a = some o) (hex : o.ExactSet) (hd : o.data = .set es ep t)
    {es' : Array (Int × Value)} {t' : SetTable} (hel : ∀ e ∈ es'.toList, EntOk e) (hnd : (es'.toList.map keyOf).Nodup) (hb : es'.size < scanBound) (hf : t'.fits es'.size = true) (hr : Rise t'.place) (hl : t'.led = true ∨ bt w = true) :
    (h.update a (Obj.putSet es' t')).get? a = some { o with data := .set es' (ep + 1) t' } ∧ SetG w (h.update a (Obj.putSet es' t')) a (es'.toList.map keyOf) := by
  have hg : (h.update a (Obj.putSet es' t')).get? a = some { o with data := .set es' (ep + 1) t' } := by
    have := Heap.get?_update_self (Obj.putSet es' t') ho (by rw [putSet_of es' t' hd]; rfl)
    rw [putSet_of es' t' hd] at this; exact this
  exact ⟨hg, _, es', ep + 1, t', hg, hex, rfl, rfl, hel, hnd, by simpa using hb, hf, hr, hl⟩
theorem addTailG {g : Bool → Sem Unit} (hg : ∀ (b : Bool) (s₁ : Shared) (Q' : Unit → Shared → Prop), Q' () s₁ → wpAny (model prog w) A (g b) Q' E s₁)
    {a : Addr} {o : Obj} {es : Array (Int × Value)} {ep : Nat} {t : SetTable} (ho : s.heap.get? a = some o) (hex : o.ExactSet) (hd : o.data = .set es ep t)
    {es1 : Array (Int × Value)} {t2 : SetTable} (hel1 : ∀ e ∈ es1.toList, EntOk e) (hnd : (es1.toList.map keyOf).Nodup) (hb1 : es1.size < scanBound) (hf2 : t2.fits es1.size = true) (hr : Rise t2.place) (hl : t2.led = true ∨ bt w = true)
    {wasDummy : Bool} {R : Option Bool → Shared → Prop}
    (h : ∀ h' ks, Heap.SameBut a s.heap h' → SetG w h' a ks → ks.Perm (es1.toList.map keyOf) → R (some true) { s with heap := h' }) :
    wpAny (model prog w) A (do
        storeSet a es1 t2
        if (!wasDummy && t2.tooFull) = true then do
            g (relayAll t2 es1 (SetTable.grown es1.size)).2.2
            storeSet a (relayAll t2 es1 (SetTable.grown es1.size)).1 (relayAll t2 es1 (SetTable.grown es1.size)).2.1
            pure (some true)
          else pure (some true)) R E s := by
  refine wpAny_bind (wpAny_storeSet_of ho hd ?_ (fits_of_scanBound hb1))
  obtain ⟨ho1, hS1⟩ := storeG (w := w) ho hex hd hel1 hnd hb1 hf2 hr hl
  have hsb1 := Heap.SameBut.update s.heap a (Obj.putSet es1 t2)
  split
  · have hp := relayAll_perm t2 es1 (SetTable.grown es1.size)
    have hfr := relayAll_fits t2 es1 (SetTable.grown es1.size)
    obtain ⟨rr, rl⟩ := relayAll_rise (t := t2) (es := es1) (n := SetTable.grown es1.size)
    generalize relayAll t2 es1 (SetTable.grown es1.size) = Rl at hp hfr rr rl ⊢
    obtain ⟨es2, t3, gave2⟩ := Rl
    dsimp only at hp hfr rr rl ⊢
    have pm : (es2.toList.map keyOf).Perm (es1.toList.map keyOf) := hp.map _
    have hsz : es2.size = es1.size := by rw [← Array.length_toList, hp.length_eq, Array.length_toList]
    have hb2 : es2.size < scanBound := by rw [hsz]; exact hb1
    refine wpAny_bind (hg _ _ _ ?_)
    refine wpAny_bind (wpAny_storeSet_of ho1 rfl ?_ (fits_of_scanBound hb2))
    obtain ⟨_, hS2⟩ := storeG (w := w) ho1 hex rfl (fun e he => hel1 e (hp.mem_iff.mp he)) (pm.nodup_iff.mpr hnd) hb2 hfr rr (by rw [rl]; exact hl)
    exact wpAny_pure (h _ _ (hsb1.trans (Heap.SameBut.update _ a _)) hS2 pm)
  · exact wpAny_pure (h _ _ hsb1 hS1 (List.Perm.refl _))
theorem setAddG {a : Addr} {ks : List Int} {k : Int} {tok : Tok} {Q : Bool → Shared → Prop} (hS : SetG w s.heap a ks) (hroom : ks.length + 1 < scanBound)
    (h : ∀ h' ks', Heap.SameBut a s.heap h' → SetG w h' a ks' → ks'.Perm (if k ∈ ks then ks else k :: ks) → Q (decide (k ∉ ks)) { s with heap := h' }) :
    wpAny (model prog w) A (setAddHashed a (.int k tok) (hashInt k)) Q E s := by
  obtain ⟨o, es, ep, t, ho, hex, hd, rfl, hel, hnd, hb, hf, hr, hl⟩ := hS
  have hbs : es.size < scanBound := by simpa using hb
  have hel' : ElemsOf (intKind prog w) es.toList := ents_elems hel
  unfold setAddHashed setAddHashedIn
  refine wpAny_holding (wpAny_bind (wpAny_setState_of ho hd hf ?_))
  dsimp only
  rw [byScan_of (knd := intKind prog w) rfl hbs hel']
  simp only [↓reduceIte]
  unfold setAddByScan
  refine wpAny_bind (wpAny_bind (wpAny_rule (wpAny_bind (wpAny_setScan_of (knd := intKind prog w) (k := k) (intKind_is _ _ _ _) ho hd hf hel' ?_))))
  cases hq : List.findIdx? (fun e => (intKind prog w).is k e.2) es.toList with
  | some j =>
    have hin : k ∈ es.toList.map keyOf := by
      rcases Classical.em (k ∈ es.toList.map keyOf) with z | z
      · exact z
      · rw [(find_none (prog := prog) (w := w) hel).mpr z] at hq; cases hq
    refine wpAny_pure (wpAny_pure ?_)
    have e : s = { s with heap := s.heap } := by cases s; rfl
    have q := h s.heap _ (Heap.SameBut.refl a s.heap) ⟨o, es, ep, t, ho, hex, hd, rfl, hel, hnd, hb, hf, hr, hl⟩ (by rw [if_pos hin])
    rw [decide_eq_false (fun z => z hin)] at q
    rw [e]; exact q
  | none =>
    have hin : k ∉ es.toList.map keyOf := (find_none (prog := prog) (w := w) hel).mp hq
    have hperm := layNew_perm t es (hashInt k) (.int k tok)
    have hfits := layNew_fits t es (hashInt k) (.int k tok)
    obtain ⟨rr, rl⟩ := layNew_rise (es := es) (h := hashInt k) (x := .int k tok) hr
    have hgw : ∀ (b : Bool) {s₁ : Shared} {Q' : Unit → Shared → Prop}, Q' () s₁ → wpAny (model prog w) A (match b with | true => rule "set.scan.the-table-gave-way" | false => pure ()) Q' E s₁ :=
      fun b s₁ Q' hq => by cases b <;> first | exact wpAny_pure hq | exact wpAny_rule hq
    dsimp only
    generalize hL : layNew t es (hashInt k) (.int k tok) = L at hperm hfits rr rl
    obtain ⟨es1, t1, wasDummy, gave⟩ := L
    dsimp only at hperm hfits rr rl ⊢
    rw [Array.toList_push] at hperm
    have hel1 : ∀ e ∈ es1.toList, EntOk e := fun e he => by
      rcases List.mem_append.mp (hperm.mem_iff.mp he) with z | z
      · exact hel e z
      · rw [List.mem_singleton] at z; exact ⟨k, tok, z⟩
    have pm : (es1.toList.map keyOf).Perm (k :: es.toList.map keyOf) := by
      refine (hperm.map _).trans ?_
      rw [List.map_append]
      exact List.perm_append_comm
    have hnd1 : (es1.toList.map keyOf).Nodup := pm.nodup_iff.mpr (List.nodup_cons.mpr ⟨hin, hnd⟩)
    have hsz1 : es1.size = es.size + 1 := by rw [← Array.length_toList, hperm.length_eq, List.length_append, Array.length_toList]; rfl
    have hb1 : es1.size < scanBound := by rw [hsz1]; simpa using hroom
    have hend : ∀ h' ks', Heap.SameBut a s.heap h' → SetG w h' a ks' → ks'.Perm (es1.toList.map keyOf) → Q true { s with heap := h' } := fun h' ks' sb g p => by
      have q := h h' ks' sb g (by rw [if_neg hin]; exact p.trans pm)
      rw [decide_eq_true hin] at q
      exact q
    refine wpAny_bind (hgw _ ?_)
    have hl1 : t1.led = true ∨ bt w = true := by rw [rl]; exact hl
    split
    · refine wpAny_bind ?_
      rw [hashByValue_scannable 8 (show Value.scannable (.int k tok) = true from rfl)]
      refine wpAny_pure ?_
      refine addTailG ?_ ho hex hd hel1 hnd1 hb1 ?_ ?_ ?_ ?_
      · intro b s₁ Q' hq; cases b <;> first | exact wpAny_pure hq | exact wpAny_rule hq
      · split
        · exact hfits
        · exact SetTable.fits_plain_off hfits
      · split
        · exact rr
        · exact rr
      · split
        · exact hl1
        · exact hl1
      · intro h' ks' hsb g p; exact wpAny_pure (hend h' ks' hsb g p)
    · refine wpAny_bind (wpAny_pure ?_)
      simp only [↓reduceIte]
      refine addTailG ?_ ho hex hd hel1 hnd1 hb1 hfits rr hl1 ?_
      · intro b s₁ Q' hq; cases b <;> first | exact wpAny_pure hq | exact wpAny_rule hq
      · intro h' ks' hsb g p; exact wpAny_pure (hend h' ks' hsb g p)
end
end L2

namespace L2
open PySem PySem.Spec PyProof.Rows
/-! ### set(list of ints) -/
section
variable {prog : Program} {w : World} {A : Around} {E : Value → Shared → Prop} {s : Shared}
theorem update_loopG {R : Result → Shared → Prop} {I S l : Addr} {items : Array Value} {ns : List Int} (hh : A.in1.handled = none) (hi : IntsAre items.toList ns) (hb : items.size + 1 < scanBound) (n1 : S ≠ I) (n2 : S ≠ l) (n3 : l ≠ I) :
    ∀ (k i : Nat) (s : Shared) (ks : List Int), items.size - i = k → i ≤ items.size → s.heap.IsListIter I l i → s.heap.IsList l items → SetG w s.heap S ks → ks.length ≤ i → (∀ x, x ∈ ks ↔ x ∈ ns.take i) →
      (∀ h' tk ks', (∀ b o, b ≠ S → b ≠ I → s.heap.get? b = some o → h'.get? b = some o) → SetG w h' S ks' → (∀ x, x ∈ ks' ↔ x ∈ ns) → R (.ok (.ret .none)) { s with heap := h', toks := tk }) →
      codeAny (model prog w) A (.builtin "set.update.loop" ⟨[.ref S, .ref I], []⟩) R s := by
  have hlen : items.size = ns.length := by have := IntsAre.length hi; simpa using this
  intro k
  induction k with
  | zero =>
    intro i s ks hk hle hit hl hS hlk hm hR
    have hin : i = items.size := by omega
    subst hin
    refine codeAny_builtin PyProof.Rows.F.entry_set_update_loop ?_
    rw [Around.under_plainId PyProof.Rows.F.plain_set_update_loop _]
    show wpAny _ A.in1 (pyNext (.ref I) >>= _) _ _ s
    refine wpAny_bind (wpAny_pyNext_list_end hh hit hl (by simp) fun h' eb => ?_)
    show wpAny _ A.in1 (ret Value.none) _ _ _
    refine wpAny_pure (hR h' s.toks ks (fun b o _ b2 e => eb b o b2 e) (hS.at fun o e => eb _ _ n1 e) fun x => ?_)
    rw [hm x, hlen, List.take_length]
  | succ k ih =>
    intro i s ks hk hle hit hl hS hlk hm hR
    have hlt : i < items.size := by omega
    obtain ⟨t, hv⟩ := IntsAre.int_at hi i items[i] (by simp [hlt])
    have hgd : ns.getD i 0 = ns[i]'(by omega) := by simp [List.getD_eq_getElem?_getD, show i < ns.length by omega]
    refine codeAny_builtin PyProof.Rows.F.entry_set_update_loop ?_
    rw [Around.under_plainId PyProof.Rows.F.plain_set_update_loop _]
    show wpAny _ A.in1 (pyNext (.ref I) >>= _) _ _ s
    refine wpAny_bind (wpAny_pyNext_list_item hit hl (x := items[i]) (by simp [hlt]) fun h1 hit1 sb1 => ?_)
    have hS1 : SetG w h1 S ks := hS.at fun o e => sb1.extBut _ _ n1 e
    show wpAny _ A.in1 (holding [items[i]] (setAdd S items[i]) >>= _) _ _ _
    rw [hv]
    refine wpAny_bind (wpAny_holding ?_)
    unfold setAdd
    refine wpAny_holding ?_
    refine wpAny_bind ((intKind prog w).pyHash (k := ns.getD i 0) (intKind_is _ _ _ _) ?_)
    refine setAddG (s := { s with heap := h1, toks := s.toks + 1 }) hS1 (by omega) fun h2 ks2 sb2 hS2 p2 => ?_
    have hm2 : ∀ x, x ∈ ks2 ↔ x ∈ ns.take (i + 1) := fun x => by
      rw [p2.mem_iff, List.take_add_one, List.mem_append, ← hm x, show ns[i]? = some (ns.getD i 0) by rw [hgd]; exact List.getElem?_eq_getElem _]
      split
      · rename_i hin
        simp only [Option.toList_some, List.mem_singleton]
        exact ⟨.inl, fun z => z.elim id fun e => e ▸ hin⟩
      · simp only [List.mem_cons, Option.toList_some, List.mem_singleton, List.not_mem_nil, or_false]
        exact Or.comm
    have hl2 : ks2.length ≤ i + 1 := by
      rw [p2.length_eq]
      split
      · omega
      · rw [List.length_cons]; omega
    refine wpAny_pure ⟨plainId_quiet PyProof.Rows.F.plain_set_update_loop _, ih (i + 1) _ ks2 (by omega) hlt ?_ ?_ hS2 hl2 hm2 fun h' tk ks' kp hS' hm' => ?_⟩
    · exact hit1.extBut sb2.extBut (Ne.symm n1)
    · exact (hl.extBut sb1.extBut n3).extBut sb2.extBut (Ne.symm n2)
    · exact hR h' tk ks' (fun b o b1 b2 e => kp b o b1 b2 (sb2.extBut _ _ b1 (sb1.extBut _ _ b2 e))) hS' hm'
theorem set_new_G (a : Value) {Q₁ : Value → Shared → Prop}
    (h : Q₁ (.ref s.heap.objs.size) { s with heap := s.heap.push { cls := .type "set", dict := none, data := .set #[] 0 (.fresh 0 0 (!bt w)) } }) :
    codeAny (model prog w) A (.call (.builtin "set.__new__") ⟨[.type "set", a], []⟩) (wants Q₁ E) s := by
  refine codeAny_of_tree ?_
  show wpAny _ A.in1 (do checkBuiltinCall "set.__new__" ⟨[.type "set", a], []⟩; again (.builtin "set.__new__" ⟨[.type "set", a], []⟩)) _ _ s
  refine wpAny_bind (wpAny_of_eq (PySem.F.newCall_set_1 a) (wpAny_pure ⟨plainId_quiet PySem.F.plain_set_new _, codeAny_builtin PySem.F.entry_set_new ?_⟩))
  rw [Around.under_plainId PySem.F.plain_set_new _]
  unfold Builtin.«set.__new__» Builtin.Frozenset.newClass
  have hsub := sub_set_self
  obtain ⟨hp, g, d, tk, os⟩ := s
  dsimp only
  wp_walk
  refine wpAny_askSetting (wpAny_pure ?_)
  dsimp only
  simp only [newObj]
  refine wpAny_bind (wpAny_alloc (wpAny_pure ?_))
  exact wpAny_pure h
set_option maxHeartbeats 8000000 in
theorem set_listG {l : Addr} {items : Array Value} {ns : List Int} {Q : Value → Shared → Prop} (hh : A.handled = none) (hl : s.heap.IsList l items) (hi : IntsAre items.toList ns) (hb : items.size + 1 < scanBound)
    (h : ∀ (h' : Heap) (tk : Nat) (ks : List Int), SetG w h' s.heap.objs.size ks → (∀ x, x ∈ ks ↔ x ∈ ns) → (∀ b o, b < s.heap.objs.size → s.heap.get? b = some o → h'.get? b = some o) → Q (.ref s.heap.objs.size) { s with heap := h', toks := tk }) :
    wpAny (model prog w) A (call (.type "set") [.ref l]) Q E s := by
  obtain ⟨c, tl, hmro⟩ := PySem.F.called_set.mro
  have hmade := PySem.F.called_set.made
  have hsub := PySem.F.called_set.sub
  refine wpAny_call (codeAny_of_tree ?_)
  show wpAny _ _ (callAny (.type "set") _) _ _ _
  refine wpAny_pure ⟨Code.quiet_builtin _ (by decide +kernel), codeAny_builtin PySem.F.entry_type_call ?_⟩
  rw [Around.under_plain (weight_type_call_type "set" [.ref l] []) rfl]
  have h1 := PySem.F.called_set.notType
  have h2 := PySem.F.called_set.canCreate
  have hct := PySem.F.typeCall_set_1 (.ref l)
  repeat (any_goals (first | assumption | wp_step))
  refine codeAny_mono (set_new_G (w := w) (.ref l) (E := E) (Q₁ := fun obj s₁ => obj = .ref s.heap.objs.size ∧ s₁ = { s with heap := s.heap.push { cls := .type "set", dict := none, data := .set #[] 0 (.fresh 0 0 (!bt w)) } }) ⟨rfl, rfl⟩) fun r s₁ hr => ?_
  cases r with
  | error e => exact hr
  | ok fl =>
    cases fl with
    | ret obj =>
      obtain ⟨rfl, rfl⟩ := hr
      generalize hled : (!bt w) = led
      have hS : (s.heap.push { cls := .type "set", dict := none, data := .set #[] 0 (.fresh 0 0 led) }).get? s.heap.objs.size = some { cls := .type "set", dict := none, data := .set #[] 0 (.fresh 0 0 led) } := Heap.get?_push_size _ rfl
      have hT : Shared.TypeIs { s with heap := s.heap.push { cls := .type "set", dict := none, data := .set #[] 0 (.fresh 0 0 led) } } (.ref s.heap.objs.size) "set" := ⟨_, hS, rfl⟩
      have hli := PySem.F.called_set.init.lookup
      have hbi := PySem.F.called_set.init.bind (.ref s.heap.objs.size)
      repeat (any_goals (first | assumption | wp_step))
      refine codeAny_mono (codeAny_call_builtin (R := wants (fun r s₂ => r = .none ∧ ∃ h' tk ks, s₂ = { s with heap := h', toks := tk } ∧ SetG w h' s.heap.objs.size ks ∧ (∀ x, x ∈ ks ↔ x ∈ ns) ∧
          (∀ b o, b < s.heap.objs.size → s.heap.get? b = some o → h'.get? b = some o)) E) PySem.F.called_set.init.plain PySem.F.entry_set_init (check_set_init_1 hT ?_)) fun r₂ s₂ hr₂ => ?_
      · obtain ⟨ol, hol, hcl, nl, hdl⟩ := hl
        obtain ⟨ocls, odict, odata, oslots⟩ := ol
        simp only at hcl hdl
        subst hcl; subst hdl
        have hol' : (s.heap.push { cls := .type "set", dict := none, data := .set #[] 0 (.fresh 0 0 led) }).get? l = some { cls := .type "list", dict := odict, data := .seq items nl, slots := oslots } := Heap.get?_push_of_some _ hol
        have hsls := PySem.F.sub_list_set
        have hslf := PySem.F.sub_list_frozenset
        have hne : (Value.type "list" == Value.type "dict") = false := by decide
        have hl1 : (s.heap.push { cls := .type "set", dict := none, data := .set #[] 0 (.fresh 0 0 led) }).IsList l items := ⟨_, hol', rfl, nl, rfl⟩
        unfold Builtin.«set.__init__» noKeywords Builtin.Frozenset.updateFrom
        generalize hPI : pyIter = PI
        wp_walk
        subst hPI
        refine wpAny_pyIter_list hl1 ?_
        refine wpAny_bind (wpAny_runValue ?_)
        have hlS : l < s.heap.objs.size := Heap.lt_size hol
        have hh3 : A.in1.in1.in1.handled = none := by simp [hh]
        have hSz : (s.heap.push { cls := .type "set", dict := none, data := .set #[] 0 (.fresh 0 0 led) }).objs.size = s.heap.objs.size + 1 := Heap.size_push ..
        have e1 : s.heap.objs.size ≠ (s.heap.push { cls := .type "set", dict := none, data := .set #[] 0 (.fresh 0 0 led) }).objs.size := by rw [hSz]; exact Nat.ne_of_lt (Nat.lt_succ_self _)
        have e2 : l ≠ (s.heap.push { cls := .type "set", dict := none, data := .set #[] 0 (.fresh 0 0 led) }).objs.size := by rw [hSz]; exact Nat.ne_of_lt (Nat.lt_succ_of_lt hlS)
        refine update_loopG (w := w) hh3 hi hb e1 (Nat.ne_of_gt hlS) e2 (items.size - 0) 0 _ [] (by omega) (Nat.zero_le _)
          ⟨_, Heap.get?_push_size _ rfl, rfl, rfl⟩ (hl1.push _) ⟨_, #[], 0, _, Heap.get?_push_of_some _ hS, ⟨rfl, rfl, rfl⟩, rfl, rfl, fun e he => by simp at he, List.nodup_nil, by decide, by rfl, List.Pairwise.nil, ?_⟩ (Nat.le_refl _) (fun x => by simp) ?_
        · show led = true ∨ bt w = true
          rw [← hled]
          cases bt w <;> simp
        · intro h' tk ks' kp hS' hm'
          show wpAny _ _ _ _ _ _
          refine wpAny_pure ?_
          show wpAny _ _ (ret Value.none) _ _ _
          refine wpAny_pure ⟨rfl, h', tk, ks', rfl, hS', hm', fun b o hb e => ?_⟩
          exact kp b o (Nat.ne_of_lt hb) (by rw [hSz]; exact Nat.ne_of_lt (Nat.lt_succ_of_lt hb)) (Heap.get?_push_of_some _ (Heap.get?_push_of_some _ e))
      · cases r₂ with
        | error e => exact hr₂
        | ok fl₂ =>
          cases fl₂ with
          | ret r =>
            obtain ⟨rfl, h', tk, ks, rfl, hS', hm', hk'⟩ := hr₂
            repeat (any_goals (first | assumption | wp_step))
            exact h _ _ _ hS' hm' hk'
          | _ => exact hr₂.elim
    | _ => exact hr.elim
end
end L2

namespace L2
open PySem PySem.Spec PyProof.Rows
namespace FF
theorem slot_si_next : Slot "set_iterator" "__next__" "set_iterator.__next__" :=
  .of (owner := "set_iterator") (n := "__next__") (by rw [typeLookup_type, builtinLookup_eq_fast]; kernel_rfl) (by decide +kernel) (by decide +kernel) (by decide +kernel)
    (by first | exact .inl (by decide +kernel) | exact .inr (by decide +kernel)) (by rw [isSubtype_type]; kernel_rfl)
theorem slot_si_iter : Slot "set_iterator" "__iter__" "set_iterator.__iter__" :=
  .of (owner := "set_iterator") (n := "__iter__") (by rw [typeLookup_type, builtinLookup_eq_fast]; kernel_rfl) (by decide +kernel) (by decide +kernel) (by decide +kernel)
    (by first | exact .inl (by decide +kernel) | exact .inr (by decide +kernel)) (by rw [isSubtype_type]; kernel_rfl)
theorem entry_si_next : entryFor table "set_iterator.__next__" = some Builtin.«set_iterator.__next__» := entryFor_of_tree (by kernel_rfl)
theorem owner_si : Manifest.owners.lookup (String.ofList ['r', 'o', 't', 'a', 'r', 'e', 't', 'i', '_', 't', 'e', 's'].reverse) = some Manifest.sig_set_iterator := by kernel_rfl
theorem args_si_next (a : Value) : argsOk "set_iterator.__next__" ⟨[a], []⟩ := by
  unfold argsOk; rw [signature?_of (id := "set_iterator.__next__") (n := ['_', '_', 't', 'x', 'e', 'n', '_', '_']) (o := ['r', 'o', 't', 'a', 'r', 'e', 't', 'i', '_', 't', 'e', 's']) (by kernel_rfl) owner_si]; kernel_rfl
theorem entry_si_iter : entryFor table "set_iterator.__iter__" = some Builtin.«dict_keyiterator.__iter__» :=
  entryFor_alias (id' := "dict_keyiterator.__iter__") (by kernel_rfl) (by first | rfl | decide +kernel) (by decide +kernel) (by kernel_rfl)
theorem args_si_iter (a : Value) : argsOk "set_iterator.__iter__" ⟨[a], []⟩ := by
  unfold argsOk; rw [signature?_of (id := "set_iterator.__iter__") (n := ['_', '_', 'r', 'e', 't', 'i', '_', '_']) (o := ['r', 'o', 't', 'a', 'r', 'e', 't', 'i', '_', 't', 'e', 's']) (by kernel_rfl) owner_si]; kernel_rfl
theorem entry_set_iter : entryFor table "set.__iter__" = some Builtin.«frozenset.__iter__» :=
  entryFor_alias (id' := "frozenset.__iter__") (by kernel_rfl) rfl (by decide +kernel) (by kernel_rfl)
end FF
abbrev siObj (first : Value) (i : Nat) (S : Addr) (n ep : Nat) : Obj := { cls := .type "set_iterator", dict := none, data := .fields #[first, rawInt i, .ref S, rawInt n, rawInt ep], slots := #[] }
section
variable {prog : Program} {w : World} {A : Around} {E : Value → Shared → Prop} {s : Shared}
theorem wpAny_choose {n : Nat} {Q : Nat → Shared → Prop} (hn : n ≠ 0) (h : ∀ i d, i < n → Q i { s with drawn := d }) : wpAny (model prog w) A (choose .order n) Q E s := fun Γ p hΓ => by
  unfold choose
  rw [Sem.wp_choose]
  refine ⟨hn, ?_⟩
  rw [Sem.wp_pure]
  exact h _ _ (Nat.mod_lt _ (Nat.pos_of_ne_zero hn))
theorem cons_erase {α : Type} : ∀ (l : List α) (i : Nat) (h : i < l.length), (l[i] :: l.eraseIdx i).Perm l
  | x :: r, 0, _ => List.Perm.refl _
  | x :: r, i + 1, h => (List.Perm.swap _ _ _).trans (List.Perm.cons _ (cons_erase r i (by simpa using h)))
theorem draw_order {α : Type} : ∀ (n : Nat) (xs : List α) (s : Shared) (Q : List α → Shared → Prop), xs.length = n → (∀ ys d, ys.Perm xs → Q ys { s with drawn := d }) → wpAny (model prog w) A (drawOrder n xs) Q E s
  | 0, xs, s, Q, hl, h => by
    have e : xs = [] := List.length_eq_zero_iff.mp hl
    subst e
    unfold drawOrder
    exact wpAny_pure (h [] s.drawn (List.Perm.refl _))
  | n + 1, [], s, Q, hl, h => by simp at hl
  | n + 1, x :: r, s, Q, hl, h => by
    unfold drawOrder
    refine wpAny_bind (wpAny_choose (by simp) fun i d hi => ?_)
    rw [List.getElem?_eq_getElem hi]
    dsimp only
    refine wpAny_bind (draw_order n _ _ _ (by rw [List.length_eraseIdx_of_lt hi, hl]; rfl) fun ys d' p => wpAny_pure ?_)
    have := h ((x :: r)[i] :: ys) d' ((List.Perm.cons _ p).trans (cons_erase _ i hi))
    exact this
end
end L2

namespace L2
open PySem PySem.Spec PyProof.Rows
theorem pick_go {α : Type} (next : Nat → Nat) : ∀ (fuel k : Nat) (left : List α) (out : Array α), left.length = fuel → (pickOrder.go next fuel k left out).toList.Perm (out.toList ++ left)
  | 0, k, left, out, h => by
    have e : left = [] := List.length_eq_zero_iff.mp h
    subst e
    unfold pickOrder.go
    rw [List.append_nil]
  | fuel + 1, k, left, out, h => by
    unfold pickOrder.go
    have hi : next k % left.length < left.length := Nat.mod_lt _ (by omega)
    rw [List.getElem?_eq_getElem hi]
    dsimp only
    refine (pick_go next fuel (k + 1) _ _ (by rw [List.length_eraseIdx_of_lt hi, h]; rfl)).trans ?_
    rw [Array.toList_push, List.append_assoc]
    exact List.Perm.append_left _ (cons_erase _ _ hi)
theorem pick_perm {α : Type} (next : Nat → Nat) (xs : Array α) : (pickOrder next xs).toList.Perm xs.toList := by
  have := pick_go next xs.size 0 xs.toList #[] (by simp)
  simpa [pickOrder] using this
section
variable {prog : Program} {w : World} {A : Around} {E : Value → Shared → Prop} {s : Shared} {I S : Addr} {first : Value} {i n ep : Nat} {o : Obj} {es : Array (Int × Value)} {t : SetTable}
/-- the body of __next__, ahead of the choice of roads -/
theorem si_open {Q : Fin → Shared → Prop} {slot : Nat} (hI : s.heap.get? I = some (siObj (rawInt slot) i S n ep)) (hS : s.heap.get? S = some o) (hd : o.data = .set es ep t) (hf : t.fits es.size = true) (hn : es.size = n)
    (h : wpAny (model prog w) A (setNext S slot i ep) (fun r s' => wpAny (model prog w) A (match r with
      | some (x, next) => do
        setField (.ref I) 0 (rawInt next)
        setField (.ref I) 1 (rawInt ((i : Int) + 1))
        ret x
      | none => do
        setField (.ref I) 2 .none
        raiseNew (← newExc (.type "StopIteration") [])) Q E s') E s) :
    wpAny (model prog w) A (Builtin.«set_iterator.__next__» ⟨[.ref I], []⟩) Q E s := by
  show wpAny _ _ (fieldsOf (.ref I) >>= _) _ _ _
  refine wpAny_bind (wpAny_fieldsOf hI rfl ?_)
  show wpAny _ _ (setEntries S >>= _) _ _ _
  unfold setEntries
  refine wpAny_bind (wpAny_bind (wpAny_setState_of hS hd hf (wpAny_pure ?_)))
  have e : ((es.size : Int) != (n : Int)) = false := by rw [hn]; simp
  show wpAny _ _ (if ((es.size : Int) != (n : Int)) = true then _ else _) _ _ _
  rw [e, if_neg Bool.false_ne_true]
  refine wpAny_bind (wpAny_mono h (fun r s' hr => ?_) fun _ _ z => z)
  cases r with
  | none => exact hr
  | some p => obtain ⟨x, next⟩ := p; exact hr
end
end L2

namespace L2
open PySem PySem.Spec PyProof.Rows
section
variable {prog : Program} {w : World} {A : Around} {E : Value → Shared → Prop} {s : Shared} {I S : Addr} {first : Value} {i n ep : Nat} {o : Obj} {es : Array (Int × Value)} {t : SetTable}
theorem setsByText_ {Q : Bool → Shared → Prop} (h : Q (bt w) s) : wpAny (model prog w) A setsByText Q E s := by
  unfold setsByText
  exact wpAny_bind (wpAny_askSetting (wpAny_pure h))
/-- by the table's places -/
theorem next_places {slot : Nat} {Q : Option (Value × Nat) → Shared → Prop} (hS : s.heap.get? S = some o) (hd : o.data = .set es ep t) (hf : t.fits es.size = true) (hb : bt w = false) (hdr : (!t.plain && decide (es.size > 1)) = false) (hl : t.led = true)
    (h : Q (match es[SetTable.below t.place slot]?, t.place[SetTable.below t.place slot]? with
      | some (_, x), some j => some (x, j + 1)
      | _, _ => none) s) : wpAny (model prog w) A (setNext S slot i ep) Q E s := by
  unfold setNext
  refine wpAny_bind (wpAny_setState_of hS hd hf ?_)
  dsimp only
  refine wpAny_bind (setsByText_ ?_)
  rw [hb, if_neg Bool.false_ne_true]
  show wpAny _ _ (if (!t.plain && decide (es.size > 1)) = true then _ else _) _ _ _
  rw [hdr, if_neg Bool.false_ne_true]
  refine wpAny_bind ?_
  show wpAny _ _ (if (!t.led && !es.isEmpty) = true then _ else _) _ _ _
  rw [hl]
  exact wpAny_pure (wpAny_pure h)
/-- by the text -/
theorem next_text {slot : Nat} {Q : Option (Value × Nat) → Shared → Prop} (hS : s.heap.get? S = some o) (hd : o.data = .set es ep t) (hf : t.fits es.size = true) (hb : bt w = true)
    (h : Q (((pickOrder (w.params.setOrder S ep) es)[i]?).map fun e => (e.2, slot)) s) : wpAny (model prog w) A (setNext S slot i ep) Q E s := by
  unfold setNext
  refine wpAny_bind (wpAny_setState_of hS hd hf ?_)
  dsimp only
  refine wpAny_bind (setsByText_ ?_)
  rw [hb, if_pos rfl]
  have e : (ep != ep) = false := by simp
  rw [e, if_neg Bool.false_ne_true]
  unfold setWalk
  refine wpAny_bind (wpAny_bind (wpAny_setState_of hS hd hf ?_))
  dsimp only
  refine wpAny_bind (setsByText_ ?_)
  rw [hb, if_pos rfl]
  exact wpAny_bind (wpAny_askSetting (wpAny_pure (wpAny_pure h)))
/-- StopIteration -/
theorem si_stop {Q : Fin → Shared → Prop} (hh : A.handled = none) (hE : ∀ h' e, (∀ b o, s.heap.get? b = some o → h'.get? b = some o) → (∃ o, h'.get? e = some o ∧ o.cls = .type "StopIteration") → E (.ref e) { s with heap := h' }) :
    wpAny (model prog w) A (do raiseNew (← newExc (.type "StopIteration") [])) Q E s := by
  refine wpAny_bind ?_
  simp only [newExc, newTuple]
  refine wpAny_bind (wpAny_newObj_type ?_ (by size_fits))
  refine wpAny_bind (m := firstArgMember _ _) (wpAny_of_eq (a := Value.none) (by first | rfl | (simp only [firstArgMember]; rfl)) ?_)
  refine wpAny_newObj_type ?_ (by size_fits)
  simp only [raiseNew]
  refine wpAny_bind (wpAny_handled ?_)
  rw [hh]
  refine wpAny_bind (wpAny_pure (wpAny_throw ?_))
  exact hE _ _ (fun b o e => Heap.get?_push_of_some _ (Heap.get?_push_of_some _ e)) ⟨_, Heap.get?_push_size _ rfl, rfl⟩
theorem pyNext_si {Q : Option Value → Shared → Prop} (hI : s.heap.get? I = some (siObj first i S n ep))
    (h : wpAny (model prog w) A.in1 (Builtin.«set_iterator.__next__» ⟨[.ref I], []⟩) (fun fin s' => ∃ v, fin = .done (.ret v) ∧ Q (some v) s') (fun e s' => (∃ a o, e = .ref a ∧ s'.heap.get? a = some o ∧ o.cls = .type "StopIteration") ∧ Q none s') s) :
    wpAny (model prog w) A (pyNext (.ref I)) Q E s := by
  have hT : s.TypeIs (.ref I) "set_iterator" := ⟨_, hI, rfl⟩
  unfold pyNext
  refine wpAny_bind (wpAny_attempt (wpAny_callSpecial?_slot (name := Str.ofString "__next__") hT FF.slot_si_next
    (wpAny_call_entry FF.slot_si_next hT FF.entry_si_next (wpAny_mono h (fun fin s' ⟨v, e, q⟩ => ⟨v, e, wpAny_pure q⟩) fun e s' ⟨⟨a, o, e1, ho, hc⟩, q⟩ => ?_) (FF.args_si_next _))))
  subst e1
  refine wpAny_bind (wpAny_isInstance (T := "StopIteration") (b := true) ⟨o, ho, hc⟩ isSubtype_stop ?_)
  exact wpAny_pure q
end
end L2

namespace L2
open PySem PySem.Spec PyProof.Rows
section
variable {prog : Program} {w : World} {A : Around} {I S : Addr} {ep : Nat} {o : Obj} {es : Array (Int × Value)} {t : SetTable}
/-- what a walk by slots needs: at turn i from slot it yields e and goes on at the next slot -/
theorem walk_slots (hh : A.handled = none) (hIS : S ≠ I) (hd : o.data = .set es ep t) (hf : t.fits es.size = true) (vs : List Value) (hv : vs.length = es.size) (G : Nat → Nat → Prop)
    (hgo : ∀ (A' : Around) (i slot : Nat) (s : Shared) (Q : Option (Value × Nat) → Shared → Prop) (E : Value → Shared → Prop) (v : Value), G i slot → s.heap.get? S = some o → vs[i]? = some v → (∀ slot', G (i + 1) slot' → Q (some (v, slot')) s) → wpAny (model prog w) A' (setNext S slot i ep) Q E s)
    (hend : ∀ (A' : Around) (slot : Nat) (s : Shared) (Q : Option (Value × Nat) → Shared → Prop) (E : Value → Shared → Prop), G es.size slot → s.heap.get? S = some o → Q none s → wpAny (model prog w) A' (setNext S slot es.size ep) Q E s) :
    Walks prog w A I [I, S] [I] es.size (fun i v => vs[i]? = some v) (fun i h => h.get? S = some o ∧ ∃ slot : Nat, G i slot ∧ h.get? I = some (siObj (rawInt slot) i S es.size ep)) where
  sub := fun b hb => by simp at hb; simp [hb]
  frame := fun i h h' st k => by
    obtain ⟨h1, slot, g, h2⟩ := st
    exact ⟨k S (by simp) o h1, slot, g, k I (by simp) _ h2⟩
  item := fun i s Q E hi st hQ => by
    obtain ⟨h1, slot, g, h2⟩ := st
    have hiv : i < vs.length := by omega
    refine pyNext_si h2 (si_open h2 h1 hd hf rfl (hgo _ i slot s _ _ vs[i] g h1 (List.getElem?_eq_getElem hiv) fun slot' g' => ?_))
    refine wpAny_bind (wpAny_setField_rec h2 (by simp) fun h3 h3I sb3 => ?_)
    refine wpAny_bind (wpAny_setField_rec h3I (by simp) fun h4 h4I sb4 => ?_)
    refine wpAny_pure ⟨_, rfl, ?_⟩
    refine hQ _ h4 s.toks (List.getElem?_eq_getElem hiv) ⟨sb4.extBut _ _ hIS (sb3.extBut _ _ hIS h1), slot', g', ?_⟩ fun b o' hb e => ?_
    · rw [h4I]; rfl
    · have hb' : b ≠ I := by simpa using hb
      exact sb4.extBut _ _ hb' (sb3.extBut _ _ hb' e)
  done := fun s Q E st hQ => by
    obtain ⟨h1, slot, g, h2⟩ := st
    refine pyNext_si h2 (si_open h2 h1 hd hf rfl (hend _ slot s _ _ g h1 ?_))
    refine wpAny_bind (wpAny_setField_rec h2 (by simp) fun h3 h3I sb3 => ?_)
    refine si_stop (show A.in1.handled = none from hh) fun h4 e k4 he => ⟨?_, hQ h4 s.toks fun b o' hb q => k4 _ _ (sb3.extBut _ _ (by simpa using hb) q)⟩
    obtain ⟨oe, q1, q2⟩ := he
    exact ⟨e, oe, rfl, q1, q2⟩
  self := fun i s Q E st hQ => by
    obtain ⟨h1, slot, g, h2⟩ := st
    have hT : s.TypeIs (.ref I) "set_iterator" := ⟨_, h2, rfl⟩
    refine wpAny_pyIter_slot hT FF.slot_si_iter (wpAny_call_entry FF.slot_si_iter hT FF.entry_si_iter ?_ (FF.args_si_iter _))
    show wpAny _ _ (ret (.ref I)) _ _ s
    exact wpAny_pure ⟨_, rfl, "set_iterator", _, hT, FF.slot_si_next.lookup, hQ⟩
end
end L2

namespace L2
open PySem PySem.Spec PyProof.Rows
abbrev ptObj (ps : List Nat) : Obj := { cls := .type "tuple", data := .seq (ps.map fun (p : Nat) => rawInt p).toArray }
section
variable {prog : Program} {w : World} {A : Around} {I S TT : Addr} {ep : Nat} {o : Obj} {es : Array (Int × Value)} {t : SetTable}
theorem walk_drawn (hh : A.handled = none) (n1 : S ≠ I) (n2 : TT ≠ I) (hd : o.data = .set es ep t) (hf : t.fits es.size = true) (ps : List Nat) (hps : ps.Perm (List.range es.size)) (vs : List Value)
    (hvi : ∀ (i p : Nat), ps[i]? = some p → ∃ e, es[p]? = some e ∧ vs[i]? = some e.2) :
    Walks prog w A I [I, S, TT] [I] es.size (fun i v => vs[i]? = some v) (fun i h => h.get? S = some o ∧ h.get? TT = some (ptObj ps) ∧ h.get? I = some (siObj (.ref TT) i S es.size ep)) where
  sub := fun b hb => by simp at hb; simp [hb]
  frame := fun i h h' st k => by
    obtain ⟨h1, h0, h2⟩ := st
    exact ⟨k S (by simp) o h1, k TT (by simp) _ h0, k I (by simp) _ h2⟩
  item := fun i s Q E hi st hQ => by
    obtain ⟨h1, h0, h2⟩ := st
    have hpl : ps.length = es.size := by rw [hps.length_eq, List.length_range]
    have hip : i < ps.length := by omega
    obtain ⟨e, he, hve⟩ := hvi i ps[i] (List.getElem?_eq_getElem hip)
    refine pyNext_si h2 ?_
    show wpAny _ _ (fieldsOf (.ref I) >>= _) _ _ _
    refine wpAny_bind (wpAny_fieldsOf h2 rfl ?_)
    show wpAny _ _ (setEntries S >>= _) _ _ _
    unfold setEntries
    refine wpAny_bind (wpAny_bind (wpAny_setState_of h1 hd hf (wpAny_pure ?_)))
    have e0 : ((es.size : Int) != (es.size : Int)) = false := by simp
    show wpAny _ _ (if ((es.size : Int) != (es.size : Int)) = true then _ else _) _ _ _
    rw [e0, if_neg Bool.false_ne_true]
    show wpAny _ _ (seqItems? (.ref TT) >>= _) _ _ _
    refine wpAny_bind (wpAny_seqItems h0 rfl ?_)
    have e1 : (ps.map fun (p : Nat) => rawInt p).toArray[((i : Int)).toNat]? = some (rawInt ps[i]) := by simp [hip]
    dsimp only
    rw [e1]
    show wpAny _ _ (setNextDrawn S ps[i] ep >>= _) _ _ _
    unfold setNextDrawn
    refine wpAny_bind (wpAny_bind (wpAny_setState_of h1 hd hf ?_))
    dsimp only
    have e2 : (ep != ep) = false := by simp
    rw [e2, if_neg Bool.false_ne_true, he]
    refine wpAny_pure ?_
    refine wpAny_bind (wpAny_setField_rec h2 (by simp) fun h3 h3I sb3 => ?_)
    refine wpAny_pure ⟨_, rfl, ?_⟩
    refine hQ _ h3 s.toks hve ⟨sb3.extBut _ _ n1 h1, sb3.extBut _ _ n2 h0, ?_⟩ fun b o' hb q => sb3.extBut _ _ (by simpa using hb) q
    rw [h3I]; rfl
  done := fun s Q E st hQ => by
    obtain ⟨h1, h0, h2⟩ := st
    have hpl : ps.length = es.size := by rw [hps.length_eq, List.length_range]
    refine pyNext_si h2 ?_
    show wpAny _ _ (fieldsOf (.ref I) >>= _) _ _ _
    refine wpAny_bind (wpAny_fieldsOf h2 rfl ?_)
    show wpAny _ _ (setEntries S >>= _) _ _ _
    unfold setEntries
    refine wpAny_bind (wpAny_bind (wpAny_setState_of h1 hd hf (wpAny_pure ?_)))
    have e0 : ((es.size : Int) != (es.size : Int)) = false := by simp
    show wpAny _ _ (if ((es.size : Int) != (es.size : Int)) = true then _ else _) _ _ _
    rw [e0, if_neg Bool.false_ne_true]
    show wpAny _ _ (seqItems? (.ref TT) >>= _) _ _ _
    refine wpAny_bind (wpAny_seqItems h0 rfl ?_)
    have e1 : (ps.map fun (p : Nat) => rawInt p).toArray[((es.size : Int)).toNat]? = none := by simp [hpl]
    dsimp only
    rw [e1]
    refine wpAny_bind (wpAny_setField_rec h2 (by simp) fun h3 h3I sb3 => ?_)
    refine wpAny_bind (wpAny_setField_rec h3I (by simp) fun h4 h4I sb4 => ?_)
    refine si_stop (show A.in1.handled = none from hh) fun h5 e k5 he => ⟨?_, hQ h5 s.toks fun b o' hb q => k5 _ _ (sb4.extBut _ _ (by simpa using hb) (sb3.extBut _ _ (by simpa using hb) q))⟩
    obtain ⟨oe, q1, q2⟩ := he
    exact ⟨e, oe, rfl, q1, q2⟩
  self := fun i s Q E st hQ => by
    obtain ⟨h1, h0, h2⟩ := st
    have hT : s.TypeIs (.ref I) "set_iterator" := ⟨_, h2, rfl⟩
    refine wpAny_pyIter_slot hT FF.slot_si_iter (wpAny_call_entry FF.slot_si_iter hT FF.entry_si_iter ?_ (FF.args_si_iter _))
    show wpAny _ _ (ret (.ref I)) _ _ s
    exact wpAny_pure ⟨_, rfl, "set_iterator", _, hT, FF.slot_si_next.lookup, hQ⟩
end
/-! ### iter(set) -/
theorem ints_of_ents : ∀ {l : List (Int × Value)}, (∀ e ∈ l, EntOk e) → IntsAre (l.map (·.2)) (l.map keyOf)
  | [], _ => .nil
  | e :: r, h => by
    obtain ⟨k, tok, rfl⟩ := h e List.mem_cons_self
    exact .cons k tok (ints_of_ents fun x hx => h x (List.mem_cons_of_mem _ hx))
theorem range_ents (es : Array (Int × Value)) (d : Int × Value) : (List.range es.size).map (fun p => es.getD p d) = es.toList := by
  apply List.ext_getElem
  · simp
  · intro i h1 h2
    have hi : i < es.size := by simpa using h1
    simp [Array.getD, hi]
theorem fits_place {t : SetTable} {n : Nat} (h : t.fits n = true) : t.place.size = n := by
  simp only [SetTable.fits, Bool.and_eq_true, beq_iff_eq] at h
  exact h.1
section
variable {prog : Program} {w : World} {A : Around} {E : Value → Shared → Prop} {s : Shared} {S : Addr} {ks : List Int}
/-- the iterator of a set: it walks the ints in some order -/
theorem iter_setG {Q : Value → Shared → Prop} (hS : SetG w s.heap S ks)
    (h : ∀ (I : Addr) (fp wr : List Addr) (St : Nat → Heap → Prop) (vs : List Value) (ns : List Int) (h' : Heap) (d' : Drawn), (∀ A' : Around, A'.handled = none → Walks prog w A' I fp wr ks.length (fun i v => vs[i]? = some v) St) → St 0 h' →
      (∀ b ∈ fp, b < h'.objs.size) → I ∈ fp → (∀ b ∈ wr, s.heap.objs.size ≤ b) → (∀ b ∈ fp, b = S ∨ s.heap.objs.size ≤ b) → IntsAre vs ns → ns.Perm ks → (∀ b o, s.heap.get? b = some o → h'.get? b = some o) → Q (.ref I) { s with heap := h', drawn := d' }) :
    wpAny (model prog w) A (pyIter (.ref S)) Q E s := by
  obtain ⟨o, es, ep, t, ho, hex, hd, rfl, hel, hnd, hb, hf, hr, hl⟩ := hS
  have hT : s.TypeIs (.ref S) "set" := ⟨o, ho, hex.1⟩
  have hSlt : S < s.heap.objs.size := Heap.lt_size ho
  have hkl : (es.toList.map keyOf).length = es.size := by simp
  refine wpAny_pyIter_slot hT PySem.F.slot_set_iter (wpAny_call_entry PySem.F.slot_set_iter hT FF.entry_set_iter ?_ (PySem.F.args_set_iter_1 _))
  show wpAny _ _ (Builtin.Frozenset.sizeOf S >>= _) _ _ _
  unfold Builtin.Frozenset.sizeOf setEntries
  refine wpAny_bind (wpAny_bind (wpAny_bind (wpAny_setState_of ho hd hf (wpAny_pure (wpAny_pure ?_)))))
  unfold setDrawn
  refine wpAny_bind (wpAny_bind (wpAny_setState_of ho hd hf ?_))
  dsimp only
  refine wpAny_bind (setsByText_ (wpAny_pure ?_))
  show wpAny _ _ (if (!bt w && (!t.plain && decide (es.size > 1))) = true then _ else _) _ _ _
  have old : ∀ (x : Obj) b u, s.heap.get? b = some u → (s.heap.push x).get? b = some u := fun x b u e => Heap.get?_push_of_some _ e
  by_cases hdr : (!bt w && (!t.plain && decide (es.size > 1))) = true
  · rw [if_pos hdr]
    refine wpAny_bind (draw_order es.size (List.range es.size) _ _ (by simp) fun ps d pps => ?_)
    refine wpAny_bind (wpAny_newTuple ?_ (by rw [List.length_map, pps.length_eq, List.length_range]; exact fits_of_scanBound (by simpa using hb)))
    unfold setEpoch
    refine wpAny_bind (wpAny_bind (wpAny_setState_of (s := { s with heap := s.heap.push (ptObj ps), drawn := d }) (old _ _ _ ho) hd hf (wpAny_pure ?_)))
    show wpAny _ _ (do ret (← newFields "set_iterator" [.ref s.heap.objs.size, rawInt 0, .ref S, rawInt es.size, rawInt ep])) _ _ { s with heap := s.heap.push (ptObj ps), drawn := d }
    refine wpAny_bind (wpAny_newObj_type (wpAny_pure ⟨_, rfl, "set_iterator", _, ⟨_, Heap.get?_push_size _ rfl, rfl⟩, FF.slot_si_next.lookup, ?_⟩))
    have hz : (s.heap.push (ptObj ps)).objs.size = s.heap.objs.size + 1 := Heap.size_push ..
    have n1 : S ≠ (s.heap.push (ptObj ps)).objs.size := by rw [hz]; exact Nat.ne_of_lt (Nat.lt_succ_of_lt hSlt)
    have n2 : s.heap.objs.size ≠ (s.heap.push (ptObj ps)).objs.size := by rw [hz]; exact Nat.ne_of_lt (Nat.lt_succ_self _)
    have pe : (ps.map fun p => es.getD p (0, .none)).Perm es.toList := by
      have := pps.map fun p => es.getD p (0, Value.none)
      rw [range_ents] at this
      exact this
    have plt : ∀ p ∈ ps, p < es.size := fun p hp => by simpa using pps.mem_iff.mp hp
    have ke : (es.toList.map keyOf).length = es.size := hkl
    rw [ke] at h
    refine h (s.heap.push (ptObj ps)).objs.size [(s.heap.push (ptObj ps)).objs.size, S, s.heap.objs.size] [(s.heap.push (ptObj ps)).objs.size] _ ((ps.map fun p => es.getD p (0, .none)).map (·.2)) ((ps.map fun p => es.getD p (0, .none)).map keyOf) _ d
      (fun A' hh' => walk_drawn hh' n1 n2 hd hf ps pps _ fun i p hp => ?_) ⟨Heap.get?_push_of_some _ (old _ _ _ ho), Heap.get?_push_of_some _ (Heap.get?_push_size _ rfl), Heap.get?_push_size _ rfl⟩ (fun b hb => ?_) (by simp) (fun b hb => ?_) (by simp [hz])
      (ints_of_ents fun e he => hel e (pe.mem_iff.mp he)) (pe.map _) (fun b u e => Heap.get?_push_of_some _ (Heap.get?_push_of_some _ e))
    · have hlt := plt p (List.mem_of_getElem? hp)
      refine ⟨es[p], Array.getElem?_eq_getElem hlt, ?_⟩
      rw [List.map_map, List.getElem?_map, hp]
      simp [Array.getD, hlt]
    · rw [Heap.size_push, hz]
      simp only [List.mem_cons, List.not_mem_nil, or_false] at hb
      rcases hb with rfl | rfl | rfl
      · rw [hz]; exact Nat.lt_succ_self _
      · exact Nat.lt_succ_of_lt (Nat.lt_succ_of_lt hSlt)
      · exact Nat.lt_succ_of_lt (Nat.lt_succ_self _)
    · have e : b = (s.heap.push (ptObj ps)).objs.size := by simpa using hb
      rw [e, hz]; exact Nat.le_succ _
  · rw [if_neg hdr]
    refine wpAny_bind (wpAny_pure ?_)
    unfold setEpoch
    refine wpAny_bind (wpAny_bind (wpAny_setState_of ho hd hf (wpAny_pure ?_)))
    show wpAny _ _ (do ret (← newFields "set_iterator" [rawInt 0, rawInt 0, .ref S, rawInt es.size, rawInt ep])) _ _ s
    refine wpAny_bind (wpAny_newObj_type (wpAny_pure ⟨_, rfl, "set_iterator", _, ⟨_, Heap.get?_push_size _ rfl, rfl⟩, FF.slot_si_next.lookup, ?_⟩))
    have hne : S ≠ s.heap.objs.size := Nat.ne_of_lt hSlt
    have flt : ∀ (x : Obj), ∀ b ∈ [s.heap.objs.size, S], b < (s.heap.push x).objs.size := fun x b hb => by
      rw [Heap.size_push]
      simp only [List.mem_cons, List.not_mem_nil, or_false] at hb
      rcases hb with rfl | rfl
      · exact Nat.lt_succ_self _
      · exact Nat.lt_succ_of_lt hSlt
    by_cases hbt : bt w = true
    · have pp := pick_perm (w.params.setOrder S ep) es
      have hps : (pickOrder (w.params.setOrder S ep) es).size = es.size := by rw [← Array.length_toList, pp.length_eq, Array.length_toList]
      have ke : (es.toList.map keyOf).length = es.size := hkl
      rw [ke] at h
      refine h s.heap.objs.size [s.heap.objs.size, S] [s.heap.objs.size] _ ((pickOrder (w.params.setOrder S ep) es).toList.map (·.2)) ((pickOrder (w.params.setOrder S ep) es).toList.map keyOf) _ s.drawn
        (fun A' hh' => walk_slots hh' hne hd hf ((pickOrder (w.params.setOrder S ep) es).toList.map (·.2)) (by simp [hps]) (fun _ _ => True) (fun A'' i slot s' Q' E' v _ hS' hv hq => next_text hS' hd hf hbt ?_) fun A'' slot s' Q' E' _ hS' hq => next_text hS' hd hf hbt ?_)
        ⟨old _ _ _ ho, 0, trivial, Heap.get?_push_size _ rfl⟩ (flt _) (by simp) (by simp) (by simp) (ints_of_ents fun e he => hel e (pp.mem_iff.mp he)) (pp.map _) (old _)
      · rw [List.getElem?_map, Array.getElem?_toList] at hv
        cases q : (pickOrder (w.params.setOrder S ep) es)[i]? with
        | none => rw [q] at hv; cases hv
        | some e =>
          rw [q] at hv
          cases hv
          exact hq slot trivial
      · rw [Array.getElem?_eq_none (by omega)]
        exact hq
    · have hbf : bt w = false := by cases q : bt w <;> simp_all
      have hled : t.led = true := hl.resolve_right hbt
      have hdr' : (!t.plain && decide (es.size > 1)) = false := by
        rw [hbf] at hdr
        simpa using hdr
      have hpl := fits_place hf
      have ke : (es.toList.map keyOf).length = es.size := hkl
      rw [ke] at h
      refine h s.heap.objs.size [s.heap.objs.size, S] [s.heap.objs.size] _ (es.toList.map (·.2)) (es.toList.map keyOf) _ s.drawn
        (fun A' hh' => walk_slots hh' hne hd hf (es.toList.map (·.2)) (by simp) (fun i slot => SetTable.below t.place slot = i) (fun A'' i slot s' Q' E' v hg hS' hv hq => next_places hS' hd hf hbf hdr' hled ?_) fun A'' slot s' Q' E' hg hS' hq => next_places hS' hd hf hbf hdr' hled ?_)
        ⟨old _ _ _ ho, 0, below_zero hr, Heap.get?_push_size _ rfl⟩ (flt _) (by simp) (by simp) (by simp) (ints_of_ents hel) (List.Perm.refl _) (old _)
      · rw [hg]
        rw [List.getElem?_map, Array.getElem?_toList] at hv
        cases q : es[i]? with
        | none => rw [q] at hv; cases hv
        | some e =>
          rw [q] at hv
          cases hv
          have hi : i < t.place.size := by rw [hpl]; exact (Array.getElem?_eq_some_iff.mp q).1
          rw [Array.getElem?_eq_getElem hi]
          exact hq _ (below_next hr (Array.getElem?_eq_getElem hi))
      · rw [hg, Array.getElem?_eq_none (Nat.le_refl _)]
        exact hq
end
end L2

namespace L2
open PySem PySem.Spec PyProof.Rows
namespace FF
theorem look_set_len : typeLookup (.type "set") "__len__" = pure (some (.builtin "set.__len__")) := by rw [typeLookup_type, builtinLookup_eq_fast]; kernel_rfl
end FF
section
variable {prog : Program} {w : World} {A : Around} {E : Value → Shared → Prop} {s : Shared} {S : Addr} {ks : List Int}
theorem hint_set {Q : Bool → Shared → Prop} (hT : s.TypeIs (.ref S) "set") (h : Q false s) : wpAny (model prog w) A (Builtin.List.listLengthHint (.ref S)) Q E s := by
  unfold Builtin.List.listLengthHint
  refine wpAny_bind (wpAny_specialOf hT FF.look_set_len ?_)
  (generalize hid : ("set.__len__" : String) = id0; (fail_if_success (clear hid id0)); wp_delta; rw [show splitId id0 = some ("set", "__len__") from by subst hid; decide +kernel]; subst hid)
  refine wpAny_bind (wpAny_isInstance (b := true) hT sub_set_self ?_)
  simp only [Bool.not_true, Bool.false_eq_true, if_false]
  refine wpAny_bind (wpAny_typeOf hT ?_)
  exact wpAny_pure h
theorem collect_setG {Q : List Value → Shared → Prop} (hh : A.handled = none) (hS : SetG w s.heap S ks)
    (h : ∀ (vs : List Value) (ns : List Int) (h' : Heap) (d' : Drawn) (tk : Nat), IntsAre vs ns → ns.Perm ks → (∀ b o, s.heap.get? b = some o → h'.get? b = some o) → s.heap.objs.size < h'.objs.size → Q vs { s with heap := h', drawn := d', toks := tk }) :
    wpAny (model prog w) A (collect (.ref S)) Q E s := by
  have hSlt := hS.lt
  have hkb : ks.length ≤ sizeLine := by obtain ⟨_, _, _, _, _, _, _, _, _, _, hb, _⟩ := hS; exact fits_of_scanBound hb
  unfold collect
  refine wpAny_bind (wpAny_runValue (codeAny_builtin PySem.F.entry_proto_collect ?_))
  rw [Around.under_plainId PySem.F.plain_proto_collect _]
  show wpAny _ A.in1 (newList [] >>= fun l => again (.builtin "list.__iadd__" ⟨[l, .ref S], []⟩)) _ _ s
  refine wpAny_bind (wpAny_newObj_type ?_)
  refine wpAny_pure ⟨plainId_quiet PySem.F.plain_list_iadd _, codeAny_builtin PySem.F.entry_list_iadd ?_⟩
  rw [Around.under_plainId PySem.F.plain_list_iadd _]
  generalize hh1 : s.heap.push { cls := .type "list", data := .seq ([] : List Value).toArray } = h1
  have z1 : h1.objs.size = s.heap.objs.size + 1 := by rw [← hh1]; exact Heap.size_push ..
  have old1 : ∀ b o, s.heap.get? b = some o → h1.get? b = some o := fun b o e => by rw [← hh1]; exact Heap.get?_push_of_some _ e
  have hL1 : h1.get? s.heap.objs.size = some { cls := .type "list", data := .seq #[] } := by rw [← hh1]; exact Heap.get?_push_size _ rfl
  have hS1 : SetG w h1 S ks := hS.at fun o e => old1 _ _ e
  have hT1 : Shared.TypeIs { s with heap := h1 } (.ref S) "set" := by obtain ⟨o, _, _, _, e, x, _⟩ := hS1; exact ⟨o, e, x.1⟩
  have hne : (s.heap.objs.size == S) = false := by simpa using (Nat.ne_of_gt hSlt)
  have h0 : Builtin.List.listSameRef (.ref s.heap.objs.size) (.ref S) = false := hne
  show wpAny _ A.in1 (Builtin.List.listExtendWith (.ref s.heap.objs.size) (.ref S) (.ref s.heap.objs.size)) _ _ _
  unfold Builtin.List.listExtendWith
  refine wpAny_bind (wpAny_typeOf hT1 ?_)
  rw [if_neg (by rw [h0]; decide)]
  refine wpAny_bind (iter_setG hS1 fun I fp wr St vs ns h2 d2 W st2 ft2 hI hw2 hf2 hi2 hp2 old2 => ?_)
  have hS2 : SetG w h2 S ks := hS1.at fun o e => old2 _ _ e
  have hT2 : Shared.TypeIs { s with heap := h2, drawn := d2 } (.ref S) "set" := by obtain ⟨o, _, _, _, e, x, _⟩ := hS2; exact ⟨o, e, x.1⟩
  have hL2 := old2 _ _ hL1
  refine wpAny_bind (wpAny_holding (hint_set hT2 ?_))
  rw [if_pos (by rfl)]
  refine wpAny_bind (wpAny_rule ?_)
  unfold Builtin.List.listTouch
  refine wpAny_bind (wpAny_bind (listUpdate_at hL2 rfl ?_))
  have hL3 := get?_update_seq hL2 (fun xs : Array Value => xs.push .none)
  refine listUpdate_at hL3 rfl ?_
  have hL4 := get?_update_seq hL3 (fun xs : Array Value => xs.pop)
  have hLf : s.heap.objs.size ∉ fp := fun hm => by
    rcases hf2 _ hm with z | z
    · exact absurd hSlt (by rw [← z]; exact Nat.lt_irrefl _)
    · rw [show Shared.heap { s with heap := h1 } = h1 from rfl, z1] at z
      exact absurd z (Nat.not_succ_le_self _)
  have W' := (W A.in1 (show A.in1.handled = none from hh)).toS
  have up : ∀ b ∈ fp, ∀ o, h2.get? b = some o → ((h2.update s.heap.objs.size (Obj.mapSeq fun xs : Array Value => xs.push .none)).update s.heap.objs.size (Obj.mapSeq fun xs : Array Value => xs.pop)).get? b = some o := fun b hb o e => by
    have hb' : s.heap.objs.size ≠ b := fun z => hLf (by rw [z]; exact hb)
    rw [Heap.get?_update_other _ _ hb', Heap.get?_update_other _ _ hb']
    exact e
  have st4 := (W A.in1 (show A.in1.handled = none from hh)).frame 0 _ _ st2 up
  refine wpAny_pure ⟨plainId_quiet PySem.F.plain_extend_loop _, codeAny_extend_loopS W' hkb s.heap.objs.size hLf _ ks.length 0 _ _ _ rfl (Nat.zero_le _) st4 hL4 (ItemsOf.nil _) fun s' acc' c' hm hS' hacc => ?_⟩
  show wpAny _ A (load s.heap.objs.size >>= _) _ _ s'
  refine wpAny_bind (wpAny_load hS' (wpAny_pure ?_))
  obtain ⟨h5, g5, d5, t5, o5⟩ := s'
  obtain rfl : g5 = s.gens := hm.gens
  obtain rfl : d5 = d2 := hm.drawn
  obtain rfl : o5 = s.os := hm.os
  have ev : acc'.toList = vs := by
    have hvl : vs.length = ks.length := by rw [IntsAre.length hi2, hp2.length_eq]
    apply List.ext_getElem?
    intro i
    rw [Array.getElem?_toList]
    cases q : acc'[i]? with
    | some v => exact (hacc.2 i v q).symm
    | none =>
      have : acc'.size ≤ i := by simpa using q
      rw [List.getElem?_eq_none (by have := hacc.1; omega)]
  show Q acc'.toList _
  rw [ev]
  refine h vs ns h5 d5 t5 hi2 hp2 (fun b o e => ?_) (Heap.lt_size hS')
  have hbL : b ≠ s.heap.objs.size := Nat.ne_of_lt (Heap.lt_size e)
  refine hm.heap b o (fun z => ?_) ?_
  · rcases List.mem_cons.mp z with z | z
    · exact hbL z
    · have := hw2 b z
      rw [show Shared.heap { s with heap := h1 } = h1 from rfl, z1] at this
      exact absurd (Heap.lt_size e) (Nat.not_lt.mpr (Nat.le_of_succ_le this))
  · show ((h2.update _ _).update _ _).get? b = some o
    rw [Heap.get?_update_other _ _ (Ne.symm hbL), Heap.get?_update_other _ _ (Ne.symm hbL)]
    exact old2 _ _ (old1 _ _ e)
end
end L2

namespace L2
open PySem PySem.Spec PyProof.Rows
section
variable {prog : Program} {w : World} {A : Around} {E : Value → Shared → Prop} {s : Shared} {S : Addr} {ks : List Int}
theorem sortedG {Q : Value → Shared → Prop} (hh : A.handled = none) (hS : SetG w s.heap S ks) (h64 : ks.length < 64)
    (h : ∀ (L : Addr) (n : Nat) (out : Array Value) (ns : List Int) (h' : Heap) (d' : Drawn) (tk : Nat), IntsAre out.toList ns → ns.Perm ks → ns.Pairwise (· ≤ ·) → h'.get? L = some (seqObj "list" out n) → s.heap.objs.size ≤ L →
      (∀ b o, s.heap.get? b = some o → h'.get? b = some o) → Q (.ref L) { s with heap := h', drawn := d', toks := tk }) :
    wpAny (model prog w) A (call (.builtin "sorted") [.ref S]) Q E s := by
  refine Calls.call_function_entry kind_sorted plain_sorted entry_sorted (args_sorted1 _) ?_
  unfold Builtin.«sorted»
  refine wpAny_bind (m := checkCount "sorted" 1 1 _) (wpAny_pure ?_)
  refine wpAny_bind (collect_setG hh hS fun vs ns h2 d2 t2 hi hp old hlt => ?_)
  have hvl : vs.length < 64 := by rw [IntsAre.length hi, hp.length_eq]; exact h64
  refine wpAny_bind (wpAny_newList ?_ (by rw [sizeLine_eq]; omega))
  have hoL : (h2.push (seqObj "list" vs.toArray 0)).get? h2.objs.size = some (seqObj "list" vs.toArray 0) := Heap.get?_push_size _ rfl
  show wpAny _ _ _ _ _ { s with heap := h2.push (seqObj "list" vs.toArray 0), drawn := d2, toks := t2 }
  refine wpAny_bind (wpAny_holding (wpAny_call_entry slot_list_sort ⟨_, hoL, rfl⟩ entry_list_sort (list_sort_tree hoL hi hvl fun out ns' a1 a2 a3 => ⟨_, rfl, ?_⟩) (args_list_sort _)))
  have hz : s.heap.objs.size ≤ h2.objs.size := Nat.le_of_lt hlt
  have keep : ∀ b o, s.heap.get? b = some o → (sortedHeap (h2.push (seqObj "list" vs.toArray 0)) h2.objs.size vs out).get? b = some o := fun b o e => by
    have e2 := old b o e
    have hb : b < h2.objs.size := Heap.lt_size e2
    unfold sortedHeap
    rw [Heap.get?_update_other _ _ (Nat.ne_of_gt hb)]
    refine Heap.get?_push_of_some _ (Heap.get?_push_of_some _ ?_)
    rw [Heap.get?_update_other _ _ (Nat.ne_of_gt hb)]
    exact Heap.get?_push_of_some _ e2
  have ho1 := get?_update_seq hoL (fun _ => (#[] : Array Value))
  have ho3 := get?_update_seq (Heap.get?_push_of_some (seqObj "list" #[] 0) (Heap.get?_push_of_some (seqObj "tuple" vs.toArray 0) ho1)) (fun _ => out)
  exact wpAny_pure ⟨_, rfl, h h2.objs.size _ out ns' _ d2 t2 a1 (a2.trans hp) a3 ho3 hz keep⟩
end
end L2

namespace L2
open PySem PySem.Spec PyProof.Rows
section
variable {prog : Program} {w : World} {A : Around} {E : Value → Shared → Prop} {s : Shared}
end
end L2

namespace L2
open PySem PySem.Spec PyProof.Rows
section
variable {prog : Program} {w : World} {A : Around} {E : Value → Shared → Prop} {s : Shared}
end
end L2

namespace L2
open PySem PySem.Spec PyProof.Rows
namespace FF
end FF
section
variable {prog : Program} {w : World} {A : Around} {E : Value → Shared → Prop} {s : Shared}
theorem SetG.type {h : Heap} {a : Addr} {ks : List Int} (g : SetG w h a ks) {s' : Shared} (e : s'.heap = h) : s'.TypeIs (.ref a) "set" := by
  obtain ⟨o, _, _, _, ho, x, _⟩ := g
  exact ⟨o, by rw [e]; exact ho, x.1⟩
end
end L2

namespace L2
open PySem PySem.Spec PyProof.Rows
section
variable {prog : Program} {w : World} {A : Around} {E : Value → Shared → Prop} {s : Shared}
end
end L2

namespace L2
open PySem PySem.Spec PyProof.Rows
/-! ### a table that is laid anew has room -/
def lg (mask i : Nat) : Nat := (i * 5 + 1) % (mask + 1)
def lit (mask : Nat) : Nat → Nat → Nat
  | 0, i => i
  | t + 1, i => lit mask t (lg mask i)
def lp (mask : Nat) : Nat → Nat × Nat → Nat × Nat
  | 0, p => p
  | t + 1, p => lp mask t (SetTable.leap mask p.1 p.2)
end L2

namespace L2
open PySem PySem.Spec PyProof.Rows
def SetT (w : World) (h : Heap) (a : Addr) (ks : List Int) (o : Obj) (es : Array (Int × Value)) (ep : Nat) (t : SetTable) : Prop := h.get? a = some o ∧ o.ExactSet ∧ o.data = .set es ep t ∧
  es.toList.map keyOf = ks ∧ (∀ e ∈ es.toList, EntOk e) ∧ ks.Nodup ∧ ks.length < scanBound ∧ t.fits es.size = true ∧ Rise t.place ∧ (t.led = true ∨ bt w = true)
theorem SetT.g {w : World} {h : Heap} {a : Addr} {ks : List Int} {o : Obj} {es : Array (Int × Value)} {ep : Nat} {t : SetTable} (x : SetT w h a ks o es ep t) : SetG w h a ks := ⟨o, es, ep, t, x⟩
section
variable {prog : Program} {w : World} {A : Around} {E : Value → Shared → Prop} {s : Shared}
end
end L2

namespace L2
open PySem PySem.Spec PyProof.Rows
section
variable {prog : Program} {w : World} {A : Around} {E : Value → Shared → Prop} {s : Shared}
end
end L2

namespace L2
open PySem PySem.Spec PyProof.Rows
/-! ### sets of ints, tracked -/
def setO (w : World) (a : Addr) (ks : List Int) : HO := HO.ext fun h => SetG w h a ks
theorem setO_new {P : Program} {w : World} {H : Hp} {h : Heap} {a : Addr} {ks : List Int} (g : SetG w h a ks) : ObjOk P w H h a (setO w a ks) := by
  refine ⟨g, ?_, fun h1 h2 g1 k => g1.at k⟩
  obtain ⟨o, _, _, _, e, _⟩ := g
  exact ⟨o, e⟩
theorem setO_get {P : Program} {w : World} {H : Hp} {h : Heap} {a : Addr} {ks : List Int} (x : HOk P w H h) (e : H a = some (setO w a ks)) : SetG w h a ks := (x a _ e).1
theorem SetG.nodup {w : World} {h : Heap} {a : Addr} {ks : List Int} (g : SetG w h a ks) : ks.Nodup := by
  obtain ⟨_, _, _, _, _, _, _, _, _, n, _⟩ := g
  exact n
theorem ints_of_vals : ∀ {ns : List Int} {us : List Value}, Vals (ns.map V.int) us → IntsAre us ns
  | [], _, .nil => .nil
  | n :: r, _, .cons h t => by
    obtain ⟨tk, rfl⟩ := (show ∃ t, _ = Value.int n t from h)
    exact .cons n tk (ints_of_vals t)
theorem vals_of_ints : ∀ {ns : List Int} {us : List Value}, IntsAre us ns → Vals (ns.map V.int) us
  | _, _, .nil => .nil
  | _, _, .cons n t h => .cons ⟨t, rfl⟩ (vals_of_ints h)
section
variable {X : Cx} {pins : List (Addr × Obj)} {σ : St} {H : Hp} {s : Shared} {h' : Heap} {a : Addr} {o : HO}
theorem Inv.laidD {t' : Nat} {d' : Drawn} (I : Inv X pins σ H s) (k : ∀ b u, s.heap.get? b = some u → h'.get? b = some u) (hp : s.heap.objs.size ≤ a)
    (new : ObjOk X.prog X.w (upd H a o) h' a o) : Inv X pins σ (upd H a o) { s with heap := h', drawn := d', toks := t' } := by
  have hn : H a = none := I.hok.fresh hp
  refine I.step (g' := s.gens) (d' := d') (ch := []) (fun b hb => by simp at hb) (fun b u _ _ _ e _ => k b u e) (fun b u _ _ _ e _ => ⟨u.slots, k b u e⟩)
    (fun b u _ e n => by rw [upd_ne (Nat.ne_of_lt (Nat.lt_of_lt_of_le (Heap.lt_size e) hp))]; exact n)
    (fun b u _ e => ⟨u, k b u e⟩) (fun b xs e => by rw [upd_ne (ne_of_none e hn)]; exact e) (fun b u v e => by rw [upd_ne (ne_of_none e hn)]; exact e) (fun b ps e => ⟨#[], by rw [upd_ne (ne_of_none e hn), e]; simp⟩) (fun m hm => ?_) (I.hok.laid k hp new) I.bare
  obtain ⟨u, es, ep, ho, r⟩ := hm
  exact ⟨u, es, ep, k _ u ho, r⟩
end
section
variable {X : Cx}
def rSortedS (w : World) : List V → Hp → VK → Prop := fun xs H Q => ∃ (a : Addr) (ks : List Int), xs = [.ref a] ∧ H a = some (setO w a ks) ∧ ks.length < 64 ∧ ∀ (l : Addr) (ns : List Int), H l = none → ns.Perm ks → ns.Pairwise (· ≤ ·) → Q (.ref l) (upd H l (.lst (ns.map V.int)))
theorem call_sortedS (hc : X.calm = true) : CallR X (.builtin "sorted") (rSortedS X.w) := by
  intro pins s σ H xs us Q I r h
  obtain ⟨a, ks, rfl, ha, hl, q⟩ := h
  obtain ⟨u, rfl, rx⟩ := vals1 r
  cases rx
  refine sortedG (I.ok.hd hc) (setO_get I.hok ha) hl fun L n out ns h' d' tk hi hp hs hL hz old => ?_
  refine ⟨.ref L, _, I.laidD (d' := d') old hz (o := .lst (ns.map V.int)) ⟨?_, out.toList, n, vals_of_ints hi, by simpa using hL⟩, rfl, q _ ns (I.hok.fresh hz) hp hs⟩
  rw [List.length_map, hp.length_eq, sizeLine_eq]; omega
end
/-! the rules with the written part and the world named -/
section
variable {X : Cx} {K : PySem.W.Frag} {w : World}
theorem cSortedS (hw : X.w = w) (hc : X.calm = true) : CallR X (.builtin "sorted") (rSortedS w) := by subst hw; exact call_sortedS hc
end
section
variable {σ : St} {H : Hp} {Q : VK} {K : PySem.W.Frag} {w : World}
theorem i_sortedS {a : Addr} {ks : List Int} (h : H a = some (setO w a ks)) (l : ks.length < 64) (q : ∀ (l : Addr) (ns : List Int), H l = none → ns.Perm ks → ns.Pairwise (· ≤ ·) → Q (.ref l) (upd H l (.lst (ns.map V.int)))) : rSortedS w [.ref a] H Q := ⟨a, ks, rfl, h, l, q⟩
end
end L2

namespace L2
open PySem PySem.Spec PyProof.Rows
/-! ### data that are alike compare as equal -/
section
variable {X : Cx} {pins : List (Addr × Obj)} {σ : St} {H : Hp} {s : Shared}
theorem lstAt (I : Inv X pins σ H s) {a : Addr} {vs : List V} (e : H a = some (.lst vs)) : ∃ its : List Value, Vals vs its ∧ s.heap.IsList a its.toArray := by
  obtain ⟨_, its, n, r, h⟩ := (show ObjOk X.prog X.w H s.heap a (.lst vs) from I.hok a _ e)
  exact ⟨its, r, ⟨_, h, rfl, n, rfl⟩⟩
theorem tupAt (I : Inv X pins σ H s) {a : Addr} {vs : List V} (e : H a = some (.tup vs)) : ∃ its : List Value, Vals vs its ∧ s.heap.IsTuple a its.toArray := by
  obtain ⟨_, its, r, h⟩ := (show ObjOk X.prog X.w H s.heap a (.tup vs) from I.hok a _ e)
  exact ⟨its, r, h⟩
end
section
variable {X : Cx}
end
end L2

namespace L2
open PySem PySem.Spec PyProof.Rows
/-! ### U. loops with a count, append, list + list, in; rising lists -/
section
variable {σ : St} {H : Hp} {Q : VK} {K : PySem.W.Frag} {D : Ends}
def ForT (J : It) (g : TG) (tb : TS) (D : Ends) (σ : St) (H1 : Hp) : Prop := ∃ W : Nat → Nat → St → Hp → Prop, (∃ m, W 0 m σ H1) ∧ ∀ i m σ H, W i m σ H →
  (J.stop i H ∧ D.nx σ H) ∨ (J.go i H ∧ ∃ N : St → Hp → Prop, (∀ σ' H', N σ' H' → ∃ m', m' < m ∧ W (i + 1) m' σ' H') ∧ ∀ x H', J.yld i H x H' → g x σ H' fun σ2 H2 => tb { D with nx := N, ct := N, bk := D.nx } σ2 H2)
theorem i_for {wi : TI} {g : TG} {tb : TS} (q : wi σ H fun J H1 => ForT J g tb D σ H1) : tFor wi g tb D σ H := q
theorem forW {J : It} {g : TG} {tb : TS} (W : Nat → St → Hp → Prop) (n : Nat) (w0 : W 0 σ H) (fin : ∀ σ' H', W n σ' H' → J.stop n H' ∧ D.nx σ' H')
    (step : ∀ i σ' H', i < n → W i σ' H' → J.go i H' ∧ ∀ x H2, J.yld i H' x H2 → g x σ' H2 fun σ3 H3 => tb { D with nx := W (i + 1), ct := W (i + 1), bk := D.nx } σ3 H3) : ForT J g tb D σ H := by
  refine ⟨fun i m σ' H' => i ≤ n ∧ m = n - i ∧ W i σ' H', ⟨n, Nat.zero_le _, rfl, w0⟩, ?_⟩
  rintro i m σ' H' ⟨hi, rfl, hw⟩
  rcases Nat.lt_or_ge i n with hlt | hge
  · right
    obtain ⟨g1, g2⟩ := step i σ' H' hlt hw
    exact ⟨g1, W (i + 1), fun σ2 H2 w2 => ⟨n - (i + 1), by omega, by omega, rfl, w2⟩, g2⟩
  · left
    obtain rfl : i = n := by omega
    exact fin _ _ hw
theorem compW {J : It} {g : TG} {tt : TT} {te : TE} {Fin : List V → Hp → Prop} (W : Nat → List V → St → Hp → Prop) (n : Nat) (w0 : W 0 [] σ H) (fin : ∀ ys σ' H', W n ys σ' H' → J.stop n H' ∧ Fin ys H')
    (step : ∀ i ys σ' H', i < n → W i ys σ' H' → J.go i H' ∧ ys.length < sizeLine ∧ ∀ x H2, J.yld i H' x H2 → g x σ' H2 fun σ3 H3 => tt σ3 H3 fun b H4 => if b = true then te σ3 H4 fun y H5 => ∃ m', m' < n - i ∧ (i + 1 ≤ n ∧ m' = n - (i + 1) ∧ W (i + 1) (ys ++ [y]) σ3 H5) else ∃ m', m' < n - i ∧ (i + 1 ≤ n ∧ m' = n - (i + 1) ∧ W (i + 1) ys σ3 H4)) : CompT J g tt te Fin σ H := by
  refine ⟨fun i m ys σ' H' => i ≤ n ∧ m = n - i ∧ W i ys σ' H', ⟨n, Nat.zero_le _, rfl, w0⟩, ?_⟩
  rintro i m ys σ' H' ⟨hi, rfl, hw⟩
  rcases Nat.lt_or_ge i n with hlt | hge
  · right
    exact step i ys σ' H' hlt hw
  · left
    obtain rfl : i = n := by omega
    exact fin _ _ _ hw
theorem nxt {n i : Nat} {A : Prop} (h : i < n) (a : A) : ∃ m', m' < n - i ∧ (i + 1 ≤ n ∧ m' = n - (i + 1) ∧ A) := ⟨n - (i + 1), by omega, h, rfl, a⟩
theorem i_bm {T : String} {r : V → List V → Hp → VK → Prop} {to : TE} {t : TA} (q : to σ H fun x H1 => tyV K T x H1 ∧ t σ H1 fun xs H2 => r x xs H2 Q) : tBM K T r to t σ H Q := q
theorem i_app {l : Addr} {xs : List V} {y : V} (h : H l = some (.lst xs)) (z : xs.length < sizeLine) (q : Q .non (upd H l (.lst (xs ++ [y])))) : rAppend (.ref l) [y] H Q := ⟨l, xs, y, rfl, rfl, h, z, q⟩
theorem i_cat {a b : Addr} {xs zs : List V} (h1 : H a = some (.lst xs)) (h2 : H b = some (.lst zs)) (l : xs.length + zs.length ≤ sizeLine) (q : ∀ p, H p = none → Q (.ref p) (upd H p (.lst (xs ++ zs)))) : rCat (.ref a) (.ref b) H Q := ⟨a, b, xs, zs, rfl, rfl, h1, h2, l, q⟩
theorem inV_int (z : Int) : ∀ ns : List Int, inV (.int z) (ns.map V.int) = decide (z ∈ ns)
  | [] => by simp [inV]
  | n :: r => by
    have ih := inV_int z r
    unfold inV at ih ⊢
    rw [List.map_cons, List.any_cons, ih]
    show ((n == z) || decide (z ∈ r)) = _
    by_cases e : n = z
    · subst e; simp
    · have e' : ¬ z = n := fun q => e q.symm
      simp [e, e']
theorem flat_ints (ns : List Int) : (ns.map V.int).all flatV = true := by simp [flatV]
theorem i_notInI {p : Addr} {ns : List Int} {z : Int} (h : SqL K H p (ns.map V.int)) (q : Q (.bl (!decide (z ∈ ns))) H) : rIn K true (.int z) (.ref p) H Q := by
  refine ⟨p, _, rfl, .inl h, rfl, flat_ints ns, ?_⟩
  rw [inV_int]
  exact q
end
section
variable {X : Cx} {K : PySem.W.Frag} {o e : Expr} {es : List Expr} {to : TE} {t : TA} {apos cpos : Pos}
theorem mApp (h : X.K = K) (ho : PE X o to) (ha : PA X (e :: es) t)
    (hbase : attributeBase o "append" X.env (eval o X.env) = eval o X.env := by rfl)
    (hfew : ((backTo cpos (starEach (e :: es) X.env)).all (fun x => !x.1) && (backToKw cpos (keywordEach [] X.env)).all (fun x => x.1.isSome)
      && decide ((e :: es).length + ([] : List Keyword).length + (if ([] : List Keyword).isEmpty then 0 else 1) < 30)) = true := by rfl)
    (hline : (apos.endLine == cpos.line) = true := by rfl) (hs : starEach (e :: es) X.env = (false, eval e X.env) :: starEach es X.env := by rfl) (hplain : (backTo cpos (starEach es X.env)).any (·.1) = false := by rfl) :
    PE X (.Call (.Attribute o "append" apos) (e :: es) [] cpos) (tBM K "list" rAppend to t) := by
  subst h
  exact pe_bm PySem.F.plainAttrs_list PySem.F.slot_list_append PySem.F.type_list_append mt_append ho ha hbase hfew hline hs hplain
end
/-! rising lists of ints -/
/-- strictly rising, and its members are just these -/
def Ris (rs : List Int) (P : Int → Prop) : Prop := rs.Pairwise (· < ·) ∧ ∀ x, x ∈ rs ↔ P x
theorem Ris.eq : ∀ {rs qs : List Int} {P : Int → Prop}, Ris rs P → Ris qs P → rs = qs
  | [], [], _, _, _ => rfl
  | [], q :: qs, P, h1, h2 => by
    have := (h1.2 q).mpr ((h2.2 q).mp List.mem_cons_self)
    cases this
  | r :: rs, [], P, h1, h2 => by
    have := (h2.2 r).mpr ((h1.2 r).mp List.mem_cons_self)
    cases this
  | r :: rs, q :: qs, P, h1, h2 => by
    obtain ⟨p1, m1⟩ := h1
    obtain ⟨p2, m2⟩ := h2
    rw [List.pairwise_cons] at p1 p2
    have a1 : r ∈ q :: qs := (m2 r).mpr ((m1 r).mp List.mem_cons_self)
    have a2 : q ∈ r :: rs := (m1 q).mpr ((m2 q).mp List.mem_cons_self)
    have e : r = q := by
      rcases List.mem_cons.mp a1 with z | z
      · exact z
      · rcases List.mem_cons.mp a2 with y | y
        · exact y.symm
        · have := p2.1 r z
          have := p1.1 q y
          omega
    subst e
    refine congrArg _ (Ris.eq (P := fun x => P x ∧ x ≠ r) ⟨p1.2, fun x => ?_⟩ ⟨p2.2, fun x => ?_⟩)
    · constructor
      · intro hx
        exact ⟨(m1 x).mp (List.mem_cons_of_mem _ hx), fun z => by have := p1.1 x hx; omega⟩
      · rintro ⟨hx, hn⟩
        rcases List.mem_cons.mp ((m1 x).mpr hx) with z | z
        · exact absurd z hn
        · exact z
    · constructor
      · intro hx
        exact ⟨(m2 x).mp (List.mem_cons_of_mem _ hx), fun z => by have := p2.1 x hx; omega⟩
      · rintro ⟨hx, hn⟩
        rcases List.mem_cons.mp ((m2 x).mpr hx) with z | z
        · exact absurd z hn
        · exact z
theorem nodup_le : ∀ {ks ns : List Int}, ks.Nodup → (∀ x ∈ ks, x ∈ ns) → ks.length ≤ ns.length
  | [], _, _, _ => Nat.zero_le _
  | k :: r, ns, h, m => by
    rw [List.nodup_cons] at h
    have hk := m k List.mem_cons_self
    have := nodup_le (ks := r) (ns := ns.erase k) h.2 fun x hx => (List.mem_erase_of_ne (fun z => h.1 (by rw [← z]; exact hx))).mpr (m x (List.mem_cons_of_mem _ hx))
    rw [List.length_erase_of_mem hk] at this
    have hp : 0 < ns.length := List.length_pos_of_mem hk
    rw [List.length_cons]
    omega
theorem Ris.nodup {rs : List Int} {P : Int → Prop} (h : Ris rs P) : rs.Nodup := h.1.imp (fun q z => by omega)
theorem Ris.len {rs ks : List Int} {P : Int → Prop} (h : Ris rs P) (n : ks.Nodup) (m : ∀ x, x ∈ ks ↔ P x) : ks.length = rs.length :=
  Nat.le_antisymm (nodup_le n fun x hx => (h.2 x).mpr ((m x).mp hx)) (nodup_le h.nodup fun x hx => (m x).mpr ((h.2 x).mp hx))
theorem ris_of {ns ks : List Int} {P : Int → Prop} (p : ns.Perm ks) (s : ns.Pairwise (· ≤ ·)) (n : ks.Nodup) (m : ∀ x, x ∈ ks ↔ P x) : Ris ns P := by
  refine ⟨?_, fun x => (p.mem_iff).trans (m x)⟩
  have nd : ns.Nodup := p.nodup_iff.mpr n
  exact (s.and nd).imp fun ⟨a, b⟩ => by omega
theorem Ris.filter {rs : List Int} {P : Int → Prop} {f : Int → Bool} (h : Ris rs P) : Ris (rs.filter f) (fun x => P x ∧ f x = true) :=
  ⟨h.1.filter f, fun x => by rw [List.mem_filter, h.2 x]⟩
theorem Ris.imp {rs : List Int} {P R : Int → Prop} (h : Ris rs P) (e : ∀ x, P x ↔ R x) : Ris rs R := ⟨h.1, fun x => (h.2 x).trans (e x)⟩
theorem reps_ints {H : Hp} : ∀ ns : List Int, Reps H (ns.map V.int) (ns.map Dt.int)
  | [] => .nil
  | n :: r => .cons (.int n) (reps_ints r)
theorem DrawAt.ne_ints {H : Hp} {d p : Addr} {ns : List Int} (h : DrawAt H d) (e : H p = some (.lst (ns.map V.int))) : p ≠ d := by
  obtain ⟨c, _, a, r, e', h1, _⟩ := h
  intro z
  subst z
  rw [h1] at e
  have q := Option.some.inj e
  injection q with q
  cases ns with
  | nil => cases q
  | cons n r => injection q with q _; cases q
end L2

namespace L2
open PySem PySem.Spec PyProof.Rows
/-! ### V. ranges as lists, lists turned about, pop at a place, min, max, == of lists of ints -/
def rangeI (lo : Int) (n : Nat) : List Int := (List.range n).map fun (k : Nat) => lo + (k : Int)
theorem rangeI_length (lo : Int) (n : Nat) : (rangeI lo n).length = n := by simp [rangeI]
theorem mem_rangeI {lo x : Int} {n : Nat} : x ∈ rangeI lo n ↔ lo ≤ x ∧ x < lo + n := by
  unfold rangeI
  rw [List.mem_map]
  constructor
  · rintro ⟨k, hk, rfl⟩
    rw [List.mem_range] at hk
    omega
  · rintro ⟨h1, h2⟩
    exact ⟨(x - lo).toNat, List.mem_range.mpr (by omega), by omega⟩
theorem rangeI_rises (lo : Int) (n : Nat) : (rangeI lo n).Pairwise (· < ·) := by
  unfold rangeI
  rw [List.pairwise_map]
  exact List.pairwise_lt_range.imp fun h => by omega
theorem vals_of_get : ∀ {xs : List V} {us : List Value}, xs.length = us.length → (∀ (k : Nat) x u, xs[k]? = some x → us[k]? = some u → RelV x u) → Vals xs us
  | [], [], _, _ => .nil
  | [], _ :: _, e, _ => by cases e
  | _ :: _, [], e, _ => by cases e
  | x :: r, u :: z, e, h => .cons (h 0 x u rfl rfl) (vals_of_get (by simpa using e) fun k a b e1 e2 => h (k + 1) a b (by simpa using e1) (by simpa using e2))
theorem erase_map {α β : Type} (f : α → β) : ∀ (l : List α) (k : Nat), (l.map f).eraseIdx k = (l.eraseIdx k).map f
  | [], _ => rfl
  | _ :: _, 0 => rfl
  | x :: r, k + 1 => by rw [List.map_cons, List.eraseIdx_cons_succ, List.eraseIdx_cons_succ, List.map_cons, erase_map f r k]
section
variable {X : Cx} {K : PySem.W.Frag}
def rRng2 : List V → Hp → VK → Prop := fun xs H Q => ∃ (i j : Int), xs = [.int i, .int j] ∧ ∀ l, H l = none → Q (.ref l) (upd H l (.rng i j))
theorem cRng2 : CallR X (.type "range") rRng2 := by
  intro pins s σ H xs us Q I r h
  obtain ⟨i, j, rfl, q⟩ := h
  obtain ⟨u, w', rfl, ⟨t, rfl⟩, ⟨t', rfl⟩⟩ := vals2 r
  refine call_range_2 ?_
  exact ⟨.ref s.heap.objs.size, _, I.laid (t' := s.toks + 1) (o := .rng i j) (fun b ob q => Heap.get?_push_of_some _ q) (Nat.le_refl _) ⟨_, _, _, Heap.get?_push_size _ rfl⟩, rfl, q _ (I.hok.fresh (Nat.le_refl _))⟩
def rListRng : List V → Hp → VK → Prop := fun xs H Q => ∃ (p : Addr) (i j : Int), xs = [.ref p] ∧ H p = some (.rng i j) ∧ -(2 ^ 62) ≤ i ∧ j < 2 ^ 62 ∧ i ≤ 2 ^ 61 ∧ -(2 ^ 61) ≤ j ∧ (j - i).toNat ≤ 1000 ∧ ∀ l, H l = none → Q (.ref l) (upd H l (.lst ((rangeI i (j - i).toNat).map V.int)))
theorem cListRng (hc : X.calm = true) : CallR X (.type "list") rListRng := by
  intro pins s σ H xs us Q I r h
  obtain ⟨p, i, j, rfl, hp, h1, h2, h3, h4, hn, q⟩ := h
  obtain ⟨u, rfl, rx⟩ := vals1 r
  cases rx
  obtain ⟨t, u', v, hg⟩ := I.hok p _ hp
  have hs : Builtin.Range.rangeSize i j 1 = (((j - i).toNat : Nat) : Int) := by rw [rangeSize_one]; split <;> omega
  refine call_list_range (n := (j - i).toNat) (I.ok.hd hc) hg (small_one h1 (by omega) (by omega) h2) hs (by omega) fun h' tk acc c old hL items => ?_
  refine ⟨.ref s.heap.objs.size, _, I.laid (t' := tk) (o := .lst ((rangeI i (j - i).toNat).map V.int)) old (Nat.le_refl _) ⟨?_, acc.toList, c, ?_, by simpa using hL⟩, rfl, q _ (I.hok.fresh (Nat.le_refl _))⟩
  · rw [List.length_map, rangeI_length]
    exact Nat.le_trans hn (by decide)
  · refine vals_of_get (by rw [List.length_map, rangeI_length]; exact items.1.symm) fun k x v e1 e2 => ?_
    obtain ⟨t2, rfl⟩ := items.2 k v (by simpa using e2)
    have hk : k < (j - i).toNat := by
      rcases Nat.lt_or_ge k (j - i).toNat with q | q
      · exact q
      · rw [List.getElem?_eq_none (by rw [List.length_map, rangeI_length]; exact q)] at e1; cases e1
    have e3 : ((rangeI i (j - i).toNat).map V.int)[k]? = some (.int (i + (k : Int))) := by simp [rangeI, List.getElem?_range hk]
    rw [e3] at e1
    cases e1
    exact ⟨t2, by rw [Int.mul_one]⟩
def rMax2 : List V → Hp → VK → Prop := fun xs H Q => ∃ i j, xs = [.int i, .int j] ∧ Q (.int (if j > i then j else i)) H
def rMin2 : List V → Hp → VK → Prop := fun xs H Q => ∃ i j, xs = [.int i, .int j] ∧ Q (.int (if j < i then j else i)) H
def rInt1 : List V → Hp → VK → Prop := fun xs H Q => (∃ i, xs = [.int i] ∧ Q (.int i) H) ∨ ∃ k, xs = [.bl k] ∧ Q (.int (if k then 1 else 0)) H
theorem cMin2 (hc : X.calm = true) : CallR X (.builtin "min") rMin2 := call_min2 hc
def rTupleOf (K : PySem.W.Frag) : List V → Hp → VK → Prop := fun xs H Q => ∃ p ys, xs = [.ref p] ∧ ((SqL K H p ys ∧ ∀ l, H l = none → Q (.ref l) (upd H l (.tup ys))) ∨ (SqT K H p ys ∧ Q (.ref p) H))
theorem cTuple (h : X.K = K) : CallR X (.type "tuple") (rTupleOf K) := by subst h; exact call_tuple_of
/-! a list turned about -/
def tRev (K : PySem.W.Frag) (te : TE) (ts : TO) : TE := fun σ H Q => te σ H fun x H1 => ts σ H1 fun st H2 => ∃ a xs, x = .ref a ∧ st = some (-1) ∧ SqL K H2 a xs ∧ ∀ p, H2 p = none → Q (.ref p) (upd H2 p (.lst xs.reverse))
end
section
variable {X : Cx} {K : PySem.W.Frag} {o e : Expr} {es : List Expr} {to : TE} {t : TA} {apos cpos : Pos}
theorem mPopAt (h : X.K = K) (ho : PE X o to) (ha : PA X (e :: es) t)
    (hbase : attributeBase o "pop" X.env (eval o X.env) = eval o X.env := by rfl)
    (hfew : ((backTo cpos (starEach (e :: es) X.env)).all (fun x => !x.1) && (backToKw cpos (keywordEach [] X.env)).all (fun x => x.1.isSome)
      && decide ((e :: es).length + ([] : List Keyword).length + (if ([] : List Keyword).isEmpty then 0 else 1) < 30)) = true := by rfl)
    (hline : (apos.endLine == cpos.line) = true := by rfl) (hs : starEach (e :: es) X.env = (false, eval e X.env) :: starEach es X.env := by rfl) (hplain : (backTo cpos (starEach es X.env)).any (·.1) = false := by rfl) :
    PE X (.Call (.Attribute o "pop" apos) (e :: es) [] cpos) (tBM K "list" rPopAt to t) := by
  subst h
  exact pe_bm PySem.F.plainAttrs_list PySem.F.slot_list_pop PySem.F.type_list_pop mt_popAt ho ha hbase hfew hline hs hplain
end
section
variable {σ : St} {H : Hp} {Q : VK} {K : PySem.W.Frag}
theorem i_rng2 {i j : Int} (q : ∀ l, H l = none → Q (.ref l) (upd H l (.rng i j))) : rRng2 [.int i, .int j] H Q := ⟨i, j, rfl, q⟩
theorem i_listRng {p : Addr} {i j : Int} (h : H p = some (.rng i j)) (h1 : -(2 ^ 61) ≤ i) (h2 : i ≤ 2 ^ 61) (h3 : -(2 ^ 61) ≤ j) (h4 : j ≤ 2 ^ 61) (hn : (j - i).toNat ≤ 1000) (q : ∀ l, H l = none → Q (.ref l) (upd H l (.lst ((rangeI i (j - i).toNat).map V.int)))) : rListRng [.ref p] H Q :=
  ⟨p, i, j, rfl, h, by omega, by omega, h2, h3, hn, q⟩
theorem i_max2 {i j : Int} (q : Q (.int (if j > i then j else i)) H) : rMax2 [.int i, .int j] H Q := ⟨i, j, rfl, q⟩
theorem i_min2 {i j : Int} (q : Q (.int (if j < i then j else i)) H) : rMin2 [.int i, .int j] H Q := ⟨i, j, rfl, q⟩
theorem i_intB {k : Bool} (q : Q (.int (if k then 1 else 0)) H) : rInt1 [.bl k] H Q := .inr ⟨k, rfl, q⟩
theorem i_rev {te : TE} {ts : TO} (q : te σ H fun x H1 => ts σ H1 fun st H2 => ∃ a xs, x = .ref a ∧ st = some (-1) ∧ SqL K H2 a xs ∧ ∀ p, H2 p = none → Q (.ref p) (upd H2 p (.lst xs.reverse))) : tRev K te ts σ H Q := q
theorem i_popAt {l : Addr} {ns : List Int} {k : Nat} (h : H l = some (.lst (ns.map V.int))) (hk : k < ns.length) (hl : ns.length ≤ 1000) (q : Q (.int ns[k]) (upd H l (.lst ((ns.eraseIdx k).map V.int)))) : rPopAt (.ref l) [.int k] H Q := by
  refine ⟨l, _, k, k, .int ns[k], rfl, rfl, h, by omega, by omega, ?_, ?_, ?_⟩
  · exact PySem.StrLaws.seqIndex_nonneg (by omega) (by rw [List.length_map]; omega)
  · rw [List.getElem?_map, List.getElem?_eq_getElem hk]; rfl
  · rw [erase_map]; exact q
end

/-! == and != of lists of ints; of lists of unlike lengths -/
section
variable {X : Cx}
def rEqI (neg : Bool) : R2 := fun x y H Q => ∃ (p q : Addr) (ns ms : List Int), x = .ref p ∧ y = .ref q ∧ H p = some (.lst (ns.map V.int)) ∧ H q = some (.lst (ms.map V.int)) ∧ Q (.bl (if neg then !decide (ns = ms) else decide (ns = ms))) H
theorem all_eqI {ns ms : List Int} (h : ns.length = ms.length) : ((List.range ns.length).all fun j => decide (ns[j]? = ms[j]?)) = decide (ns = ms) := by
  by_cases e : ns = ms
  · subst e; simp
  · rw [decide_eq_false e]
    rw [Bool.eq_false_iff]
    intro z
    apply e
    rw [List.all_eq_true] at z
    apply List.ext_getElem? 
    intro j
    rcases Nat.lt_or_ge j ns.length with q | q
    · exact of_decide_eq_true (z j (List.mem_range.mpr q))
    · rw [List.getElem?_eq_none q, List.getElem?_eq_none (by omega)]
theorem eq_items {A : Around} {s : Shared} {ns ms : List Int} {us zs : List Value} (r1 : Vals (ns.map V.int) us) (r2 : Vals (ms.map V.int) zs) (j : Nat) (h1 : j < us.length) (h2 : j < zs.length) : SeqAt.EqAt A s us[j] zs[j] (decide (ns[j]? = ms[j]?)) := by
  have l1 := r1.length
  have l2 := r2.length
  rw [List.length_map] at l1 l2
  obtain ⟨u, e1, q1⟩ := r1.get (i := j) (x := .int (ns[j]'(by omega))) (by rw [List.getElem?_map, List.getElem?_eq_getElem (by omega)]; rfl)
  obtain ⟨z, e2, q2⟩ := r2.get (i := j) (x := .int (ms[j]'(by omega))) (by rw [List.getElem?_map, List.getElem?_eq_getElem (by omega)]; rfl)
  rw [List.getElem?_eq_getElem h1] at e1
  rw [List.getElem?_eq_getElem h2] at e2
  cases e1; cases e2
  have q := eqAt_V (A := A) (s := s) q1 q2 rfl rfl
  rw [List.getElem?_eq_getElem (show j < ns.length by omega), List.getElem?_eq_getElem (show j < ms.length by omega)]
  have e : eqV (.int (ns[j]'(by omega))) (.int (ms[j]'(by omega))) = decide (some (ns[j]'(by omega)) = some (ms[j]'(by omega))) := by
    show (ns[j]'(by omega) == ms[j]'(by omega)) = _
    by_cases z : ns[j]'(by omega) = ms[j]'(by omega)
    · simp [z]
    · simp [z]
  rw [e] at q
  exact q
theorem op_eqI (hu : X.A.units + 64 < cLine) : OpR X (compareOp .Eq) (rEqI false) := by
  intro pins s σ H x y v u Q I rx ry h
  obtain ⟨p, q, ns, ms, rfl, rfl, h1, h2, k⟩ := h
  cases (show v = Value.ref p from rx)
  cases (show u = Value.ref q from ry)
  obtain ⟨us, r1, l1⟩ := lstAt I h1
  obtain ⟨zs, r2, l2⟩ := lstAt I h2
  have e1 := r1.length
  have e2 := r2.length
  rw [List.length_map] at e1 e2
  by_cases hl : ns.length = ms.length
  · refine SeqAt.RcAt.lists (A := X.A) (e := fun j => decide (ns[j]? = ms[j]?)) l1 l2 (by simp; omega) (by omega) (fun j h1 h2 => ?_) X.prog X.w _ _ ?_
    · simpa using eq_items (A := X.A.in1) (s := s) r1 r2 j (by simpa using h1) (by simpa using h2)
    · rw [List.size_toArray, ← e1, all_eqI hl]
      exact ⟨.bl _, H, I, rfl, k⟩
  · refine SeqAt.RcAt.lists_lengths l1 l2 (by simp; omega) (by omega) X.prog X.w _ _ ?_
    have e : decide (ns = ms) = false := decide_eq_false fun z => hl (by rw [z])
    refine ⟨.bl false, H, I, rfl, ?_⟩
    rw [if_neg (by decide), e] at k
    exact k
theorem op_neI (hu : X.A.units + 64 < cLine) : OpR X (compareOp .NotEq) (rEqI true) := by
  intro pins s σ H x y v u Q I rx ry h
  obtain ⟨p, q, ns, ms, rfl, rfl, h1, h2, k⟩ := h
  cases (show v = Value.ref p from rx)
  cases (show u = Value.ref q from ry)
  obtain ⟨us, r1, l1⟩ := lstAt I h1
  obtain ⟨zs, r2, l2⟩ := lstAt I h2
  have e1 := r1.length
  have e2 := r2.length
  rw [List.length_map] at e1 e2
  by_cases hl : ns.length = ms.length
  · refine SeqAt.RcNeAt.lists (A := X.A) (e := fun j => decide (ns[j]? = ms[j]?)) l1 l2 (by simp; omega) (by omega) (fun j h1 h2 => ?_) X.prog X.w _ _ ?_
    · simpa using eq_items (A := X.A.in1) (s := s) r1 r2 j (by simpa using h1) (by simpa using h2)
    · rw [List.size_toArray, ← e1, all_eqI hl]
      exact ⟨.bl _, H, I, rfl, k⟩
  · refine SeqAt.RcNeAt.lists_lengths l1 l2 (by simp; omega) (by omega) X.prog X.w _ _ ?_
    have e : decide (ns = ms) = false := decide_eq_false fun z => hl (by rw [z])
    refine ⟨.bl true, H, I, rfl, ?_⟩
    rw [if_pos rfl, e] at k
    exact k
theorem i_eqI {neg : Bool} {H : Hp} {Q : VK} {p q : Addr} {ns ms : List Int} (h1 : H p = some (.lst (ns.map V.int))) (h2 : H q = some (.lst (ms.map V.int))) (k : Q (.bl (if neg then !decide (ns = ms) else decide (ns = ms))) H) : rEqI neg (.ref p) (.ref q) H Q := ⟨p, q, ns, ms, rfl, rfl, h1, h2, k⟩
end
end L2

namespace L2
open PySem PySem.Spec PyProof.Rows
/-! ### W. more built-in names; filters; sizes of sets -/
theorem bb_min : bootBuiltins "min" = some (.builtin "min") := by decide +kernel
theorem bb_range : bootBuiltins "range" = some (.type "range") := by decide +kernel
structure BltM (mg : Str → Option Value) : Prop extends Blt mg where
  z_min : mg "min" = none
  z_max : mg "max" = none
  z_sum : mg "sum" = none
  z_enumerate : mg "enumerate" = none
section
variable {K : PySem.W.Frag}
theorem filterL {a : Addr} {rs : List Int} {f : Int → Bool} {tt : TT} {H1 : Hp} {Fin : List V → Hp → Prop} {σ0 : List (Option V)} (hl : rs.length ≤ 1000)
    (ha : SqL K H1 a (rs.map V.int)) (htt : ∀ z R, R (f z) H1 → tt (some (.int z) :: σ0) H1 R) (fin : Fin ((rs.filter f).map V.int) H1) :
    CompT (Itl K a) (gName 0) tt (tVar 0) Fin (none :: σ0) H1 := by
  refine compW (fun i ys σ' H' => (∃ x, σ' = x :: σ0) ∧ H' = H1 ∧ ys = ((rs.take i).filter f).map V.int) rs.length ⟨⟨none, rfl⟩, rfl, rfl⟩ ?_ ?_
  · rintro ys σ' H' ⟨_, rfl, rfl⟩
    refine ⟨⟨_, ha, by rw [List.length_map]; exact Nat.le_refl _⟩, ?_⟩
    rw [List.take_of_length_le (Nat.le_refl _)]
    exact fin
  · rintro i ys σ' H' hi ⟨⟨x0, rfl⟩, rfl, rfl⟩
    have hx : (rs.map V.int)[i]? = some (.int rs[i]) := by rw [List.getElem?_map, List.getElem?_eq_getElem hi]; rfl
    have hle : ((rs.take i).filter f).length ≤ 1000 := Nat.le_trans (List.length_filter_le _ _) (by rw [List.length_take]; omega)
    refine ⟨⟨_, _, ha, hx⟩, Nat.lt_of_lt_of_le (show _ < 1001 by rw [List.length_map]; omega) (by decide), ?_⟩
    rintro x H6 ⟨rfl, hy⟩
    have e := hy _ ha
    rw [hx] at e
    cases e
    refine i_name ?_
    refine htt _ _ ?_
    have et : rs.take (i + 1) = rs.take i ++ [rs[i]] := by rw [List.take_succ, List.getElem?_eq_getElem hi]; rfl
    cases hf : f rs[i] with
    | true =>
      refine iteT ?_
      refine i_var (v := .int rs[i]) rfl ?_
      refine nxt hi ⟨⟨_, rfl⟩, rfl, ?_⟩
      rw [et, List.filter_append, List.filter_cons, hf]
      simp
    | false =>
      refine iteF ?_
      refine nxt hi ⟨⟨_, rfl⟩, rfl, ?_⟩
      rw [et, List.filter_append, List.filter_cons, hf]
      simp
end
theorem i_rngB {σ : St} {H : Hp} {ta : TA} {N : It → Hp → Prop} (q : ta σ H fun vs H1 => ∃ i j : Int, vs = [.int i, .int j] ∧ (-(2 ^ 62) ≤ i ∧ i < 2 ^ 62 ∧ -(2 ^ 62) ≤ j ∧ j < 2 ^ 62) ∧ N (Itr i (j - i).toNat) H1) : iRng2 ta σ H N := q
end L2

namespace L2
open PySem PySem.Spec PyProof.Rows
/-! ### X. texts -/
def tx (cs : List Nat) : Str := ⟨cs.toArray⟩
def chV (c : Nat) : V := .str ⟨#[c]⟩
/-- the signs of a text, one by one -/
def Its (x : Str) : It := ⟨fun i _ => i < x.cps.size, fun i H v H' => H' = H ∧ ∃ c, x.cps[i]? = some c ∧ v = chV c, fun i _ => x.cps.size ≤ i⟩
theorem turn_str {P : Program} {w : World} {K : PySem.W.Frag} {tg : Expr} (it : Addr) (x : Str) (t : Tok) : Turn P w K tg (Its x) [it] it (fun i h => i ≤ x.cps.size ∧ h.IsStrIter it "str_ascii_iterator" x t i) where
  mem := by simp
  obj := fun i h st b hb => by
    have e : b = it := by simpa using hb
    subst e
    obtain ⟨_, o, e, c, d⟩ := st
    exact ⟨o, e, fun v z => by rw [d] at z; cases z⟩
  keep := fun i h h' st k => ⟨st.1, let ⟨o, ho, r⟩ := st.2; ⟨o, k it (by simp) o ho, r⟩⟩
  item := by
    intro X hP hw hK hc i pins s σ H E I hf st hg
    subst hP hw hK
    obtain ⟨f0, f1, f2, f3, f4, f5⟩ := hf it (by simp)
    have W := Walks.strAscii (prog := X.prog) (w := X.w) (I.ok.hd hc) it x t
    refine W.item i s _ _ hg st.2 fun v h' tk hv st' kk => ?_
    obtain ⟨c, u, hx, rfl⟩ := hv
    have I1 : Inv X pins σ H { s with heap := h', toks := tk } := I.turned (fun b o hb e => kk b o (by simpa using hb) e) f0 f1 f3 f4 f5
    obtain ⟨o, e, c', d⟩ := id st'
    exact ⟨_, rfl, go_of (s := { s with heap := h', toks := tk }) (n := "str_ascii_iterator") e c' d (by decide) ⟨chV c, H, I1, ⟨u, rfl⟩, ⟨rfl, c, hx, rfl⟩, ⟨hg, st'⟩, fun b hb => (hf b hb).1⟩⟩
  done := by
    intro X hP hw hK hc i pins s σ H E I hf st hg
    subst hP hw hK
    obtain ⟨f0, f1, f2, f3, f4, f5⟩ := hf it (by simp)
    have e : i = x.cps.size := Nat.le_antisymm st.1 hg
    subst e
    exact wpAny_pyNext_ascii_end (I.ok.hd hc) st.2 (by simp) fun h' eb => ⟨rfl, I.turned (t' := s.toks) (fun b o hb e => eb b o hb e) f0 f1 f3 f4 f5⟩
  self := fun _ _ _ _ _ st h => wpAny_pyIter_striter_ascii st.2 h
def iStr (tl : TE) : TI := fun σ H R => tl σ H fun x H1 => ∃ z, x = .str z ∧ z.cps.all (· < 128) = true ∧ R (Its z) H1
section
variable {X : Cx}
theorem piS {tg l : Expr} {tl : TE} (hl : PE X l tl) : PI X tg l (iStr tl) := by
  intro pins s σ H R I h
  refine thn (hl pins s σ H _ I h) fun v s1 ⟨x, H1, I1, r1, q1⟩ => ?_
  obtain ⟨z, rfl, ha, q⟩ := q1
  obtain ⟨t, rfl⟩ := r1
  refine wpAny_pyIter_ascii ha ?_
  refine ⟨s1.heap.objs.size, [s1.heap.objs.size], _, Its z, H1, rfl, I1.kept (t' := s1.toks) fun b o e => Heap.get?_push_of_some _ e, turn_str _ z t, ⟨Nat.zero_le _, _, Heap.get?_push_size _ rfl, rfl, rfl⟩, fun b hb => ?_, q⟩
  have e : b = s1.heap.objs.size := by simpa using hb
  subst e
  exact I1.fpOk (Nat.le_refl _) (I1.hok.fresh (Nat.le_refl _))
theorem piSK {K : PySem.W.Frag} {tg l : Expr} {tl : TE} (_ : X.K = K) (hl : PE X l tl) : PI X tg l (iStr tl) := piS hl
def rIntS : List V → Hp → VK → Prop := fun xs H Q => ∃ x n, xs = [.str x] ∧ PySem.intText? x = some n ∧ x.length ≤ 640 ∧ Q (.int n) H
theorem cIntS : CallR X (.type "int") rIntS := by
  intro pins s σ H xs us Q I r h
  obtain ⟨x, n, rfl, hn, hl, q⟩ := h
  obtain ⟨u, rfl, t, rfl⟩ := vals1 r
  exact PySem.W.KIN.call_text hn hl ⟨.int n, H, I.tok _, ⟨_, rfl⟩, q⟩
def rLenStr : List V → Hp → VK → Prop := fun xs H Q => ∃ z, xs = [.str z] ∧ z.length ≤ sizeLine ∧ Q (.int z.length) H
theorem cLenStr : CallR X (.builtin "len") rLenStr := call_len_str
def rInStr : R2 := fun x y H Q => ∃ i j, x = .str i ∧ y = .str j ∧ Q (.bl (!(Builtin.Str.occurrences j i 0 j.length 1).isEmpty)) H
theorem oInStr : OpR X (compareOp .In) rInStr := op_in_str
def rAddStr : R2 := fun x y H Q => ∃ i j, x = .str i ∧ y = .str j ∧ i.length + j.length ≤ sizeLine ∧ Q (.str (i ++ j)) H
theorem oAddStr : OpR X (binaryOp .Add) rAddStr := op_add_str
/-- where a text first stands in another, or -1 -/
def findI (x y : Str) : Int := match Builtin.Str.occurrences x y 0 x.length 1 with | i :: _ => (i : Int) | [] => -1
def rFind : V → List V → Hp → VK → Prop := fun x vs H Q => ∃ z y, x = .str z ∧ vs = [.str y] ∧ Q (.int (findI z y)) H
theorem mt_find : MtR X "str.find" rFind := by
  intro pins s σ H x xs v us Q I rx rv h
  obtain ⟨z, y, rfl, rfl, q⟩ := h
  obtain ⟨t, rfl⟩ := rx
  obtain ⟨u, rfl, t', rfl⟩ := vals1 rv
  refine call_meets F.slot_str_find (typeIs_str s z t) F.entry_str_find (F.args_str_find_2 _ _) (gives_str_find z y t t').meets ?_
  exact ⟨.int _, H, I.tok _, ⟨_, rfl⟩, q⟩
theorem vals_strs : ∀ {ts : List Str} {us : List Value}, Vals (ts.map V.str) us → ∃ l : List (Str × Tok), strValues l = us ∧ l.map (·.1) = ts
  | [], _, .nil => ⟨[], rfl, rfl⟩
  | t :: r, _, .cons h q => by
    obtain ⟨l, e1, e2⟩ := vals_strs q
    obtain ⟨k, rfl⟩ := (show ∃ k, _ = Value.str t k from h)
    exact ⟨(t, k) :: l, by rw [← e1]; rfl, by rw [← e2]; rfl⟩
end
section
variable {X : Cx} {K : PySem.W.Frag} {o e : Expr} {es : List Expr} {to : TE} {t : TA} {apos cpos : Pos}
theorem mFind (h : X.K = K) (ho : PE X o to) (ha : PA X (e :: es) t)
    (hbase : attributeBase o "find" X.env (eval o X.env) = eval o X.env := by rfl)
    (hfew : ((backTo cpos (starEach (e :: es) X.env)).all (fun x => !x.1) && (backToKw cpos (keywordEach [] X.env)).all (fun x => x.1.isSome)
      && decide ((e :: es).length + ([] : List Keyword).length + (if ([] : List Keyword).isEmpty then 0 else 1) < 30)) = true := by rfl)
    (hline : (apos.endLine == cpos.line) = true := by rfl) (hs : starEach (e :: es) X.env = (false, eval e X.env) :: starEach es X.env := by rfl) (hplain : (backTo cpos (starEach es X.env)).any (·.1) = false := by rfl) :
    PE X (.Call (.Attribute o "find" apos) (e :: es) [] cpos) (tBM K "str" rFind to t) := by
  subst h
  exact pe_bm PySem.F.plainAttrs_str PySem.F.slot_str_find PySem.F.type_str_find mt_find ho ha hbase hfew hline hs hplain
end
section
variable {σ : St} {H : Hp} {Q : VK}
theorem i_itS {tl : TE} {N : It → Hp → Prop} (q : tl σ H fun x H1 => ∃ z, x = .str z ∧ z.cps.all (· < 128) = true ∧ N (Its z) H1) : iStr tl σ H N := q
theorem i_inStr {i j : Str} (q : Q (.bl (!(Builtin.Str.occurrences j i 0 j.length 1).isEmpty)) H) : rInStr (.str i) (.str j) H Q := ⟨i, j, rfl, rfl, q⟩
theorem i_find {z y : Str} (q : Q (.int (findI z y)) H) : rFind (.str z) [.str y] H Q := ⟨z, y, rfl, rfl, q⟩
theorem i_lenStr {z : Str} (h : z.length ≤ sizeLine) (q : Q (.int z.length) H) : rLenStr [.str z] H Q := ⟨z, rfl, h, q⟩
theorem i_ixS {z : Str} {i : Int} {c : Nat} (h : z.length ≤ sizeLine) (e : atI z.cps.toList i = some c) (q : Q (chV c) H) : rIxS (.str z) (.int i) H Q := ⟨z, i, c, rfl, rfl, h, e, q⟩
end
end L2

namespace L2
open PySem PySem.Spec PyProof.Rows
open PySem.Builtin.Str (strSliceIndices)
/-! ### x[i:j] of a text: signs of it, no more of them -/
def rSlS : V → Option Int → Option Int → Hp → VK → Prop := fun x lo hi H Q => ∃ cs : List Nat, x = .str (tx cs) ∧ cs.length ≤ 1000 ∧ ∀ ds : List Nat, ds.length ≤ (strSliceIndices lo hi 1 cs.length).length → (∀ c ∈ ds, c ∈ cs) → Q (.str (tx ds)) H
theorem idx_from (i n : Nat) : (strSliceIndices (some (i : Int)) none 1 n).length ≤ n - i := by
  unfold strSliceIndices sliceRange
  simp only [show (1 : Int) > 0 by decide, if_true, List.length_map, List.length_range]
  repeat' split
  all_goals (try simp only [Int.ediv_one])
  all_goals omega
theorem idx_to (i n : Nat) : (strSliceIndices none (some (i : Int)) 1 n).length ≤ i := by
  unfold strSliceIndices sliceRange
  simp only [show (1 : Int) > 0 by decide, if_true, List.length_map, List.length_range]
  repeat' split
  all_goals (try simp only [Int.ediv_one])
  all_goals omega
theorem picked_in (cs : List Nat) (l u : Option (Int × Tok)) : ((slicePicked (tx cs) l u none).filterMap ((tx cs).cps[·]?)).length ≤ (strSliceIndices (l.map (·.1)) (u.map (·.1)) 1 cs.length).length ∧ ∀ c ∈ (slicePicked (tx cs) l u none).filterMap ((tx cs).cps[·]?), c ∈ cs := by
  have hx : (tx cs).length = cs.length := by show cs.toArray.size = _; simp
  refine ⟨?_, fun c hc => ?_⟩
  · refine Nat.le_trans (List.length_filterMap_le _ _) ?_
    rw [← hx]
    exact Nat.le_refl _
  · obtain ⟨i, _, e⟩ := List.mem_filterMap.mp hc
    unfold tx at e
    have e' : cs[i]? = some c := by simpa using e
    exact List.mem_of_getElem? e'
section
variable {X : Cx}
theorem sl_S : SlR X rSlS := by
  intro pins s σ H x v vl vu lo hi sl Q I rx hs pl pu h
  obtain ⟨cs, rfl, hz, q⟩ := h
  obtain ⟨t, rfl⟩ := rx
  refine ⟨"str", _, F.slot_str_getitem.lookup, typeIs_str s _ t, ?_⟩
  have go : ∀ l u : Option (Int × Tok), l.map (·.1) = lo → u.map (·.1) = hi → s.heap.IsSlice sl l u none → wpAny (model X.prog X.w) X.A (getItem (.str (tx cs) t) (.ref sl)) (EP X pins σ Q) X.xe s := by
    rintro l u rfl rfl hs'
    refine wpAny_getItem_str_slice hs' rfl ?_
    obtain ⟨h1, h2⟩ := picked_in cs l u
    have h3 := sliceIndices_le (l.map (·.1)) (u.map (·.1)) cs.length
    have hx : (tx cs).length = cs.length := by show cs.toArray.size = _; simp
    unfold sliceMade
    show (if _ then _ else _ : Made).post _ s
    split
    · rename_i hcond
      rw [Bool.and_eq_true, beq_iff_eq, beq_iff_eq] at hcond
      have e : (strSliceIndices (l.map (·.1)) (u.map (·.1)) 1 cs.length).length = cs.length := by
        have := hcond.2
        unfold slicePicked at this
        rw [hx] at this
        exact this
      exact ⟨.str _, H, I, ⟨_, rfl⟩, q cs (by omega) fun _ hc => hc⟩
    · exact ⟨by rw [sizeLine_eq]; show (List.toArray _).size ≤ _; rw [List.size_toArray]; omega, .str _, H, I.tok _, ⟨_, rfl⟩, q _ h1 h2⟩
  cases pl with
  | none =>
    cases pu with
    | none => exact go none none rfl rfl hs
    | int j tj => exact go none (some (j, tj)) rfl rfl hs
  | int i ti =>
    cases pu with
    | none => exact go (some (i, ti)) none rfl rfl hs
    | int j tj => exact go (some (i, ti)) (some (j, tj)) rfl rfl hs
theorem i_slS {H : Hp} {Q : VK} {cs : List Nat} {lo hi : Option Int} (hl : cs.length ≤ 1000) (q : ∀ ds : List Nat, ds.length ≤ (strSliceIndices lo hi 1 cs.length).length → (∀ c ∈ ds, c ∈ cs) → Q (.str (tx ds)) H) : rSlS (.str (tx cs)) lo hi H Q := ⟨cs, rfl, hl, q⟩
theorem tx_app (cs ds : List Nat) : tx cs ++ tx ds = tx (cs ++ ds) := by
  show (⟨cs.toArray ++ ds.toArray⟩ : Str) = ⟨(cs ++ ds).toArray⟩
  simp
theorem i_addS {H : Hp} {Q : VK} {cs ds : List Nat} (hl : cs.length + ds.length ≤ 1000) (q : Q (.str (tx (cs ++ ds))) H) : rAddStr (.str (tx cs)) (.str (tx ds)) H Q := by
  refine ⟨tx cs, tx ds, rfl, rfl, ?_, by rw [tx_app]; exact q⟩
  rw [sizeLine_eq]
  show cs.toArray.size + ds.toArray.size ≤ _
  simp
  omega
end
end L2

namespace L2
open PySem PySem.Spec PyProof.Rows
/-! ### Y. set(tuple of ints), enumerate -/
theorem sub_tuple_set0 : isSubtype (.type "tuple") (.type "set") = pure false := by rw [isSubtype_type]; kernel_rfl
theorem sub_tuple_frozenset0 : isSubtype (.type "tuple") (.type "frozenset") = pure false := by rw [isSubtype_type]; kernel_rfl
section
variable {prog : Program} {w : World} {A : Around} {E : Value → Shared → Prop} {s : Shared}
theorem update_loopGT {R : Result → Shared → Prop} {I S l : Addr} {items : Array Value} {ns : List Int} (hh : A.in1.handled = none) (hi : IntsAre items.toList ns) (hb : items.size + 1 < scanBound) (n1 : S ≠ I) (n2 : S ≠ l) (n3 : l ≠ I) :
    ∀ (k i : Nat) (s : Shared) (ks : List Int), items.size - i = k → i ≤ items.size → s.heap.IsTupleIter I l i → s.heap.IsTuple l items → SetG w s.heap S ks → ks.length ≤ i → (∀ x, x ∈ ks ↔ x ∈ ns.take i) →
      (∀ h' tk ks', (∀ b o, b ≠ S → b ≠ I → s.heap.get? b = some o → h'.get? b = some o) → SetG w h' S ks' → (∀ x, x ∈ ks' ↔ x ∈ ns) → R (.ok (.ret .none)) { s with heap := h', toks := tk }) →
      codeAny (model prog w) A (.builtin "set.update.loop" ⟨[.ref S, .ref I], []⟩) R s := by
  have hlen : items.size = ns.length := by have := IntsAre.length hi; simpa using this
  intro k
  induction k with
  | zero =>
    intro i s ks hk hle hit hl hS hlk hm hR
    have hin : i = items.size := by omega
    subst hin
    refine codeAny_builtin PyProof.Rows.F.entry_set_update_loop ?_
    rw [Around.under_plainId PyProof.Rows.F.plain_set_update_loop _]
    show wpAny _ A.in1 (pyNext (.ref I) >>= _) _ _ s
    refine wpAny_bind (wpAny_pyNext_tuple_end hh hit hl (by simp) fun h' eb => ?_)
    show wpAny _ A.in1 (ret Value.none) _ _ _
    refine wpAny_pure (hR h' s.toks ks (fun b o _ b2 e => eb b o b2 e) (hS.at fun o e => eb _ _ n1 e) fun x => ?_)
    rw [hm x, hlen, List.take_length]
  | succ k ih =>
    intro i s ks hk hle hit hl hS hlk hm hR
    have hlt : i < items.size := by omega
    obtain ⟨t, hv⟩ := IntsAre.int_at hi i items[i] (by simp [hlt])
    have hgd : ns.getD i 0 = ns[i]'(by omega) := by simp [List.getD_eq_getElem?_getD, show i < ns.length by omega]
    refine codeAny_builtin PyProof.Rows.F.entry_set_update_loop ?_
    rw [Around.under_plainId PyProof.Rows.F.plain_set_update_loop _]
    show wpAny _ A.in1 (pyNext (.ref I) >>= _) _ _ s
    refine wpAny_bind (wpAny_pyNext_tuple_item hit hl (x := items[i]) (by simp [hlt]) fun h1 hit1 sb1 => ?_)
    have hS1 : SetG w h1 S ks := hS.at fun o e => sb1.extBut _ _ n1 e
    show wpAny _ A.in1 (holding [items[i]] (setAdd S items[i]) >>= _) _ _ _
    rw [hv]
    refine wpAny_bind (wpAny_holding ?_)
    unfold setAdd
    refine wpAny_holding ?_
    refine wpAny_bind ((intKind prog w).pyHash (k := ns.getD i 0) (intKind_is _ _ _ _) ?_)
    refine setAddG (s := { s with heap := h1, toks := s.toks + 1 }) hS1 (by omega) fun h2 ks2 sb2 hS2 p2 => ?_
    have hm2 : ∀ x, x ∈ ks2 ↔ x ∈ ns.take (i + 1) := fun x => by
      rw [p2.mem_iff, List.take_add_one, List.mem_append, ← hm x, show ns[i]? = some (ns.getD i 0) by rw [hgd]; exact List.getElem?_eq_getElem _]
      split
      · rename_i hin
        simp only [Option.toList_some, List.mem_singleton]
        exact ⟨.inl, fun z => z.elim id fun e => e ▸ hin⟩
      · simp only [List.mem_cons, Option.toList_some, List.mem_singleton, List.not_mem_nil, or_false]
        exact Or.comm
    have hl2 : ks2.length ≤ i + 1 := by
      rw [p2.length_eq]
      split
      · omega
      · rw [List.length_cons]; omega
    refine wpAny_pure ⟨plainId_quiet PyProof.Rows.F.plain_set_update_loop _, ih (i + 1) _ ks2 (by omega) hlt ?_ ?_ hS2 hl2 hm2 fun h' tk ks' kp hS' hm' => ?_⟩
    · (obtain ⟨o, ho, r⟩ := hit1; exact ⟨o, sb2.extBut _ _ (Ne.symm n1) ho, r⟩)
    · (obtain ⟨o, ho, r⟩ := hl; exact ⟨o, sb2.extBut _ _ (Ne.symm n2) (sb1.extBut _ _ n3 ho), r⟩)
    · exact hR h' tk ks' (fun b o b1 b2 e => kp b o b1 b2 (sb2.extBut _ _ b1 (sb1.extBut _ _ b2 e))) hS' hm'
set_option maxHeartbeats 8000000 in
theorem set_tupleG {l : Addr} {items : Array Value} {ns : List Int} {Q : Value → Shared → Prop} (hh : A.handled = none) (hl : s.heap.IsTuple l items) (hi : IntsAre items.toList ns) (hb : items.size + 1 < scanBound)
    (h : ∀ (h' : Heap) (tk : Nat) (ks : List Int), SetG w h' s.heap.objs.size ks → (∀ x, x ∈ ks ↔ x ∈ ns) → (∀ b o, b < s.heap.objs.size → s.heap.get? b = some o → h'.get? b = some o) → Q (.ref s.heap.objs.size) { s with heap := h', toks := tk }) :
    wpAny (model prog w) A (call (.type "set") [.ref l]) Q E s := by
  obtain ⟨c, tl, hmro⟩ := PySem.F.called_set.mro
  have hmade := PySem.F.called_set.made
  have hsub := PySem.F.called_set.sub
  refine wpAny_call (codeAny_of_tree ?_)
  show wpAny _ _ (callAny (.type "set") _) _ _ _
  refine wpAny_pure ⟨Code.quiet_builtin _ (by decide +kernel), codeAny_builtin PySem.F.entry_type_call ?_⟩
  rw [Around.under_plain (weight_type_call_type "set" [.ref l] []) rfl]
  have h1 := PySem.F.called_set.notType
  have h2 := PySem.F.called_set.canCreate
  have hct := PySem.F.typeCall_set_1 (.ref l)
  repeat (any_goals (first | assumption | wp_step))
  refine codeAny_mono (set_new_G (w := w) (.ref l) (E := E) (Q₁ := fun obj s₁ => obj = .ref s.heap.objs.size ∧ s₁ = { s with heap := s.heap.push { cls := .type "set", dict := none, data := .set #[] 0 (.fresh 0 0 (!bt w)) } }) ⟨rfl, rfl⟩) fun r s₁ hr => ?_
  cases r with
  | error e => exact hr
  | ok fl =>
    cases fl with
    | ret obj =>
      obtain ⟨rfl, rfl⟩ := hr
      generalize hled : (!bt w) = led
      have hS : (s.heap.push { cls := .type "set", dict := none, data := .set #[] 0 (.fresh 0 0 led) }).get? s.heap.objs.size = some { cls := .type "set", dict := none, data := .set #[] 0 (.fresh 0 0 led) } := Heap.get?_push_size _ rfl
      have hT : Shared.TypeIs { s with heap := s.heap.push { cls := .type "set", dict := none, data := .set #[] 0 (.fresh 0 0 led) } } (.ref s.heap.objs.size) "set" := ⟨_, hS, rfl⟩
      have hli := PySem.F.called_set.init.lookup
      have hbi := PySem.F.called_set.init.bind (.ref s.heap.objs.size)
      repeat (any_goals (first | assumption | wp_step))
      refine codeAny_mono (codeAny_call_builtin (R := wants (fun r s₂ => r = .none ∧ ∃ h' tk ks, s₂ = { s with heap := h', toks := tk } ∧ SetG w h' s.heap.objs.size ks ∧ (∀ x, x ∈ ks ↔ x ∈ ns) ∧
          (∀ b o, b < s.heap.objs.size → s.heap.get? b = some o → h'.get? b = some o)) E) PySem.F.called_set.init.plain PySem.F.entry_set_init (check_set_init_1 hT ?_)) fun r₂ s₂ hr₂ => ?_
      · obtain ⟨ol, hol, hcl, nl, hdl⟩ := hl
        obtain ⟨ocls, odict, odata, oslots⟩ := ol
        simp only at hcl hdl
        subst hcl; subst hdl
        have hol' : (s.heap.push { cls := .type "set", dict := none, data := .set #[] 0 (.fresh 0 0 led) }).get? l = some { cls := .type "tuple", dict := odict, data := .seq items nl, slots := oslots } := Heap.get?_push_of_some _ hol
        have hsls := sub_tuple_set0
        have hslf := sub_tuple_frozenset0
        have hne : (Value.type "tuple" == Value.type "dict") = false := by decide
        have hl1 : (s.heap.push { cls := .type "set", dict := none, data := .set #[] 0 (.fresh 0 0 led) }).IsTuple l items := ⟨_, hol', rfl, nl, rfl⟩
        unfold Builtin.«set.__init__» noKeywords Builtin.Frozenset.updateFrom
        generalize hPI : pyIter = PI
        wp_walk
        subst hPI
        refine wpAny_pyIter_tuple hl1 ?_
        refine wpAny_bind (wpAny_runValue ?_)
        have hlS : l < s.heap.objs.size := Heap.lt_size hol
        have hh3 : A.in1.in1.in1.handled = none := by simp [hh]
        have hSz : (s.heap.push { cls := .type "set", dict := none, data := .set #[] 0 (.fresh 0 0 led) }).objs.size = s.heap.objs.size + 1 := Heap.size_push ..
        have e1 : s.heap.objs.size ≠ (s.heap.push { cls := .type "set", dict := none, data := .set #[] 0 (.fresh 0 0 led) }).objs.size := by rw [hSz]; exact Nat.ne_of_lt (Nat.lt_succ_self _)
        have e2 : l ≠ (s.heap.push { cls := .type "set", dict := none, data := .set #[] 0 (.fresh 0 0 led) }).objs.size := by rw [hSz]; exact Nat.ne_of_lt (Nat.lt_succ_of_lt hlS)
        refine update_loopGT (w := w) hh3 hi hb e1 (Nat.ne_of_gt hlS) e2 (items.size - 0) 0 _ [] (by omega) (Nat.zero_le _)
          ⟨_, Heap.get?_push_size _ rfl, rfl, rfl⟩ (hl1.push _) ⟨_, #[], 0, _, Heap.get?_push_of_some _ hS, ⟨rfl, rfl, rfl⟩, rfl, rfl, fun e he => by simp at he, List.nodup_nil, by decide, by rfl, List.Pairwise.nil, ?_⟩ (Nat.le_refl _) (fun x => by simp) ?_
        · show led = true ∨ bt w = true
          rw [← hled]
          cases bt w <;> simp
        · intro h' tk ks' kp hS' hm'
          show wpAny _ _ _ _ _ _
          refine wpAny_pure ?_
          show wpAny _ _ (ret Value.none) _ _ _
          refine wpAny_pure ⟨rfl, h', tk, ks', rfl, hS', hm', fun b o hb e => ?_⟩
          exact kp b o (Nat.ne_of_lt hb) (by rw [hSz]; exact Nat.ne_of_lt (Nat.lt_succ_of_lt hb)) (Heap.get?_push_of_some _ (Heap.get?_push_of_some _ e))
      · cases r₂ with
        | error e => exact hr₂
        | ok fl₂ =>
          cases fl₂ with
          | ret r =>
            obtain ⟨rfl, h', tk, ks, rfl, hS', hm', hk'⟩ := hr₂
            repeat (any_goals (first | assumption | wp_step))
            exact h _ _ _ hS' hm' hk'
          | _ => exact hr₂.elim
    | _ => exact hr.elim
end

end L2

namespace L2
open PySem PySem.Spec PyProof.Rows
section
variable {X : Cx} {K : PySem.W.Frag}
/-- a list or a tuple -/
def SqX (K : PySem.W.Frag) (H : Hp) (p : Addr) (xs : List V) : Prop := SqL K H p xs ∨ SqT K H p xs
theorem seqT_same {H H' : Hp} {a : Addr} {xs : List V} (e : Same H H') (h : SqT K H a xs) : SqT K H' a xs := by
  rcases h with (h | ⟨o, h⟩) | h
  · exact .inl (.inl (e _ _ h))
  · exact .inl (.inr ⟨o, e _ _ h⟩)
  · exact .inr h
theorem SqX.same {H H' : Hp} {p : Addr} {xs : List V} (s : Same H H') (h : SqX K H p xs) : SqX K H' p xs := h.elim (fun h => .inl (s.seq h)) fun h => .inr (seqT_same s h)
def rSetX (K : PySem.W.Frag) (w : World) : List V → Hp → VK → Prop := fun xs H Q => ∃ (p : Addr) (ns : List Int), xs = [.ref p] ∧ SqX K H p (ns.map V.int) ∧ ns.length + 1 < 4096 ∧ ∀ (l : Addr) (ks : List Int), H l = none → ks.Nodup → (∀ x, x ∈ ks ↔ x ∈ ns) → Q (.ref l) (upd H l (setO w l ks))
theorem call_setX (hc : X.calm = true) : CallR X (.type "set") (rSetX X.K X.w) := by
  intro pins s σ H xs us Q I r h
  obtain ⟨p, ns, rfl, hq, hl, q⟩ := h
  obtain ⟨u, rfl, rx⟩ := vals1 r
  cases rx
  rcases hq with hq | hq
  · obtain ⟨its, r', pl, hz⟩ := I.list hq
    have hi := ints_of_vals r'
    have hlen := IntsAre.length hi
    refine set_listG (I.ok.hd hc) pl.isList (by simpa using hi) (by simp only [List.size_toArray]; show _ < 4096; omega) fun h' tk ks g m old => ?_
    exact ⟨.ref s.heap.objs.size, _, I.laidD (d' := s.drawn) (fun b o e => old b o (Heap.lt_size e) e) (Nat.le_refl _) (setO_new g), rfl, q _ ks (I.hok.fresh (Nat.le_refl _)) g.nodup m⟩
  · obtain ⟨its, r', pl, hz⟩ := I.tuple hq
    have hi := ints_of_vals r'
    have hlen := IntsAre.length hi
    refine set_tupleG (I.ok.hd hc) (show s.heap.IsTuple p its.toArray from pl) (by simpa using hi) (by simp only [List.size_toArray]; show _ < 4096; omega) fun h' tk ks g m old => ?_
    exact ⟨.ref s.heap.objs.size, _, I.laidD (d' := s.drawn) (fun b o e => old b o (Heap.lt_size e) e) (Nat.le_refl _) (setO_new g), rfl, q _ ks (I.hok.fresh (Nat.le_refl _)) g.nodup m⟩
theorem cSetX {w : World} (h : X.K = K) (hw : X.w = w) (hc : X.calm = true) : CallR X (.type "set") (rSetX K w) := by subst h; subst hw; exact call_setX hc
end
section
variable {σ : St} {H : Hp} {Q : VK} {K : PySem.W.Frag} {w : World}
theorem i_setX {p : Addr} {ns : List Int} (h : SqX K H p (ns.map V.int)) (l : ns.length + 1 < 4096) (q : ∀ (l : Addr) (ks : List Int), H l = none → ks.Nodup → (∀ x, x ∈ ks ↔ x ∈ ns) → Q (.ref l) (upd H l (setO w l ks))) : rSetX K w [.ref p] H Q := ⟨p, ns, rfl, h, l, q⟩
end
/-! enumerate of a list -/
def Ite (K : PySem.W.Frag) (l : Addr) : It :=
  ⟨fun i H => ∃ xs u, SqL K H l xs ∧ xs[i]? = some u,
   fun i H x H' => ∃ T u, x = .ref T ∧ H T = none ∧ H' = upd H T (.tup [.int i, u]) ∧ ∀ xs, SqL K H l xs → xs[i]? = some u,
   fun i H => ∃ xs, SqL K H l xs ∧ xs.length ≤ i⟩
section
variable {X : Cx} {K : PySem.W.Frag} {es : List Expr} {kk : Nat} {tpos : Pos}
def iEnum (K : PySem.W.Frag) (ta : TA) : TI := fun σ H R => ta σ H fun vs H1 => ∃ a, vs = [.ref a] ∧ (∃ xs, SqL K H1 a xs) ∧ R (Ite K a) H1
theorem i_itE {σ : St} {H : Hp} {ta : TA} {N : It → Hp → Prop} (q : ta σ H fun vs H1 => ∃ a, vs = [.ref a] ∧ (∃ xs, SqL K H1 a xs) ∧ N (Ite K a) H1) : iEnum K ta σ H N := q
end
end L2

namespace L2
open PySem PySem.Spec PyProof.Rows
/-! ### sorted(list), slices of tuples, chains of comparisons -/
section
variable {X : Cx} {K : PySem.W.Frag}
theorem slT (h : X.K = K) : SlR X (rSlT K) := by subst h; exact sl_tup
end
section
variable {σ : St} {H : Hp} {Q : VK} {K : PySem.W.Frag}
theorem i_chain {r r' : R2} {ta tb tc : TE} (q : ta σ H fun x H1 => tb σ H1 fun y H2 => r x y H2 fun z H3 => ∃ k, z = .bl k ∧ (if k = true then tc σ H3 fun w' H4 => r' y w' H4 Q else Q (.bl false) H3)) : tChain r r' ta tb tc σ H Q := q
end
/-! rising numbers -/
end L2

namespace L2
open PySem PySem.Spec PyProof.Rows
/-! ### Z. list comprehensions with two clauses: the loops -/
section
variable {elt t0 i0 t1 i1 : Expr} {f0 f1 : List Expr} {scope : Scope} {pos : Pos}
/-- [elt for t0 in i0 if f0 for t1 in i1 if f1] -/
abbrev two (elt t0 i0 : Expr) (f0 : List Expr) (t1 i1 : Expr) (f1 : List Expr) (scope : Scope) (pos : Pos) : Expr := .ListComp elt [⟨t0, i0, f0, 0⟩, ⟨t1, i1, f1, 0⟩] scope pos
end
end L2

namespace L2
open PySem PySem.Spec PyProof.Rows
section
variable {prog : Program} {w : World} {A : Around} {R : Result → Shared → Prop} {s : Shared} {elt t0 i0 t1 i1 : Expr} {f0 f1 : List Expr} {scope : Scope} {pos : Pos} {it acc : Value} {env : Env}
end
end L2

namespace L2
open PySem PySem.Spec PyProof.Rows
/-- what is wanted of the second clause's turns -/
def InT (J1 : It) (g1 : TG) (tt1 : TT) (te : TE) (Fin : List V → St → Hp → Prop) (ys0 : List V) (σ0 : St) (H0 : Hp) : Prop :=
  ∃ W : Nat → Nat → List V → St → Hp → Prop, (∃ m, W 0 m ys0 σ0 H0) ∧ ∀ i m ys σ' H', W i m ys σ' H' → (J1.stop i H' ∧ Fin ys σ' H') ∨
    (J1.go i H' ∧ ys.length < sizeLine ∧ ∀ x H2, J1.yld i H' x H2 → g1 x σ' H2 fun σ3 H3 => tt1 σ3 H3 fun b H4 => if b = true then te σ3 H4 fun y H5 => ∃ m', m' < m ∧ W (i + 1) m' (ys ++ [y]) σ3 H5 else ∃ m', m' < m ∧ W (i + 1) m' ys σ3 H4)
/-- .. of both -/
def CompT2 (J : It) (g : TG) (tt : TT) (wi1 : TI) (g1 : TG) (tt1 : TT) (te : TE) (Fin : List V → Hp → Prop) (σ₀ : St) (H1 : Hp) : Prop :=
  ∃ W : Nat → Nat → List V → St → Hp → Prop, (∃ m, W 0 m [] σ₀ H1) ∧ ∀ i m ys σ' H', W i m ys σ' H' → (J.stop i H' ∧ Fin ys H') ∨
    (J.go i H' ∧ ∀ x H2, J.yld i H' x H2 → g x σ' H2 fun σ3 H3 => tt σ3 H3 fun b H4 => if b = true then wi1 σ3 H4 fun J1 H5 => InT J1 g1 tt1 te (fun ys' σ5 H6 => ∃ m', m' < m ∧ W (i + 1) m' ys' σ5 H6) ys σ3 H5 else ∃ m', m' < m ∧ W (i + 1) m' ys σ3 H4)
section
variable {prog : Program} {w : World} {A : Around} {R : Result → Shared → Prop} {s : Shared} {elt t0 i0 t1 i1 : Expr} {f0 f1 : List Expr} {scope : Scope} {pos : Pos} {it acc : Value} {env : Env}
end
section
variable {X : Cx} {pins : List (Addr × Obj)} {σ : St} {scope : Scope} {own : List Str} {fre : List (Nat × Str)} {elt tg iter t1 i1 : Expr} {ifs f1 : List Expr} {pos : Pos} {wi wi1 : TI} {g g1 : TG} {tt tt1 : TT} {te : TE}
end
end L2

namespace L2
open PySem PySem.Spec PyProof.Rows
def tComp2 (n : Nat) (fre : List (Nat × Str)) (wi : TI) (g : TG) (tt : TT) (wi1 : TI) (g1 : TG) (tt1 : TT) (te : TE) : TE := fun σ H Q => wi σ H fun J H1 => CompT2 J g tt wi1 g1 tt1 te (fun ys H' => ∀ D, H' D = none → Q (.ref D) (upd H' D (.lst ys))) (startC n fre σ) H1
section
variable {X : Cx} {pins : List (Addr × Obj)} {σ : St} {scope : Scope} {own : List Str} {fre : List (Nat × Str)} {elt tg iter t1 i1 : Expr} {ifs f1 : List Expr} {pos : Pos} {wi wi1 : TI} {g g1 : TG} {tt tt1 : TT} {te : TE}
end
theorem i_comp2 {σ : St} {H : Hp} {Q : VK} {n : Nat} {fre : List (Nat × Str)} {wi : TI} {g : TG} {tt : TT} {wi1 : TI} {g1 : TG} {tt1 : TT} {te : TE} (q : wi σ H fun J H1 => CompT2 J g tt wi1 g1 tt1 te (fun ys H' => ∀ D, H' D = none → Q (.ref D) (upd H' D (.lst ys))) (startC n fre σ) H1) : tComp2 n fre wi g tt wi1 g1 tt1 te σ H Q := q
end L2

namespace L2
open PySem PySem.Spec PyProof.Rows
/-! ### two clauses by counts; statements that are never reached -/
section
variable {σ : St} {H : Hp}
end
end L2

namespace L2
open PySem PySem.Spec PyProof.Rows
/-! ### M. list comprehensions with any number of clauses -/
/-- the last clause's turns -/
def LastT (g : TG) (tt : TT) (te : TE) (J : It) (Fin : List V → St → Hp → Prop) (ys0 : List V) (σ0 : St) (H0 : Hp) : Prop :=
  ∃ W : Nat → Nat → List V → St → Hp → Prop, (∃ m, W 0 m ys0 σ0 H0) ∧ ∀ i m ys σ' H', W i m ys σ' H' → (J.stop i H' ∧ Fin ys σ' H') ∨
    (J.go i H' ∧ ys.length < sizeLine ∧ ∀ x H2, J.yld i H' x H2 → g x σ' H2 fun σ3 H3 => tt σ3 H3 fun b H4 => if b = true then te σ3 H4 fun y H5 => ∃ m', m' < m ∧ W (i + 1) m' (ys ++ [y]) σ3 H5 else ∃ m', m' < m ∧ W (i + 1) m' ys σ3 H4)
/-- another clause's turns: inner is what the next clause wants -/
def MidT (g : TG) (tt : TT) (wi : TI) (inner : It → (List V → St → Hp → Prop) → List V → St → Hp → Prop) (J : It) (Fin : List V → St → Hp → Prop) (ys0 : List V) (σ0 : St) (H0 : Hp) : Prop :=
  ∃ W : Nat → Nat → List V → St → Hp → Prop, (∃ m, W 0 m ys0 σ0 H0) ∧ ∀ i m ys σ' H', W i m ys σ' H' → (J.stop i H' ∧ Fin ys σ' H') ∨
    (J.go i H' ∧ ∀ x H2, J.yld i H' x H2 → g x σ' H2 fun σ3 H3 => tt σ3 H3 fun b H4 => if b = true then wi σ3 H4 fun J1 H5 => inner J1 (fun ys' σ5 H6 => ∃ m', m' < m ∧ W (i + 1) m' ys' σ5 H6) ys σ3 H5 else ∃ m', m' < m ∧ W (i + 1) m' ys σ3 H4)
structure CalmX (X : Cx) : Prop where
  xe : X.xe = fun _ _ => False
  pn : X.pn = []
  calm : X.calm = true
section
variable {X : Cx} {D : Addr} {elt tg i0 t1 i1 : Expr} {gens : List Comprehension} {scope : Scope} {pos : Pos} {fs : List Expr} {k : Nat} {g : TG} {tt : TT} {te : TE} {wi : TI} {inner : It → (List V → St → Hp → Prop) → List V → St → Hp → Prop}
end
end L2

namespace L2
open PySem PySem.Spec PyProof.Rows
section
variable {X : Cx} {pins : List (Addr × Obj)} {σ : St} {scope : Scope} {own : List Str} {fre : List (Nat × Str)} {elt tg : Expr} {gens : List Comprehension} {pos : Pos} {body : It → (List V → St → Hp → Prop) → List V → St → Hp → Prop}
end
abbrev three (elt t0 i0 : Expr) (f0 : List Expr) (t1 i1 : Expr) (f1 : List Expr) (t2 i2 : Expr) (f2 : List Expr) (scope : Scope) (pos : Pos) : Expr := .ListComp elt [⟨t0, i0, f0, 0⟩, ⟨t1, i1, f1, 0⟩, ⟨t2, i2, f2, 0⟩] scope pos
section
variable {prog : Program} {w : World} {A : Around} {R : Result → Shared → Prop} {s : Shared} {elt t0 i0 t1 i1 t2 i2 : Expr} {f0 f1 f2 : List Expr} {scope : Scope} {pos : Pos} {it acc : Value} {env : Env}
end
def tComp3 (n : Nat) (fre : List (Nat × Str)) (wi : TI) (g : TG) (tt : TT) (wi1 : TI) (g1 : TG) (tt1 : TT) (wi2 : TI) (g2 : TG) (tt2 : TT) (te : TE) : TE := fun σ H Q => wi σ H fun J H1 => MidT g tt wi1 (MidT g1 tt1 wi2 (LastT g2 tt2 te)) J (fun ys _ H' => ∀ D, H' D = none → Q (.ref D) (upd H' D (.lst ys))) [] (startC n fre σ) H1
section
variable {X : Cx} {pins : List (Addr × Obj)} {σ : St} {scope : Scope} {own : List Str} {fre : List (Nat × Str)} {elt tg iter t1 i1 t2 i2 : Expr} {ifs f1 f2 : List Expr} {pos : Pos} {wi wi1 wi2 : TI} {g g1 g2 : TG} {tt tt1 tt2 : TT} {te : TE}
end
theorem i_comp3 {σ : St} {H : Hp} {Q : VK} {n : Nat} {fre : List (Nat × Str)} {wi : TI} {g : TG} {tt : TT} {wi1 : TI} {g1 : TG} {tt1 : TT} {wi2 : TI} {g2 : TG} {tt2 : TT} {te : TE} (q : wi σ H fun J H1 => MidT g tt wi1 (MidT g1 tt1 wi2 (LastT g2 tt2 te)) J (fun ys _ H' => ∀ D, H' D = none → Q (.ref D) (upd H' D (.lst ys))) [] (startC n fre σ) H1) : tComp3 n fre wi g tt wi1 g1 tt1 wi2 g2 tt2 te σ H Q := q
/-! by counts -/
section
variable {σ : St} {H : Hp} {J : It} {g : TG} {tt : TT} {te : TE} {wi : TI} {inner : It → (List V → St → Hp → Prop) → List V → St → Hp → Prop} {Fin : List V → St → Hp → Prop} {ys0 : List V}
end
end L2

namespace L2
open PySem PySem.Spec PyProof.Rows
/-! ### N. sum; a list taken apart; clear -/
section
variable {X : Cx} {K : PySem.W.Frag}
end
section
variable {prog : Program} {w : World} {A : Around} {E : Value → Shared → Prop} {s : Shared}
theorem draw_list {it t : Addr} {items : Array Value} (hne : t ≠ it) : ∀ (n i : Nat) (s : Shared) (Q : List Value → Shared → Prop), s.heap.IsListIter it t i → s.heap.IsList t items → i + n ≤ items.size →
    (∀ h', h'.IsListIter it t (i + n) → Heap.SameBut it s.heap h' → Q ((items.toList.drop i).take n) { s with heap := h' }) → wpAny (model prog w) A (draw (.ref it) n) Q E s
  | 0, i, s, Q, hit, _, _, hQ => by
    show wpAny _ _ (pure []) Q E s
    exact wpAny_pure (by simpa using hQ s.heap hit (Heap.SameBut.refl ..))
  | n + 1, i, s, Q, hit, ht, hle, hQ => by
    have hlt : i < items.size := by omega
    show wpAny _ _ (pyNext (.ref it) >>= _) Q E s
    refine wpAny_bind (wpAny_pyNext_list_item hit ht (x := items[i]) (by simp [hlt]) fun h₁ hit₁ hs₁ => ?_)
    refine wpAny_bind (wpAny_holding (draw_list hne n (i + 1) _ _ hit₁ (ht.extBut hs₁.extBut hne) (by omega) fun h₂ hit₂ hs₂ => wpAny_pure ?_))
    have hd : items.toList.drop i = items[i] :: items.toList.drop (i + 1) := by simp [List.drop_eq_getElem_cons, hlt]
    have := hQ h₂ (by rw [show i + (n + 1) = i + 1 + n by omega]; exact hit₂) (hs₁.trans hs₂)
    rw [hd, List.take_succ_cons] at this
    exact this
end
section
variable {X : Cx} {K : PySem.W.Frag} {pos : Pos}
end
section
variable {σ : St} {H : Hp} {Q : VK} {K : PySem.W.Frag}
theorem i_bm0 {T : String} {r : V → List V → Hp → VK → Prop} {to : TE} (q : to σ H fun x H1 => tyV K T x H1 ∧ r x [] H1 Q) : tBM0 K T r to σ H Q := q
end
end L2

namespace L2
open PySem PySem.Spec PyProof.Rows
/-! ### exceptions of the text's own classes: raised, leaving a def, passing through -/
/-- an exception at a, of the class C, has left all frames but these -/
structure Fly (P : Program) (w : World) (outer : List Env) (H : Hp) (s : Shared) (C : Value) (H' : Hp) (a : Addr) (s' : Shared) : Prop where
  os : s'.os = s.os
  bare : AllBare s'.gens
  un : Un (frs outer) [] H H' s.heap s'.heap
  hok : HOk P w H' s'.heap
  fly : ∃ (B : Heap) (a0 : Value), Heap.FlyingW B outer a C a0 s'.heap ∧ ∀ b, ((∃ o, H' b = some o) ∨ ∃ o, s.heap.get? b = some o) → b ∉ frs outer → ∃ o, B.get? b = some o
def CX1 (P : Program) (w : World) : CXT := fun outer H s E e s' => ∃ (a : Addr) (C : Value) (H' : Hp), e = .ref a ∧ Fly P w outer H s C H' a s' ∧ E C none H'
theorem ObjOk.has {P : Program} {w : World} {H : Hp} {h : Heap} {a : Addr} {o : HO} (x : ObjOk P w H h a o) : ∃ u, h.get? a = some u := by
  cases o with
  | lst xs => obtain ⟨_, _, _, _, e⟩ := x; exact ⟨_, e⟩
  | tup xs => obtain ⟨_, _, _, p⟩ := x; obtain ⟨o, e, _⟩ := p; exact ⟨o, e⟩
  | dK kvs => obtain ⟨_, _, _, _, o, _, _, e, _⟩ := x; exact ⟨o, e⟩
  | dT kvs => obtain ⟨_, _, _, _, o, _, _, e, _⟩ := x; exact ⟨o, e⟩
  | set S n => obtain ⟨o, _, _, _, e, _⟩ := x; exact ⟨o, e⟩
  | ins C dx fs => obtain ⟨_, _, _, e, _⟩ := x; exact ⟨_, e⟩
  | own y => obtain ⟨_, e⟩ := x; exact ⟨_, e⟩
  | xd fs => obtain ⟨_, ⟨_, _, _, e, _⟩, _⟩ := x; exact ⟨_, e⟩
  | rng lo hi => obtain ⟨_, _, _, e⟩ := x; exact ⟨_, e⟩
  | frz ob u => obtain ⟨e, _⟩ := x; exact ⟨_, e⟩
  | tbl ps => exact ⟨_, x⟩
  | met f y => exact ⟨_, x⟩
  | ext φ => obtain ⟨_, ⟨_, e⟩, _⟩ := x; exact ⟨_, e⟩
theorem HOk.keptB {P : Program} {w : World} {H : Hp} {h h' : Heap} (x : HOk P w H h) (k : ∀ b o u, H b = some o → h.get? b = some u → h'.get? b = some u) : HOk P w H h' := fun a o e =>
  (x a o e).stay (fun b u hb q => by
    rcases hb with rfl | hb
    · exact k _ _ u e q
    · exact k _ _ u hb q) (fun _ q => q) fun _ _ q => q
section
variable {X : Cx} {pins : List (Addr × Obj)} {σ : St} {H H' : Hp} {s s' : Shared} {C : Value} {a : Addr} {L : Addr}
/-- what the frames of X's stack are -/
theorem Inv.frameIn (I : Inv X pins σ H s) {b : Addr} (hb : b ∈ frs X.stack) : ∃ o, s.heap.get? b = some o ∧ ∀ vs, o.data ≠ .fields vs := (I.stack.mem hb).2
/-- behind a change that keeps what B has: the caller goes on -/
theorem Fly.inv (I : Inv X pins σ H s) (F : Fly X.prog X.w X.stack H s C H' a s') {B h' : Heap} (st : B.StaysIn s'.heap) (cov : ∀ b, ((∃ o, H' b = some o) ∨ ∃ o, s.heap.get? b = some o) → b ∉ frs X.stack → ∃ o, B.get? b = some o)
    (st' : B.StaysIn h') (up : s'.heap.UpToSlots h') : Inv X pins σ H' { s' with heap := h' } := by
  have same : ∀ b u, ((∃ o, H' b = some o) ∨ ∃ o, s.heap.get? b = some o) → b ∉ frs X.stack → s'.heap.get? b = some u → h'.get? b = some u := fun b u hc hb e => by
    obtain ⟨o, eo⟩ := cov b hc hb
    have z := st b o eo
    rw [e] at z
    cases z
    exact st' b u eo
  have nfr : ∀ b o, H' b = some o → b ∉ frs X.stack := fun b o e hb => by
    obtain ⟨ob, eb, _⟩ := I.frameIn hb
    rw [F.un.free b ob eb (I.stkFree b hb) (by simp)] at e
    cases e
  refine I.call' (s' := { s' with heap := h' }) (ch := []) F.os ⟨?_, ?_, F.un.free, ?_, F.un.tups, F.un.frzs, F.un.tbls⟩ (F.hok.keptB fun b o u e q => same b u (.inl ⟨o, e⟩) (nfr b o e) q) F.bare (fun b hb => absurd hb (by simp))
  · intro b o e n hb hx
    exact same b o (.inr ⟨o, e⟩) hb (F.un.keep b o e n hb hx)
  · intro b o e n hb hx
    obtain ⟨sl, e1⟩ := F.un.slot b o e n hb hx
    obtain ⟨ob, eb, nd⟩ := I.frameIn hb
    rw [eb] at e
    cases e
    obtain ⟨sl', e2⟩ := up b _ e1 nd
    exact ⟨sl', e2⟩
  · intro b o e hx
    by_cases hb : b ∈ frs X.stack
    · obtain ⟨sl, e1⟩ := F.un.slot b o e (I.stkFree b hb) hb hx
      obtain ⟨ob, eb, nd⟩ := I.frameIn hb
      rw [eb] at e
      cases e
      obtain ⟨sl', e2⟩ := up b _ e1 nd
      exact ⟨_, e2⟩
    · obtain ⟨o', e1⟩ := F.un.there b o e hx
      exact ⟨o', same b o' (.inr ⟨o, e⟩) hb e1⟩
/-- what a frame's end says -/
structure InDef (X : Cx) : Prop where
  stk : X.stack = X.env :: X.outer
  fr : X.env.frame = some X.env.locals
  ex : X.ex = []
theorem Fly.out (I : Inv X pins σ H s) (D : InDef X) (F : Fly X.prog X.w X.stack H s C H' a s') {Q : Unit → Shared → Prop} {E : Value → Shared → Prop}
    (k : ∀ s'', Fly X.prog X.w X.outer X.H₀ X.s₀ C H' a s'' → Q () s'') : wpAny (model X.prog X.w) X.A (leaving X.env (.ref a)) Q E s' := by
  obtain ⟨B, a0, fl, cov⟩ := F.fly
  have fl' := fl
  rw [D.stk] at fl'
  refine wpAny_leaves_onW (by rw [I.ok.frames, D.stk]) D.fr fl' fun h' x1 x2 => k _ ?_
  have J := F.inv I fl.1 cov x1.1 x2
  refine ⟨J.os, J.bare, by have z := J.base; rw [D.ex] at z; exact z, J.hok, B, a0, x1, fun b hb hn => ?_⟩
  have hne : b ≠ X.env.locals := by
    rintro rfl
    rcases hb with ⟨o, e⟩ | ⟨o, e⟩
    · rw [J.free] at e; cases e
    · exact absurd (Heap.lt_size e) (Nat.not_lt.mpr I.ok.above)
  have hns : b ∉ frs X.stack := fun z => by
    rcases List.mem_cons.mp (I.stkSub b z) with y | y
    · exact hne y
    · exact hn y
  refine cov b ?_ hns
  rcases hb with hb | ⟨o, e⟩
  · exact .inl hb
  · exact .inr (I.base.there b o e (by rw [D.ex]; simp))
/-- raised here -/
theorem Inv.raised (I : Inv X pins σ H s) (D : InDef X) {h' : Heap} {e C : Addr} {vs : List Value} (mk : Heap.MadeExcOf s.heap h' e (.ref C) vs) {Q : Unit → Shared → Prop} {E : Value → Shared → Prop}
    (k : ∀ s'', Fly X.prog X.w X.outer X.H₀ X.s₀ (.ref C) H e s'' → Q () s'') : wpAny (model X.prog X.w) X.A (leaving X.env (.ref e)) Q E { s with heap := h' } := by
  have hin : ∀ env ∈ X.stack, ∀ b, env.frame = some b → b ∈ frs X.stack := fun env he b hb => List.mem_filterMap.mpr ⟨env, he, hb⟩
  have hfr : s.heap.FunFrames (PySem.W.hideAll s.heap (frs X.stack)) X.stack := PySem.W.funFrames_hide I.stack hin
  rw [D.stk] at hfr
  refine wpAny_leaves_madeW (s := { s with heap := h' }) (base := PySem.W.hideAll s.heap (frs X.stack)) (h := s.heap) (by rw [I.ok.frames, D.stk]) D.fr (fun b o q => PySem.W.of_hideAll _ q) (by rw [← D.stk] at hfr ⊢; exact hfr) mk fun h'' t x1 x2 x3 x4 => k _ ?_
  have keep : ∀ b o, s.heap.get? b = some o → b ∉ frs X.stack → h''.get? b = some o := fun b o e hb => x1.1 b o (PySem.W.hideAll_get _ e hb)
  have J : Inv X pins σ H { s with heap := h'' } := by
    refine I.call' (s' := { s with heap := h'' }) (H' := H) (ch := []) rfl ⟨fun b o e n hb _ => keep b o e hb, ?_, fun b o e n _ => n, ?_, fun _ _ e => e, fun _ _ _ e => e, fun b ps e => ⟨#[], by rw [e]; simp⟩⟩ ?_ I.bare (fun b hb => absurd hb (by simp))
    · intro b o e n hb _
      obtain ⟨ob, eb, nd⟩ := I.frameIn hb
      rw [eb] at e
      cases e
      exact x4 b _ (mk.keeps b _ eb) nd
    · intro b o e _
      by_cases hb : b ∈ frs X.stack
      · obtain ⟨ob, eb, nd⟩ := I.frameIn hb
        rw [eb] at e
        cases e
        obtain ⟨sl, e2⟩ := x4 b _ (mk.keeps b _ eb) nd
        exact ⟨_, e2⟩
      · exact ⟨o, keep b o e hb⟩
    · exact I.hok.keptB fun b o u e q => keep b u q fun hb => by rw [I.stkFree b hb] at e; cases e
  refine ⟨J.os, J.bare, by have z := J.base; rw [D.ex] at z; exact z, J.hok, _, _, x1, fun b hb hn => ?_⟩
  have hne : b ≠ X.env.locals := by
    rintro rfl
    rcases hb with ⟨o, e⟩ | ⟨o, e⟩
    · rw [I.free] at e; cases e
    · exact absurd (Heap.lt_size e) (Nat.not_lt.mpr I.ok.above)
  have hns : b ∉ frs X.stack := fun z => by
    rcases List.mem_cons.mp (I.stkSub b z) with y | y
    · exact hne y
    · exact hn y
  rcases hb with ⟨o, e⟩ | ⟨o, e⟩
  · have hlt := I.hok.lt e
    obtain ⟨u, eu⟩ : ∃ u, s.heap.get? b = some u := (I.hok b o e).has
    exact ⟨u, PySem.W.hideAll_get _ eu hns⟩
  · obtain ⟨u, eu⟩ := I.base.there b o e (by rw [D.ex]; simp)
    exact ⟨u, PySem.W.hideAll_get _ eu hns⟩
end
end L2

namespace L2
open PySem PySem.Spec PyProof.Rows
/-! ### defs that may raise -/
section
variable {P : Program} {w : World} {K : PySem.W.Frag} {mg : Str → Option Value} {base : Heap}
theorem Fun.okX {x qual : Str} {st : Stmt} {f : Addr} {fd : FuncData} {N ps : List Str} {k : Nat} {sp : Sp} (F : Fun K x qual st f fd) (S : FnScope N ps (defScope st)) (len : ∀ vs H Q E, sp vs H Q E → vs.length = ps.length)
    (hbody : ∀ (cdv : Value) (A : Around) (outer : List Env) (s : Shared) (H : Hp) (vs : List V) (Q : VK) (E : XK), Room k (A.deeper (envOfC qual (defScope st) s.heap.objs.size f cdv)) → sp vs H Q E →
      ∃ t, PSs (cxOf (CX1 P w) P w K mg base N qual (defScope st) f cdv A outer s H E) (defBody st) t ∧ t { nx := fun _ H' => Q .non H', rt := Q } (start N vs) H) : FnOk P w K mg base (CX1 P w) (k + 1) f fd ps sp := by
  obtain ⟨oc, od, kV, doc, pm, an, cdv, ct, osl, rfl, lk, hcd⟩ := F.ex
  exact fn_of lk hcd S len fun A outer s H vs Q E hr hsp => hbody cdv A outer s H vs Q E hr hsp
theorem inDef {CX : CXT} {N : List Str} {qual : Str} {scope : Scope} {f : Addr} {cd : Value} {A : Around} {outer : List Env} {s : Shared} {H : Hp} {E : XK} : InDef (cxOf CX P w K mg base N qual scope f cd A outer s H E) := ⟨rfl, rfl, rfl⟩
theorem pass1 {N : List Str} {qual : Str} {scope : Scope} {f : Addr} {cd : Value} {A : Around} {outer : List Env} {s : Shared} {H : Hp} {E : XK} : Passes (CX1 P w) (cxOf (CX1 P w) P w K mg base N qual scope f cd A outer s H E) E := by
  intro pins σ H1 s1 e s' I h
  obtain ⟨a, C, H', rfl, F, q⟩ := h
  exact F.out I inDef fun s'' F' => ⟨a, C, H', rfl, F', q⟩
end
/-- the def called x, with its promise; it may raise -/
def CalX (P : Program) (w : World) (K : PySem.W.Frag) (mg : Str → Option Value) (base : Heap) (x : Str) (k : Nat) (ps : List Str) (sp : Sp) : Prop :=
  ∃ (f : Addr) (fd : FuncData), FnOk P w K mg base (CX1 P w) k f fd ps sp ∧ mg x = some (.ref f) ∧ PySem.W.keepIn K (.ref f) = true ∧ Binds K fd ps []
section
variable {X : Cx} {k : Nat} {ps : List Str} {sp : Sp} {x : Str} {p pos : Pos} {e : Expr} {es : List Expr} {t : TA} {E : XK}
theorem pe_callX (c : CalX X.prog X.w X.K X.mg X.base x k ps sp) (hr : Room k X.A) (hg : Gl X x) (hx : Passes (CX1 X.prog X.w) X E) (ha : PA X (e :: es) t) (hdb : (x == ("__debug__" : Str)) = false := by decide) (he : starEach (e :: es) X.env = (false, eval e X.env) :: starEach es X.env := by rfl) (hpl : (backTo pos (starEach es X.env)).any (·.1) = false := by rfl) :
    PE X (.Call (.Name x p) (e :: es) [] pos) (tCall sp [] E t) := by
  obtain ⟨f, fd, F, hm, hk, hb⟩ := c
  exact pe_call F hr hg hm hk hb .nil hx ha hdb he hpl
end
/-! ### raise C(..) -/
abbrev bmV : List Value := [.type "ValueError", .type "Exception", .type "BaseException", .type "object"]
/-- an exception class of the text under ValueError -/
structure ExcC (K : PySem.W.Frag) (mg : Str → Option Value) (x : Str) (C : Addr) : Prop where
  bound : mg x = some (.ref C)
  ok : PySem.W.excIn K C bmV "ValueError.__new__" = true
theorem ExcC.obj {K : PySem.W.Frag} {mg : Str → Option Value} {x : Str} {C : Addr} {h : Heap} (e : ExcC K mg x C) (X : K.In h) : OwnCls x C bmV "ValueError.__new__" mg h := by
  refine ⟨e.bound, ?_⟩
  have q := e.ok
  unfold PySem.W.excIn at q
  split at q
  · rename_i dd cd sl ho
    split at q
    · rename_i C' bm k0 k1 k2 k3 n k5 hm hs
      simp only [Bool.and_eq_true, beq_iff_eq, Bool.not_eq_true'] at q
      obtain ⟨⟨⟨⟨⟨rfl, rfl⟩, hdel⟩, ht⟩, hok⟩, hni⟩ := q
      obtain ⟨nm, bs, mro, ns, qn, hd, sn, sub, ab, col, del⟩ := cd
      dsimp only at hm hdel hok hni
      subst hm hdel
      have hsl : sl = #[k0, k1, k2, k3, some (.builtin "ValueError.__new__"), k5] := by
        obtain ⟨l⟩ := sl
        simp only at hs
        rw [hs]
      subst hsl
      exact ⟨bm, ns, nm, qn, bs, hd, sn, sub, ab, col, dd, k0, k1, k2, k3, k5, _, X _ _ ho, .of_isNs (PySem.W.isNs_of_in X hok), PySem.W.nsMap_none_of_in X hok hni, PySem.W.tail_of_in X ht⟩
    · cases q
  · cases q
section
variable {X : Cx} {x : Str} {np cpos pos : Pos} {e₀ : Expr} {es : List Expr} {t : TA} {E : XK} {C : Addr}
def tRaise (C : Addr) (E : XK) (t : TA) : TS := fun _ σ H => t σ H fun vs H1 => vs.length ≤ sizeLine ∧ E (.ref C) none H1
/-- raise C(..), of a def's body whose exceptions leave it -/
def Raises (X : Cx) (E : XK) : Prop := ∀ pins σ H s h' e C vs, Inv X pins σ H s → Heap.MadeExcOf s.heap h' e (.ref C) vs → E (.ref C) none H → X.xe (.ref e) { s with heap := h' }
theorem ps_raise (hc : X.calm = true) (hg : Gl X x) (O : ExcC X.K X.mg x C) (hE : Raises X E) (ha : PA X (e₀ :: es) t)
    (he : starEach (e₀ :: es) X.env = (false, eval e₀ X.env) :: starEach es X.env := by rfl) (hplain : (backTo cpos (starEach es X.env)).any (·.1) = false := by rfl) (hd : (x == ("__debug__" : Str)) = false := by decide) :
    PS X (.Raise (some (.Call (.Name x np) (e₀ :: es) [] cpos)) none pos) (tRaise C E t) := by
  intro pins s σ H D I h
  obtain ⟨tl, N, nm, q, bs, hdct, sn, sub, ab, col, dd, k0, k1, k2, k3, k5, mN, hC, hN, hni, T⟩ := (O.obj I.mod.kin).obj
  refine wpAny_Raise_call_subT (C := C) (nm := nm) (q := q) (N := N) (bs := bs) (bm := tl) (hdct := hdct) (sn := sn) (sub := sub) (ab := ab) (col := col) (dd := dd) (k0 := k0) (k1 := k1) (k2 := k2) (k3 := k3) (k5 := k5)
    PySem.F.excBase_ValueError (mN := mN) (T.hasType PySem.F.excBase_ValueError.hasBase) (I.ok.hd hc) (by rw [he]; show (false || (backTo cpos (starEach es X.env)).any (·.1)) = false; rw [hplain]; rfl) hni (ld_glob I hg O.bound ⟨rfl, ?_⟩ hd)
  have sp := ha cpos pins s σ H _ I h
  rw [he] at sp ⊢
  refine Calls.evalArgs_plain (wpAny_mono sp (fun us s₂ h₂ => ?_) fun _ _ y => y)
  obtain ⟨vs, H2, I2, rv, hl, hq⟩ := h₂
  exact ⟨rfl, by rw [← rv.length]; exact hl, I2.bk _ _ hC, hN.keeps I2.bk, T.keeps I2.bk, fun h' e mk => hE pins σ H2 s₂ h' e C us I2 mk hq⟩
end
theorem raises1 {P : Program} {w : World} {K : PySem.W.Frag} {mg : Str → Option Value} {base : Heap} {N : List Str} {qual : Str} {scope : Scope} {f : Addr} {cd : Value} {A : Around} {outer : List Env} {s : Shared} {H : Hp} {E : XK} :
    Raises (cxOf (CX1 P w) P w K mg base N qual scope f cd A outer s H E) E := by
  intro pins σ H1 s1 h' e C vs I mk q
  exact I.raised inDef mk fun s'' F' => ⟨e, .ref C, H1, rfl, F', q⟩
end L2

namespace L2
open PySem PySem.Spec PyProof.Rows PySem.W
/-! ### isinstance of an exception -/
section
variable {prog : Program} {w : World} {A : Around} {E : Value → Shared → Prop} {K : Frag} {s : Shared} {a C : Addr} {oe : Obj}
theorem looks_dd {M : Model} {h : Heap} {x : Addr} {name : Str} {av gv : Value} (X : K.In h) (ha : findIn K (.ref C) name = some (some av)) (hg : specialIn K av "__get__" = some (some gv)) (ht : takesIn K av = some true) :
    Looks M h (Builtin.ObjectAttr.find (.ref x) (.ref C) name) (.bind gv av) := by
  refine (looks_findIn X ha).andThen ((show Looks M h (Builtin.ObjectAttr.getOf (some av)) (some gv) from looks_specialIn X hg).andThen ?_)
  have L3 := looks_takesIn (M := M) X ht
  exact (show Looks M h (Builtin.ObjectAttr.dataDescriptor? (some av) (some gv)) (some (gv, av)) from L3.andThen .now).andThen (Looks.tag .now)
theorem class_getE {x : Addr} {tp : Value} {R : Result → Shared → Prop} (X : K.In s.heap) (L0 : Looks (model prog w) s.heap (typeOf (.ref x)) (.ref C)) (hm : mroIn K C (.type "object") = some true)
    (h : R (.ok (.ret (.ref C))) s) : codeAny (model prog w) A (.call (.builtin "getset_descriptor.__get__") ⟨[.builtin "object.__class__", .ref x, tp], []⟩) R s := by
  obtain ⟨hh, g, dr, t, os⟩ := s
  have L1 := looks_mroIn (M := model prog w) X hm
  refine codeAny_call_builtin KF.slot_gs.plain KF.entry_gs (KF.slot_gs.check _ _ _ _ _ _ _ _ KF.type_class (KF.args_gs _ _ _) ?_)
  unfold Builtin.«getset_descriptor.__get__» Builtin.Getset_descriptor.descrGet
  rw [dga_obj]
  refine wpAny_bind (wpAny_pure ?_)
  unfold Builtin.Getset_descriptor.descrGetter Builtin.Getset_descriptor.descrCheckInstance Builtin.Getset_descriptor.descrNameAndClass isInstance
  simp only [KF.owner_class]
  repeat lk
  refine ⟨Code.quiet_builtin _ (by decide +kernel), codeAny_builtin KF.entry_class ?_⟩
  unfold Builtin.«object.__class__» shownTypeOf
  repeat lk
  exact h
theorem exc_class {Q : Option Value → Shared → Prop} (X : K.In s.heap) (ho : s.heap.get? a = some oe) (hcl : oe.cls = .ref C) (h1 : findIn K (.ref C) "__getattribute__" = some (some (.builtin "BaseException.__getattribute__"))) (h2 : findIn K (.ref C) "__getattr__" = some none)
    (h3 : subIn K (.ref C) (.type "BaseException") = some true) (hf1 : findIn K (.ref C) "__class__" = some (some (.builtin "object.__class__"))) (hf2 : specialIn K (.builtin "object.__class__") "__get__" = some (some (.builtin "getset_descriptor.__get__"))) (hf3 : takesIn K (.builtin "object.__class__") = some true) (hm : mroIn K C (.type "object") = some true)
    (hq : Q (some (.ref C)) { s with toks := s.toks + 1 }) : wpAny (model prog w) A (getAttr? (.ref a) "__class__") Q E s := by
  obtain ⟨hh, g, d, t, os⟩ := s
  have L0 : Looks (model prog w) hh (typeOf (.ref a)) (.ref C) := hcl ▸ (Looks.ld ho).andThen .now
  have L1 := looks_findIn (M := model prog w) X h1
  have L2 := looks_findIn (M := model prog w) X h2
  have L3 := looks_subIn (M := model prog w) X h3
  have L4 := looks_dd (M := model prog w) (x := a) X hf1 hf2 hf3
  have hx0 : ∀ expr, (expr && onTheHeap (Value.builtin "BaseException.__getattribute__")) = false := by intro expr; cases expr <;> rfl
  have hx2 : (Value.builtin "BaseException.__getattribute__" == Value.builtin "object.__getattribute__") = false := by decide +kernel
  have hx1 : (onTheHeap (Value.ref C) && Value.builtin "BaseException.__getattribute__" == Value.builtin "object.__getattribute__") = false := by rw [hx2]; rfl
  unfold getAttr? getAttrBy? getAttrBy
  refine wpAny_bind (wpAny_mkText (wpAny_bind (wpAny_attempt (wpAny_holding (wpAny_bind (L0.at (wpAny_bind (L1.at ?_))))))))
  dsimp only
  rw [hx1, if_neg Bool.false_ne_true]
  have f3 := PySem.F.attr_ValueError.ga.bind (.ref a)
  unfold getAttrByItsOwn
  refine wpAny_bind ?_
  unfold hookBefore
  repeat (any_goals (first | assumption | with_reducible refine wpAny_bind (L2.at ?_) | with_reducible refine L2.at ?_ | wp_step))
  have hk : builtinKind "BaseException.__getattribute__" = some .slot := by decide +kernel
  have hsplit : splitId "BaseException.__getattribute__" = some ("BaseException", "__getattribute__") := by decide +kernel
  have ha := PySem.F.args_bexc_ga (.ref a) (.str "__class__" t)
  refine codeAny_call_builtin PySem.F.attr_ValueError.ga.plain PySem.F.entry_bexc_ga ?_
  simp only [checkBuiltinCall, hk, hsplit]
  unfold isInstance
  refine wpAny_bind (wpAny_bind (L0.at (L3.at ?_)))
  simp only [Bool.not_true, Bool.false_eq_true, if_false, if_true]
  have hp : ∃ o, hh.get? a = some o ∧ o.cls = .ref C := ⟨oe, ho, hcl⟩
  clear ho hcl
  repeat (any_goals (first | assumption | wp_step))
  obtain ⟨oe, ho, hcl⟩ := hp
  refine wpAny_loadPart_at ho ?_
  refine wpAny_pure ?_
  rw [hcl]
  refine wpAny_bind (L4.at ?_)
  dsimp only
  unfold Builtin.ObjectAttr.bindTo
  refine wpAny_bind (wpAny_holding (wpAny_call (class_getE X L0 hm ?_)))
  exact wpAny_pure (handed_on rfl (wpAny_pure hq))
end
/-- an exception at a, of the class C -/
def ExcAt (a C : Addr) (h : Heap) : Prop := ∃ oe, h.get? a = some oe ∧ oe.cls = .ref C
structure ExcK (K : Frag) (C : Addr) : Prop where
  ga : findIn K (.ref C) "__getattribute__" = some (some (.builtin "BaseException.__getattribute__"))
  gh : findIn K (.ref C) "__getattr__" = some none
  sub : subIn K (.ref C) (.type "BaseException") = some true
  cl : findIn K (.ref C) "__class__" = some (some (.builtin "object.__class__"))
  gt : specialIn K (.builtin "object.__class__") "__get__" = some (some (.builtin "getset_descriptor.__get__"))
  tk : takesIn K (.builtin "object.__class__") = some true
  mro : mroIn K C (.type "object") = some true
  is : (clsIn K C).isSome = true
theorem kitx_exc {K : Frag} {a C : Addr} (e : ExcK K C) : KitX K (.ref a) (.ref C) (ExcAt a C) where
  ty := fun _ _ _ ⟨_, ho, hc⟩ => hc ▸ (Looks.ld ho).andThen .now
  it := fun _ _ X _ => by
    obtain ⟨cdD, hcD⟩ := Option.isSome_iff_exists.mp e.is
    unfold clsIn at hcD
    split at hcD
    · rename_i c' d' cd' sl' ho
      intro A' Q' E' s' k q
      unfold isType loadHead
      exact wpAny_bind (wpAny_loadPart (k _ _ (X _ _ ho)) (wpAny_pure q))
    · cases hcD
  ne := fun h tp dd its n sl X htp => by
    obtain ⟨cdD, hcD⟩ := Option.isSome_iff_exists.mp e.is
    refine Bool.eq_false_iff.mpr fun q => ?_
    have z : C = tp := Value.ref.inj (beq_iff_eq.mp q)
    subst z
    unfold clsIn at hcD
    split at hcD
    · rename_i c' d' cd' sl' ho
      have z := (X _ _ ho).symm.trans htp
      cases z
    · cases hcD
  ca := fun X ⟨_, ho, hc⟩ k => exc_class X ho hc e.ga e.gh e.sub e.cl e.gt e.tk e.mro k
/-- the handler's suite, at a caught exception -/
structure Caught (X : Cx) (a C : Addr) : Prop where
  pin : ∃ oe, (a, oe) ∈ X.pn ∧ oe.cls = .ref C
section
variable {X : Cx} {K : Frag} {a C : Addr}
def rIsE (K : Frag) (a C : Addr) : List V → Hp → VK → Prop := fun xs H Q => ∃ (D : Addr) (b : Bool), xs = [.ref a, .ref D] ∧ kitOne K (.ref C) (.ref D) = some b ∧ Q (.bl b) H
theorem cIsE (h : X.K = K) (ct : Caught X a C) (ek : ExcK K C) : CallR X (.builtin "isinstance") (rIsE K a C) := by
  subst h
  intro pins s σ H xs us Q I r h
  obtain ⟨D, b, rfl, kt, q⟩ := h
  obtain ⟨u1, u2, rfl, r1, r2⟩ := vals2 r
  cases (show u1 = Value.ref a from r1)
  cases (show u2 = Value.ref D from r2)
  obtain ⟨oe, hp, hc⟩ := ct.pin
  exact kia_one (kitx_exc ek) I.kIn ⟨oe, (I.pin (a, oe) (List.mem_append_left _ hp)).1, hc⟩ kt (fun z => nomatch z) fun tk => ⟨.bl _, H, I.tok _, rfl, q⟩
theorem i_isE {H : Hp} {Q : VK} {D : Addr} {b : Bool} (kt : kitOne K (.ref C) (.ref D) = some b) (q : Q (.bl b) H) : rIsE K a C [.ref a, .ref D] H Q := ⟨D, b, rfl, kt, q⟩
end
end L2

namespace L2
open PySem PySem.Spec PyProof.Rows
/-! ### try .. except C as n -/
section
variable {X : Cx} {pins : List (Addr × Obj)} {σ : St} {H : Hp} {s : Shared}
theorem unbind_ok {M : Model} {A : Around} {E : Value → Shared → Prop} {i : Nat} {x : Str} {v : V} {Q : Unit → Shared → Prop} (I : Inv X pins σ H s) (hN : X.N.Nodup) (hi : X.N[i]? = some x) (hk : X.env.scope.names.lookup x = some .local) (hv : σ[i]? = some (some v))
    (h : ∀ s', Inv X pins (σ.set i none) H s' → Q () s') : wpAny M A (unbindName X.env x) Q E s := by
  obtain ⟨m, hn, hl⟩ := id I.loc
  have hcls : (X.env.scope.kind == .class || (X.env.scope.kind == .module && X.env.locals != X.env.globals)) = false := by rw [I.ok.kind]; rfl
  have hiσ : i < σ.length := by rw [I.len]; exact (List.getElem?_eq_some_iff.mp hi).1
  have cne := I.cne
  obtain ⟨u0, _, lk⟩ := hl i x v hi hv (.inl hk)
  have hm : m x = some u0 := by
    rcases lk with ⟨_, e⟩ | ⟨k, _⟩
    · exact e
    · have k' : X.env.scope.names.lookup x = some .cell ∨ X.env.scope.names.lookup x = some .free := k
      rw [hk] at k'
      rcases k' with z | z <;> cases z
  refine wpAny_unbindName_local (show X.env.kindOf x = some .local from hk) hn hm hcls fun h' u hn' hs => ?_
  obtain ⟨oL, _, _, hoL, _⟩ := id hn
  have tracked : HOk X.prog X.w H h' := fun b ob e => by
    refine (I.hok b ob e).stay (fun c w' hc q => (hs.2 c ?_).trans q) (fun _ q => q) fun _ _ q => q
    rintro rfl
    rcases hc with rfl | hc
    · rw [I.free] at e; cases e
    · rw [I.free] at hc; cases hc
  refine h _ ⟨I.ok, I.os, I.bare, ⟨fun b o e n hb hx => ?_, fun b o e n hb hx => ?_, I.base.free, fun b o e hx => ?_, I.base.tups, I.base.frzs, I.base.tbls⟩, ⟨_, hn', fun j y v' e1 e2 e3 => ?_⟩, fun y c e => ?_, I.free, I.freeC, fun p hp => ?_, tracked, by rw [List.length_set]; exact I.len⟩
  · exact (hs.2 b (Nat.ne_of_lt (Nat.lt_of_lt_of_le (Heap.lt_size e) I.ok.above))).trans (I.base.keep b o e n hb hx)
  · obtain ⟨sl, e1⟩ := I.base.slot b o e n hb hx
    exact ⟨sl, (hs.2 b (Nat.ne_of_lt (Nat.lt_of_lt_of_le (Heap.lt_size e) I.ok.above))).trans e1⟩
  · obtain ⟨o', e1⟩ := I.base.there b o e hx
    exact ⟨o', (hs.2 b (Nat.ne_of_lt (Nat.lt_of_lt_of_le (Heap.lt_size e) I.ok.above))).trans e1⟩
  · by_cases hj : j = i
    · subst hj
      rw [List.getElem?_set_self hiσ] at e2
      cases e2
    · rw [List.getElem?_set_ne (Ne.symm hj)] at e2
      obtain ⟨u', r', q⟩ := hl j y v' e1 e2 e3
      refine ⟨u', r', ?_⟩
      rcases q with ⟨k, e⟩ | ⟨k, c, e, z⟩
      · refine .inl ⟨k, ?_⟩
        have : y ≠ x := fun e => hj (nodup_ix hN e1 (e ▸ hi))
        simp [this, e]
      · exact .inr ⟨k, c, e, z.sameBut hs (cne y c e)⟩
  · obtain ⟨w', z⟩ := I.cell y c e
    exact ⟨w', z.sameBut hs (cne y c e)⟩
  · obtain ⟨e, n, ne, nf, d⟩ := I.pin p hp
    exact ⟨(hs.2 p.1 ne).trans e, n, ne, nf, d⟩
end
/-- another around, other pins, another wish: the same frame -/
abbrev Cx.alt (X : Cx) (A : Around) (c : Bool) (pn : List (Addr × Obj)) (W : Value → Shared → Prop) : Cx := { X with A := A, calm := c, pn := pn, xe := W }
theorem Cx.Ok.alt {X : Cx} (ok : X.Ok) {A : Around} {c : Bool} {pn : List (Addr × Obj)} {W : Value → Shared → Prop} (hf : A.frames = some X.stack) (hd : c = true → A.handled = none) : (X.alt A c pn W).Ok :=
  ⟨ok.mod, ok.kind, ok.glob, ok.blt, ok.above, ok.inj, ok.has, ok.cab, hd, hf, ok.stk, ok.exf, ok.bs, ok.bsz, ok.noex, ok.exfs, ok.funs, ok.frf⟩
theorem Inv.alt {X : Cx} {pins pins' : List (Addr × Obj)} {σ : St} {H : Hp} {s : Shared} (I : Inv X pins σ H s) {A : Around} {c : Bool} {pn : List (Addr × Obj)} {W : Value → Shared → Prop} (hf : A.frames = some X.stack) (hd : c = true → A.handled = none)
    (hp : ∀ p ∈ pn ++ pins', s.heap.get? p.1 = some p.2 ∧ H p.1 = none ∧ p.1 ≠ X.env.locals ∧ p.1 ∉ X.fs ∧ ∀ v, p.2.data ≠ .cell v) : Inv (X.alt A c pn W) pins' σ H s :=
  ⟨I.ok.alt hf hd, I.os, I.bare, I.base, I.loc, I.cell, I.free, I.freeC, hp, I.hok, I.len⟩
theorem Cx.Ok.unalt {X : Cx} {A : Around} {c : Bool} {pn : List (Addr × Obj)} {W : Value → Shared → Prop} (ok : (X.alt A c pn W).Ok) (o : X.Ok) : X.Ok := o
theorem Inv.unalt {X : Cx} {pins pins' : List (Addr × Obj)} {σ : St} {H : Hp} {s : Shared} {A : Around} {c : Bool} {pn : List (Addr × Obj)} {W : Value → Shared → Prop} (o : X.Ok) (I : Inv (X.alt A c pn W) pins σ H s)
    (hp : ∀ p ∈ X.pn ++ pins', p ∈ pn ++ pins) : Inv X pins' σ H s :=
  ⟨o, I.os, I.bare, I.base, I.loc, I.cell, I.free, I.freeC, fun p h => I.pin p (hp p h), I.hok, I.len⟩
/-- what a callee raises, by the names' values at the call -/
def PassesS (X : Cx) (ES : St → XK) : Prop := ∀ pins σ H s e s', Inv X pins σ H s → CX1 X.prog X.w X.stack H s (ES σ) e s' → X.xe e s'
def tCallS (sp : Sp) (ES : St → XK) (t : TA) : TE := fun σ H Q => t σ H fun vs H1 => sp (vs ++ []) H1 Q (ES σ)
section
variable {X : Cx} {k : Nat} {ps : List Str} {sp : Sp} {x : Str} {p pos : Pos} {e : Expr} {es : List Expr} {t : TA} {ES : St → XK}
theorem pe_callS (c : CalX X.prog X.w X.K X.mg X.base x k ps sp) (hr : Room k X.A) (hg : Gl X x) (hx : PassesS X ES) (ha : PA X (e :: es) t) (hdb : (x == ("__debug__" : Str)) = false := by decide) (he : starEach (e :: es) X.env = (false, eval e X.env) :: starEach es X.env := by rfl) (hpl : (backTo pos (starEach es X.env)).any (·.1) = false := by rfl) :
    PE X (.Call (.Name x p) (e :: es) [] pos) (tCallS sp ES t) := by
  obtain ⟨f, fd, F, hm, hk, hb⟩ := c
  intro pins s σ H Q I h
  refine wpAny_Call_Name_kw (ld_glob I hg hm ?_ hdb)
  refine PySem.W.callWith_K (h₀ := X.base) I.ok.mod.kin hk (thn (ha pos pins s σ H _ I h) fun us s1 ⟨vs, H1, I1, r, q⟩ => ⟨I1.kIn, ?_⟩) he hpl
  have r2 : Vals (vs ++ []) (us ++ []) := r.append .nil
  have hl : (us ++ []).length = ps.length := by rw [← r2.length]; exact F.len _ _ _ _ q
  refine wpAny_call (codeAny_mono (F.run X.A X.stack s1 H1 ⟨us, []⟩ (us ++ []) (vs ++ []) Q (ES σ) hr I1.env0 (hb s1 us I1.kIn hl) r2 q) fun r s' hq => ?_)
  cases r with
  | error e => exact hx pins σ H1 s1 e s' I1 hq
  | ok fl =>
    cases fl with
    | ret u => exact I1.after hq
    | next => exact False.elim hq
    | brk => exact False.elim hq
    | cont => exact False.elim hq
end
theorem kit_of {K : PySem.W.Frag} {C D : Addr} {b : Bool} (hne : C ≠ D) (h1 : PySem.W.isClsIn K D = true) (h2 : PySem.W.typeIn K (.ref D) = some (.type "type")) (h3 : PySem.W.subIn K (.ref C) (.ref D) = some b) : PySem.W.kitOne K (.ref C) (.ref D) = some b := by
  unfold PySem.W.kitOne
  rw [if_neg (by intro z; exact hne (Value.ref.inj (beq_iff_eq.mp z)))]
  unfold PySem.W.kitCls
  have z : ((PySem.W.clsIn K D).isSome && PySem.W.typeIn K (.ref D) == some (.type "type")) = true := by
    rw [show (PySem.W.clsIn K D).isSome = true from h1, h2]
    rfl
  dsimp only
  rw [if_pos z]
  exact h3
/-- an exception class, as a handler's name and as what is raised -/
structure Catches (K : PySem.W.Frag) (C D : Addr) : Prop where
  sub : PySem.W.subIn K (.ref C) (.ref D) = some true
  exc : PySem.W.subIn K (.ref D) (.type "BaseException") = some true
  is : (PySem.W.clsIn K D).isSome = true
  ty : PySem.W.typeIn K (.ref D) = some (.type "type")
theorem exc_matches {M : Model} {A : Around} {E : Value → Shared → Prop} {K : PySem.W.Frag} {s : Shared} {a C D : Addr} {oe : Obj} {Q : Bool → Shared → Prop} (X : K.In s.heap) (he : s.heap.get? a = some oe) (hc : oe.cls = .ref C) (c : Catches K C D)
    (h : Q true s) : wpAny M A (excMatches (.ref a) (.ref D)) Q E s := by
  obtain ⟨hh, g, d, t, os⟩ := s
  have L1 := PySem.W.looks_subIn (M := M) X c.sub
  have L2 := PySem.W.looks_subIn (M := M) X c.exc
  have L3 := PySem.W.looks_typeIn (M := M) X c.ty
  have L4 : PySem.W.Looks M hh (typeOf (.ref a)) (.ref C) := hc ▸ (PySem.W.Looks.ld he).andThen .now
  have L5 : PySem.W.Looks M hh (isType (.ref D)) true := by
    obtain ⟨cdD, hcD⟩ := Option.isSome_iff_exists.mp c.is
    unfold PySem.W.clsIn at hcD
    split at hcD
    · rename_i c' d' cd' sl' ho
      intro A' Q' E' s' k q
      unfold isType loadHead
      exact wpAny_bind (wpAny_loadPart (k _ _ (X _ _ ho)) (wpAny_pure q))
    · cases hcD
  have f := tc_notTuple
  have L0 : PySem.W.Looks M hh (isExcClass (.ref D)) true := by
    unfold isExcClass
    exact L5.andThen L2
  unfold excMatches isInstance
  refine wpAny_bind (wpAny_bind (L3.at ?_))
  rw [f]
  refine wpAny_pure ?_
  rw [if_neg Bool.false_ne_true]
  refine wpAny_bind (wpAny_pure ?_)
  dsimp only
  simp only [List.forIn_cons, List.forIn_nil, pure_bind, bind_assoc]
  refine wpAny_bind (L0.at ?_)
  simp only [Bool.not_true, Bool.false_eq_true, if_false, pure_bind]
  refine wpAny_bind (L4.at ?_)
  refine wpAny_bind (L1.at ?_)
  simp only [if_true, pure_bind]
  exact wpAny_pure h
theorem i_callS {sp : Sp} {ES : St → XK} {t : TA} {σ : St} {H : Hp} {Q : VK} (q : t σ H fun vs H1 => sp (vs ++ []) H1 Q (ES σ)) : tCallS sp ES t σ H Q := q
theorem i_raise {C : Addr} {E : XK} {t : TA} {D : Ends} {σ : St} {H : Hp} (q : t σ H fun vs H1 => vs.length ≤ sizeLine ∧ E (.ref C) none H1) : tRaise C E t D σ H := q
def tTry (K : PySem.W.Frag) (D : Addr) (G : Addr → Prop) (i : Nat) (tb : (St → XK) → TS) (ts : Addr → Addr → TS) : TS := fun En σ H => ∃ ES : St → XK, tb ES En σ H ∧
  ∀ σ1 C H1, ES σ1 C none H1 → ∃ Ca, C = .ref Ca ∧ Catches K Ca D ∧ G Ca ∧ ∀ a, ts a Ca { nx := fun σ2 H2 => (∃ v, σ2[i]? = some (some v)) ∧ En.nx (σ2.set i none) H2, rt := fun _ _ => False, bk := fun _ _ => False, ct := fun _ _ => False } (σ1.set i (some (.ref a))) H1
section
variable {X : Cx} {x n : Str} {np hpos pos : Pos} {b₀ : Stmt} {suite body : List Stmt} {D : Addr} {i : Nat} {tb : (St → XK) → TS} {ts : Addr → Addr → TS} {K : PySem.W.Frag} {G : Addr → Prop}
theorem ps_try {rest : List ExceptHandler} (hK : X.K = K) (hD : InDef X) (hN : X.N.Nodup) (hi : X.N[i]? = some n) (hn : X.env.scope.names.lookup n = some .local) (hg : Gl X x) (hm : X.mg x = some (.ref D))
    (hb : ∀ ES W pn, PassesS (X.alt X.A X.calm pn W) ES → PSs (X.alt X.A X.calm pn W) body (tb ES))
    (hs : ∀ A pn a C, G C → (A.units = X.A.units) → Caught (X.alt A false pn fun _ _ => False) a C → PSs (X.alt A false pn fun _ _ => False) (b₀ :: suite) (ts a C))
    (hd : (x == ("__debug__" : Str)) = false := by decide) :
    PS X (.Try body (.ExceptHandler (some (.Name x np)) (some n) (b₀ :: suite) hpos :: rest) [] [] pos) (tTry K D G i tb ts) := by
  subst hK
  intro pins s σ H En I h
  obtain ⟨ES, hbody, hcatch⟩ := h
  have okX := I.ok
  refine wpAny_Try_except ?_
  refine wpAny_mono (hb ES (fun e s₁ => wpAny (model X.prog X.w) X.A (noteFrame e X.env) (fun _ s₂ => wpAny (model X.prog X.w) X.A (setFlight e none) (fun _ s₃ => wpAny (model X.prog X.w) X.A (handleBy e X.env (.ExceptHandler (some (.Name x np)) (some n) (b₀ :: suite) hpos :: rest)) (SP X pins En) X.xe s₃) X.xe s₂) X.xe s₁)
    (X.pn ++ pins) ?pass [] s σ H En (I.alt okX.frames okX.hd fun p hp => I.pin p (by simpa using hp)) hbody) (fun f s₁ hf => ?_) fun e s₁ he => he
  case pass =>
    intro pins' σ1 H0 s1 e s' J h
    obtain ⟨a, C, H1, rfl, F, q⟩ := h
    have I1 : Inv X pins σ1 H0 s1 := J.unalt okX fun p hp => List.mem_append_left _ hp
    obtain ⟨Ca, rfl, cat, gd, hsuite⟩ := hcatch σ1 C H1 q
    have F' : Fly X.prog X.w X.stack H0 s1 (.ref Ca) H1 a s' := F
    obtain ⟨B, a0, fl, cov⟩ := F'.fly
    have fl' := fl
    rw [hD.stk] at fl'
    have hfr : X.A.frames = some (X.env :: X.outer) := by rw [okX.frames, hD.stk]
    refine wpAny_looks_onW hfr hD.fr fl' fun h₄ held₄ up₄ => ?_
    refine wpAny_landsW held₄ fun h₅ fl₅ up₅ => ?_
    have J5 := F'.inv I1 fl.1 cov fl₅.1 (up₄.trans up₅)
    obtain ⟨ob, hob, hobc⟩ := fl₅.there
    have fm : (X.A.mark (some (.ref a))).frames = some X.stack := okX.frames
    have J5m : Inv (X.alt (X.A.mark (some (.ref a))) false X.pn fun _ _ => False) pins σ1 H1 { s' with heap := h₅ } := J5.alt fm (fun z => Bool.noConfusion z) J5.pin
    refine wpAny_handleBy_cons (codeAny_handlers_test (ld_glob J5m hg hm ?_ hd)) (by intro q; cases q)
    refine exc_matches J5.kIn hob hobc cat (codeAny_handlers_suite_as ?_)
    refine lands_againW fl₅ fun h₆ fl₆ up₆ => ?_
    have J6 := F'.inv I1 fl.1 cov fl₆.1 ((up₄.trans up₅).trans up₆)
    obtain ⟨oe, vs, T, oT, ts', he6, hcls6, hd6, _⟩ := fl₆.2.2.2
    have hnl : a ≠ X.env.locals := by
      rintro rfl
      obtain ⟨_, es, ep, hL, hdL, _⟩ := (J6.loc).choose_spec.1
      have z := hL.symm.trans he6
      cases z
      rw [hdL] at hd6
      cases hd6
    have hnf : a ∉ X.fs := fun z => by
      have zz : a ∈ frs X.stack := by rw [hD.stk]; show a ∈ (X.env :: X.outer).filterMap (·.frame); exact List.mem_filterMap.mpr (let ⟨e', he', hf'⟩ := List.mem_filterMap.mp z; ⟨e', List.mem_cons_of_mem _ he', hf'⟩)
      obtain ⟨o2, eo2, nd2⟩ := J6.frameIn zz
      have y := eo2.symm.trans he6
      cases y
      exact nd2 vs hd6
    have hnH : H1 a = none := by
      cases hh : H1 a with
      | none => rfl
      | some o1 =>
        have zz : a ∉ frs X.stack := fun z => by
          obtain ⟨o2, eo2, nd2⟩ := J6.frameIn z
          have y := eo2.symm.trans he6
          cases y
          exact nd2 vs hd6
        obtain ⟨o2, e2⟩ := cov a (.inl ⟨o1, hh⟩) zz
        rw [fl.2.1] at e2
        cases e2
    have pinsOk : ∀ p ∈ (X.pn ++ pins ++ [(a, oe)]) ++ ([] : List (Addr × Obj)), h₆.get? p.1 = some p.2 ∧ H1 p.1 = none ∧ p.1 ≠ X.env.locals ∧ p.1 ∉ X.fs ∧ ∀ v, p.2.data ≠ .cell v := fun p hp => by
      rw [List.append_nil] at hp
      rcases List.mem_append.mp hp with z | z
      · exact J6.pin p z
      · have e : p = (a, oe) := by simpa using z
        rw [e]
        exact ⟨he6, hnH, hnl, hnf, fun v q => by rw [hd6] at q; cases q⟩
    have K6 : Inv (X.alt (X.A.mark (some (.ref a))) false (X.pn ++ pins ++ [(a, oe)]) fun _ _ => False) [] σ1 H1 { s' with heap := h₆ } := J6.alt fm (fun z => Bool.noConfusion z) pinsOk
    refine store_ok (X := X.alt (X.A.mark (some (.ref a))) false (X.pn ++ pins ++ [(a, oe)]) fun _ _ => False) (v := .ref a) K6 hN hi (.inl hn) rfl (fun s7 K7 => ?_) (.inr hn)
    refine wpAny_mono (hs (X.A.mark (some (.ref a))) (X.pn ++ pins ++ [(a, oe)]) a Ca gd rfl ⟨oe, List.mem_append_right _ (by simp), hcls6.1⟩ [] s7 (σ1.set i (some (.ref a))) H1 _ K7 (hsuite a)) (fun f s8 hf => ?_) fun _ _ z => z.elim
    cases f with
    | next =>
      obtain ⟨σ2, H2, K8, ⟨v, hv⟩, q⟩ := hf
      have J8 : Inv X pins σ2 H2 s8 := K8.unalt okX fun p hp => List.mem_append_left _ (List.mem_append_left _ hp)
      show wpAny (model X.prog X.w) X.A (do bindName X.env n .none; unbindBehindTheSuite X.env n hpos) (fun _ s₃ => SP X pins En .next s₃) X.xe s8
      refine wpAny_bind (wpAny_bindName (store_ok (X := X) (v := .non) J8 hN hi (.inl hn) rfl (fun s9 J9 => ?_) (.inr hn)))
      unfold unbindBehindTheSuite
      refine wpAny_onRaise ?_
      have hl2 : i < σ2.length := (List.getElem?_eq_some_iff.mp hv).1
      refine unbind_ok J9 hN hi hn (v := .non) (List.getElem?_set_self hl2) fun s10 J10 => ?_
      rw [List.set_set] at J10
      exact ⟨_, _, J10, q⟩
    | brk => obtain ⟨_, _, _, q⟩ := hf; exact False.elim q
    | cont => obtain ⟨_, _, _, q⟩ := hf; exact False.elim q
    | ret u => obtain ⟨_, _, _, _, _, q⟩ := hf; exact False.elim q
  · have un : ∀ {W : Value → Shared → Prop} {σ' : St} {H' : Hp}, Inv (X.alt X.A X.calm (X.pn ++ pins) W) [] σ' H' s₁ → Inv X pins σ' H' s₁ := fun J => J.unalt okX fun p hp => by simpa using hp
    cases f with
    | next =>
      obtain ⟨σ', H', J, q⟩ := hf
      exact wpAny_execs_nil ⟨σ', H', un J, q⟩
    | brk => obtain ⟨σ', H', J, q⟩ := hf; exact ⟨σ', H', un J, q⟩
    | cont => obtain ⟨σ', H', J, q⟩ := hf; exact ⟨σ', H', un J, q⟩
    | ret u => obtain ⟨v, σ', H', J, r, q⟩ := hf; exact ⟨v, σ', H', un J, r, q⟩
end
end L2

namespace L2
open PySem PySem.Spec PyProof.Rows
/-! ### a statement that raises nothing, in a def that may -/
end L2

namespace L2
open PySem PySem.Spec PyProof.Rows
/-! ### try with several clauses without a name -/
structure Misses (K : PySem.W.Frag) (C D : Addr) : Prop where
  sub : PySem.W.subIn K (.ref C) (.ref D) = some false
  exc : PySem.W.subIn K (.ref D) (.type "BaseException") = some true
  is : (PySem.W.clsIn K D).isSome = true
  ty : PySem.W.typeIn K (.ref D) = some (.type "type")
inductive Hs (X : Cx) : List ExceptHandler → (Addr → TS) → Prop
  | nil : Hs X [] (fun _ _ _ _ => False)
  | cons {x : Str} {np hpos : Pos} {b₀ : Stmt} {suite : List Stmt} {rest : List ExceptHandler} {D : Addr} {ts : TS} {tr : Addr → TS} (hg : Gl X x) (hm : X.mg x = some (.ref D)) (hs : ∀ A pn, A.units = X.A.units → PSs (X.alt A false pn fun _ _ => False) (b₀ :: suite) ts) (r : Hs X rest tr)
      (hd : (x == ("__debug__" : Str)) = false := by decide) : Hs X (.ExceptHandler (some (.Name x np)) none (b₀ :: suite) hpos :: rest) (fun Ca En σ H => (Catches X.K Ca D ∧ ts En σ H) ∨ (Misses X.K Ca D ∧ tr Ca En σ H))
end L2

namespace L2
open PySem PySem.Spec PyProof.Rows
/-! ### a list made by a block whose element may raise -/
/-- an exception at a, in flight or held by any frame -/
def Lay (B : Heap) (l : List Env) (a : Addr) (C a0 : Value) (h : Heap) : Prop := B.StaysIn h ∧ B.get? a = none ∧ h.FunFrames B l ∧ ∃ fl, h.TracedAtW B a C a0 fl
section
variable {M : Model} {A : Around} {E : Value → Shared → Prop} {s : Shared} {B : Heap} {env : Env} {outer l : List Env} {L a : Addr} {C a0 : Value}
theorem Lay.held (x : Heap.HeldW B l a C a0 L s.heap) : Lay B l a C a0 s.heap := ⟨x.1, x.2.1, x.2.2.1, _, x.2.2.2⟩
/-- the field of the last entry is set -/
theorem lay_set {T : Addr} {oT : Obj} {ts : Array Value} {v : Value} {oe : Obj} {vs : Array Value} (hk : B.StaysIn s.heap) (hn : B.get? a = none) (hl : s.heap.FunFrames B l)
    (he : s.heap.get? a = some oe) (hc : oe.cls = C ∧ vs[0]? = some a0) (hd : oe.data = .fields vs) (h1 : vs[1]? = some (.ref T)) (nT : B.get? T = none) (Ta : T ≠ a) (hT : s.heap.get? T = some oT) (dT : oT.data = .fields ts) (z3 : 3 < ts.size)
    {Q : Unit → Shared → Prop} (k : ∀ h', B.StaysIn h' → h'.FunFrames B l → h'.TracedAtW B a C a0 v → s.heap.UpToSlots h' → Q () { s with heap := h' }) : wpAny M A (setField (.ref T) 3 v) Q E s := by
  have far : ∀ b, b ≠ T → (s.heap.update T (Obj.mapFields (·.setIfInBounds 3 v))).get? b = s.heap.get? b := fun b hb => Heap.get?_update_other _ _ fun q => hb q.symm
  have nrec : ∀ b o, s.heap.get? b = some o → (∀ us, o.data ≠ .fields us) → b ≠ T := by
    rintro b o hb hf rfl
    rw [hT] at hb
    cases hb
    exact hf ts dT
  have dT' := Obj.data_mapFields dT (·.setIfInBounds 3 v)
  refine wpAny_setField hT dT z3 (k _ ?_ ?_ ⟨oe, vs, T, _, _, (far a fun q => Ta q.symm).trans he, hc, hd, h1, nT, Ta, Heap.get?_update_self _ hT (Obj.isFreed_of_fields dT'), dT', by simp [z3]⟩ ?_)
  · intro b o hb
    refine (far b ?_).trans (hk b o hb)
    rintro rfl
    rw [nT] at hb
    cases hb
  · exact hl.of_keeps fun b o hb hf => ⟨o, (far b (nrec b o hb hf)).trans hb, rfl⟩
  · exact fun b o hb hf => ⟨o.slots, (far b (nrec b o hb hf)).trans hb⟩
theorem Lay.pass {α : Type} {what : String} {cenv : Env} {Q : α → Shared → Prop} (x : Lay B l a C a0 s.heap) (k : ∀ h', Lay B l a C a0 h' → s.heap.UpToSlots h' → E (.ref a) { s with heap := h' }) : wpAny M A (PySem.passOn what (.ref a) cenv : Sem α) Q E s := by
  obtain ⟨hk, hn, hl, fl, oe, vs, T, oT, ts, he, hc, hd, h1, nT, Ta, hT, dT, h3⟩ := x
  have ne : (Value.ref T == Value.none) = false := by simp
  unfold PySem.passOn setFlight
  refine wpAny_bind (wpAny_field he hd h1 ?_)
  rw [ne]
  refine wpAny_bind (wpAny_bind (wpAny_field he hd h1 ?_))
  rw [if_pos (show (Value.ref T != Value.none) = true by simp)]
  exact lay_set hk hn hl he hc hd h1 nT Ta hT dT (Array.getElem?_eq_some_iff.mp h3).1 fun h' q1 q2 q3 q4 => wpAny_throw (k h' ⟨q1, hn, q2, _, q3⟩ q4)
theorem Lay.leaves {Q : Unit → Shared → Prop} (hfr : A.frames = some (env :: outer)) (hf : env.frame = some L) (x : Lay B (env :: outer) a C a0 s.heap)
    (k : ∀ h', Heap.FlyingW B outer a C a0 h' → s.heap.UpToSlots h' → Q () { s with heap := h' }) : wpAny M A (leaving env (.ref a)) Q E s := by
  obtain ⟨hk, hn, hl, fl, tr⟩ := x
  have fin : ∀ s1 : Shared, Heap.HeldW B (env :: outer) a C a0 L s1.heap → (∀ h', Heap.FlyingW B outer a C a0 h' → s1.heap.UpToSlots h' → Q () { s1 with heap := h' }) → wpAny M A (setFlight (.ref a) none) Q E s1 := fun s1 hh k1 =>
    wpAny_landsW hh fun h' y up => k1 h' ⟨y.1, y.2.1, y.2.2.1.2.2, y.2.2.2⟩ up
  by_cases e : fl = rawInt L
  · subst e
    exact wpAny_bind (wpAny_noteFrame_againW hf tr (fin s ⟨hk, hn, hl, tr⟩ k))
  · obtain ⟨oe, vs, T, oT, ts, he, hc, hd, h1, nT, Ta, hT, dT, h3⟩ := tr
    refine wpAny_bind ?_
    unfold noteFrame
    simp only [hf]
    refine wpAny_bind (wpAny_field he hd h1 ?_)
    rw [if_pos (show (Value.ref T != Value.none) = true by simp)]
    refine wpAny_bind (wpAny_field hT dT h3 ?_)
    rw [if_neg (show ¬ ((fl == rawInt L) = true) from fun z => e (by simpa using z))]
    refine wpAny_bind (lay_set (v := .none) hk hn hl he hc hd h1 nT Ta hT dT (Array.getElem?_eq_some_iff.mp h3).1 fun h1 q1 q2 q3 q4 => ?_)
    obtain ⟨oe', vs', T', oT', ts', he', hc', hd', h1', nT', Ta', hT', dT', h3'⟩ := q3
    have hc1 := hc'.1
    subst hc1
    refine wpAny_entryW (s := { s with heap := h1 }) hfr q2 hf he' q1 hn hd' (Array.getElem?_eq_some_iff.mp h1').1 hc'.2 fun h2 y => ?_
    exact fin { s with heap := h2 } ⟨y.1, hn, y.2.1, y.2.2.1⟩ fun h3 f3 u3 => k h3 f3 (q4.trans (Heap.UpToSlots.trans y.2.2.2 u3))
end
section
variable {X : Cx} {pins : List (Addr × Obj)} {σ : St} {scope : Scope} {own : List Str} {fre : List (Nat × Str)} {elt tg iter : Expr} {ifs : List Expr} {pos : Pos} {wi : TI} {g : TG} {tt : TT} {te : TE}
theorem comp_blockX {E' : XK} {s2 : Shared} {H2 : Hp} {it : Addr} {fp : List Addr} {tn : Nat → Heap → Prop} {J : It} {Fin : List V → Hp → Prop} {RR : Value → Addr → Result → Shared → Prop} {E : Value → Shared → Prop}
    (hc : X.calm = true) (S : CompScope X.N X.env.scope scope own fre) (I2 : Inv X pins σ H2 s2) (T : Turn X.prog X.w X.K tg J fp it tn) (st2 : tn 0 s2.heap) (f2 : ∀ b ∈ fp, FpOk X pins H2 b)
    (hg : ∀ cl C s₂ H₂ fp, PG (cxC X (own ++ fre.map (·.2)) scope cl C s₂ H₂ fp) tg g) (ht : ∀ cl C s₂ H₂ fp, PTs (cxC X (own ++ fre.map (·.2)) scope cl C s₂ H₂ fp) ifs tt) (he : ∀ W cl C s₂ H₂ fp, PassesS ((cxC X (own ++ fre.map (·.2)) scope cl C s₂ H₂ fp).alt X.A X.calm [] W) (fun _ => E') → PE ((cxC X (own ++ fre.map (·.2)) scope cl C s₂ H₂ fp).alt X.A X.calm [] W) elt te)
    (herr : ∀ (D C : Addr), s2.heap.objs.size ≤ C → ∀ pins8 σ8 H8 s8 a Cl H9 s9, Inv (cxC X (own ++ fre.map (·.2)) scope (clos X.env.cells scope.names []) C s2 H2 fp) pins8 σ8 H8 s8 → Fly X.prog X.w X.stack H8 s8 Cl H9 a s9 → E' Cl none H9 →
      notedBy (model X.prog X.w) X.A (compEnvC scope (clos X.env.cells scope.names []) C X.env) (fun e s' => RR (.ref D) C (.error e) s') (.ref a) s9)
    (turns : CompT J g tt te Fin (startC own.length fre σ) H2)
    (hend : ∀ (D C : Addr) (s' : Shared) (H' : Hp) (ys : List V) (its : List Value) (m : Str → Option Value), s2.heap.objs.size ≤ D → s2.heap.objs.size ≤ C → D ≠ C → Inv X pins σ H' s' → H' D = none → H' C = none → s'.heap.get? D = some (LCg.lst its) → s'.heap.Ns C m → Vals ys its → ys.length ≤ sizeLine → Fin ys H' → RR (.ref D) C (.ok .next) s') :
    wpAny (model X.prog X.w) X.A (newList []) (fun acc s₃ => wpAny (model X.prog X.w) X.A (newFunctionEnv scope X.env.globals (clos X.env.cells scope.names []) [] X.env.qual none .none (some X.env)) (fun cenv s₄ =>
      codeAny (model X.prog X.w) X.A (.compStart (.ListComp elt [⟨tg, iter, ifs, 0⟩] scope pos) 0 (.ref it) acc { cenv with scope := relabel scope X.env }) (RR acc cenv.locals) s₄) E s₃) E s2 := by
  obtain ⟨W, ⟨m0, w0⟩, turn⟩ := turns
  refine wpAny_newObj_type (wpAny_newFunctionEnv S.ocell (by intro y hy; simp at hy) (fun h₁ hns₁ hsb₁ => ?_) S.kind)
  dsimp only at hns₁ hsb₁ ⊢
  generalize hH2 : s2.heap.push { cls := .type "list", dict := none, data := .seq ([] : List Value).toArray } = HH at hns₁ hsb₁ ⊢
  have hC : HH.objs.size = s2.heap.objs.size + 1 := by rw [← hH2, Heap.size_push]
  have hDC : s2.heap.objs.size ≠ HH.objs.size := by rw [hC]; exact Nat.ne_of_lt (Nat.lt_succ_self _)
  have hCle : s2.heap.objs.size ≤ HH.objs.size := by rw [hC]; exact Nat.le_succ _
  have old : ∀ b o, s2.heap.get? b = some o → h₁.get? b = some o := fun b o e =>
    hsb₁.extBut b o (by rw [hC]; exact Nat.ne_of_lt (Nat.lt_succ_of_lt (Heap.lt_size e))) (Heap.get?_push_of_some _ (hH2 ▸ Heap.get?_push_of_some _ e))
  have hacc : h₁.get? s2.heap.objs.size = some (LCg.lst []) := hsb₁.extBut _ _ hDC (Heap.get?_push_of_some _ (hH2 ▸ Heap.get?_push_size _ rfl))
  have hfo : ∀ b ∈ fp, ∃ o, s2.heap.get? b = some o := fun b hb => by obtain ⟨o, e, _⟩ := T.obj _ _ st2 b hb; exact ⟨o, e⟩
  have flt : ∀ b ∈ fp, b < s2.heap.objs.size := fun b hb => by obtain ⟨o, e⟩ := hfo b hb; exact Heap.lt_size e
  have I1 := inv_comp (tk := s2.toks + ([] : List (Str × Value)).length) I2 S f2 hfo old hCle hns₁ (Nat.le_refl _) hDC hacc
  have ok1 := I1.ok
  generalize hX' : cxC X (own ++ fre.map (·.2)) scope (clos X.env.cells scope.names []) HH.objs.size s2 H2 fp = X' at I1
  have eP : X'.prog = X.prog := by rw [← hX']; rfl
  have eW : X'.w = X.w := by rw [← hX']; rfl
  have eK : X'.K = X.K := by rw [← hX']; rfl
  have eA : X'.A = X.A := by rw [← hX']; rfl
  have eE : X'.env = compEnvC scope (clos X.env.cells scope.names []) HH.objs.size X.env := by rw [← hX']; rfl
  have eX : X'.xe = fun _ _ => False := by rw [← hX']; rfl
  have ePn : X'.pn = [] := by rw [← hX']; rfl
  have eC : X'.calm = true := by rw [← hX']; exact hc
  have eS : X'.s₀ = s2 := by rw [← hX']; rfl
  have eH : X'.H₀ = H2 := by rw [← hX']; rfl
  have eF : X'.fs = frs X.stack := by rw [← hX']; rfl
  have eEx : X'.ex = fp := by rw [← hX']; rfl
  have hg' : PG X' tg g := by rw [← hX']; exact hg _ _ _ _ _
  have ht' : PTs X' ifs tt := by rw [← hX']; exact ht _ _ _ _ _
  have he' : PE (X'.alt X.A X.calm [] (notedBy (model X.prog X.w) X.A X'.env fun e s' => RR (.ref s2.heap.objs.size) HH.objs.size (.error e) s')) elt te := by
    rw [← hX']
    refine he _ _ _ _ _ _ fun pins8 σ8 H8 s8 e s9 I8 q => ?_
    obtain ⟨a, Cl, H9, rfl, F, q⟩ := q
    exact herr _ _ hCle pins8 σ8 H8 s8 a Cl H9 s9 (I8.unalt ok1 fun p hp => hp) F q
  have ccell : ∀ x c, X'.env.cells.lookup x = some c → c < s2.heap.objs.size := fun x c e => by
    rw [eE] at e
    obtain ⟨v, q⟩ := I2.cell x c (I2.clos_sub S e)
    exact q.lt
  have stat : ∀ {H' : Hp} {o : Obj}, (∀ b ∈ fp, H' b = none) → ∀ b ∈ fp, FpOk X' [(s2.heap.objs.size, o)] H' b := fun {H' o} hn b hb => by
    refine ⟨hn b hb, ?_, ?_, .inl (by rw [eEx]; exact hb), fun x c e => ?_, fun p hp => ?_⟩
    · rw [eE]; exact Nat.ne_of_lt (Nat.lt_of_lt_of_le (flt b hb) hCle)
    · rw [eF]; intro z
      rcases List.mem_cons.mp (I2.stkSub b z) with q | q
      · exact (f2 b hb).2.1 q
      · exact (f2 b hb).2.2.1 q
    · rw [eE] at e
      exact (f2 b hb).2.2.2.2.1 x c (I2.clos_sub S e)
    · rw [ePn] at hp
      have e : p = (s2.heap.objs.size, o) := by simpa using hp
      rw [e]
      exact Nat.ne_of_gt (flt b hb)
  have statD : ∀ {H' : Hp}, H' s2.heap.objs.size = none → FpOk X' [] H' s2.heap.objs.size := fun {H'} hn => by
    refine ⟨hn, ?_, ?_, .inr (by rw [eS]; exact Nat.le_refl _), fun x c e => Nat.ne_of_lt (ccell x c e), fun p hp => ?_⟩
    · rw [eE]; exact hDC
    · rw [eF]; intro z
      rcases List.mem_cons.mp (I2.stkSub _ z) with q | q
      · exact absurd I2.lt (by rw [← q]; exact Nat.lt_irrefl _)
      · exact I2.nofs (Nat.le_refl _) q
    · rw [ePn] at hp; cases hp
  have loop : ∀ s₃ : Shared, s₃ = { s2 with heap := h₁, toks := s2.toks + ([] : List (Str × Value)).length } →
      codeAny (model X.prog X.w) X.A (.compLoop (.ListComp elt [⟨tg, iter, ifs, 0⟩] scope pos) 0 (.ref it) (.ref s2.heap.objs.size) (compEnvC scope (clos X.env.cells scope.names []) HH.objs.size X.env))
        (RR (.ref s2.heap.objs.size) HH.objs.size) s₃ := by
    rintro s₃ rfl
    rw [← eE]
    refine compLoop_gen (fun n s' => ∃ i ys its σ' H', Inv X' [(s2.heap.objs.size, LCg.lst its)] σ' H' s' ∧ Vals ys its ∧ ys.length ≤ sizeLine ∧ tn i s'.heap ∧ (∀ b ∈ fp, H' b = none) ∧ W i n ys σ' H') ?_ m0
      ⟨0, [], [], _, H2, I1, .nil, Nat.zero_le _, T.keep _ _ _ st2 fun b _ o e => old b o e, fun b hb => (f2 b hb).1, w0⟩
    rintro n s3 ⟨i, ys, its, σ3, H3, I3, rv, hlen, st3, fr3, w3⟩
    have pD := I3.pin (s2.heap.objs.size, LCg.lst its) (by rw [ePn]; simp)
    rcases turn i n ys σ3 H3 w3 with ⟨stop, fin⟩ | ⟨go, hz, step⟩
    · have dn := T.done X' eP eW eK eC i _ s3 σ3 H3 (notedBy (model X.prog X.w) X.A X'.env fun e s' => RR (.ref s2.heap.objs.size) HH.objs.size (.error e) s') I3 (stat fr3) st3 stop
      rw [eA] at dn
      refine wpAny_mono dn (fun r s4 ⟨hr, I4⟩ => ?_) fun _ _ z => z
      subst hr
      have pD4 := I4.pin (s2.heap.objs.size, LCg.lst its) (by rw [ePn]; simp)
      obtain ⟨m4, hn4, _⟩ := I4.loc
      have b4 : Un (frs X.stack) fp H2 H3 s2.heap s4.heap := by
        have z := I4.base
        rw [eF, eEx, eH, eS] at z
        exact z
      have o4 : s4.os = s2.os := by have z := I4.os; rw [eS] at z; exact z
      have k4 : HOk X.prog X.w H3 s4.heap := by have z := I4.hok; rw [eP, eW] at z; exact z
      have Io : Inv X pins σ H3 s4 := I2.call' o4 b4 k4 I4.bare fun b hb => by
        obtain ⟨_, f1, _, f3, f4, f5⟩ := f2 b hb
        exact ⟨f3, f1, f4, f5⟩
      refine hend _ _ s4 H3 ys its m4 (Nat.le_refl _) hCle hDC Io pD4.2.1 ?_ pD4.1 ?_ rv hlen fin
      · have z := I4.free; rw [eE] at z; exact z
      · rw [eE] at hn4; exact hn4
    · have itm := T.item X' eP eW eK eC i _ s3 σ3 H3 (notedBy (model X.prog X.w) X.A X'.env fun e s' => RR (.ref s2.heap.objs.size) HH.objs.size (.error e) s') I3 (stat fr3) st3 go
      rw [eA] at itm
      refine wpAny_mono itm (fun r s4 ⟨u, hr, h4⟩ => ?_) fun _ _ z => z
      subst hr
      refine wpAny_mono h4 (fun _ s5 ⟨x, H5, I5, r5, y5, st5, fr5⟩ => ?_) fun _ _ z => z
      have I5' := I5.pinned (stat fr5) (T.obj _ _ st5)
      have as := hg' _ s5 σ3 H5 x u _ I5' r5 (step x H5 y5)
      rw [eP, eW, eA] at as
      refine wpAny_mono as (fun _ s6 ⟨σ6, H6, I6, q6⟩ => ?_) (fun _ _ z => by rw [eX] at z; exact z.elim)
      have ts := ht' _ s6 σ6 H6 _ I6 q6
      rw [eP, eW, eA] at ts
      refine wpAny_mono ts (fun b s7 ⟨H7, I7, q7⟩ => ?_) (fun _ _ z => by rw [eX] at z; exact z.elim)
      have back : ∀ {σ8 : St} {H8 : Hp} {s8 : Shared}, Inv X' ([(s2.heap.objs.size, LCg.lst its)] ++ pinsAt fp s5.heap) σ8 H8 s8 → tn (i + 1) s8.heap ∧ (∀ b ∈ fp, H8 b = none) ∧ s8.heap.get? s2.heap.objs.size = some (LCg.lst its) ∧ H8 s2.heap.objs.size = none := fun {σ8 H8 s8} I8 => by
        refine ⟨T.keep _ _ _ st5 fun b hb o e => (I8.pin (b, o) (List.mem_append_right _ (List.mem_append_right _ (mem_pinsAt hb e)))).1, fun b hb => ?_, ?_⟩
        · obtain ⟨o, e, d⟩ := T.obj _ _ st5 b hb
          exact (I8.pin (b, o) (List.mem_append_right _ (List.mem_append_right _ (mem_pinsAt hb e)))).2.1
        · have z := I8.pin (s2.heap.objs.size, LCg.lst its) (List.mem_append_right _ (List.mem_append_left _ (by simp)))
          exact ⟨z.1, z.2.1⟩
      cases b with
      | false =>
        rw [if_neg Bool.false_ne_true]
        rw [if_neg Bool.false_ne_true] at q7
        obtain ⟨m', hm', w7⟩ := q7
        obtain ⟨b1, b2, b3, b4⟩ := back I7
        exact ⟨m', hm', i + 1, ys, its, σ6, H7, I7.unpinned, rv, hlen, b1, b2, w7⟩
      | true =>
        rw [if_pos rfl]
        rw [if_pos rfl] at q7
        have el : wpAny (model X'.prog X'.w) X.A (eval elt X'.env) _ _ s7 := he' _ s7 σ6 H7 _ (I7.alt (eA ▸ I7.ok.frames) (fun _ => eA ▸ I7.ok.hd eC) fun p hp => I7.pin p (by rw [ePn]; exact hp)) q7
        rw [eP, eW] at el
        refine wpAny_mono el (fun yv s8 ⟨y, H8, J8, r8, q8⟩ => ?_) (fun _ _ z => z)
        have I8 := J8.unalt I7.ok (fun p hp => by rw [ePn] at hp; exact hp)
        obtain ⟨m', hm', w8⟩ := q8
        obtain ⟨b1, b2, b3, b4⟩ := back I8
        have hl := rv.length
        refine append_at (hsz := by show its.toArray.size ≤ sizeLine; rw [List.size_toArray, ← hl]; exact hlen) b3 fun h9 hs9 hD9 => ?_
        have J0 : Inv X' [] σ6 H8 s8 := I8.pins_of fun p hp => absurd hp (by simp)
        have J1 : Inv X' [] σ6 H8 { s8 with heap := h9, toks := s8.toks } := J0.chg (ch := [s2.heap.objs.size]) (fun b hb => by
          have e : b = s2.heap.objs.size := by simpa using hb
          rw [e]; exact statD b4) fun b o hb e => hs9.extBut _ _ (by simpa using hb) e
        have hD9' : h9.get? s2.heap.objs.size = some (LCg.lst (its ++ [yv])) := hD9.trans (congrArg some (LCg.lst_snoc its yv))
        have J2 : Inv X' [(s2.heap.objs.size, LCg.lst (its ++ [yv]))] σ6 H8 { s8 with heap := h9, toks := s8.toks } := J1.pins_of fun p hp => by
          have e : p = (s2.heap.objs.size, LCg.lst (its ++ [yv])) := by simpa using hp
          rw [e]
          have z := statD b4
          exact ⟨hD9', b4, z.2.1, z.2.2.1, fun v q => by cases q⟩
        refine ⟨m', hm', i + 1, ys ++ [y], its ++ [yv], σ6, H8, J2, rv.append (.cons r8 .nil), by rw [List.length_append, List.length_singleton]; exact hz, ?_, b2, w8⟩
        exact T.keep _ _ _ b1 fun b hb o e => hs9.extBut _ _ (Nat.ne_of_lt (flt b hb)) e
  exact codeAny_compStart_list (loop _ rfl) (T.self X.A 0 _ _ _ (T.keep _ _ _ st2 fun b _ o e => old b o e) (loop _ rfl))

end
/-- an exception that lies behind a block passes on -/
def PassesC (X : Cx) (E : XK) : Prop := ∀ pins σ H s a C B a0, Inv X pins σ H s → Lay B X.stack a C a0 s.heap → (∀ b, ((∃ o, H b = some o) ∨ ∃ o, X.s₀.heap.get? b = some o) → b ∉ frs X.stack → ∃ o, B.get? b = some o) → E C none H → X.xe (.ref a) s
theorem Lay.fly {X : Cx} {pins : List (Addr × Obj)} {σ : St} {H : Hp} {s : Shared} {a : Addr} {C a0 : Value} {B : Heap} (I : Inv X pins σ H s) (D : InDef X) (x : Lay B X.stack a C a0 s.heap)
    (cov : ∀ b, ((∃ o, H b = some o) ∨ ∃ o, X.s₀.heap.get? b = some o) → b ∉ frs X.stack → ∃ o, B.get? b = some o) {Q : Unit → Shared → Prop} {E : Value → Shared → Prop}
    (k : ∀ s'', Fly X.prog X.w X.outer X.H₀ X.s₀ C H a s'' → Q () s'') : wpAny (model X.prog X.w) X.A (leaving X.env (.ref a)) Q E s := by
  have x' := x
  rw [D.stk] at x'
  refine x'.leaves (by rw [I.ok.frames, D.stk]) D.fr fun h' fl up => k _ ?_
  have base := I.base
  rw [D.ex] at base
  have away : ∀ b, ((∃ o, H b = some o) ∨ ∃ o, X.s₀.heap.get? b = some o) → b ∉ frs X.outer → b ∉ frs X.stack := fun b hb hn z => by
    rcases List.mem_cons.mp (I.stkSub b z) with y | y
    · subst y
      rcases hb with ⟨o, e⟩ | ⟨o, e⟩
      · rw [I.free] at e; cases e
      · exact absurd (Heap.lt_size e) (Nat.not_lt.mpr I.ok.above)
    · exact hn y
  have stay : ∀ b u, ((∃ o, H b = some o) ∨ ∃ o, X.s₀.heap.get? b = some o) → b ∉ frs X.stack → s.heap.get? b = some u → h'.get? b = some u := fun b u hc hb e => by
    obtain ⟨o, eo⟩ := cov b hc hb
    have z := x.1 b o eo
    rw [e] at z
    cases z
    exact fl.1 b u eo
  have inSt : ∀ b, b ∈ frs X.outer → b ∈ frs X.stack := fun b hb => by
    rw [D.stk]
    unfold frs at hb ⊢
    obtain ⟨env, he, hf⟩ := List.mem_filterMap.mp hb
    exact List.mem_filterMap.mpr ⟨env, List.mem_cons_of_mem _ he, hf⟩
  refine ⟨I.os, I.bare, ⟨fun b o e n hb hx => stay b o (.inr ⟨o, e⟩) (away b (.inr ⟨o, e⟩) hb) (base.keep b o e n hb hx), fun b o e n hb hx => ?_, base.free, fun b o e hx => ?_, base.tups, base.frzs, base.tbls⟩, ?_, B, a0, fl, fun b hb hn => cov b hb (away b hb hn)⟩
  · obtain ⟨sl, e1⟩ := base.slot b o e n hb hx
    obtain ⟨ob, eb, nd⟩ := I.frameIn (inSt b hb)
    rw [e1] at eb
    cases eb
    obtain ⟨sl', e2⟩ := up b _ e1 nd
    exact ⟨sl', e2⟩
  · by_cases hb : b ∈ frs X.outer
    · obtain ⟨ob, eb, nd⟩ := I.frameIn (inSt b hb)
      obtain ⟨sl', e2⟩ := up b _ eb nd
      exact ⟨_, e2⟩
    · obtain ⟨o', e1⟩ := base.there b o e hx
      exact ⟨o', stay b o' (.inr ⟨o, e⟩) (away b (.inr ⟨o, e⟩) hb) e1⟩
  · exact I.hok.keptB fun b o u e q => stay b u (.inl ⟨o, e⟩) (fun hb => by rw [I.stkFree b hb] at e; cases e) q
theorem passC1 {P : Program} {w : World} {K : PySem.W.Frag} {mg : Str → Option Value} {base : Heap} {N : List Str} {qual : Str} {scope : Scope} {f : Addr} {cd : Value} {A : Around} {outer : List Env} {s : Shared} {H : Hp} {E : XK} :
    PassesC (cxOf (CX1 P w) P w K mg base N qual scope f cd A outer s H E) E := by
  intro pins σ H1 s1 a C B a0 I x cov q
  exact x.fly I inDef cov fun s'' F => ⟨a, C, H1, rfl, F, q⟩
theorem FunFrames.turn {h h' B B' : Heap} (kb : ∀ b, B.get? b = none → B'.get? b = none) : ∀ {l : List Env}, (∀ b ∈ frs l, h'.get? b = h.get? b) → h.FunFrames B l → h'.FunFrames B' l
  | [], _, _ => trivial
  | env :: r, k, ⟨x1, ⟨L, o, f1, f2, f3, f4⟩, x3⟩ => by
    have mem : ∀ b, b ∈ frs r → b ∈ frs (env :: r) := fun b hb => by
      unfold frs at hb ⊢
      obtain ⟨e', he, hf⟩ := List.mem_filterMap.mp hb
      exact List.mem_filterMap.mpr ⟨e', List.mem_cons_of_mem _ he, hf⟩
    have mL : L ∈ frs (env :: r) := List.mem_filterMap.mpr ⟨env, List.mem_cons_self, f1⟩
    exact ⟨x1, ⟨L, o, f1, kb L f2, (k L mL).trans f3, f4⟩, FunFrames.turn kb (fun b hb => k b (mem b hb)) x3⟩
section
variable {X : Cx} {pins : List (Addr × Obj)} {σ : St} {scope : Scope} {own : List Str} {fre : List (Nat × Str)} {elt tg iter : Expr} {ifs : List Expr} {pos : Pos} {wi : TI} {g : TG} {tt : TT} {te : TE}
theorem pe_lcompX {E' : XK} (hx : PassesC X E') (hD : InDef X) (hc : X.calm = true) (S : CompScope X.N X.env.scope scope own fre) (hi : PI X tg iter wi)
    (hg : ∀ cl C s₂ H₂ fp, PG (cxC X (own ++ fre.map (·.2)) scope cl C s₂ H₂ fp) tg g) (ht : ∀ cl C s₂ H₂ fp, PTs (cxC X (own ++ fre.map (·.2)) scope cl C s₂ H₂ fp) ifs tt)
    (he : ∀ W cl C s₂ H₂ fp, PassesS ((cxC X (own ++ fre.map (·.2)) scope cl C s₂ H₂ fp).alt X.A X.calm [] W) (fun _ => E') → PE ((cxC X (own ++ fre.map (·.2)) scope cl C s₂ H₂ fp).alt X.A X.calm [] W) elt te)
    (hs : ∀ x, foldedSetIterable iter X.env x = pure x := by intro _; rfl) : PE X (.ListComp elt [⟨tg, iter, ifs, 0⟩] scope pos) (tComp own.length fre wi g tt te) := by
  intro pins s σ H Q I h
  rw [eval_ListComp]
  refine wpAny_comprehension_free (use := none) rfl hs (closureFor_clos (I.clos_cells S)) S.kind S.locs (thn (hi pins s σ H _ I h) fun v s1 h1 => thn h1 fun itv s2 h2 => ?_)
  obtain ⟨it, fp, tn, J, H2, e, I2, T, st2, f2, turns⟩ := h2
  subst e
  refine comp_blockX (E' := E') (RR := fun acc C => compPost (model X.prog X.w) X.A X.xe none (EP X pins σ Q) acc C) hc S I2 T st2 f2 hg ht he ?err turns ?_
  case err =>
    intro D C hC pins8 σ8 H8 s8 a Cl H9 s9 I8 F q
    obtain ⟨B, a0, fl, cov⟩ := F.fly
    have fl' := fl
    rw [hD.stk] at fl'
    have hfr : X.A.frames = some (X.env :: X.outer) := by rw [I2.ok.frames, hD.stk]
    show wpAny _ X.A (noteFrame (.ref a) X.env) _ _ s9
    refine wpAny_looks_onW hfr hD.fr fl' fun h4 held4 up4 => ?_
    have J4 := F.inv I8 fl.1 cov held4.1 up4
    obtain ⟨m4, ns4, _⟩ := J4.loc
    have nC : H9 C = none := J4.free
    have Cfr : C ∉ frs X.stack := fun z => by
      obtain ⟨o, eo, _⟩ := I2.frameIn z
      exact absurd (Heap.lt_size eo) (Nat.not_lt.mpr hC)
    refine ⟨m4, ns4, fun h5 sb cenv _ => ?_⟩
    rw [← hD.stk] at held4
    obtain ⟨kb4, na4, ff4, oe, vs, T0, oT, ts, he4, hcl4, hd4, h14, nT4, Ta4, hT4, dT4, h34⟩ := held4
    have hB : ∀ b, B.get? b = none → (PySem.W.hideAll B [C]).get? b = none := fun b hb => by
      cases hq : (PySem.W.hideAll B [C]).get? b with
      | none => rfl
      | some o => rw [PySem.W.of_hideAll _ hq] at hb; cases hb
    have hin : ∀ b o, (PySem.W.hideAll B [C]).get? b = some o → b ≠ C ∧ B.get? b = some o := fun b o hb => ⟨fun z => by
      rw [z, PySem.W.hideAll_none [C] (by simp)] at hb
      exact absurd hb nofun, PySem.W.of_hideAll _ hb⟩
    obtain ⟨oC, es, ep, hoC, hdC, _⟩ := ns4
    have aC : a ≠ C := by
      rintro rfl
      have z := hoC.symm.trans he4
      cases z
      rw [hdC] at hd4
      cases hd4
    have TC : T0 ≠ C := by
      rintro rfl
      have z := hoC.symm.trans hT4
      cases z
      rw [hdC] at dT4
      cases dT4
    have lay5 : Lay (PySem.W.hideAll B [C]) X.stack a Cl a0 h5 := ⟨fun b o hb => (sb.2 b (hin b o hb).1).trans (kb4 b o (hin b o hb).2), hB a na4, FunFrames.turn hB (fun b hb => sb.2 b fun z => Cfr (z ▸ hb)) ff4, _, oe, vs, T0, oT, ts, (sb.2 a aC).trans he4, hcl4, hd4, h14, hB T0 nT4, Ta4, (sb.2 T0 TC).trans hT4, dT4, h34⟩
    refine Lay.pass (s := { s9 with heap := h5 }) lay5 fun h6 lay6 up6 => ?_
    have covB : ∀ b, ((∃ o, H9 b = some o) ∨ ∃ o, s8.heap.get? b = some o) → b ∉ frs X.stack → b ≠ C → ∃ o, (PySem.W.hideAll B [C]).get? b = some o := fun b hb hn nb => by
      obtain ⟨o, eo⟩ := cov b hb hn
      exact ⟨o, PySem.W.hideAll_get _ eo (by simpa using nb)⟩
    have stay : ∀ b u, ((∃ o, H9 b = some o) ∨ ∃ o, s8.heap.get? b = some o) → b ∉ frs X.stack → b ≠ C → h4.get? b = some u → h6.get? b = some u := fun b u hc hb nb e => by
      obtain ⟨o, eo⟩ := covB b hc hb nb
      have z := (lay5.1 b o eo).symm.trans ((sb.2 b nb).trans e)
      cases z
      exact lay6.1 b u eo
    have base4 : Un (frs X.stack) fp H2 H9 s2.heap h4 := J4.base
    have base8 : Un (frs X.stack) fp H2 H8 s2.heap s8.heap := I8.base
    have ltC : ∀ b o, s2.heap.get? b = some o → b ≠ C := fun b o e z => absurd (Heap.lt_size e) (Nat.not_lt.mpr (z ▸ hC))
    have fr4 : ∀ b, b ∈ frs X.stack → ∃ o, h4.get? b = some o ∧ ∀ us, o.data ≠ .fields us := fun b hb => J4.frameIn hb
    have fr9 : ∀ b, b ∈ frs X.stack → H9 b = none := fun b hb => J4.stkFree b hb
    have I6 : Inv X pins σ H9 { s9 with heap := h6 } := by
      refine I2.call' (s' := { s9 with heap := h6 }) (ch := fp) (J4.os) ⟨fun b o e n hb hx => ?_, fun b o e n hb hx => ?_, base4.free, fun b o e hx => ?_, base4.tups, base4.frzs, base4.tbls⟩ ?_ J4.bare fun b hb => ?_
      · obtain ⟨o8, e8⟩ := base8.there b o e hx
        exact stay b o (.inr ⟨o8, e8⟩) hb (ltC b o e) (base4.keep b o e n hb hx)
      · obtain ⟨sl, e1⟩ := base4.slot b o e n hb hx
        obtain ⟨ob, eb, nd⟩ := fr4 b hb
        rw [e1] at eb
        cases eb
        obtain ⟨sl', e2⟩ := up6 b _ ((sb.2 b (ltC b o e)).trans e1) nd
        exact ⟨sl', e2⟩
      · by_cases hb : b ∈ frs X.stack
        · obtain ⟨ob, eb, nd⟩ := fr4 b hb
          obtain ⟨sl', e2⟩ := up6 b _ ((sb.2 b (ltC b o e)).trans eb) nd
          exact ⟨_, e2⟩
        · obtain ⟨o8, e8⟩ := base8.there b o e hx
          obtain ⟨o4, e4⟩ := base4.there b o e hx
          exact ⟨o4, stay b o4 (.inr ⟨o8, e8⟩) hb (ltC b o e) e4⟩
      · have k4 : HOk X.prog X.w H9 h4 := J4.hok
        exact k4.keptB fun b o u e q => stay b u (.inl ⟨o, e⟩) (fun hb => by rw [fr9 b hb] at e; cases e) (fun z => by rw [z, nC] at e; cases e) q
      · obtain ⟨_, f1, _, f3, f4, f5⟩ := f2 b hb
        exact ⟨f3, f1, f4, f5⟩
    refine hx pins σ H9 _ a Cl _ a0 I6 lay6 (fun b hb hn => ?_) q
    rcases hb with ⟨o, e⟩ | ⟨o, e⟩
    · exact covB b (.inl ⟨o, e⟩) hn fun z => by rw [z, nC] at e; cases e
    · obtain ⟨o2, e2⟩ := I2.base.there b o e (by rw [hD.ex]; simp)
      have nfp : b ∉ fp := fun z => by
        obtain ⟨_, _, _, f3, _⟩ := f2 b z
        rcases f3 with y | y
        · rw [hD.ex] at y; cases y
        · exact absurd (Heap.lt_size e) (Nat.not_lt.mpr y)
      obtain ⟨o8, e8⟩ := base8.there b o2 e2 nfp
      exact covB b (.inr ⟨o8, e8⟩) hn (ltC b o2 e2)
  intro D C s' H' ys its m hD' hC hDC Io nD nC oD nsC rv hlen fin
  refine ⟨m, nsC, fun h' hs' => ?_⟩
  have J1 : Inv X pins σ H' { s' with heap := h', toks := s'.toks } := Io.chg (ch := [C]) (fun b hb => by
    have e : b = C := by simpa using hb
    rw [e]; exact I2.fpOk hC nC) fun b o hb e => hs'.extBut _ _ (by simpa using hb) e
  have J2 := J1.track (o := .lst ys) (I2.fpOk hD' nD) ⟨hlen, its, _, rv, hs'.extBut _ _ hDC oD⟩
  exact ⟨.ref D, _, J2, rfl, fin D nD⟩
end
end L2

namespace L2
open PySem PySem.Spec PyProof.Rows
/-! ### tuples of numbers: in a list, lists of them compared; list.index -/
def TsAt (H : Hp) (ts : List Addr) (yss : List (List Int)) : Prop := ts.length = yss.length ∧ ∀ (i : Nat) t ys, ts[i]? = some t → yss[i]? = some ys → H t = some (.tup (ys.map V.int))
theorem TsAt.same {H H' : Hp} {ts : List Addr} {yss : List (List Int)} (s : Same H H') (h : TsAt H ts yss) : TsAt H' ts yss := ⟨h.1, fun i t p e1 e2 => s _ _ (h.2 i t p e1 e2)⟩
theorem ref_valsT : ∀ {ts : List Addr} {us : List Value}, Vals (ts.map V.ref) us → us = ts.map Value.ref
  | [], us, r => by
    have := r.length
    cases us with
    | nil => rfl
    | cons _ _ => simp at this
  | t :: ts, us, r => by
    cases us with
    | nil => have := r.length; simp at this
    | cons u us =>
      obtain ⟨u0, e0, q0⟩ := r.get (i := 0) (x := .ref t) rfl
      cases e0
      have e : u = .ref t := q0
      rw [e, ref_valsT (ts := ts) (us := us) (by cases r; assumption)]
      rfl
theorem ints_inj : ∀ {xs ys : List Int}, xs.map V.int = ys.map V.int → xs = ys
  | [], [], _ => rfl
  | [], _ :: _, h => by simp at h
  | _ :: _, [], h => by simp at h
  | x :: xs, y :: ys, h => by
    rw [List.map_cons, List.map_cons] at h
    injection h with h1 h2
    injection h1 with h1
    rw [h1, ints_inj h2]
section
variable {X : Cx} {pins : List (Addr × Obj)} {σ : St} {H : Hp} {s : Shared} {K : PySem.W.Frag}
/-- two tuples of numbers -/
theorem eq_tups (I : Inv X pins σ H s) {A : Around} (hu : A.units < cLine) {t a : Addr} {xs ys : List Int} (h1 : H t = some (.tup (xs.map V.int))) (h2 : H a = some (.tup (ys.map V.int))) : SeqAt.EqAt A s (.ref t) (.ref a) (decide (xs = ys)) := by
  by_cases hta : t = a
  · subst hta
    rw [h1] at h2
    injection h2 with h2
    injection h2 with h2
    rw [decide_eq_true (ints_inj h2)]
    exact .same _
  · obtain ⟨us, r1, l1⟩ := tupAt I h1
    obtain ⟨zs, r2, l2⟩ := tupAt I h2
    have e1 := r1.length
    have e2 := r2.length
    rw [List.length_map] at e1 e2
    have q := SeqAt.RcAt.tuples (A := A) (s := s) (e := fun j => decide (xs[j]? = ys[j]?)) l1 l2 hu (fun j z1 z2 => by simpa using eq_items (A := A.in1) (s := s) r1 r2 j (by simpa using z1) (by simpa using z2))
    have er : ((List.range (min us.toArray.size zs.toArray.size)).all (fun j => decide (xs[j]? = ys[j]?)) && (us.toArray.size == zs.toArray.size)) = decide (xs = ys) := by
      rw [List.size_toArray, List.size_toArray, ← e1, ← e2]
      by_cases hl : xs.length = ys.length
      · rw [← hl, Nat.min_self, all_eqI hl, beq_self_eq_true, Bool.and_true]
      · rw [decide_eq_false (fun z => hl (by rw [z])), Bool.and_eq_false_iff]
        exact .inr (by simpa using hl)
    rw [er] at q
    exact .of_refs hta q
def rInT (neg : Bool) : R2 := fun x y H Q => ∃ (a l : Addr) (xs : List Int) (ts : List Addr) (yss : List (List Int)), x = .ref a ∧ y = .ref l ∧ H a = some (.tup (xs.map V.int)) ∧ H l = some (.lst (ts.map V.ref)) ∧ TsAt H ts yss ∧ Q (.bl (if neg then !decide (xs ∈ yss) else decide (xs ∈ yss))) H
open Classical in
theorem inT_at (I : Inv X pins σ H s) (hu : X.A.units + 64 < cLine) {a : Addr} {xs : List Int} {ts : List Addr} {yss : List (List Int)} (h1 : H a = some (.tup (xs.map V.int))) (h3 : TsAt H ts yss) :
    ∃ e : Value → Bool, (∀ y, y ∈ ts.map Value.ref → SeqAt.EqAt X.A.in1 s y (.ref a) (e y)) ∧ (ts.map Value.ref).any e = decide (xs ∈ yss) := by
  refine ⟨fun y => decide (∃ (i : Nat) (t : Addr), ts[i]? = some t ∧ y = .ref t ∧ yss[i]? = some xs), fun y hy => ?_, ?_⟩
  · obtain ⟨t, ht, rfl⟩ := List.mem_map.mp hy
    obtain ⟨i, hi, e⟩ := List.mem_iff_getElem.mp ht
    have e1 : ts[i]? = some t := by rw [List.getElem?_eq_getElem hi, e]
    have hi2 : i < yss.length := by rw [← h3.1]; exact hi
    have ht2 := h3.2 i t _ e1 (List.getElem?_eq_getElem hi2)
    have ev : decide (∃ (i : Nat) (t' : Addr), ts[i]? = some t' ∧ (Value.ref t) = .ref t' ∧ yss[i]? = some xs) = decide (yss[i] = xs) := by
      congr 1; apply propext
      constructor
      · rintro ⟨j, t', z1, z2, z3⟩
        injection z2 with z2
        subst z2
        have := h3.2 j t xs z1 z3
        rw [ht2] at this
        injection this with this
        injection this with this
        exact ints_inj this
      · intro z
        exact ⟨i, t, e1, rfl, by rw [List.getElem?_eq_getElem hi2, z]⟩
    show SeqAt.EqAt X.A.in1 s (.ref t) (.ref a) (decide (∃ (i : Nat) (t' : Addr), ts[i]? = some t' ∧ (Value.ref t) = .ref t' ∧ yss[i]? = some xs))
    rw [ev]
    have q := eq_tups I (A := X.A.in1) (by show X.A.units + 1 < cLine; omega) ht2 h1
    exact q
  · apply Bool.eq_iff_iff.mpr
    rw [List.any_eq_true]
    simp only [decide_eq_true_iff]
    constructor
    · rintro ⟨y, _, i, t, e1, _, e3⟩
      exact List.mem_of_getElem? e3
    · intro hm
      obtain ⟨i, hi, e⟩ := List.mem_iff_getElem.mp hm
      have hi2 : i < ts.length := by rw [h3.1]; exact hi
      exact ⟨.ref ts[i], List.mem_map.mpr ⟨_, List.getElem_mem hi2, rfl⟩, i, ts[i], List.getElem?_eq_getElem hi2, rfl, by rw [List.getElem?_eq_getElem hi, e]⟩
theorem op_inT (hu : X.A.units + 64 < cLine) : OpR X (compareOp .In) (rInT false) := by
  intro pins s σ H x y v u Q I rx ry h
  obtain ⟨a, l, p, ts, ps, rfl, rfl, h1, h2, h3, k⟩ := h
  cases (show v = Value.ref a from rx)
  cases (show u = Value.ref l from ry)
  obtain ⟨its, r', pl⟩ := lstAt I h2
  have e := ref_valsT r'
  subst e
  obtain ⟨e, he, ha⟩ := inT_at I hu h1 h3
  refine SeqAt.in_listAt e pl (fun y hy => he y (by simpa using hy)) ⟨.bl _, H, I, rfl, ?_⟩
  rw [List.any_toArray, ha]
  exact k
end
section
variable {H : Hp} {Q : VK}
theorem i_inT {neg : Bool} {a l : Addr} {xs : List Int} {ts : List Addr} {yss : List (List Int)} (h1 : H a = some (.tup (xs.map V.int))) (h2 : H l = some (.lst (ts.map V.ref))) (h3 : TsAt H ts yss) (k : Q (.bl (if neg then !decide (xs ∈ yss) else decide (xs ∈ yss))) H) : rInT neg (.ref a) (.ref l) H Q := ⟨a, l, xs, ts, yss, rfl, rfl, h1, h2, h3, k⟩
end
end L2

namespace L2
open PySem PySem.Spec PyProof.Rows
/-! ### zip of a list and a tuple -/
section
variable {X : Cx} {K : PySem.W.Frag} {es : List Expr} {kk : Nat} {tpos : Pos}
end
end L2

namespace L2
open PySem PySem.Spec PyProof.Rows
/-! ### any(list of bools) -/
section
variable {X : Cx} {K : PySem.W.Frag} {o e : Expr} {es : List Expr} {to : TE} {t : TA} {apos cpos : Pos}
def rAny (K : PySem.W.Frag) : List V → Hp → VK → Prop := fun xs H Q => ∃ (p : Addr) (bs : List Bool), xs = [.ref p] ∧ SqL K H p (bs.map V.bl) ∧ Q (.bl (bs.any id)) H
theorem range_any (bs : List Bool) : (List.range bs.length).any (fun i => bs.getD i false) = bs.any id := by
  induction bs with
  | nil => rfl
  | cons b r ih =>
    rw [List.length_cons, List.range_succ_eq_map, List.any_cons, List.any_map, List.any_cons]
    show (b || (List.range r.length).any _) = _
    rw [← ih]; rfl
theorem call_anyL (hc : X.calm = true) : CallR X (.builtin "any") (rAny X.K) := by
  intro pins s σ H xs us Q I r h
  obtain ⟨p, bs, rfl, hp, q⟩ := h
  obtain ⟨u1, rfl, r1⟩ := vals1 r
  cases (show u1 = Value.ref p from r1)
  obtain ⟨its, rv, pl, hz⟩ := I.list hp
  have e := vals_bl rv
  subst e
  have hlt : p < s.heap.objs.size := by obtain ⟨_, e, _⟩ := pl.isList; exact Heap.lt_size e
  refine call_any_walk (wpAny_pyIter_list pl.isList ?_)
  refine ⟨s.heap.objs.size, _, _, _, _, _, fun i => bs.getD i false, rfl, Walks.list (A := X.A.in1) (show X.A.in1.handled = none from I.ok.hd hc) _ p (Nat.ne_of_lt hlt) (bs.map Value.bool).toArray, ⟨⟨_, Heap.get?_push_size _ rfl, rfl, rfl⟩, pl.isList.push _⟩, ?_, fun h' tk hk => ?_⟩
  · intro i v A' Q' E' hv hq
    have hv' : (bs.map Value.bool)[i]? = some v := by simpa using hv
    rw [List.getElem?_map] at hv'
    cases e : bs[i]? with
    | none => rw [e] at hv'; cases hv'
    | some b =>
      rw [e] at hv'
      cases hv'
      refine wpAny_truthy_bool ?_
      have : bs.getD i false = b := by rw [List.getD_eq_getElem?_getD, e]; rfl
      replace hq : Q' (bs.getD i false) A' := hq
      rw [this] at hq
      exact hq
  · have e : (List.range (bs.map Value.bool).toArray.size).any (fun i => bs.getD i false) = bs.any id := by
      rw [List.size_toArray, List.length_map]; exact range_any bs
    rw [e]
    refine ⟨.bl _, H, I.kept (t' := tk) fun b o hb => hk b o ?_ (Heap.get?_push_of_some _ hb), rfl, q⟩
    intro hm
    have z' : b = s.heap.objs.size := by simpa using hm
    exact absurd (Heap.lt_size hb) (by rw [z']; exact Nat.lt_irrefl _)
theorem cAny (h : X.K = K) (hc : X.calm = true) : CallR X (.builtin "any") (rAny K) := by subst h; exact call_anyL hc
end
end L2

namespace L2
open PySem PySem.Spec PyProof.Rows
/-! ### J. min of three, insert, == of tuples of ints, name op= e -/
theorem bb_any : bootBuiltins "any" = some (.builtin "any") := by decide +kernel
section
variable {X : Cx} {K : PySem.W.Frag}
def min3 (a b c : Int) : Int := if b < a then (if c < b then c else b) else (if c < a then c else a)
def rMin3 : List V → Hp → VK → Prop := fun xs H Q => ∃ i j k, xs = [.int i, .int j, .int k] ∧ Q (.int (min3 i j k)) H
end
section
variable {σ : St} {H : Hp} {Q : VK} {K : PySem.W.Frag} {D : Ends}
theorem i_min3 {i j k : Int} (q : Q (.int (min3 i j k)) H) : rMin3 [.int i, .int j, .int k] H Q := ⟨i, j, k, rfl, q⟩
theorem i_aug {i : Nat} {te : TE} {ti : TIp} {x : V} (h : σ[i]? = some (some x)) (q : te σ H fun y H1 => ti x y H1 fun z H2 => D.nx (σ.set i (some z)) H2) : tAug i te ti D σ H := ⟨x, h, q⟩
theorem i_ip {f : Int → Int → Int} {i j : Int} (q : Q (.int (f i j)) H) : ipI f (.int i) (.int j) H Q := ⟨i, j, rfl, rfl, q⟩
theorem i_par {i j : Nat} {ta : TA} (q : ta σ H fun vs H1 => ∃ v w, vs = [v, w] ∧ D.nx ((σ.set i (some v)).set j (some w)) H1) : tPar i j ta D σ H := q
theorem i_two {a b : V} {R : V → V → Prop} (q : R a b) : ∃ v w, [a, b] = [v, w] ∧ R v w := ⟨a, b, rfl, q⟩
end
end L2

namespace L2
open PySem PySem.Spec PyProof.Rows
section
variable {κ : Type} [DecidableEq κ]
def valV (kvs : List (κ × V)) (k : κ) : Option V := (kvs.find? fun kv => decide (kv.1 = k)).map (·.2)
def putK (kvs : List (κ × V)) (k : κ) (v : V) : List (κ × V) :=
  if (kvs.any fun kv => decide (kv.1 = k)) = true then kvs.map (fun kv => if kv.1 = k then (kv.1, v) else kv) else kvs ++ [(k, v)]
def dropK (kvs : List (κ × V)) (k : κ) : List (κ × V) := kvs.filter fun kv => decide (kv.1 ≠ k)

theorem valV_pos {p : κ × V} {r : List (κ × V)} {k : κ} (e : p.1 = k) : valV (p :: r) k = some p.2 := by simp [valV, List.find?_cons, e]
theorem valV_neg {p : κ × V} {r : List (κ × V)} {k : κ} (e : ¬ p.1 = k) : valV (p :: r) k = valV r k := by simp [valV, List.find?_cons, e]
theorem valV_any (k : κ) : ∀ kvs : List (κ × V), (kvs.any fun kv => decide (kv.1 = k)) = (valV kvs k).isSome
  | [] => rfl
  | p :: r => by
    rw [List.any_cons]
    by_cases e : p.1 = k
    · simp only [valV_pos e, decide_eq_true e, Bool.true_or, Option.isSome_some]
    · rw [valV_neg e, decide_eq_false e, Bool.false_or]; exact valV_any k r
theorem length_putK (kvs : List (κ × V)) (k : κ) (v : V) : (putK kvs k v).length ≤ kvs.length + 1 := by
  unfold putK
  split
  · rw [List.length_map]; omega
  · rw [List.length_append, List.length_cons, List.length_nil]; omega
theorem RelO.isSome_eq {o : Option V} {u : Option Value} (r : RelO o u) : o.isSome = u.isSome := by
  cases o with
  | none => cases u with
    | none => rfl
    | some _ => exact (show False from r).elim
  | some _ => cases u with
    | none => exact (show False from r).elim
    | some _ => rfl
theorem RelO.getD {o : Option V} {u : Option Value} {d : V} {d' : Value} (r : RelO o u) (rd : RelV d d') : RelV (o.getD d) (u.getD d') := by
  cases o with
  | none => cases u with
    | none => exact rd
    | some _ => exact (show False from r).elim
  | some _ => cases u with
    | none => exact (show False from r).elim
    | some _ => exact r

theorem KV.val {kvs : List (κ × V)} {vs : List (κ × Value)} (r : KV kvs vs) (k : κ) : RelO (valV kvs k) (valueAt vs k) := by
  unfold KV at r
  induction r with
  | nil => exact True.intro
  | @cons p q ps qs h t ih =>
    obtain ⟨h1, h2⟩ := h
    by_cases e : p.1 = k
    · have e' : q.1 = k := h1.symm.trans e
      have b : valueAt (q :: qs) k = some q.2 := by simp [valueAt, List.find?_cons, e']
      rw [valV_pos e, b]; exact h2
    · have e' : ¬ q.1 = k := fun z => e (h1.trans z)
      have b : valueAt (q :: qs) k = valueAt qs k := by simp [valueAt, List.find?_cons, e']
      rw [valV_neg e, b]; exact ih
theorem KV.any {kvs : List (κ × V)} {vs : List (κ × Value)} (r : KV kvs vs) (k : κ) : (kvs.any fun kv => decide (kv.1 = k)) = vs.any fun kv => decide (kv.1 = k) := by
  unfold KV at r
  induction r with
  | nil => rfl
  | cons h t ih => rw [List.any_cons, List.any_cons, ih, h.1]
theorem KV.repl {kvs : List (κ × V)} {vs : List (κ × Value)} (r : KV kvs vs) (k : κ) {y : V} {u : Value} (ry : RelV y u) :
    KV (kvs.map fun kv => if kv.1 = k then (kv.1, y) else kv) (vs.map fun kv => if kv.1 = k then (kv.1, u) else kv) := by
  unfold KV at r ⊢
  induction r with
  | nil => exact .nil
  | @cons p q ps qs h t ih =>
    rw [List.map_cons, List.map_cons]
    refine .cons ?_ ih
    obtain ⟨h1, h2⟩ := h
    by_cases e : p.1 = k
    · rw [if_pos e, if_pos (h1.symm.trans e)]; exact ⟨h1, ry⟩
    · rw [if_neg e, if_neg (fun z => e (h1.trans z))]; exact ⟨h1, h2⟩
theorem KV.put {kvs : List (κ × V)} {vs : List (κ × Value)} (r : KV kvs vs) (k : κ) {y : V} {u : Value} (ry : RelV y u) : KV (putK kvs k y) (stored vs k u) := by
  unfold putK stored
  rw [r.any k]
  by_cases e : (vs.any fun kv => decide (kv.1 = k)) = true
  · rw [if_pos e, if_pos e]; exact r.repl k ry
  · rw [if_neg e, if_neg e]; exact Paired.snoc r ⟨rfl, ry⟩
theorem KV.drop {kvs : List (κ × V)} {vs : List (κ × Value)} (r : KV kvs vs) (k : κ) : KV (dropK kvs k) (without vs k) := by
  unfold KV at r ⊢
  unfold dropK without
  induction r with
  | nil => exact .nil
  | @cons p q ps qs h t ih =>
    obtain ⟨h1, h2⟩ := h
    rw [List.filter_cons, List.filter_cons]
    by_cases e : p.1 = k
    · have a : ¬ decide (p.1 ≠ k) = true := by simp [e]
      have b : ¬ decide (q.1 ≠ k) = true := by simp [h1.symm.trans e]
      rw [if_neg a, if_neg b]; exact ih
    · have e' : ¬ q.1 = k := fun z => e (h1.trans z)
      have a : decide (p.1 ≠ k) = true := by simp [e]
      have b : decide (q.1 ≠ k) = true := by simp [e']
      rw [if_pos a, if_pos b]; exact .cons ⟨h1, h2⟩ ih
theorem KV.keys {kvs : List (κ × V)} {vs : List (κ × Value)} (r : KV kvs vs) : kvs.map (·.1) = vs.map (·.1) := by
  unfold KV at r
  induction r with
  | nil => rfl
  | cons h t ih => rw [List.map_cons, List.map_cons, ih, h.1]
theorem KV.length {kvs : List (κ × V)} {vs : List (κ × Value)} (r : KV kvs vs) : kvs.length = vs.length := Paired.length r
end


theorem kV_is {P : Program} {w : World} {k : Key} {u : Value} (r : RelV (kV k) u) : (mixKind P w).is k u = true := by
  cases k with
  | inl i => obtain ⟨t, e⟩ := (show ∃ t, u = Value.int i t from r); subst e; exact mixKind_int P w i t
  | inr x => obtain ⟨t, e⟩ := (show ∃ t, u = Value.str x t from r); subst e; exact mixKind_str P w x t
theorem items_are {P : Program} {w : World} : ∀ {ks : List Key} {us : List Value}, Vals (ks.map kV) us → ItemsAre (mixKind P w) ks us
  | [], _, r => by rw [List.map_nil] at r; cases r; exact .nil
  | k :: ks, _, r => by
    rw [List.map_cons] at r
    cases r with
    | cons h t => exact .cons (kV_is h) (items_are t)

abbrev KT (H : Hp) : List (List Key × V) → List (List Key × Addr × Value) → Prop := Paired fun p q => p.1 = q.1 ∧ H q.2.1 = some (.tup (p.1.map kV)) ∧ RelV p.2 q.2.2
theorem KT.val {H : Hp} {kvs : List (List Key × V)} {xs : List (List Key × Addr × Value)} (r : KT H kvs xs) (k : List Key) : RelO (valV kvs k) ((atKey xs k).map (·.2)) := by
  induction r with
  | nil => exact True.intro
  | @cons p q ps qs h t ih =>
    obtain ⟨h1, _, h2⟩ := h
    by_cases e : p.1 = k
    · have e' : q.1 = k := h1.symm.trans e
      have b : atKey (q :: qs) k = some q.2 := by simp [atKey, List.find?_cons, e']
      rw [valV_pos e, b]; exact h2
    · have e' : ¬ q.1 = k := fun z => e (h1.trans z)
      have b : atKey (q :: qs) k = atKey qs k := by simp [atKey, List.find?_cons, e']
      rw [valV_neg e, b]; exact ih
theorem KT.repl {H : Hp} {kvs : List (List Key × V)} {xs : List (List Key × Addr × Value)} (r : KT H kvs xs) (k : List Key) {y : V} {u : Value} (ry : RelV y u) :
    KT H (kvs.map fun kv => if kv.1 = k then (kv.1, y) else kv) (xs.map (putAt k u)) := by
  induction r with
  | nil => exact .nil
  | @cons p q ps qs h t ih =>
    rw [List.map_cons, List.map_cons]
    refine .cons ?_ ih
    obtain ⟨h1, h2, h3⟩ := h
    unfold putAt
    by_cases e : p.1 = k
    · rw [if_pos e, if_pos (h1.symm.trans e)]; exact ⟨h1, h2, ry⟩
    · rw [if_neg e, if_neg (fun z => e (h1.trans z))]; exact ⟨h1, h2, h3⟩
theorem KT.put {H : Hp} {kvs : List (List Key × V)} {xs : List (List Key × Addr × Value)} (r : KT H kvs xs) (k : List Key) {b : Addr} {y : V} {u : Value} (hb : H b = some (.tup (k.map kV))) (ry : RelV y u) :
    KT H (putK kvs k y) (storedH xs k b u) := by
  have e : (kvs.any fun kv => decide (kv.1 = k)) = (atKey xs k).isSome := by
    rw [valV_any, (r.val k).isSome_eq, Option.isSome_map]
  unfold putK storedH
  rw [e]
  by_cases q : (atKey xs k).isSome = true
  · rw [if_pos q, if_pos q]; exact r.repl k ry
  · rw [if_neg q, if_neg q]; exact Paired.snoc r ⟨rfl, hb, ry⟩
theorem KT.keeps {H H' : Hp} {kvs : List (List Key × V)} {xs : List (List Key × Addr × Value)} (r : KT H kvs xs) (ht : ∀ b ys, H b = some (.tup ys) → H' b = some (.tup ys)) : KT H' kvs xs :=
  Paired.mapP r fun _ _ z => ⟨z.1, ht _ _ z.2.1, z.2.2⟩

section
variable {P : Program} {w : World} {H : Hp} {h : Heap} {a : Addr}
theorem rd_of {u : HO} (ok : HOk P w H h) (e : Rd H a u) : ObjOk P w H h a u := e.ok ok
theorem dk_rd {kvs : List (Key × V)} (ok : HOk P w H h) (e : Rd H a (.dK kvs)) : kvs.length ≤ sizeLine ∧ (a == sysModules) = false ∧ ∃ vs, KV kvs vs ∧ h.DictOf (mixKind P w) a vs :=
  show ObjOk P w H h a (.dK kvs) from rd_of ok e
theorem dk_of {kvs : List (Key × V)} (ok : HOk P w H h) (e : H a = some (.dK kvs)) : kvs.length ≤ sizeLine ∧ (a == sysModules) = false ∧ ∃ vs, KV kvs vs ∧ h.DictOf (mixKind P w) a vs := dk_rd ok (.inl e)
theorem key_of {ks : List Key} (ok : HOk P w H h) (e : H a = some (.tup (ks.map kV))) : (tupleKind (mixKind P w)).is h ks a := by
  obtain ⟨_, its, r, o, h1, h2, n, h3⟩ := (show ObjOk P w H h a (.tup (ks.map kV)) from ok a _ e)
  exact ⟨o, its.toArray, n, h1, h2, h3, by simpa using items_are r⟩
theorem dt_rd {kvs : List (List Key × V)} (ok : HOk P w H h) (e : Rd H a (.dT kvs)) : kvs.length ≤ sizeLine ∧ (a == sysModules) = false ∧
    ∃ xs, KT H kvs xs ∧ h.DictOfH (tupleKind (mixKind P w)) a xs := by
  obtain ⟨z, y, xs, r, o, es, ep, h1, h2, h3, h4, h5⟩ := (show ObjOk P w H h a (.dT kvs) from rd_of ok e)
  refine ⟨z, y, xs, r, o, es, ep, h1, h2, h3, h4, fun x hx => ?_, h5⟩
  have all : ∀ {l : List (List Key × V)} {m : List (List Key × Addr × Value)}, KT H l m → ∀ x ∈ m, (tupleKind (mixKind P w)).is h x.1 x.2.1 := by
    intro l m q
    induction q with
    | nil => intro x hx; exact nomatch hx
    | @cons p q ps qs hq t ih =>
      intro x hx
      rcases List.mem_cons.mp hx with e | hx
      · subst e
        exact key_of ok (by rw [← hq.1]; exact hq.2.1)
      · exact ih x hx
  exact all r x hx
end

def DGet (H : Hp) (a : Addr) (y : V) (r : Option V) : Prop :=
  (∃ kvs k, Rd H a (.dK kvs) ∧ y = kV k ∧ r = valV kvs k) ∨ ∃ kvs k b, Rd H a (.dT kvs) ∧ y = .ref b ∧ H b = some (.tup (k.map kV)) ∧ r = valV kvs k
def DPut (H : Hp) (a : Addr) (y v : V) (H' : Hp) : Prop :=
  (∃ kvs k, H a = some (.dK kvs) ∧ y = kV k ∧ kvs.length < sizeLine ∧ H' = upd H a (.dK (putK kvs k v))) ∨
  ∃ kvs k b, H a = some (.dT kvs) ∧ y = .ref b ∧ H b = some (.tup (k.map kV)) ∧ kvs.length < sizeLine ∧ H' = upd H a (.dT (putK kvs k v))
theorem DGet.k {H : Hp} {a : Addr} {kvs : List (Key × V)} {k : Key} (e : H a = some (.dK kvs)) : DGet H a (kV k) (valV kvs k) := .inl ⟨kvs, k, .inl e, rfl, rfl⟩
theorem DGet.t {H : Hp} {a b : Addr} {kvs : List (List Key × V)} {k : List Key} (e : H a = some (.dT kvs)) (eb : H b = some (.tup (k.map kV))) : DGet H a (.ref b) (valV kvs k) := .inr ⟨kvs, k, b, .inl e, rfl, eb, rfl⟩
theorem DPut.k {H : Hp} {a : Addr} {kvs : List (Key × V)} {k : Key} {v : V} (e : H a = some (.dK kvs)) (hl : kvs.length < sizeLine) : DPut H a (kV k) v (upd H a (.dK (putK kvs k v))) := .inl ⟨kvs, k, e, rfl, hl, rfl⟩
theorem DPut.t {H : Hp} {a b : Addr} {kvs : List (List Key × V)} {k : List Key} {v : V} (e : H a = some (.dT kvs)) (eb : H b = some (.tup (k.map kV))) (hl : kvs.length < sizeLine) :
    DPut H a (.ref b) v (upd H a (.dT (putK kvs k v))) := .inr ⟨kvs, k, b, e, rfl, eb, hl, rfl⟩


section
variable {X : Cx} {pins : List (Addr × Obj)} {σ : St} {H : Hp} {s : Shared} {a : Addr} {y v : V} {u r : Value} {o : Option V} {A : Around} {E : Value → Shared → Prop}

theorem Inv.big (I : Inv X pins σ H s) : sysModules < s.heap.objs.size := by
  have h : mainGlobals < s.heap.objs.size := (I.mod.glob.keeps I.bk).lt
  exact Nat.lt_trans (by decide) h

theorem d_notIn {Q : Value → Shared → Prop} (hu : A.units + 1 < cLine) (I : Inv X pins σ H s) (g : DGet H a y o) (ry : RelV y u) (h : ∀ s', Inv X pins σ H s' → Q (.bool (!o.isSome)) s') :
    wpAny (model X.prog X.w) A (compareOp .NotIn u (.ref a)) Q E s := by
  rcases g with ⟨kvs, k, e, ey, l⟩ | ⟨kvs, k, b, e, ey, eb, l⟩
  · subst ey
    obtain ⟨z, hd, vs, rel, dd⟩ := dk_rd I.hok e
    refine wpAny_notIn_of (kV_is ry) hd dd.mapOf ?_
    rw [← (rel.val k).isSome_eq, ← l]
    exact h _ (I.tok _)
  · subst ey
    cases (show u = Value.ref b from ry)
    obtain ⟨z, hd, xs, rel, dd⟩ := dt_rd I.hok e
    refine wpAny_notIn_heap (tupleKind_room_in1 hu) (key_of I.hok eb) hd dd ?_
    have q := (rel.val k).isSome_eq
    rw [Option.isSome_map] at q
    rw [← q, ← l]
    exact h _ (I.tok _)
theorem d_write {h' : Heap} {t' : Nat} {ob : HO} (I : Inv X pins σ H s) (mu : Mut (H a)) (hs : Heap.SameBut a s.heap h') (he : ∃ q, h'.get? a = some q) (new : ObjOk X.prog X.w (upd H a ob) h' a ob) :
    Inv X pins σ (upd H a ob) { s with heap := h', toks := t' } :=
  I.write (x := a) (e := a) mu (.inl rfl) (fun b q hb z => (hs.2 b hb).trans z) he new
theorem dk_new {P : Program} {w : World} {H' : Hp} {h' : Heap} {kvs : List (Key × V)} {vs : List (Key × Value)} (z : kvs.length ≤ sizeLine) (hd : (a == sysModules) = false) (rel : KV kvs vs) (dd : h'.DictOf (mixKind P w) a vs) :
    ObjOk P w H' h' a (.dK kvs) := ⟨z, hd, vs, rel, dd⟩
end

section
variable {X : Cx} {pins : List (Addr × Obj)} {σ : St} {H : Hp} {s : Shared} {a : Addr} {kvs : List (Key × V)} {k : Key} {u : Value} {A : Around} {E : Value → Shared → Prop}
end


def NoSl (i : Expr) : Prop := ∀ ov iv, subscripted i false ov iv = operate [ov, iv] (getItem ov iv)
theorem subD_of {prog : Program} {w : World} {A : Around} {E : Value → Shared → Prop} {s : Shared} {env : Env} {value slice : Expr} {pos : Pos} {T id : String} {Q : Value → Shared → Prop}
    (hl : typeLookup (.type T) "__getitem__" = pure (some (.builtin id))) (hs : NoSl slice)
    (h : wpAny (model prog w) A (eval value env) (fun o s₁ => wpAny (model prog w) A (eval slice env) (fun i s₂ => s₂.TypeIs o T ∧ wpAny (model prog w) A (getItem o i) Q E s₂) E s₁) E s) :
    wpAny (model prog w) A (eval (.Subscript value slice pos) env) Q E s := by
  refine Subscript_ (wpAny_mono h (fun o s₁ h₁ => wpAny_mono h₁ (fun i s₂ h₂ => ?_) fun _ _ x => x) fun _ _ x => x)
  obtain ⟨hT, h₂⟩ := h₂
  unfold subscriptTail
  refine wpAny_bind ?_
  rw [getitemInPython_of_ne hT.not_modules]
  refine wpAny_bind (wpAny_specialOf hT hl ?_)
  have fin : wpAny (model prog w) A (subscripted slice false o i) (fun r s₃ => wpAny (model prog w) A (letTemporaryGo value o r >>= fun _ => pure r) Q E s₃) E s₂ := by
    rw [hs o i]
    exact wpAny_operating (wpAny_mono h₂ (fun r s₃ h₃ => wpAny_bind (wpAny_letTemporaryGo (wpAny_pure h₃))) fun _ _ x => x)
  first
    | exact wpAny_pure (wpAny_bind fin)
    | exact wpAny_bind (wpAny_pure (wpAny_bind fin))
    | exact wpAny_bind fin

def tDGet (td ty : TE) : TE := fun σ H Q => td σ H fun x H1 => ty σ H1 fun y H2 => ∃ a v, x = .ref a ∧ DGet H2 a y (some v) ∧ Q v H2
def tDIn (ty td : TE) : TE := fun σ H Q => ty σ H fun y H1 => td σ H1 fun x H2 => ∃ a o, x = .ref a ∧ DGet H2 a y o ∧ Q (.bl o.isSome) H2
def tDNotIn (ty td : TE) : TE := fun σ H Q => ty σ H fun y H1 => td σ H1 fun x H2 => ∃ a o, x = .ref a ∧ DGet H2 a y o ∧ Q (.bl (!o.isSome)) H2
def sDPut (td ty tv : TE) : TS := fun D σ H => tv σ H fun v H1 => td σ H1 fun x H2 => ty σ H2 fun y H3 => ∃ a H4, x = .ref a ∧ DPut H3 a y v H4 ∧ D.nx σ H4
section
variable {X : Cx} {o i e value : Expr} {pos pos' tpos : Pos} {td ty tv : TE}
theorem pc_dnotin (hu : X.A.units + 1 < cLine) (hi : PE X i ty) (ho : PE X o td) : PC X .NotIn i o (tDNotIn ty td) := by
  intro pins s σ H Q I h
  refine thn (hi pins s σ H _ I h) fun iv s1 ⟨y, H1, I1, ry, q1⟩ => thn (ho pins s1 σ H1 _ I1 q1) fun u s2 ⟨x, H2, I2, rx, a, ov, ex, g, q2⟩ => ?_
  subst ex
  obtain rfl : u = Value.ref a := rx
  exact d_notIn hu I2 g ry fun s3 I3 => ⟨.bl (!ov.isSome), H2, I3, rfl, q2⟩
end


theorem dk_empty {P : Program} {w : World} {H : Hp} (h : Heap) (hb : sysModules < h.objs.size) : ObjOk P w H (h.push { cls := .type "dict", data := .dict #[] }) h.objs.size (.dK []) :=
  ⟨Nat.zero_le _, beq_eq_false_iff_ne.mpr (Ne.symm (Nat.ne_of_lt hb)), [], .nil, Heap.DictOf.new h⟩
section
variable {X : Cx} {pos : Pos}
end

def tPairs : List (TE × TE) → St → Hp → (List (V × V) → Hp → Prop) → Prop
  | [], _, H, Q => Q [] H
  | (tk, tv) :: r, σ, H, Q => tk σ H fun x H1 => tv σ H1 fun y H2 => tPairs r σ H2 fun ps H3 => Q ((x, y) :: ps) H3
abbrev VV : List (V × V) → List (Value × Value) → Prop := Paired fun p q => RelV p.1 q.1 ∧ RelV p.2 q.2
def PPs (X : Cx) (pos : Pos) (keys : List (Option Expr)) (values : List Expr) (trs : List (TE × TE)) : Prop :=
  ∀ (pins : List (Addr × Obj)) (s : Shared) (σ : St) (H : Hp) (Q : List (V × V) → Hp → Prop), Inv X pins σ H s → tPairs trs σ H Q →
    wpAny (model X.prog X.w) X.A (evalPairs (pairTrees keys values X.env pos)) (fun vs s' => ∃ ps H', Inv X pins σ H' s' ∧ VV ps vs ∧ Q ps H') X.xe s
theorem pps_nil {X : Cx} {pos : Pos} : PPs X pos [] [] [] := fun pins s σ H Q I h => pairTrees_nil_walk ⟨[], H, I, .nil, h⟩
theorem pps_cons {X : Cx} {pos : Pos} {k v : Expr} {ks : List (Option Expr)} {vs : List Expr} {tk tv : TE} {trs : List (TE × TE)} (hk : PE X k tk) (hv : PE X v tv) (hr : PPs X pos ks vs trs) :
    PPs X pos (some k :: ks) (v :: vs) ((tk, tv) :: trs) := fun pins s σ H Q I h =>
  pairTrees_cons_walk (thn (hk pins s σ H _ I h) fun u s1 ⟨x, H1, I1, rx, q1⟩ => thn (hv pins s1 σ H1 _ I1 q1) fun w2 s2 ⟨y, H2, I2, ry, q2⟩ =>
    thn (hr pins s2 σ H2 _ I2 q2) fun ws s3 ⟨ps, H3, I3, rel, q3⟩ => ⟨(x, y) :: ps, H3, I3, .cons ⟨rx, ry⟩ rel, q3⟩)

def mergeK (kvs more : List (Key × V)) : List (Key × V) := more.foldl (fun acc kv => putK acc kv.1 kv.2) kvs
theorem KV.merge : ∀ {more : List (Key × V)} {rs : List (Key × Value)} {kvs : List (Key × V)} {vs : List (Key × Value)}, KV more rs → KV kvs vs → KV (mergeK kvs more) (merged vs rs) := by
  intro more rs kvs vs r
  unfold KV at r
  induction r generalizing kvs vs with
  | nil => intro q; exact q
  | @cons p q ps qs h t ih =>
    intro r0
    have e : KV (putK kvs p.1 p.2) (stored vs q.1 q.2) := by
      have := r0.put p.1 h.2
      rw [← h.1]; exact this
    exact ih e
theorem length_mergeK : ∀ (more kvs : List (Key × V)), (mergeK kvs more).length ≤ kvs.length + more.length
  | [], kvs => by show kvs.length ≤ kvs.length + 0; omega
  | p :: r, kvs => by
    have h1 := length_mergeK r (putK kvs p.1 p.2)
    have h2 := length_putK kvs p.1 p.2
    show (mergeK (putK kvs p.1 p.2) r).length ≤ _
    rw [List.length_cons]; omega
theorem carries_of {P : Program} {w : World} : ∀ {kvs : List (Key × V)} {ws : List (Value × Value)}, VV (kvs.map fun kv => (kV kv.1, kv.2)) ws → ∃ rs, Carries (mixKind P w) ws rs ∧ KV kvs rs
  | [], _, r => by rw [List.map_nil] at r; cases r; exact ⟨[], True.intro, .nil⟩
  | p :: kvs, _, r => by
    rw [List.map_cons] at r
    cases r with
    | @cons a b as bs h t =>
      obtain ⟨rs, c, q⟩ := carries_of (P := P) (w := w) t
      obtain ⟨b1, b2⟩ := b
      exact ⟨(p.1, b2) :: rs, ⟨kV_is h.1, rfl, c⟩, .cons ⟨rfl, h.2⟩ q⟩
def tDisp (trs : List (TE × TE)) : TE := fun σ H Q => ∀ p, H p = none → tPairs trs σ (upd H p (.dK [])) fun ps H2 => H2 p = some (.dK []) ∧ ∃ kvs : List (Key × V), ps = kvs.map (fun kv => (kV kv.1, kv.2)) ∧ kvs.length ≤ 15 ∧ Q (.ref p) (upd H2 p (.dK (mergeK [] kvs)))
theorem pe_disp {X : Cx} {pos : Pos} {keys : List (Option Expr)} {values : List Expr} {trs : List (TE × TE)} (h : PPs X pos keys values trs) (hall : keys.all (·.isSome) = true) (hl : keys.length = values.length) (h0 : keys ≠ [])
    (h15 : keys.length ≤ 15) : PE X (.Dict keys values pos) (tDisp trs) := by
  intro pins s σ H Q I q
  have hn := I.hok.fresh (Nat.le_refl s.heap.objs.size)
  have I1 := I.laid (a := s.heap.objs.size) (o := .dK []) (h' := s.heap.push { cls := .type "dict", data := .dict #[] }) (t' := s.toks) (fun _ _ q => Heap.get?_push_of_some _ q) (Nat.le_refl _) (dk_empty s.heap I.big)
  refine wpAny_Dict_walk (knd := mixKind X.prog X.w) hall hl h0 h15 (thn (h pins _ σ _ _ I1 (q _ hn)) fun ws s2 ⟨ps, H2, I2, rel, e, kvs, ep, lk, q2⟩ => ?_)
  subst ep
  obtain ⟨rs, c, rk⟩ := carries_of (P := X.prog) (w := X.w) rel
  obtain ⟨z, hd, vs0, r0, dd⟩ := dk_of I2.hok e
  cases r0
  refine ⟨rs, c, dd, fun h' dd' hs => ⟨.ref s.heap.objs.size, _, ?_, rfl, q2⟩⟩
  have hz : (mergeK [] kvs).length ≤ sizeLine := by
    have h1 := length_mergeK kvs []
    rw [List.length_nil] at h1
    rw [sizeLine_eq]; omega
  have he : ∃ q, h'.get? s.heap.objs.size = some q := let ⟨q, _, _, hq, _⟩ := dd'; ⟨q, hq⟩
  exact d_write I2 (by rw [e]; exact True.intro) hs he (dk_new hz hd (rk.merge .nil) dd')


structure M1 (X : Cx) (o : Expr) (m : Str) (apos : Pos) (e : Expr) (cpos : Pos) : Prop where
  base : attributeBase o m X.env (eval o X.env) = eval o X.env
  few : ((backTo cpos (starEach [e] X.env)).all (fun x => !x.1) && (backToKw cpos (keywordEach [] X.env)).all (fun x => x.1.isSome)
    && decide (([e] : List Expr).length + ([] : List Keyword).length + (if ([] : List Keyword).isEmpty then 0 else 1) < 30)) = true
  line : (apos.endLine == cpos.line) = true
  trees : backTo cpos (starEach [e] X.env) = [(false, eval e X.env)]
structure M2 (X : Cx) (o : Expr) (m : Str) (apos : Pos) (e f : Expr) (cpos : Pos) : Prop where
  base : attributeBase o m X.env (eval o X.env) = eval o X.env
  few : ((backTo cpos (starEach [e, f] X.env)).all (fun x => !x.1) && (backToKw cpos (keywordEach [] X.env)).all (fun x => x.1.isSome)
    && decide (([e, f] : List Expr).length + ([] : List Keyword).length + (if ([] : List Keyword).isEmpty then 0 else 1) < 30)) = true
  line : (apos.endLine == cpos.line) = true
  trees : backTo cpos (starEach [e, f] X.env) = [(false, eval e X.env), (false, eval f X.env)]

def IsD (H : Hp) (a : Addr) : Prop := (∃ kvs, Rd H a (.dK kvs)) ∨ ∃ kvs, Rd H a (.dT kvs)
theorem isD_at {X : Cx} {pins : List (Addr × Obj)} {σ : St} {H : Hp} {s : Shared} {a : Addr} (I : Inv X pins σ H s) (d : IsD H a) :
    s.TypeIs (.ref a) "dict" ∧ (∀ b, Value.ref a = .ref b → ∃ ob, s.heap.get? b = some ob ∧ ob.dict = none) ∧ (a == sysModules) = false := by
  rcases d with ⟨kvs, e⟩ | ⟨kvs, e⟩
  · obtain ⟨_, hd, vs, _, dd⟩ := dk_rd I.hok e
    refine ⟨dd.typeIs, fun b q => ?_, hd⟩
    cases q
    obtain ⟨ob, _, _, h1, h2, _⟩ := dd
    exact ⟨ob, h1, h2.2.1⟩
  · obtain ⟨_, hd, xs, _, dd⟩ := dt_rd I.hok e
    refine ⟨dd.typeIs, fun b q => ?_, hd⟩
    cases q
    obtain ⟨ob, _, _, h1, h2, _⟩ := dd
    exact ⟨ob, h1, h2.2.1⟩

section
variable {X : Cx} {pins : List (Addr × Obj)} {σ : St} {H : Hp} {s : Shared} {a : Addr} {y d : V} {u r : Value} {o : Option V} {A : Around} {E : Value → Shared → Prop}
theorem d_get2 {Q : Value → Shared → Prop} (hu : A.units + 1 < cLine) (I : Inv X pins σ H s) (g : DGet H a y o) (ry : RelV y u) (rd : RelV d r) (h : ∀ w' s', Inv X pins σ H s' → RelV (o.getD d) w' → Q w' s') :
    wpAny (model X.prog X.w) A (call (.builtin "dict.get") [.ref a, u, r]) Q E s := by
  rcases g with ⟨kvs, k, e, ey, l⟩ | ⟨kvs, k, b, e, ey, eb, l⟩
  · subst ey
    obtain ⟨z, hd, vs, rel, dd⟩ := dk_rd I.hok e
    refine call_meetsIn PySem.F.slot_dict_get dd.typeIs PySem.F.entry_dict_get (PySem.F.args_dict_get_3 _ _ _) (meets_dict_get_default (mixKind X.prog X.w) a (kV_is ry) hd r) ⟨_, dd.mapOf, h _ _ (I.tok _) ?_⟩
    rw [l]
    exact (rel.val k).getD rd
  · subst ey
    cases (show u = Value.ref b from ry)
    obtain ⟨z, hd, xs, rel, dd⟩ := dt_rd I.hok e
    refine call_meetsIn PySem.F.slot_dict_get dd.typeIs PySem.F.entry_dict_get (PySem.F.args_dict_get_3 _ _ _) (meetsH_dict_get_default (tupleKind (mixKind X.prog X.w)) a b hd r) ⟨tupleKind_room_in1 hu, k, xs, key_of I.hok eb, dd, h _ _ (I.tok _) ?_⟩
    rw [l]
    exact (rel.val k).getD rd
end

def tDGet1 (td ty : TE) : TE := fun σ H Q => td σ H fun x H1 => ∃ a, x = .ref a ∧ IsD H1 a ∧ ty σ H1 fun y H2 => ∃ o, DGet H2 a y o ∧ Q (o.getD .non) H2
def tDGet2 (td ty tx : TE) : TE := fun σ H Q => td σ H fun x H1 => ∃ a, x = .ref a ∧ IsD H1 a ∧ ty σ H1 fun y H2 => tx σ H2 fun z H3 => ∃ o, DGet H3 a y o ∧ Q (o.getD z) H3
section
variable {X : Cx} {o e f : Expr} {apos cpos : Pos} {td ty tx : TE}
theorem pe_dget2 (hu : X.A.units + 1 < cLine) (ho : PE X o td) (he : PE X e ty) (hf : PE X f tx) (m : M2 X o "get" apos e f cpos) : PE X (.Call (.Attribute o "get" apos) [e, f] [] cpos) (tDGet2 td ty tx) := by
  intro pins s σ H Q I h
  refine wpAny_Call_method m.base m.few m.line PySem.F.plainAttrs_dict PySem.F.slot_dict_get PySem.F.type_dict_get (thn (ho pins s σ H _ I h) fun u s1 ⟨x, H1, I1, rx, a, ex, d, q1⟩ => ?_)
  subst ex
  obtain rfl : u = Value.ref a := rx
  obtain ⟨t1, t2, _⟩ := isD_at I1 d
  refine ⟨t1, t2, ?_⟩
  rw [m.trees]
  refine Calls.callWith_builtin rfl (Calls.evalArgs_plain (Calls.spliced_cons (thn (he pins s1 σ H1 _ I1 q1) fun iv s2 ⟨y, H2, I2, ry, q2⟩ =>
    Calls.spliced_cons (thn (hf pins s2 σ H2 _ I2 q2) fun fv s3 ⟨z, H3, I3, rz, ov, g, q3⟩ => Calls.spliced_nil ?_))))
  exact d_get2 hu I3 g ry rz fun w' s4 I4 rw' => ⟨_, H3, I4, rw', q3⟩
end

section
variable {X : Cx} {pins : List (Addr × Obj)} {σ : St} {H : Hp} {s : Shared} {a : Addr} {kvs : List (Key × V)} {A : Around} {E : Value → Shared → Prop}
end


section
variable {X : Cx} {pins : List (Addr × Obj)} {σ : St} {H : Hp} {s : Shared} {a : Addr} {y : V} {u : Value} {A : Around} {E : Value → Shared → Prop}
end
end L2

namespace Att
open PySem PySem.W PySem.Calls PyProof.Rows

section
variable {prog : Program} {w : World} {A : Around} {E : Value → Shared → Prop} {s : Shared} {K : Frag}

end
end Att

namespace L2
open PySem PySem.Spec PyProof.Rows

end L2

namespace L2
open PySem PySem.Spec PyProof.Rows

end L2

namespace L2
open PySem PySem.Spec PyProof.Rows

section
variable {P : Program} {w : World} {K : PySem.W.Frag} {mg : Str → Option Value} {base : Heap}
end
section
variable {X : Cx}
end

section
variable {κ : Type} [DecidableEq κ]
end
end L2


namespace L2
open PySem PySem.Spec PyProof.Rows
/-! ### dicts whose keys are tuples: {k: v}; steps -/
theorem hu1 {A : Around} (h : A.units + 64 < cLine) : A.units + 1 < cLine := by omega
section
variable {σ : St} {H : Hp} {Q : VK} {D : Ends}
theorem i_dget {td ty : TE} (q : td σ H fun x H1 => ty σ H1 fun y H2 => ∃ a v, x = .ref a ∧ DGet H2 a y (some v) ∧ Q v H2) : tDGet td ty σ H Q := q
theorem i_din {td ty : TE} (q : ty σ H fun y H1 => td σ H1 fun x H2 => ∃ a o, x = .ref a ∧ DGet H2 a y o ∧ Q (.bl o.isSome) H2) : tDIn ty td σ H Q := q
theorem i_dnotin {td ty : TE} (q : ty σ H fun y H1 => td σ H1 fun x H2 => ∃ a o, x = .ref a ∧ DGet H2 a y o ∧ Q (.bl (!o.isSome)) H2) : tDNotIn ty td σ H Q := q
theorem i_dput {td ty tv : TE} (q : tv σ H fun v H1 => td σ H1 fun x H2 => ty σ H2 fun y H3 => ∃ a H4, x = .ref a ∧ DPut H3 a y v H4 ∧ D.nx σ H4) : sDPut td ty tv D σ H := q
theorem i_dget1 {td ty : TE} (q : td σ H fun x H1 => ∃ a, x = .ref a ∧ IsD H1 a ∧ ty σ H1 fun y H2 => ∃ o, DGet H2 a y o ∧ Q (o.getD .non) H2) : tDGet1 td ty σ H Q := q
end
end L2

namespace L2
open PySem PySem.Spec PyProof.Rows
/-! ### a table of the top (words to defs), calls by a local name, the empty tuple -/
def TabK (K : PySem.W.Frag) (a : Addr) (D : List (Str × Addr)) : Prop := KTD.tabLook (fun (f : Addr) (v : Value) => v == Value.ref f) (fun b => K.lookup b) a D = true
section
variable {X : Cx} {pins : List (Addr × Obj)} {σ : St} {H : Hp} {s : Shared} {a : Addr} {D : List (Str × Addr)} {k : Str} {tk : Tok} {A : Around} {E : Value → Shared → Prop}
end
def tTab (K : PySem.W.Frag) (td ty : TE) : TE := fun σ H Q => td σ H fun x H1 => ty σ H1 fun y H2 => ∃ (a : Addr) (D : List (Str × Addr)) (k : Str) (f : Addr), x = .ref a ∧ TabK K a D ∧ y = .str k ∧ KTD.datumAt k D = some f ∧ Q (.ref f) H2
def tTabNot (K : PySem.W.Frag) (ty td : TE) : TE := fun σ H Q => ty σ H fun y H1 => td σ H1 fun x H2 => ∃ (a : Addr) (D : List (Str × Addr)) (k : Str), x = .ref a ∧ TabK K a D ∧ y = .str k ∧ Q (.bl (!(KTD.datumAt k D).isSome)) H2
def Cal1 (P : Program) (w : World) (K : PySem.W.Frag) (mg : Str → Option Value) (base : Heap) (f : Addr) (k : Nat) (ps : List Str) (sp : Sp) : Prop :=
  ∃ fd : FuncData, FnOk P w K mg base CX0 k f fd ps sp ∧ PySem.W.keepIn K (.ref f) = true ∧ Binds K fd ps []
def tCallL (P : Program) (w : World) (K : PySem.W.Frag) (mg : Str → Option Value) (base : Heap) (k : Nat) (tf : TE) (t : TA) : TE := fun σ H Q => tf σ H fun x H1 => ∃ (f : Addr) (ps : List Str) (sp : Sp), x = .ref f ∧ Cal1 P w K mg base f k ps sp ∧ t σ H1 fun vs H2 => sp (vs ++ []) H2 Q E0
section
variable {X : Cx} {K : PySem.W.Frag} {o i e : Expr} {es : List Expr} {pos p : Pos} {td ty tf : TE} {t : TA} {x : Str} {k : Nat}
end
section
variable {X : Cx} {K : PySem.W.Frag}
/-- a tuple against one without things -/
def rNoT (neg : Bool) : R2 := fun x y H Q => ∃ (p q : Addr) (xs : List V), x = .ref p ∧ y = .ref q ∧ H p = some (.tup xs) ∧ H q = some (.tup []) ∧ Q (.bl (if neg then !xs.isEmpty else xs.isEmpty)) H
theorem emp_sz {xs : List V} {us zs : List Value} (r1 : Vals xs us) (r2 : Vals [] zs) (f : Nat → Bool) : ((List.range (min us.toArray.size zs.toArray.size)).all f && (us.toArray.size == zs.toArray.size)) = xs.isEmpty := by
  have e1 := r1.length
  have e2 := r2.length
  rw [List.size_toArray, List.size_toArray, ← e1, ← e2]
  cases xs with
  | nil => rfl
  | cons x r => simp
theorem op_eqNoT (hu : X.A.units + 64 < cLine) : OpR X (compareOp .Eq) (rNoT false) := by
  intro pins s σ H x y v u Q I rx ry h
  obtain ⟨p, q, xs, rfl, rfl, h1, h2, k⟩ := h
  cases (show v = Value.ref p from rx)
  cases (show u = Value.ref q from ry)
  obtain ⟨us, r1, l1⟩ := tupAt I h1
  obtain ⟨zs, r2, l2⟩ := tupAt I h2
  refine SeqAt.RcAt.tuples (A := X.A) (s := s) (e := fun _ => true) l1 l2 (by omega) (fun j _ z2 => absurd z2 (by rw [List.size_toArray, ← r2.length]; exact Nat.not_lt_zero _)) X.prog X.w _ _ ?_
  rw [emp_sz r1 r2]
  exact ⟨.bl _, H, I, rfl, k⟩
/-- a list against one without things -/
def rNoL (neg : Bool) : R2 := fun x y H Q => ∃ (p q : Addr) (xs : List V), x = .ref p ∧ y = .ref q ∧ H p = some (.lst xs) ∧ H q = some (.lst []) ∧ Q (.bl (if neg then !xs.isEmpty else xs.isEmpty)) H
theorem op_eqNoL (hu : X.A.units + 64 < cLine) : OpR X (compareOp .Eq) (rNoL false) := by
  intro pins s σ H x y v u Q I rx ry h
  obtain ⟨p, q, xs, rfl, rfl, h1, h2, k⟩ := h
  cases (show v = Value.ref p from rx)
  cases (show u = Value.ref q from ry)
  obtain ⟨us, r1, l1⟩ := lstAt I h1
  obtain ⟨zs, r2, l2⟩ := lstAt I h2
  have e1 := r1.length
  have e2 := r2.length
  cases xs with
  | nil =>
    refine SeqAt.RcAt.lists (A := X.A) (s := s) (e := fun _ => true) l1 l2 (by simp [← e1, ← e2]) (by omega) (fun j _ z2 => absurd z2 (by rw [List.size_toArray, ← r2.length]; exact Nat.not_lt_zero _)) X.prog X.w _ _ ?_
    rw [List.size_toArray, ← e1]
    exact ⟨.bl true, H, I, rfl, k⟩
  | cons x r =>
    refine SeqAt.RcAt.lists_lengths l1 l2 (by simp [← e1, ← e2]) (by omega) X.prog X.w _ _ ?_
    exact ⟨.bl false, H, I, rfl, k⟩
/-- tuple + tuple, whichever is empty -/
def rCatU : R2 := fun x y H Q => ∃ (a b : Addr) (xs ys : List V), x = .ref a ∧ y = .ref b ∧ H a = some (.tup xs) ∧ H b = some (.tup ys) ∧ xs.length + ys.length ≤ sizeLine ∧ ∀ p H', Same H H' → H' p = some (.tup (xs ++ ys)) → Q (.ref p) H'
theorem op_catU : OpR X (binaryOp .Add) rCatU := by
  intro pins s σ H x y v u Q I rx ry h
  obtain ⟨a, b, xs, ys, rfl, rfl, ha, hb, hz, q⟩ := h
  cases (show v = Value.ref a from rx)
  cases (show u = Value.ref b from ry)
  obtain ⟨its, r1, p1, _⟩ := I.tuple (SqT.of ha)
  obtain ⟨jts, r2, p2, _⟩ := I.tuple (SqT.of hb)
  by_cases hx : xs = []
  · have e1 : its = [] := r1.nil_iff.mpr hx
    obtain ⟨⟨c1, d1, t1, l1⟩, ho1, hc1, n1, hd1⟩ := id p1
    obtain ⟨⟨c2, d2, t2, l2⟩, ho2, hc2, n2, hd2⟩ := id p2
    simp only at hc1 hd1 hc2 hd2
    subst hc1 hd1 hc2 hd2
    exact concat_meets ⟨_, ho1, rfl⟩ ⟨_, ho2, rfl⟩ noFill_tuple_add seq_tuple_add PySem.F.slot_tuple_add PySem.F.entry_tuple_add (PySem.F.args_tuple_add_2 _ _)
      (tuple_addW0 a b its.toArray jts.toArray n1 n2 d1 d2 l1 l2 (by simp [e1])) ⟨ho1, ho2, ⟨.ref b, H, I, rfl, q b H (Same.refl _) (by rw [hx]; exact hb)⟩⟩
  · refine HT.cat_tup p1 p2 (fun z => hx (r1.nil_iff.mp z)) (fun z => ⟨.ref a, H, I, rfl, q a H (Same.refl _) (by rw [r2.nil_iff.mp z, List.append_nil]; exact ha)⟩) (fun z => ?_) (by rw [← r1.length, ← r2.length]; exact hz)
    have hn := I.hok.fresh (Nat.le_refl s.heap.objs.size)
    refine ⟨.ref s.heap.objs.size, _, I.laid (t' := s.toks) (o := .tup (xs ++ ys)) (fun b ob q => Heap.get?_push_of_some _ q) (Nat.le_refl _) ?_, rfl, q _ _ (same_upd hn) upd_same⟩
    exact ⟨by rw [List.length_append]; exact hz, _, r1.append r2, IsTup.new _ _⟩
end
section
variable {σ : St} {H : Hp} {Q : VK} {K : PySem.W.Frag}
theorem i_tab {td ty : TE} (q : td σ H fun x H1 => ty σ H1 fun y H2 => ∃ (a : Addr) (D : List (Str × Addr)) (k : Str) (f : Addr), x = .ref a ∧ TabK K a D ∧ y = .str k ∧ KTD.datumAt k D = some f ∧ Q (.ref f) H2) : tTab K td ty σ H Q := q
theorem i_tabnot {td ty : TE} (q : ty σ H fun y H1 => td σ H1 fun x H2 => ∃ (a : Addr) (D : List (Str × Addr)) (k : Str), x = .ref a ∧ TabK K a D ∧ y = .str k ∧ Q (.bl (!(KTD.datumAt k D).isSome)) H2) : tTabNot K ty td σ H Q := q
theorem i_callL {P : Program} {w : World} {mg : Str → Option Value} {base : Heap} {k : Nat} {tf : TE} {t : TA} (q : tf σ H fun x H1 => ∃ (f : Addr) (ps : List Str) (sp : Sp), x = .ref f ∧ Cal1 P w K mg base f k ps sp ∧ t σ H1 fun vs H2 => sp (vs ++ []) H2 Q E0) : tCallL P w K mg base k tf t σ H Q := q
theorem i_noT {neg : Bool} {p q : Addr} {xs : List V} (h1 : H p = some (.tup xs)) (h2 : H q = some (.tup [])) (k : Q (.bl (if neg then !xs.isEmpty else xs.isEmpty)) H) : rNoT neg (.ref p) (.ref q) H Q := ⟨p, q, xs, rfl, rfl, h1, h2, k⟩
theorem i_noL {neg : Bool} {p q : Addr} {xs : List V} (h1 : H p = some (.lst xs)) (h2 : H q = some (.lst [])) (k : Q (.bl (if neg then !xs.isEmpty else xs.isEmpty)) H) : rNoL neg (.ref p) (.ref q) H Q := ⟨p, q, xs, rfl, rfl, h1, h2, k⟩
theorem i_slT {a : Addr} {xs : List V} {lo hi : Option Int} (h : SqT K H a xs) (n : ¬ (HT.sIx xs.length 0 lo = 0 ∧ HT.sIx xs.length xs.length hi = xs.length)) (q : ∀ p, H p = none → Q (.ref p) (upd H p (.tup (cutV xs lo hi)))) : rSlT K (.ref a) lo hi H Q := ⟨a, xs, rfl, h, n, q⟩
theorem i_catU {a b : Addr} {xs ys : List V} (h1 : H a = some (.tup xs)) (h2 : H b = some (.tup ys)) (hz : xs.length + ys.length ≤ sizeLine) (q : ∀ p H', Same H H' → H' p = some (.tup (xs ++ ys)) → Q (.ref p) H') : rCatU (.ref a) (.ref b) H Q := ⟨a, b, xs, ys, rfl, rfl, h1, h2, hz, q⟩
theorem i_dget2 {td ty tx : TE} (q : td σ H fun x H1 => ∃ a, x = .ref a ∧ IsD H1 a ∧ ty σ H1 fun y H2 => tx σ H2 fun z H3 => ∃ o, DGet H3 a y o ∧ Q (o.getD z) H3) : tDGet2 td ty tx σ H Q := q
theorem i_disp {trs : List (TE × TE)} (q : ∀ p, H p = none → tPairs trs σ (upd H p (.dK [])) fun ps H2 => H2 p = some (.dK []) ∧ ∃ kvs : List (Key × V), ps = kvs.map (fun kv => (kV kv.1, kv.2)) ∧ kvs.length ≤ 15 ∧ Q (.ref p) (upd H2 p (.dK (mergeK [] kvs)))) : tDisp trs σ H Q := q
end
/-! ### the kinds of data -/
def Dt.kd : Dt → String
  | .int _ => "int" | .bl _ => "bool" | .str _ => "str" | .non => "NoneType" | .lst _ => "list" | .tup _ => "tuple"
end L2

namespace L2
open PySem PySem.Spec PyProof.Rows
/-! ### tuple(range) -/
section
variable {prog : Program} {w : World} {A : Around} {E : Value → Shared → Prop} {s : Shared} {r : Addr} {a b c : Int} {t u v : Tok} {n : Nat}
end
section
variable {X : Cx}
end
end L2

namespace L2
open PySem PySem.Spec PyProof.Rows
/-! ### texts: str(int), sep.join(list), text.split(sep); a, *b = a list; tables of numbers -/
def txI (n : Int) : Str := Str.ofString (toString n)
section
variable {X : Cx} {K : PySem.W.Frag}
def rStrI : List V → Hp → VK → Prop := fun xs H Q => ∃ n : Int, xs = [.int n] ∧ n.natAbs < 2 ^ 1000 ∧ Q (.str (txI n)) H
theorem cStrI : CallR X (.type "str") rStrI := by
  intro pins s σ H xs us Q I r h
  obtain ⟨n, rfl, hn, q⟩ := h
  obtain ⟨u, rfl, t, rfl⟩ := vals1 r
  exact P.str_of_int (Nat.lt_trans (log2_lt_of hn (by decide)) (by decide)) ⟨.str _, H, I.tok _, ⟨_, rfl⟩, q⟩
theorem strs_vals : ∀ l : List (Str × Tok), Vals ((l.map (·.1)).map V.str) (strValues l)
  | [] => .nil
  | (x, t) :: r => .cons ⟨t, rfl⟩ (strs_vals r)
def rJoinS : V → List V → Hp → VK → Prop := fun x vs H Q => ∃ (sep : Str) (l : Addr) (ts : List Str), x = .str sep ∧ vs = [.ref l] ∧ H l = some (.lst (ts.map V.str)) ∧ JoinOk sep ts = true ∧ Q (.str (Txt.join sep ts)) H
theorem mt_joinS : MtR X "str.join" rJoinS := by
  intro pins s σ H x xs v us Q I rx rv h
  obtain ⟨sep, l, ts, rfl, rfl, hl, hok, q⟩ := h
  obtain ⟨t, rfl⟩ := rx
  obtain ⟨u, rfl, ru⟩ := vals1 rv
  cases ru
  obtain ⟨its, r, L⟩ := lstAt I hl
  obtain ⟨ps, rfl, rfl⟩ := vals_strs r
  exact SC.join L rfl hok fun t' k => ⟨.str _, H, I.tok _, ⟨_, rfl⟩, q⟩
def rSplit : V → List V → Hp → VK → Prop := fun x vs H Q => ∃ z y : Str, x = .str z ∧ vs = [.str y] ∧ (y.length == 0) = false ∧ z.length ≤ 100000 ∧ ∀ l, H l = none → Q (.ref l) (upd H l (.lst ((Txt.split z y).map V.str)))
theorem lst_strs {P : Program} {w : World} {H : Hp} {h : Heap} {l : List (Str × Tok)} {ts : List Str} (e : l.map (·.1) = ts) (hz : ts.length ≤ sizeLine) : ObjOk P w H (h.push { cls := .type "list", data := .seq (strValues l).toArray }) h.objs.size (.lst (ts.map V.str)) := by
  subst e
  exact ⟨by rw [List.length_map]; exact hz, _, 0, strs_vals l, Heap.get?_push_size _ rfl⟩
theorem mt_split : MtR X "str.split" rSplit := by
  intro pins s σ H x xs v us Q I rx rv h
  obtain ⟨z, y, rfl, rfl, hy, hz, q⟩ := h
  obtain ⟨t, rfl⟩ := rx
  obtain ⟨u, rfl, t', rfl⟩ := vals1 rv
  have hl := split_le z y
  have hls : (Txt.split z y).length ≤ sizeLine := Nat.le_trans hl (Nat.le_trans (show _ ≤ 100002 by omega) (by decide))
  have fin : ∀ (l : List (Str × Tok)) (tk : Nat), l.map (·.1) = Txt.split z y → EP X pins σ Q (.ref s.heap.objs.size) { s with heap := s.heap.push { cls := .type "list", data := .seq (strValues l).toArray }, toks := tk } := fun l tk e =>
    ⟨.ref s.heap.objs.size, _, I.laid (t' := tk) (fun b o q => Heap.get?_push_of_some _ q) (Nat.le_refl _) (lst_strs e hls), rfl, q _ (I.hok.fresh (Nat.le_refl _))⟩
  cases h1 : (decide (z.length < y.length) || decide (Builtin.Str.strKind z < Builtin.Str.strKind y)) with
  | true =>
    refine call_meets F.slot_str_split (typeIs_str s z t) F.entry_str_split (F.args_str_split_2 _ _) (meets_str_split_cannot_occur z y t t' h1) ?_
    exact fin [(z, t)] _ (if_pos h1).symm
  | false =>
    cases hf : (Builtin.Str.occurrences z y 0 z.length (z.length + 1)).isEmpty with
    | true =>
      refine call_meets F.slot_str_split (typeIs_str s z t) F.entry_str_split (F.args_str_split_2 _ _) (meets_str_split_not_found z y t t' h1 hy hf) ?_
      exact fin [(z, t)] _ ((if_neg (ne_true_of_eq_false h1)).trans (if_pos hf)).symm
    | false =>
      have e : Txt.split z y = Builtin.Str.partsBetween z (Builtin.Str.occurrences z y 0 z.length (z.length + 1)) y.length := (if_neg (ne_true_of_eq_false h1)).trans (if_neg (ne_true_of_eq_false hf))
      refine call_meets F.slot_str_split (typeIs_str s z t) F.entry_str_split (F.args_str_split_2 _ _) (meets_str_split_sep z y t t' h1 hy hf (Nat.le_trans hz (by decide)) (by rw [← e]; exact hls)) ?_
      rw [← e, strsFrom_eq]
      exact fin (numbered s.toks (Txt.split z y)) _ (numbered_texts _ _)
end
section
variable {X : Cx} {K : PySem.W.Frag} {o e : Expr} {es : List Expr} {to : TE} {t : TA} {apos cpos : Pos}
theorem mJoinS (h : X.K = K) (ho : PE X o to) (ha : PA X (e :: es) t) (hbase : attributeBase o "join" X.env (eval o X.env) = eval o X.env := by rfl)
    (hfew : ((backTo cpos (starEach (e :: es) X.env)).all (fun x => !x.1) && (backToKw cpos (keywordEach [] X.env)).all (fun x => x.1.isSome) && decide ((e :: es).length + ([] : List Keyword).length + (if ([] : List Keyword).isEmpty then 0 else 1) < 30)) = true := by rfl)
    (hline : (apos.endLine == cpos.line) = true := by rfl) (hs : starEach (e :: es) X.env = (false, eval e X.env) :: starEach es X.env := by rfl) (hplain : (backTo cpos (starEach es X.env)).any (·.1) = false := by rfl) :
    PE X (.Call (.Attribute o "join" apos) (e :: es) [] cpos) (tBM K "str" rJoinS to t) := by
  subst h
  exact pe_bm PySem.F.plainAttrs_str PySem.F.slot_str_join PySem.F.type_str_join mt_joinS ho ha hbase hfew hline hs hplain
theorem mSplit (h : X.K = K) (ho : PE X o to) (ha : PA X (e :: es) t) (hbase : attributeBase o "split" X.env (eval o X.env) = eval o X.env := by rfl)
    (hfew : ((backTo cpos (starEach (e :: es) X.env)).all (fun x => !x.1) && (backToKw cpos (keywordEach [] X.env)).all (fun x => x.1.isSome) && decide ((e :: es).length + ([] : List Keyword).length + (if ([] : List Keyword).isEmpty then 0 else 1) < 30)) = true := by rfl)
    (hline : (apos.endLine == cpos.line) = true := by rfl) (hs : starEach (e :: es) X.env = (false, eval e X.env) :: starEach es X.env := by rfl) (hplain : (backTo cpos (starEach es X.env)).any (·.1) = false := by rfl) :
    PE X (.Call (.Attribute o "split" apos) (e :: es) [] cpos) (tBM K "str" rSplit to t) := by
  subst h
  exact pe_bm PySem.F.plainAttrs_str PySem.F.slot_str_split PySem.F.type_str_split mt_split ho ha hbase hfew hline hs hplain
end
/-! a, *b = a list -/
section
variable {prog : Program} {w : World} {A : Around} {E : Value → Shared → Prop} {s : Shared}
theorem star_list {l : Addr} {items : Array Value} {Q : List Value → Shared → Prop} (hh : A.handled = none) (hl : s.heap.IsList l items) (h1 : 1 ≤ items.size) (hz : items.size ≤ 10000)
    (hQ : ∀ (h' : Heap) (tk : Nat), (∀ b o, b ≠ s.heap.objs.size → s.heap.get? b = some o → h'.get? b = some o) → wpAny (model prog w) A (newList (items.toList.drop 1) >>= fun d => pure (items.toList.take 1 ++ [d])) Q E { s with heap := h', toks := tk }) :
    wpAny (model prog w) A (unpackItems (.ref l) 2 (some 1)) Q E s := by
  have hlt : l ≠ s.heap.objs.size := by obtain ⟨o, ho, _⟩ := hl; exact Nat.ne_of_lt (Heap.lt_size ho)
  unfold unpackItems
  refine wpAny_bind ?_
  unfold notIterableAtAll
  refine wpAny_bind (wpAny_specialOf hl.typeIs PySem.F.slot_list_iter.lookup (wpAny_pure ?_))
  simp only [Bool.false_eq_true, if_false]
  refine wpAny_bind (wpAny_holding (wpAny_pyIter_list hl (wpAny_bind (wpAny_holding (draw_list hlt 1 0 _ _ ⟨_, Heap.get?_push_size _ rfl, rfl, rfl⟩ (hl.push _) (by omega) fun h2 hit2 hs2 => ?_)))))
  have hl2 : h2.IsList l items := (hl.push _).extBut hs2.extBut hlt
  obtain ⟨oi, hoi, _⟩ := id hit2
  obtain ⟨ol, hol, _⟩ := id hl2
  have ef : List.take 1 (List.drop 0 items.toList) = items.toList.take 1 := by rw [List.drop_zero]
  rw [ef]
  have hfl : (items.toList.take 1).length = 1 := by rw [List.length_take, Array.length_toList]; omega
  rw [if_neg (show ¬ ((items.toList.take 1).length < 1) by rw [hfl]; omega)]
  refine wpAny_bind (wpAny_holding (PySem.W.kun_collect (s := { s with heap := h2 }) (T := "list_iterator") (.inr (.inr (.inl rfl))) (Walks.list (A := A.in1) hh s.heap.objs.size l hlt items) (fun j u st => st.1.typeIs) (k := 1) h1 ⟨hit2, hl2⟩ (Heap.lt_size hoi) (Heap.lt_size hol) (fun h3 tk hk => ?_) (Nat.le_trans hz (by decide))))
  have hrl : (items.toList.drop 1).length = items.size - 1 := by rw [List.length_drop, Array.length_toList]
  show wpAny _ _ (if (items.toList.drop 1).length < 0 then _ else _) _ _ _
  rw [if_neg (Nat.not_lt_zero _)]
  have q := hQ h3 tk fun b o hb e => hk b o hb (hs2.extBut b o hb (Heap.get?_push_of_some _ e))
  show wpAny _ _ (newList ((items.toList.drop 1).take ((items.toList.drop 1).length - 0)) >>= fun d => pure (items.toList.take 1 ++ [d] ++ (items.toList.drop 1).drop ((items.toList.drop 1).length - 0))) _ _ _
  rw [Nat.sub_zero, List.take_of_length_le (Nat.le_refl _), List.drop_of_length_le (Nat.le_refl _)]
  simpa using q
end
section
variable {X : Cx} {K : PySem.W.Frag} {pos pos' : Pos}
def gStar (K : PySem.W.Frag) (t : TGs) : TG := fun v σ H Q => ∃ (a : Addr) (x : V) (xs : List V), v = .ref a ∧ SqL K H a (x :: xs) ∧ xs.length ≤ 5000 ∧ ∀ D, H D = none → t [x, .ref D] σ (upd H D (.lst xs)) Q
theorem pg_star {a b : Expr} {k : Nat} {t : TGs} (hc : X.calm = true) (h : PGs X [a, b] t) (hm : (assignEach [a, .Starred b pos'] X.env).map (·.2) = (assignEach [a, b] X.env).map (·.2) := by rfl)
    (hn : (assignEach [a, .Starred b pos'] X.env).length = 2 := by rfl) (hst : (assignEach [a, .Starred b pos'] X.env).findIdx? (·.1) = some 1 := by rfl) : PG X (.Tuple [a, .Starred b pos'] k pos) (gStar X.K t) := by
  intro pins s σ H v u Q I r hw
  obtain ⟨l, x, xs, e1, hq, hl, hw⟩ := hw
  subst e1
  cases r
  obtain ⟨its, rv, ht, hz⟩ := I.list hq
  have hlen := rv.length
  rw [List.length_cons] at hlen
  rw [assign_Tuple]
  refine wpAny_bind (wpAny_standAt ?_)
  unfold unpack
  rw [hst, hn, hm]
  refine wpAny_bind (wpAny_holding (star_list (I.ok.hd hc) ht.isList (by rw [List.size_toArray]; omega) (by rw [List.size_toArray]; omega) fun h' tk hk => ?_))
  have I1 : Inv X pins σ H { s with heap := h', toks := tk } := I.kept (t' := tk) fun b o e => hk b o (Nat.ne_of_lt (Heap.lt_size e)) e
  cases rv with
  | @cons _ u _ us r1 rv' =>
  refine wpAny_bind (wpAny_newObj_type (wpAny_pure ?_) ?_)
  · have hf : H h'.objs.size = none := I1.hok.fresh (Nat.le_refl _)
    have I2 := I1.laid (a := h'.objs.size) (t' := tk) (o := .lst xs) (h' := h'.push { cls := .type "list", data := .seq us.toArray }) (fun b o q => Heap.get?_push_of_some _ q) (Nat.le_refl _) ⟨Nat.le_trans hl (by decide), us, 0, rv', Heap.get?_push_size _ rfl⟩
    exact h pins _ σ _ [x, .ref h'.objs.size] [u, .ref h'.objs.size] Q I2 (.cons r1 (.cons rfl .nil)) (hw _ hf)
  · show us.toArray.size ≤ sizeLine
    have := rv'.length
    rw [List.size_toArray]
    exact Nat.le_trans (show us.length ≤ 5000 by omega) (by decide)
theorem pgStar {a b : Expr} {k : Nat} {t : TGs} (hK : X.K = K) (hc : X.calm = true) (h : PGs X [a, b] t) (hm : (assignEach [a, .Starred b pos'] X.env).map (·.2) = (assignEach [a, b] X.env).map (·.2) := by rfl)
    (hn : (assignEach [a, .Starred b pos'] X.env).length = 2 := by rfl) (hst : (assignEach [a, .Starred b pos'] X.env).findIdx? (·.1) = some 1 := by rfl) : PG X (.Tuple [a, .Starred b pos'] k pos) (gStar K t) := by subst hK; exact pg_star hc h hm hn hst
end
section
variable {σ : St} {H : Hp} {Q : VK} {K : PySem.W.Frag}
theorem i_strI {n : Int} (h : n.natAbs < 2 ^ 1000) (q : Q (.str (txI n)) H) : rStrI [.int n] H Q := ⟨n, rfl, h, q⟩
theorem i_joinS {sep : Str} {l : Addr} {ts : List Str} (hl : H l = some (.lst (ts.map V.str))) (hok : JoinOk sep ts = true) (q : Q (.str (Txt.join sep ts)) H) : rJoinS (.str sep) [.ref l] H Q := ⟨sep, l, ts, rfl, rfl, hl, hok, q⟩
theorem i_split {z y : Str} (hy : (y.length == 0) = false) (hz : z.length ≤ 100000) (q : ∀ l, H l = none → Q (.ref l) (upd H l (.lst ((Txt.split z y).map V.str)))) : rSplit (.str z) [.str y] H Q := ⟨z, y, rfl, rfl, hy, hz, q⟩
theorem i_star {t : TGs} {a : Addr} {x : V} {xs : List V} {N : St → Hp → Prop} (h : SqL K H a (x :: xs)) (hl : xs.length ≤ 5000) (q : ∀ D, H D = none → t [x, .ref D] σ (upd H D (.lst xs)) N) : gStar K t (.ref a) σ H N := ⟨a, x, xs, rfl, h, hl, q⟩
end
end L2

namespace L2
open PySem PySem.Spec PyProof.Rows
/-! ### words put together and parted again; numbers as they are written -/
theorem str_toList (a b : Str) : (a ++ b).cps.toList = a.cps.toList ++ b.cps.toList := by
  show (a.cps ++ b.cps).toList = _
  rw [Array.toList_append]
theorem join_txt (sep : Str) (ts : List Str) : Txt.join sep ts = Str.join sep ts := StrLaws.glued_eq_join sep ts
/-! numbers -/
theorem txI_list (m : Nat) : (txI (m : Int)).cps.toList = (Nat.toDigits 10 m).map Char.toNat := PySem.W.KIN.signs_num m
theorem dig_digits (m : Nat) : NumText.AllDigits ((Nat.toDigits 10 m).map Char.toNat) := by
  intro c hc
  obtain ⟨d, hd, rfl⟩ := List.mem_map.mp hc
  have := Nat.isDigit_of_mem_toDigits (by decide) (by decide) hd
  unfold Char.isDigit at this
  rw [Bool.and_eq_true, decide_eq_true_iff, decide_eq_true_iff] at this
  exact ⟨this.1, this.2⟩
end L2

namespace L2
open PySem PySem.Spec PyProof.Rows
/-! ### a table of the top: words to numbers -/
def isI (n : Int) : Value → Bool
  | .int m _ => m == n
  | _ => false
def TabI (K : PySem.W.Frag) (a : Addr) (D : List (Str × Int)) : Prop := KTD.tabLook isI (fun b => K.lookup b) a D = true
abbrev TabIH (h : Heap) (a : Addr) (D : List (Str × Int)) : Prop := KTD.TabOf (fun (n : Int) (v : Value) => ∃ t, v = Value.int n t) h a D
section
variable {X : Cx} {pins : List (Addr × Obj)} {σ : St} {H : Hp} {s : Shared} {a : Addr} {D : List (Str × Int)} {k : Str} {tk : Tok} {A : Around} {E : Value → Shared → Prop}
theorem tabIH_of (I : Inv X pins σ H s) (t : TabI X.K a D) : TabIH s.heap a D :=
  KTD.tab_of_look (fun d v e => by
    cases v with
    | int m t => exact ⟨t, by rw [eq_of_beq (show (m == d) = true from e)]⟩
    | _ => cases e) (fun b o e => I.kIn b o e) t
theorem tabIH_ty (T : TabIH s.heap a D) : s.TypeIs (.ref a) "dict" := by
  obtain ⟨_, o, _, _, ho, hc, _⟩ := T
  exact ⟨o, ho, hc.1⟩
theorem tabI_get {Q : Option Value → Shared → Prop} (T : TabIH s.heap a D) (q1 : ∀ n t, KTD.datumAt k D = some n → Q (some (.int n t)) { s with toks := s.toks + 1 }) (q2 : KTD.datumAt k D = none → Q none { s with toks := s.toks + 1 }) : wpAny (model X.prog X.w) A (dictGet a (.str k tk)) Q E s := by
  obtain ⟨_, o, es, ep, ho, hc, hd, hr⟩ := T
  unfold dictGet
  try with_reducible refine wpAny_holding ?_
  refine wpAny_bind (wpAny_pyHash_str (wpAny_bind (KTD.kt_dictFind_strs (s := { s with toks := s.toks + 1 }) ho hd (by obtain ⟨l⟩ := es; simpa using hr.exact) ?_)))
  have q : Q (findBy (fun k v => v.isStr k) es k) { s with toks := s.toks + 1 } := by
    have z1 : findBy (fun k v => v.isStr k) es k = (es.toList.find? fun e => e.key.isStr k).map (·.val) := by obtain ⟨l⟩ := es; simp [findBy]
    rw [z1]
    cases hat : KTD.datumAt k D with
    | none => rw [hr.find_none hat]; exact q2 hat
    | some n => obtain ⟨v, hv, t, rfl⟩ := hr.find_some hat; rw [hv]; exact q1 n t hat
  rw [findBy_of_findIdx?] at q
  cases hi : es.findIdx? fun e => e.key.isStr k with
  | some i => rw [hi] at q; exact wpAny_bind (wpAny_dictEntries (s := { s with toks := s.toks + 1 }) ho hd (wpAny_pure q))
  | none => rw [hi] at q; exact wpAny_pure q
theorem tabI_item {Q : Value → Shared → Prop} {n : Int} (T : TabIH s.heap a D) (e : KTD.datumAt k D = some n) (q : ∀ t, Q (.int n t) { s with toks := s.toks + 1 }) : wpAny (model X.prog X.w) A (getItem (.ref a) (.str k tk)) Q E s := by
  have ty := tabIH_ty T
  unfold getItem
  try with_reducible refine wpAny_holding ?_
  refine wpAny_bind (wpAny_sequenceKey ty (by decide) ?_)
  refine wpAny_bind (wpAny_callSpecial?_slot (name := Str.ofString "__getitem__") ty slot_dict_getitem (wpAny_call_entry slot_dict_getitem ty entry_dict_getitem ?_ (args_dict_getitem _ _)))
  show wpAny _ _ (dictGet a (.str k tk) >>= _) _ _ s
  refine wpAny_bind (tabI_get (X := X) T (fun m t em => ?_) fun em => by rw [e] at em; cases em)
  rw [e] at em
  cases em
  exact wpAny_pure ⟨_, rfl, wpAny_pure (q t)⟩
theorem tabI_has {Q : Bool → Shared → Prop} (T : TabIH s.heap a D) (q : Q (KTD.datumAt k D).isSome { s with toks := s.toks + 1 }) : wpAny (model X.prog X.w) A (contains (.ref a) (.str k tk)) Q E s := by
  have ty := tabIH_ty T
  unfold contains
  try with_reducible refine wpAny_holding ?_
  refine wpAny_bind (wpAny_specialOf ty slot_dict_contains.lookup ?_)
  show wpAny _ _ (if (some (Value.builtin "dict.__contains__") == some Value.none) = true then _ else _) _ E s
  rw [if_neg (by rw [beq_builtin_none]; exact Bool.false_ne_true)]
  refine wpAny_bind (wpAny_callSpecialUnlessNone?_slot (name := Str.ofString "__contains__") ty slot_dict_contains (wpAny_call_entry slot_dict_contains ty entry_dict_contains ?_ (args_dict_contains _ _)))
  show wpAny _ _ (dictGet a (.str k tk) >>= _) _ _ s
  refine wpAny_bind (tabI_get (X := X) T (fun m t em => ?_) fun em => ?_)
  · rw [em] at q
    show wpAny _ _ (ret (.bool true)) _ _ _
    exact wpAny_pure ⟨_, rfl, wpAny_truthy_bool q⟩
  · rw [em] at q
    show wpAny _ _ (Builtin.Dict.pendingKey? a (.str k tk) >>= _) _ _ _
    exact wpAny_bind (wpAny_pendingKey_other T.1 (wpAny_pure ⟨_, rfl, wpAny_truthy_bool q⟩))
end
def tTabI (K : PySem.W.Frag) (td ty : TE) : TE := fun σ H Q => td σ H fun x H1 => ty σ H1 fun y H2 => ∃ (a : Addr) (D : List (Str × Int)) (k : Str) (n : Int), x = .ref a ∧ TabI K a D ∧ y = .str k ∧ KTD.datumAt k D = some n ∧ Q (.int n) H2
def tTabIn (K : PySem.W.Frag) (ty td : TE) : TE := fun σ H Q => ty σ H fun y H1 => td σ H1 fun x H2 => ∃ (a : Addr) (D : List (Str × Int)) (k : Str), x = .ref a ∧ TabI K a D ∧ y = .str k ∧ Q (.bl (KTD.datumAt k D).isSome) H2
section
variable {X : Cx} {K : PySem.W.Frag} {o i : Expr} {pos : Pos} {td ty : TE}
theorem pe_tabI (h : X.K = K) (ho : PE X o td) (hi : PE X i ty) (hs : NoSl i) : PE X (.Subscript o i pos) (tTabI K td ty) := by
  subst h
  intro pins s σ H Q I q
  refine subD_of PySem.F.slot_dict_getitem.lookup hs (thn (ho pins s σ H _ I q) fun u s1 ⟨x, H1, I1, rx, q1⟩ => thn (hi pins s1 σ H1 _ I1 q1) fun iv s2 ⟨y, H2, I2, ry, a, D, k, n, ex, t, ey, ek, q2⟩ => ?_)
  subst ex ey
  obtain rfl : u = Value.ref a := rx
  obtain ⟨tk, rfl⟩ := (show ∃ tk, iv = Value.str k tk from ry)
  have T := tabIH_of I2 t
  exact ⟨tabIH_ty T, tabI_item T ek fun t => ⟨.int n, H2, I2.tok _, ⟨_, rfl⟩, q2⟩⟩
theorem pc_tabin (h : X.K = K) (hi : PE X i ty) (ho : PE X o td) : PC X .In i o (tTabIn K ty td) := by
  subst h
  intro pins s σ H Q I q
  refine thn (hi pins s σ H _ I q) fun iv s1 ⟨y, H1, I1, ry, q1⟩ => thn (ho pins s1 σ H1 _ I1 q1) fun u s2 ⟨x, H2, I2, rx, a, D, k, ex, t, ey, q2⟩ => ?_
  subst ex ey
  obtain rfl : u = Value.ref a := rx
  obtain ⟨tk, rfl⟩ := (show ∃ tk, iv = Value.str k tk from ry)
  have T := tabIH_of I2 t
  show wpAny _ _ (do return Value.bool (← contains (.ref a) (.str k tk))) _ _ _
  exact wpAny_bind (tabI_has T (wpAny_pure ⟨.bl _, H2, I2.tok _, rfl, q2⟩))
end
section
variable {σ : St} {H : Hp} {Q : VK} {K : PySem.W.Frag}
theorem i_tabI {td ty : TE} (q : td σ H fun x H1 => ty σ H1 fun y H2 => ∃ (a : Addr) (D : List (Str × Int)) (k : Str) (n : Int), x = .ref a ∧ TabI K a D ∧ y = .str k ∧ KTD.datumAt k D = some n ∧ Q (.int n) H2) : tTabI K td ty σ H Q := q
theorem i_tabin {td ty : TE} (q : ty σ H fun y H1 => td σ H1 fun x H2 => ∃ (a : Addr) (D : List (Str × Int)) (k : Str), x = .ref a ∧ TabI K a D ∧ y = .str k ∧ Q (.bl (KTD.datumAt k D).isSome) H2) : tTabIn K ty td σ H Q := q
end
end L2

namespace K10
open PySem L2
def top (i : Nat) : Stmt := PySem.Challenge.pw_argosy_k10_facts_read_or_refused.main.body.getD i (.Pass ⟨0, 0, 0, 0⟩)
end K10

namespace K10
open PySem L2
local macro_rules | `(tactic| walk_at "s") => `(tactic| first | (with_reducible refine i_seq ?_) | (with_reducible refine i_asg ?_) | (with_reducible refine i_ret ?_) | (with_reducible refine i_if ?_) | (with_reducible refine i_next ?_) | (with_reducible refine i_drop ?_) | ((with_reducible refine' i_var ?k1 ?_); (case k1 => exact rfl)) | (with_reducible refine i_tC ?_) | (with_reducible refine i_op ?_) | (with_reducible refine i_un ?_) | (with_reducible refine i_rI0 ?_) | (with_reducible refine i_rU ?_) | ((with_reducible refine' i_rEq ?k1 ?_); (case k1 => exact rfl)) | ((with_reducible refine' i_rNe ?k1 ?_); (case k1 => exact rfl)) | (with_reducible refine i_test ?_) | (with_reducible refine i_tB ?_) | (with_reducible refine i_bl ?_) | (with_reducible refine i_int ?_) | (with_reducible refine i_and ?_) | (with_reducible refine i_or ?_) | (with_reducible refine i_not ?_) | (with_reducible refine i_andV ?_) | (with_reducible refine i_orV ?_) | (with_reducible refine i_notV ?_) | (with_reducible refine i_isN ?_) | (with_reducible refine i_notN ?_) | (with_reducible refine i_ifE ?_) | (with_reducible refine i_name ?_) | (with_reducible refine i_cons ?_) | (with_reducible refine i_nil ?_) | (with_reducible refine i_cb ?_) | (with_reducible refine i_call ?_) | (with_reducible refine i_tup ?_) | (with_reducible refine i_lst ?_) | (with_reducible refine i_gsub ?_) | (with_reducible refine i_gcons ?_) | (with_reducible refine i_gnil ?_) | (with_reducible refine i_yes ?_) | (with_reducible refine i_slice ?_) | (with_reducible refine i_nopart ?_) | (with_reducible refine i_part ?_) | (with_reducible refine i_abs ?_) | ((with_reducible refine' i_ixL ?k1 ?k2 ?_); (case k1 => first | exact SqL.of (by assumption) | assumption | exact SqL.of upd_same); (case k2 => exact rfl)) | ((with_reducible refine' i_ixT ?k1 ?k2 ?_); (case k1 => first | exact SqT.of (by assumption) | assumption | exact SqT.of upd_same); (case k2 => exact rfl)) | ((with_reducible refine' i_setL ?k1 ?k2 ?_); (case k1 => first | assumption | exact upd_same); (case k2 => exact rfl)) | ((with_reducible refine' i_gtup ?k1 ?k2 ?_); (case k1 => first | exact SqT.of (by assumption) | assumption | exact SqT.of upd_same); (case k2 => exact rfl)) | ((with_reducible refine' i_len ?k1 ?_); (case k1 => first | exact SqL.of (by assumption) | assumption | exact SqL.of upd_same)) | ((with_reducible refine' i_lenT ?k1 ?_); (case k1 => first | exact SqT.of (by assumption) | assumption | exact SqT.of upd_same)) | ((with_reducible refine' i_list ?k1 ?_); (case k1 => first | exact SqL.of (by assumption) | assumption | exact SqL.of upd_same)) | ((with_reducible refine' i_slL ?k1 ?_); (case k1 => first | exact SqL.of (by assumption) | assumption | exact SqL.of upd_same)) | ((with_reducible refine' i_isi ?k1 ?k2 ?_); (case k1 => assumption); (case k2 => decide)) | ((with_reducible refine i_rI ?k1 ?_); (case k1 => first | (show (0 : Int) < _; decide) | (show CPow _ _; exact ⟨by decide, by decide, by decide⟩) | (show CDiv _ _; exact ⟨by decide, by decide⟩) | (show CMul _ _; exact .inr ⟨by decide, by decide⟩) | (show CMul _ _; exact .inl ⟨by decide, by decide⟩) | (show (0 : Int) < _; omega) | (show CDiv _ _; exact ⟨by omega, by omega⟩) | (show CMul _ _; exact .inr ⟨by omega, by omega⟩) | (show CMul _ _; exact .inl ⟨by omega, by omega⟩))) | (with_reducible refine i_comp ?_) | (with_reducible refine i_zip ?_) | (with_reducible refine i_itL ?_) | (with_reducible refine i_itT ?_) | (with_reducible refine i_rng1 ?_) | (with_reducible refine i_bm ?_) | (with_reducible refine i_for ?_) | (with_reducible refine i_min2 ?_) | (with_reducible refine i_max2 ?_) | (with_reducible refine i_rng2 ?_) | (with_reducible refine i_intB ?_) | (with_reducible refine i_rev ?_) | (with_reducible refine i_rngB ?_) | (with_reducible refine i_itS ?_) | (with_reducible refine i_inStr ?_) | (with_reducible refine i_find ?_) | (with_reducible refine i_itE ?_) | (with_reducible refine i_comp3 ?_) | (with_reducible refine i_bm0 ?_) | (with_reducible refine i_par ?_) | (with_reducible refine i_two ?_) | ((with_reducible refine' i_aug ?k1 ?_); (case k1 => exact rfl)) | (with_reducible refine i_ip ?_) | (with_reducible refine i_min3 ?_) | (with_reducible refine i_dget ?_) | (with_reducible refine i_din ?_) | (with_reducible refine i_dnotin ?_) | (with_reducible refine i_dput ?_) | (with_reducible refine i_dget1 ?_) | (with_reducible refine i_tab ?_) | (with_reducible refine i_tabnot ?_) | (with_reducible refine i_callL ?_) | (with_reducible refine i_dget2 ?_) | (with_reducible refine i_chain ?_) | (with_reducible refine i_comp2 ?_) | (with_reducible refine i_tabI ?_) | (with_reducible refine i_tabin ?_))
/-! ### what all laws share: begin, take, same -/
/-- the drawing list at d, the script's cells at c -/
def DrawC (H : Hp) (d c : Addr) : Prop := ∃ (ns : List Int) (a : Nat) (r e : Int), H d = some (.lst [.ref c, .int a, .int r, .int e]) ∧ H c = some (.lst (ns.map V.int)) ∧ 0 ≤ r ∧ 0 ≤ e
def spBeginC (K : PySem.W.Frag) : Sp := fun vs H Q _ => ∃ (a : Addr) (ns : List Int), vs = [.ref a] ∧ SqL K H a (ns.map V.int) ∧ ns.length ≤ 63 ∧ ∀ d c H', Same H H' → H d = none → H c = none → DrawC H' d c → Q (.ref d) H'
def spTakeC : Sp := fun vs H Q _ => ∃ (d c : Addr) (m : Int), vs = [.ref d, .int m] ∧ DrawC H d c ∧ 0 < m ∧ m.natAbs < 2 ^ 500 ∧ ∀ r H', 0 ≤ r → r < m → DrawC H' d c → But d H H' → Q (.int r) H'
theorem DrawC.same {H H' : Hp} {d c : Addr} (s : Same H H') (h : DrawC H d c) : DrawC H' d c := by
  obtain ⟨ns, a, r, e, h1, h2, h3, h4⟩ := h
  exact ⟨ns, a, r, e, s _ _ h1, s _ _ h2, h3, h4⟩
theorem DrawC.put {H : Hp} {d c b : Addr} {o : HO} (h : DrawC H d c) (n1 : b ≠ d) (n2 : b ≠ c) : DrawC (upd H b o) d c := by
  obtain ⟨ns, a, r, e, h1, h2, h3, h4⟩ := h
  exact ⟨ns, a, r, e, by rw [upd_ne (Ne.symm n1)]; exact h1, by rw [upd_ne (Ne.symm n2)]; exact h2, h3, h4⟩
theorem DrawC.is {H : Hp} {d c : Addr} (h : DrawC H d c) : (∃ o, H d = some o) ∧ ∃ o, H c = some o := by
  obtain ⟨ns, a, r, e, h1, h2, h3, h4⟩ := h
  exact ⟨⟨_, h1⟩, ⟨_, h2⟩⟩
theorem DrawC.ne_tup {H : Hp} {d c p : Addr} {xs : List V} (h : DrawC H d c) (e : H p = some (.tup xs)) : p ≠ d := by
  obtain ⟨ns, a, r, e', h1, _⟩ := h
  exact ne_of e h1 (by intro z; cases z)
section
variable {P : Program} {w : World} {K : PySem.W.Frag} {mg : Str → Option Value} {base : Heap}
abbrev sLawBegin : Stmt := top 14
theorem scLawBegin : FnScope ["_law_script"] ["_law_script"] (defScope sLawBegin) := ⟨rfl, rfl, rfl, by decide +kernel, rfl, by decide +kernel, by decide +kernel⟩
theorem ok_begin {f : Addr} {fd : FuncData} (F : Fun K "_law_begin" "_law_begin" sLawBegin f fd) (T : Blt mg) : FnOk P w K mg base CX0 1 f fd ["_law_script"] (spBeginC K) := by
  refine F.ok scLawBegin (fun vs H Q E h => ?_) (fun cdv A outer s H vs Q E hr h => ?_)
  · obtain ⟨a, ns, rfl, _⟩ := h
    rfl
  · obtain ⟨a, ns, rfl, hS, hl, k⟩ := h
    refine ⟨_, (pss_one (ps_ret (pe_lst (pa_cons (pe_callTy (cList (K := K) rfl) (by rfl) T.z_list bb_list (pa_cons (pe_slice (slL (K := K) rfl) (pv 0) po_none (po_some pe_int)) pa_nil)) (pa_cons pe_int (pa_cons pe_int (pa_cons pe_int pa_nil))))))), ?_⟩
    repeat walk_at "s"
    intro p hp
    have s1 := same_upd (o := .lst (cutV (ns.map V.int) none (some 63))) hp
    repeat walk_at "s"
    intro c hc
    have s2 := same_upd (o := .lst (cutV (ns.map V.int) none (some 63))) hc
    repeat walk_at "s"
    refine ⟨by show 4 ≤ sizeLine; decide, fun d hd => ?_⟩
    have s3 := same_upd (o := .lst [.ref c, .int 0, .int 0, .int 17]) hd
    have e : cutV (ns.map V.int) none (some 63) = (ns.take 63).map V.int := by
      unfold cutV
      rw [HT.sIx_none, List.drop_zero, List.length_map, List.map_take]
      have z : HT.sIx ns.length ns.length (some (63 : Int)) = min 63 ns.length := HT.sIx_nat ns.length ns.length 63
      rw [z, Nat.sub_zero]
      rcases Nat.le_total 63 ns.length with q | q
      · rw [Nat.min_eq_left q]
      · rw [Nat.min_eq_right q, List.take_of_length_le (by simp), List.take_of_length_le (by simpa using q)]
    refine k d c _ ((s1.trans s2).trans s3) ((s1.trans s2).free hd) (s1.free hc) ⟨ns.take 63, 0, 0, 17, upd_same, ?_, by decide, by decide⟩
    rw [← e]
    exact s3 _ _ upd_same
abbrev sLawTake : Stmt := top 15
theorem scLawTake : FnScope ["_law_draw", "_law_many", "_law_cell", "_law_got"] ["_law_draw", "_law_many"] (defScope sLawTake) := ⟨rfl, rfl, rfl, by decide +kernel, rfl, by decide +kernel, by decide +kernel⟩
theorem ok_take {f : Addr} {fd : FuncData} (F : Fun K "_law_take" "_law_take" sLawTake f fd) (T : Blt mg) : FnOk P w K mg base CX0 1 f fd ["_law_draw", "_law_many"] spTakeC := by
  refine F.ok scLawTake (fun vs H Q E h => ?_) (fun cdv A outer s H vs Q E hr h => ?_)
  · obtain ⟨d, c, m, rfl, _⟩ := h
    rfl
  · obtain ⟨d, c, m, rfl, ⟨ns, a, r, e, h1, h2, h3, h4⟩, hm, hm2, k⟩ := h
    have ncd := draw_ne h1 h2
    refine ⟨_, (pss_cut (ps_if ((pw_and (pt_cmpR op_lt (pe_ix (ixL (K := K) rfl) (pv 0) pe_int (fun _ _ => rfl)) (pv 1) (nomark _)) (pw_and1 (pt_cmpR op_lt (pe_ix (ixL (K := K) rfl) (pv 0) pe_int (fun _ _ => rfl)) (pe_callB (cLen (K := K) rfl) (by rfl) T.z_len bb_len (pa_cons (pe_ix (ixL (K := K) rfl) (pv 0) pe_int (fun _ _ => rfl)) pa_nil)) (nomark _))))).pt (pss_cons (ps_set (i := 2) scLawTake.nd rfl (Or.inl rfl) (pe_ix (ixL (K := K) rfl) (pe_ix (ixL (K := K) rfl) (pv 0) pe_int (fun _ _ => rfl)) (pe_ix (ixL (K := K) rfl) (pv 0) pe_int (fun _ _ => rfl)) (fun _ _ => rfl)))
      (pss_cons (ps_asg (pe_op op_add (pe_ix (ixL (K := K) rfl) (pv 0) pe_int (fun _ _ => rfl)) pe_int) (pg_sub (pv 0) pe_int set_list))
      (pss_cons (ps_asg pe_int (pg_sub (pv 0) pe_int set_list))
      (pss_one (ps_if (pt_cmpR op_ge (pe_callB call_absR (by rfl) T.z_abs bb_abs (pa_cons (pv 2) pa_nil)) (pe_op op_pow pe_int pe_int) (nomark _)) (pss_one (ps_asg (pe_callB call_absR (by rfl) T.z_abs bb_abs (pa_cons (pv 2) pa_nil)) (pg_sub (pv 0) pe_int set_list))) (pss_one (ps_asg (pe_op op_mod (pe_op op_add (pe_op op_add (pe_op op_mul (pe_ix (ixL (K := K) rfl) (pv 0) pe_int (fun _ _ => rfl)) pe_int) (pe_op op_mul (pe_op op_mod (pv 2) pe_int) pe_int)) pe_int) pe_int) (pg_sub (pv 0) pe_int set_list)))))))) pss_nil)
      (pss_cons (ps_if (pt_cmpR op_ge (pe_ix (ixL (K := K) rfl) (pv 0) pe_int (fun _ _ => rfl)) (pv 1) (nomark _)) (pss_cons (ps_set (i := 3) scLawTake.nd rfl (Or.inl rfl) (pe_op op_mod (pe_ix (ixL (K := K) rfl) (pv 0) pe_int (fun _ _ => rfl)) (pv 1)))
      (pss_cons (ps_asg (pe_op op_fdivB (pe_ix (ixL (K := K) rfl) (pv 0) pe_int (fun _ _ => rfl)) (pv 1)) (pg_sub (pv 0) pe_int set_list))
      (pss_one (ps_ret (pv 3))))) pss_nil)
      (pss_cons (ps_asg (pe_op op_mod (pe_op op_add (pe_op op_mul (pe_ix (ixL (K := K) rfl) (pv 0) pe_int (fun _ _ => rfl)) pe_int) pe_int) pe_int) (pg_sub (pv 0) pe_int set_list))
      (pss_one (ps_ret (pe_op op_mod (pe_op op_fdiv (pe_ix (ixL (K := K) rfl) (pv 0) pe_int (fun _ _ => rfl)) pe_int) (pv 1))))))), ?_⟩
    refine ⟨fun σ' H' => (∃ v, σ' = [some (.ref d), some (.int m), v, none]) ∧ DrawC H' d c ∧ But d H H', ?_, ?_⟩
    · repeat walk_at "s"
      refine ite2 (fun _ => ?_) (fun _ => ?_)
      · repeat walk_at "s"
        refine ite2 (fun hlt => ?_) (fun _ => ?_)
        · have hlt' : a < ns.length := by
            have z : (a : Int) < ((ns.map V.int).length : Int) := of_decide_eq_true hlt
            rw [List.length_map] at z
            omega
          have hc0 : atI (ns.map V.int) (a : Int) = some (.int (ns[a]'hlt')) := atI_nat (by rw [List.getElem?_map, List.getElem?_eq_getElem hlt']; rfl)
          generalize ns[a]'hlt' = cell at hc0
          repeat walk_at "s"
          refine i_ixL (SqL.of h2) hc0 ?_
          repeat walk_at "s"
          refine ite2 (fun _ => ?_) (fun _ => ?_)
          · repeat walk_at "s"
            refine ⟨⟨_, rfl⟩, ⟨ns, a + 1, _, e, upd_same, ?_, ?_, h4⟩, but_upd.trans (but_upd.trans but_upd)⟩
            · rw [upd_ne ncd, upd_ne ncd, upd_ne ncd]
              exact h2
            · split <;> omega
          · repeat walk_at "s"
            refine ⟨⟨_, rfl⟩, ⟨ns, a + 1, 0, _, upd_same, ?_, by decide, ?_⟩, but_upd.trans (but_upd.trans but_upd)⟩
            · rw [upd_ne ncd, upd_ne ncd, upd_ne ncd]
              exact h2
            · exact Int.emod_nonneg _ (by decide)
        · exact ⟨⟨_, rfl⟩, ⟨ns, a, r, e, h1, h2, h3, h4⟩, But.refl⟩
      · exact ⟨⟨_, rfl⟩, ⟨ns, a, r, e, h1, h2, h3, h4⟩, But.refl⟩
    · rintro σ' H' ⟨⟨v, rfl⟩, ⟨ns, a, r, e, h1, h2, h3, h4⟩, bt⟩
      have ncd := draw_ne h1 h2
      repeat walk_at "s"
      refine ite2 (fun _ => ?_) (fun _ => ?_)
      · repeat walk_at "s"
        refine i_rI (cdivB hm hm2) ?_
        repeat walk_at "s"
        refine k _ _ (Int.emod_nonneg _ (by omega)) (Int.emod_lt_of_pos _ hm) ⟨ns, a, _, e, upd_same, ?_, Int.ediv_nonneg h3 (by omega), h4⟩ (bt.trans but_upd)
        rw [upd_ne ncd]
        exact h2
      · repeat walk_at "s"
        refine k _ _ (Int.emod_nonneg _ (by omega)) (Int.emod_lt_of_pos _ hm) ⟨ns, a, r, _, upd_same, ?_, h3, Int.emod_nonneg _ (by decide)⟩ (bt.trans but_upd)
        rw [upd_ne ncd]
        exact h2
/-- same, by the depth of what is compared -/
def spS : Nat → Sp
  | 0 => fun _ _ _ _ => False
  | n + 1 => spSame n
theorem same_turns {S1 S2 : Hp → List V → Prop} {n : Nat} {vs us : List V} {ds : List Dt} {H1 : Hp} {Fin : List V → Hp → Prop} {σ : St} (hS1 : ∀ H', Same H1 H' → S1 H' vs) (hS2 : ∀ H', Same H1 H' → S2 H' us)
    (r1 : Reps H1 vs ds) (r2 : Reps H1 us ds) (hd : depths ds + 1 ≤ n) (hw : wides ds ≤ 1000) (hl : ds.length ≤ 1000) (fin : ∀ H', Same H1 H' → Fin (List.replicate ds.length (.bl true)) H') :
    CompT (Itz S1 S2) (gTup K 2 (gCons (gName 0) (gCons (gName 1) gNil))) tYes (tCall (spS n) [] E0 (tCons (tVar 0) (tCons (tVar 1) tNil))) Fin (startC 2 [] σ) H1 := by
  have l1 := r1.length
  have l2 := r2.length
  refine ⟨fun i m ys σ' H' => i ≤ ds.length ∧ m = ds.length - i ∧ ys = List.replicate i (.bl true) ∧ (∃ x y, σ' = [x, y]) ∧ Same H1 H', ⟨ds.length, Nat.zero_le _, rfl, rfl, ⟨none, none, rfl⟩, Same.refl _⟩, ?_⟩
  rintro i m ys σ' H' ⟨hi, rfl, rfl, ⟨x, y, rfl⟩, s1⟩
  rcases Nat.lt_or_ge i ds.length with hlt | hge
  · right
    have e1 : ∃ a, vs[i]? = some a := ⟨vs[i]'(by omega), List.getElem?_eq_getElem _⟩
    have e2 : ∃ a, us[i]? = some a := ⟨us[i]'(by omega), List.getElem?_eq_getElem _⟩
    obtain ⟨a, ea⟩ := e1
    obtain ⟨b, eb⟩ := e2
    obtain ⟨d1, g1, p1⟩ := r1.get ea
    obtain ⟨d2, g2, p2⟩ := r2.get eb
    rw [g1] at g2
    cases g2
    refine ⟨⟨vs, us, a, b, hS1 H' s1, hS2 H' s1, ea, eb⟩, small1000 (by rw [List.length_replicate]; omega), ?_⟩
    rintro z H2 ⟨T, u, v, rfl, hn, rfl, q⟩
    obtain ⟨q1, q2⟩ := q vs us (hS1 H' s1) (hS2 H' s1)
    rw [ea] at q1
    rw [eb] at q2
    cases q1
    cases q2
    have s2 := same_upd (o := .tup [a, b]) hn
    obtain ⟨n', rfl⟩ : ∃ n', n = n' + 1 := ⟨n - 1, by omega⟩
    refine i_gtup (SqT.of upd_same) rfl ?_
    repeat walk_at "s"
    refine iteT ?_
    repeat walk_at "s"
    have dd := depth_le g1
    have dw := wide_le g1
    refine ⟨a, b, d1, rfl, p1.mono (s1.trans s2), p2.mono (s1.trans s2), by omega, by omega, fun H3 s3 => ?_⟩
    refine ⟨ds.length - (i + 1), by omega, hlt, rfl, ?_, ⟨_, _, rfl⟩, (s1.trans s2).trans s3⟩
    rw [List.replicate_succ']
  · left
    obtain rfl : i = ds.length := by omega
    exact ⟨⟨vs, us, hS1 H' s1, hS2 H' s1, .inl (by omega)⟩, fin H' s1⟩
theorem all_yes (n : Nat) : (List.replicate n true).all id = true := by
  induction n with
  | zero => rfl
  | succ n ih => rw [List.replicate_succ, List.all_cons, ih]; rfl
abbrev sLawSame : Stmt := top 16
theorem scLawSame : FnScope ["_law_found", "_law_due"] ["_law_found", "_law_due"] (defScope sLawSame) := ⟨rfl, rfl, rfl, by decide +kernel, rfl, by decide +kernel, by decide +kernel⟩
theorem nd_71_56 : (["_law_one", "_law_other"] : List Str).Nodup := by decide +kernel
theorem S_71_56 : CompScope ["_law_found", "_law_due"] (defScope sLawSame) ({ kind := PySem.ScopeKind.function, names := [ (PySem.Str.ofString ".0", PySem.NameKind.local), (PySem.Str.ofString "_law_one", PySem.NameKind.local), (PySem.Str.ofString "_law_other", PySem.NameKind.local), (PySem.Str.ofString "_law_same", PySem.NameKind.globalImplicit)], isGenerator := false, isCoroutine := false, more := [] : PySem.Scope }) (["_law_one", "_law_other"] : List Str) ([] : List (Nat × Str)) := ⟨by decide +kernel, by decide +kernel, by decide +kernel, by decide +kernel, by decide +kernel⟩
theorem ok_same {f : Addr} {fd : FuncData} (F : Fun K "_law_same" "_law_same" sLawSame f fd) (T : Blt mg) (hm : mg "_law_same" = some (.ref f)) (b : Binds K fd ["_law_found", "_law_due"] []) : ∀ n, FnOk P w K mg base CX0 n f fd ["_law_found", "_law_due"] (spS n)
  | 0 => ⟨fun _ _ _ _ h => h.elim, fun _ _ _ _ _ _ _ _ _ _ _ _ _ h => h.elim⟩
  | n + 1 => by
    have c_law_same : Cal P w K mg base "_law_same" n ["_law_found", "_law_due"] (spS n) := ⟨f, fd, ok_same F T hm b n, hm, F.kp, b⟩
    refine F.ok scLawSame (fun vs H Q E h => ?_) (fun cdv A outer s H vs Q E hr h => ?_)
    · obtain ⟨f, u, dd, rfl, _⟩ := h
      rfl
    · obtain ⟨f1, u, dd, rfl, r1, r2, hd, hw, k⟩ := h
      refine ⟨_, (pss_cons (ps_if (pt_val (pe_callB (cIsiT (K := K) rfl) (by rfl) T.z_isinstance bb_isinstance (pa_cons (pv 1) (pa_cons (pe_tup (pa_cons (pe_bltn (v := .ty "list") (by rfl) T.z_list bb_list rfl) (pa_cons (pe_bltn (v := .ty "tuple") (by rfl) T.z_tuple bb_tuple rfl) pa_nil))) pa_nil)))) (pss_cons (ps_if ((pw_or (pt_cmpR op_ne (pe_callB (cIsi (K := K) rfl) (by rfl) T.z_isinstance bb_isinstance (pa_cons (pv 0) (pa_cons (pe_bltn (v := .ty "list") (by rfl) T.z_list bb_list rfl) pa_nil))) (pe_callB (cIsi (K := K) rfl) (by rfl) T.z_isinstance bb_isinstance (pa_cons (pv 1) (pa_cons (pe_bltn (v := .ty "list") (by rfl) T.z_list bb_list rfl) pa_nil))) (nomark _)) (pw_or1 (pt_cmpR op_ne (pe_callB (cIsi (K := K) rfl) (by rfl) T.z_isinstance bb_isinstance (pa_cons (pv 0) (pa_cons (pe_bltn (v := .ty "tuple") (by rfl) T.z_tuple bb_tuple rfl) pa_nil))) (pe_callB (cIsi (K := K) rfl) (by rfl) T.z_isinstance bb_isinstance (pa_cons (pv 1) (pa_cons (pe_bltn (v := .ty "tuple") (by rfl) T.z_tuple bb_tuple rfl) pa_nil))) (nomark _))))).pt (pss_one (ps_ret pe_bl)) pss_nil)
      (pss_one (ps_ret (pe_and (pe_cmpR op_eq (pe_callB (cLen (K := K) rfl) (by rfl) T.z_len bb_len (pa_cons (pv 0) pa_nil)) (pe_callB (cLen (K := K) rfl) (by rfl) T.z_len bb_len (pa_cons (pv 1) pa_nil)) (nomark _)) (pe_one (pe_callB (cAll (K := K) rfl rfl) (by rfl) T.z_all bb_all (pa_cons (pe_lcomp rfl S_71_56 (piZ (K := K) rfl (by rfl) T.z_zip (pa_cons (pv 0) (pa_cons (pv 1) pa_nil))) (by intro _ _ _ _ _; exact (pgT (K := K) (n := 2) rfl rfl (pgs_cons (pg_name (i := 0) nd_71_56 rfl (Or.inl rfl)) (pgs_cons (pg_name (i := 1) nd_71_56 rfl (Or.inl rfl)) pgs_nil)))) (by intro _ _ _ _ _; exact pts_nil) (by intro _ _ _ _ _; exact (pe_callC c_law_same (hr.mono (by omega)) (by rfl) (pa_cons (pv 0) (pa_cons (pv 1) pa_nil))))) pa_nil))))))) pss_nil)
      (pss_cons (ps_if (pt_cmp (pc_isN (pv 1))) (pss_one (ps_ret (pe_cmp (pc_isN (pv 0))))) pss_nil)
      (pss_cons (ps_if ((pw_or (pt_cmpR op_ne (pe_callB (cIsi (K := K) rfl) (by rfl) T.z_isinstance bb_isinstance (pa_cons (pv 0) (pa_cons (pe_bltn (v := .ty "bool") (by rfl) T.z_bool bb_bool rfl) pa_nil))) (pe_callB (cIsi (K := K) rfl) (by rfl) T.z_isinstance bb_isinstance (pa_cons (pv 1) (pa_cons (pe_bltn (v := .ty "bool") (by rfl) T.z_bool bb_bool rfl) pa_nil))) (nomark _)) (pw_or1 (pt_cmpR op_ne (pe_callB (cIsi (K := K) rfl) (by rfl) T.z_isinstance bb_isinstance (pa_cons (pv 0) (pa_cons (pe_bltn (v := .ty "str") (by rfl) T.z_str bb_str rfl) pa_nil))) (pe_callB (cIsi (K := K) rfl) (by rfl) T.z_isinstance bb_isinstance (pa_cons (pv 1) (pa_cons (pe_bltn (v := .ty "str") (by rfl) T.z_str bb_str rfl) pa_nil))) (nomark _))))).pt (pss_one (ps_ret pe_bl)) pss_nil)
      (pss_one (ps_ret (pe_and (pe_cmpR op_eq (pe_callB (cIsi (K := K) rfl) (by rfl) T.z_isinstance bb_isinstance (pa_cons (pv 0) (pa_cons (pe_bltn (v := .ty "int") (by rfl) T.z_int bb_int rfl) pa_nil))) (pe_callB (cIsi (K := K) rfl) (by rfl) T.z_isinstance bb_isinstance (pa_cons (pv 1) (pa_cons (pe_bltn (v := .ty "int") (by rfl) T.z_int bb_int rfl) pa_nil))) (nomark _)) (pe_one (pe_cmpR op_eq (pv 0) (pv 1) (nomark _))))))))), ?_⟩
      repeat walk_at "s"
      refine ⟨by show 2 ≤ sizeLine; decide, fun p hp => ?_⟩
      have s1 := same_upd (o := .tup [.ty "list", .ty "tuple"]) hp
      generalize hH1 : upd H p (.tup [.ty "list", .ty "tuple"]) = H1 at s1
      have hT : SqT K H1 p (["list", "tuple"].map V.ty) := by rw [← hH1]; exact SqT.of upd_same
      repeat walk_at "s"
      replace r1 := r1.mono s1
      replace r2 := r2.mono s1
      cases r2 with
      | int i =>
        cases r1
        have kn : Knd K H1 (.int i) "int" := ⟨.int i, by decide⟩
        refine ⟨_, p, ["list", "tuple"], "int", rfl, hT, kn, by decide, ?_⟩
        repeat walk_at "s"
        refine iteF ?_
        repeat walk_at "s"
        refine iteF ?_
        repeat walk_at "s"
        refine iteNS rfl ?_
        repeat walk_at "s"
        refine iteNS rfl ?_
        repeat walk_at "s"
        rw [decide_eq_true (show V.bl (isTy "int" "int") = V.bl (isTy "int" "int") from rfl)]
        refine iteT ?_
        repeat walk_at "s"
        rw [decide_eq_true rfl]
        exact k _ s1
      | bl i =>
        cases r1
        have kn : Knd K H1 (.bl i) "bool" := ⟨.bl i, by decide⟩
        refine ⟨_, p, ["list", "tuple"], "bool", rfl, hT, kn, by decide, ?_⟩
        repeat walk_at "s"
        refine iteF ?_
        repeat walk_at "s"
        refine iteF ?_
        repeat walk_at "s"
        refine iteNS rfl ?_
        repeat walk_at "s"
        refine iteNS rfl ?_
        repeat walk_at "s"
        rw [decide_eq_true (show V.bl (isTy "bool" "int") = V.bl (isTy "bool" "int") from rfl)]
        refine iteT ?_
        repeat walk_at "s"
        rw [decide_eq_true rfl]
        exact k _ s1
      | str i =>
        cases r1
        have kn : Knd K H1 (.str i) "str" := ⟨.str i, by decide⟩
        refine ⟨_, p, ["list", "tuple"], "str", rfl, hT, kn, by decide, ?_⟩
        repeat walk_at "s"
        refine iteF ?_
        repeat walk_at "s"
        refine iteF ?_
        repeat walk_at "s"
        refine iteNS rfl ?_
        repeat walk_at "s"
        refine iteNS rfl ?_
        repeat walk_at "s"
        rw [decide_eq_true (show V.bl (isTy "str" "int") = V.bl (isTy "str" "int") from rfl)]
        refine iteT ?_
        repeat walk_at "s"
        rw [decide_eq_true rfl]
        exact k _ s1
      | non =>
        cases r1
        have kn : Knd K H1 (.non) "NoneType" := ⟨.non, by decide⟩
        refine ⟨_, p, ["list", "tuple"], "NoneType", rfl, hT, kn, by decide, ?_⟩
        repeat walk_at "s"
        refine iteF ?_
        repeat walk_at "s"
        rw [decide_eq_true (show V.non = V.non from rfl)]
        refine iteT ?_
        repeat walk_at "s"
        rw [decide_eq_true (show V.non = V.non from rfl)]
        exact k _ s1
      | lst e2 q2 =>
        cases r1 with
        | lst e1 q1 =>
          have kn1 : Knd K H1 _ "list" := ⟨.lst e1, by decide⟩
          have kn2 : Knd K H1 _ "list" := ⟨.lst e2, by decide⟩
          refine ⟨_, p, ["list", "tuple"], "list", rfl, hT, kn2, by decide, ?_⟩
          repeat walk_at "s"
          refine iteT ?_
          repeat walk_at "s"
          refine iteNS rfl ?_
          repeat walk_at "s"
          refine iteNS rfl ?_
          repeat walk_at "s"
          have el := congrArg (fun z : Nat => V.int (z : Int)) (q1.length.trans q2.length.symm)
          rw [decide_eq_true el]
          refine iteT ?_
          repeat walk_at "s"
          have hd' : depths _ + 1 ≤ n := hd
          have hw' : max _ (wides _) ≤ 1000 := hw
          refine ⟨_, _, rfl, .inl ⟨_, _, SqL.of e1, SqL.of e2, ?_⟩⟩
          refine same_turns (fun H' s' => SqL.of (s' _ _ e1)) (fun H' s' => SqL.of (s' _ _ e2)) q1 q2 hd' (Nat.le_trans (Nat.le_max_right _ _) hw') (Nat.le_trans (Nat.le_max_left _ _) hw') ?_
          intro H' s' D hD
          repeat walk_at "s"
          refine ⟨D, List.replicate _ true, rfl, SqL.of (by rw [List.map_replicate]; exact upd_same), ?_⟩
          rw [all_yes]
          exact k _ ((s1.trans s').trans (same_upd hD))
      | tup e2 q2 =>
        cases r1 with
        | tup e1 q1 =>
          have kn1 : Knd K H1 _ "tuple" := ⟨.tup e1, by decide⟩
          have kn2 : Knd K H1 _ "tuple" := ⟨.tup e2, by decide⟩
          refine ⟨_, p, ["list", "tuple"], "tuple", rfl, hT, kn2, by decide, ?_⟩
          repeat walk_at "s"
          refine iteT ?_
          repeat walk_at "s"
          refine iteNS rfl ?_
          repeat walk_at "s"
          refine iteNS rfl ?_
          repeat walk_at "s"
          have el := congrArg (fun z : Nat => V.int (z : Int)) (q1.length.trans q2.length.symm)
          rw [decide_eq_true el]
          refine iteT ?_
          repeat walk_at "s"
          have hd' : depths _ + 1 ≤ n := hd
          have hw' : max _ (wides _) ≤ 1000 := hw
          refine ⟨_, _, rfl, .inr ⟨_, _, SqT.of e1, SqT.of e2, ?_⟩⟩
          refine same_turns (fun H' s' => SqT.of (s' _ _ e1)) (fun H' s' => SqT.of (s' _ _ e2)) q1 q2 hd' (Nat.le_trans (Nat.le_max_right _ _) hw') (Nat.le_trans (Nat.le_max_left _ _) hw') ?_
          intro H' s' D hD
          repeat walk_at "s"
          refine ⟨D, List.replicate _ true, rfl, SqL.of (by rw [List.map_replicate]; exact upd_same), ?_⟩
          rw [all_yes]
          exact k _ ((s1.trans s').trans (same_upd hD))
end

/-! ### what many laws share: some, set, like -/
section
variable {P : Program} {w : World} {K : PySem.W.Frag} {mg : Str → Option Value} {base : Heap}
theorem DrawC.ne_ints {H : Hp} {d c p : Addr} {ns : List Int} (h : DrawC H d c) (e : H p = some (.lst (ns.map V.int))) : p ≠ d := by
  obtain ⟨_, a, r, e', h1, _⟩ := h
  intro z
  subst z
  rw [h1] at e
  have q := Option.some.inj e
  injection q with q
  cases ns with
  | nil => cases q
  | cons n r => injection q with q _; cases q
def spSomeC (K : PySem.W.Frag) : Sp := fun vs H Q _ => ∃ (d c0 l : Addr) (ns : List Int) (m : Int), vs = [.ref d, .ref l, .int m] ∧ DrawC H d c0 ∧ SqL K H l (ns.map V.int) ∧ ns.length ≤ 200 ∧ -(2 ^ 61) ≤ m ∧ m ≤ 2 ^ 61 ∧
  ∀ p H' (fs ls : List Int), DrawC H' d c0 → But d H H' → H p = none → H' p = some (.lst (fs.map V.int)) → (fs ++ ls).Perm ns → fs.length = min m.toNat ns.length → Q (.ref p) H'
theorem small_int {m : Int} (h : 0 < m) (h2 : m ≤ 10000) : m.natAbs < 2 ^ 500 := Nat.lt_trans (show m.natAbs < 2 ^ 20 by omega) (Nat.pow_lt_pow_right (by decide) (by decide))
theorem le_line {n : Nat} (h : n ≤ 1000) : n ≤ sizeLine := Nat.le_trans h (by decide)
theorem lt_line {n : Nat} (h : n < 1000) : n < sizeLine := Nat.lt_of_lt_of_le h (by decide)
theorem but_new {d a : Addr} {H H' : Hp} {o : HO} (h : H a = none) (b : But d H H') : But d H (upd H' a o) := fun c u n e => by rw [upd_ne (ne_of_none e h)]; exact b c u n e
theorem erase_perm : ∀ (l : List Int) (k : Nat) (h : k < l.length), (l[k] :: l.eraseIdx k).Perm l
  | [], _, h => absurd h (Nat.not_lt_zero _)
  | x :: r, 0, _ => List.Perm.refl _
  | x :: r, k + 1, h => by
    have h' : k < r.length := by simpa using h
    exact (List.Perm.swap x (r[k]) (r.eraseIdx k)).trans ((erase_perm r k h').cons x)
abbrev sLawSome : Stmt := top 18
theorem scLawSome : FnScope ["_law_draw", "_law_pool", "_law_many", "_law_left", "_law_found", "_law_k"] ["_law_draw", "_law_pool", "_law_many"] (defScope sLawSome) := ⟨rfl, rfl, rfl, by decide +kernel, rfl, by decide +kernel, by decide +kernel⟩
theorem ok_some {f : Addr} {fd : FuncData} (F : Fun K "_law_some" "_law_some" sLawSome f fd) (T : BltM mg) (c_law_take : Cal P w K mg base "_law_take" 1 ["_law_draw", "_law_many"] spTakeC) : FnOk P w K mg base CX0 2 f fd ["_law_draw", "_law_pool", "_law_many"] (spSomeC K) := by
  refine F.ok scLawSome (fun vs H Q E h => ?_) (fun cdv A outer s H vs Q E hr h => ?_)
  · obtain ⟨d, c0, l, ns, m, rfl, _⟩ := h
    rfl
  · obtain ⟨d, c0, l, ns, m, rfl, hD, hS, hl, m1, m2, k⟩ := h
    refine ⟨_, (pss_cons (ps_set (i := 3) scLawSome.nd rfl (Or.inl rfl) (pe_callTy (cList (K := K) rfl) (by rfl) T.z_list bb_list (pa_cons (pv 1) pa_nil)))
      (pss_cons (ps_set (i := 4) scLawSome.nd rfl (Or.inl rfl) (pe_lst pa_nil))
      (pss_cons (ps_for PassesOwn.never rfl (pi_range1 (by rfl) T.z_range (pa_cons (pe_callB (cMin2 rfl) (by rfl) T.z_min bb_min (pa_cons (pv 2) (pa_cons (pe_callB (cLen (K := K) rfl) (by rfl) T.z_len bb_len (pa_cons (pv 3) pa_nil)) pa_nil))) pa_nil)) (pg_name (i := 5) scLawSome.nd rfl (Or.inl rfl)) (pss_one (ps_expr (mApp (K := K) rfl (pv 4) (pa_cons (mPopAt (K := K) rfl (pv 3) (pa_cons (pe_callC c_law_take (hr.mono (by omega)) (by rfl) (pa_cons (pv 0) (pa_cons (pe_callB (cLen (K := K) rfl) (by rfl) T.z_len bb_len (pa_cons (pv 3) pa_nil)) pa_nil))) pa_nil)) pa_nil)))))
      (pss_one (ps_ret (pv 4)))))), ?_⟩
    repeat walk_at "s"
    intro a ha
    have s1 := same_upd (o := .lst (ns.map V.int)) ha
    have ha1 : upd H a (.lst (ns.map V.int)) a = some (.lst (ns.map V.int)) := upd_same
    generalize upd H a (.lst (ns.map V.int)) = H1 at s1 ha1 ⊢
    repeat walk_at "s"
    refine ⟨Nat.zero_le _, fun b hb => ?_⟩
    have s2 := same_upd (o := .lst []) hb
    have hb2 : upd H1 b (.lst []) b = some (.lst []) := upd_same
    have ha2 := s2 _ _ ha1
    have hab : a ≠ b := ne_of_none ha1 hb
    have hb0 := s1.free hb
    have s12 := s1.trans s2
    generalize upd H1 b (.lst []) = H2 at s2 s12 ha2 hb2 ⊢
    repeat walk_at "s"
    refine ⟨_, rfl, ?_, ?_, ?_⟩
    · rw [List.length_map]; split <;> omega
    · rw [List.length_map]; split <;> omega
    rw [List.length_map]
    have en : (if (ns.length : Int) < m then (ns.length : Int) else m).toNat = min m.toNat ns.length := by split <;> omega
    rw [en]
    obtain ⟨⟨o, ho⟩, ⟨o', ho'⟩⟩ := hD.is
    have hac : a ≠ c0 := Ne.symm (ne_of_none ho' ha)
    have hbc : b ≠ c0 := Ne.symm (ne_of_none ho' hb0)
    have had : a ≠ d := Ne.symm (ne_of_none ho ha)
    have hbd : b ≠ d := Ne.symm (ne_of_none ho hb0)
    refine forW (fun i σ' H' => (∃ x, σ' = [some (.ref d), some (.ref l), some (.int m), some (.ref a), some (.ref b), x]) ∧ DrawC H' d c0 ∧ But d H H' ∧ ∃ fs ls : List Int, H' a = some (.lst (ls.map V.int)) ∧ H' b = some (.lst (fs.map V.int)) ∧ fs.length = i ∧ ls.length = ns.length - i ∧ (fs ++ ls).Perm ns) (min m.toNat ns.length)
      ⟨⟨none, rfl⟩, hD.same s12, s12.but, [], ns, ha2, hb2, rfl, rfl, List.Perm.refl _⟩ ?_ ?_
    · rintro σ' H' ⟨⟨x, rfl⟩, hD', bt, fs, ls, _, hb', lf, _, pm⟩
      refine ⟨Nat.le_refl _, ?_⟩
      repeat walk_at "s"
      exact k b H' fs ls hD' bt hb0 hb' pm lf
    · rintro i σ' H' hi ⟨⟨x, rfl⟩, hD', bt, fs, ls, ha', hb', lf, ll, pm⟩
      refine ⟨hi, ?_⟩
      rintro x' H3 ⟨rfl, rfl⟩
      repeat walk_at "s"
      refine ⟨.inl ⟨rfl, _, SqL.of hb'⟩, ?_⟩
      repeat walk_at "s"
      refine ⟨.inl ⟨rfl, _, SqL.of ha'⟩, ?_⟩
      repeat walk_at "s"
      refine ⟨d, c0, _, rfl, hD', by rw [List.length_map]; omega, small_int (by rw [List.length_map]; omega) (by rw [List.length_map]; omega), fun r H4 r0 r1 hD4 b4 => ?_⟩
      rw [List.length_map] at r1
      have ha4 := b4 _ _ had ha'
      have hb4 := b4 _ _ hbd hb'
      repeat walk_at "s"
      obtain ⟨j, rfl⟩ : ∃ j : Nat, r = j := ⟨r.toNat, by omega⟩
      have hj : j < ls.length := by omega
      refine i_popAt ha4 hj (by omega) ?_
      repeat walk_at "s"
      refine i_app (by rw [upd_ne (Ne.symm hab)]; exact hb4) (lt_line (by rw [List.length_map]; omega)) ?_
      repeat walk_at "s"
      have bt4 := bt.trans b4
      have hx : (fs.map V.int ++ [V.int ls[j]]) = (fs ++ [ls[j]]).map V.int := by rw [List.map_append]; rfl
      rw [hx]
      refine ⟨⟨_, rfl⟩, (hD4.put had hac).put hbd hbc, but_new hb0 (but_new ha bt4), fs ++ [ls[j]], ls.eraseIdx j, by rw [upd_ne hab]; exact upd_same, upd_same, by simp [lf], by rw [List.length_eraseIdx_of_lt hj]; omega, ?_⟩
      refine List.Perm.trans ?_ pm
      rw [List.append_assoc]
      exact List.Perm.append_left fs (erase_perm ls j hj)
abbrev sLawSet : Stmt := top 17
theorem scLawSet : FnScope ["_law_timbers"] ["_law_timbers"] (defScope sLawSet) := ⟨rfl, rfl, rfl, by decide +kernel, rfl, by decide +kernel, by decide +kernel⟩
def spRis (K : PySem.W.Frag) : Sp := fun vs H Q _ => ∃ (p : Addr) (ns : List Int), vs = [.ref p] ∧ SqX K H p (ns.map V.int) ∧ ns.length < 64 ∧ ∀ l H' (rs : List Int), Same H H' → H l = none → H' l = some (.lst (rs.map V.int)) → Ris rs (fun x => x ∈ ns) → Q (.ref l) H'
theorem ok_set {f : Addr} {fd : FuncData} (F : Fun K "_law_set" "_law_set" sLawSet f fd) (T : BltM mg) : FnOk P w K mg base CX0 1 f fd ["_law_timbers"] (spRis K) := by
  refine F.ok scLawSet (fun vs H Q E h => ?_) (fun cdv A outer s H vs Q E hr h => ?_)
  · obtain ⟨p, ns, rfl, _⟩ := h
    rfl
  · obtain ⟨p, ns, rfl, hS, hl, k⟩ := h
    refine ⟨_, (pss_one (ps_ret (pe_callB (cSortedS (w := w) rfl rfl) (by rfl) T.z_sorted bb_sorted (pa_cons (pe_callTy (cSetX (K := K) (w := w) rfl rfl rfl) (by rfl) T.z_set bb_set (pa_cons (pv 0) pa_nil)) pa_nil)))), ?_⟩
    repeat walk_at "s"
    refine i_setX hS (by omega) fun a ks ha nd mem => ?_
    repeat walk_at "s"
    refine i_sortedS upd_same (Nat.lt_of_le_of_lt (nodup_le nd fun x hx => (mem x).mp hx) hl) fun l rs hl pm so => ?_
    have s1 := same_upd (o := setO w a ks) ha
    exact k l _ rs (s1.trans (same_upd hl)) (s1.free hl) upd_same (ris_of pm so nd mem)
end

theorem Reps.snoc {H : Hp} : ∀ {vs : List V} {ds : List Dt} {v : V} {d : Dt}, Reps H vs ds → Rep H v d → Reps H (vs ++ [v]) (ds ++ [d])
  | _, _, _, _, .nil, r => .cons r .nil
  | _, _, _, _, .cons a t, r => .cons a (Reps.snoc t r)
theorem Reps.append {H : Hp} : ∀ {vs ws : List V} {ds es : List Dt}, Reps H vs ds → Reps H ws es → Reps H (vs ++ ws) (ds ++ es)
  | _, _, _, _, .nil, r => r
  | _, _, _, _, .cons a t, r => .cons a (Reps.append t r)
theorem mapW {J : It} {g : TG} {te : TE} {ws : List V} {H1 : Hp} {Fin : List V → Hp → Prop} {σ0 : St} (Iv : St → Prop) (h0 : Iv σ0) (hl : ws.length ≤ 1000)
    (stop : ∀ H', Same H1 H' → J.stop ws.length H') (go : ∀ i H', i < ws.length → Same H1 H' → J.go i H')
    (step : ∀ i w x σ' H' H2 (R : V → St → Hp → Prop) (R0 : St → Hp → Prop), ws[i]? = some w → Iv σ' → Same H1 H' → J.yld i H' x H2 → (∀ σ3 H3, Iv σ3 → Same H1 H3 → R w σ3 H3) →
      g x σ' H2 fun σ3 H3 => tYes σ3 H3 fun b H4 => if b = true then te σ3 H4 (fun y H5 => R y σ3 H5) else R0 σ3 H4)
    (fin : ∀ H', Same H1 H' → Fin ws H') : CompT J g tYes te Fin σ0 H1 := by
  refine compW (fun i ys σ' H' => Iv σ' ∧ Same H1 H' ∧ ys = ws.take i) ws.length ⟨h0, Same.refl _, rfl⟩ ?_ ?_
  · rintro ys σ' H' ⟨_, s1, rfl⟩
    refine ⟨stop H' s1, ?_⟩
    rw [List.take_of_length_le (Nat.le_refl _)]
    exact fin H' s1
  · rintro i ys σ' H' hi ⟨iv, s1, rfl⟩
    refine ⟨go i H' hi s1, Nat.lt_of_lt_of_le (show _ < 1001 by rw [List.length_take]; omega) (by decide), ?_⟩
    intro x H2 hy
    have hw : ws[i]? = some ws[i] := List.getElem?_eq_getElem hi
    refine step i _ x σ' H' H2 _ _ hw iv s1 hy fun σ3 H3 iv3 s3 => nxt hi ⟨iv3, s3, ?_⟩
    rw [List.take_succ, hw]
    rfl
def inB (lo hi x : Int) : Bool := decide (lo ≤ x) && decide (x ≤ hi)
theorem inB_true {lo hi x : Int} (h1 : lo ≤ x) (h2 : x ≤ hi) : inB lo hi x = true := by unfold inB; rw [decide_eq_true h1, decide_eq_true h2]; rfl
theorem inB_iff {lo hi x : Int} : inB lo hi x = true ↔ lo ≤ x ∧ x ≤ hi := by unfold inB; rw [Bool.and_eq_true, decide_eq_true_iff, decide_eq_true_iff]
section
variable {P : Program} {w : World} {K : PySem.W.Frag} {mg : Str → Option Value} {base : Heap}
def spSlip : Sp := fun vs H Q _ => ∃ (d c0 : Addr), vs = [.ref d] ∧ DrawC H d c0 ∧ ∀ (m : Int) H', 1 ≤ m → m ≤ 12 → DrawC H' d c0 → But d H H' → Q (.int m) H'
abbrev sLawSlip : Stmt := top 19
theorem scLawSlip : FnScope ["_law_draw"] ["_law_draw"] (defScope sLawSlip) := ⟨rfl, rfl, rfl, by decide +kernel, rfl, by decide +kernel, by decide +kernel⟩
theorem ok_slip {f : Addr} {fd : FuncData} (F : Fun K "_law_slip" "_law_slip" sLawSlip f fd) (T : BltM mg) (c_law_take : Cal P w K mg base "_law_take" 1 ["_law_draw", "_law_many"] spTakeC) : FnOk P w K mg base CX0 2 f fd ["_law_draw"] spSlip := by
  refine F.ok scLawSlip (fun vs H Q E h => ?_) (fun cdv A outer s H vs Q E hr h => ?_)
  · obtain ⟨d, c0, rfl, _⟩ := h
    rfl
  · obtain ⟨d, c0, rfl, hD, k⟩ := h
    refine ⟨_, (pss_one (ps_ret (pe_ix (ixT (K := K) rfl) (pe_tup (pa_cons (pe_op op_add pe_int (pe_callC c_law_take (hr.mono (by omega)) (by rfl) (pa_cons (pv 0) (pa_cons pe_int pa_nil)))) (pa_cons (pe_op op_add pe_int (pe_callC c_law_take (hr.mono (by omega)) (by rfl) (pa_cons (pv 0) (pa_cons pe_int pa_nil)))) (pa_cons pe_int pa_nil)))) (pe_callC c_law_take (hr.mono (by omega)) (by rfl) (pa_cons (pv 0) (pa_cons pe_int pa_nil))) (fun _ _ => rfl)))), ?_⟩
    repeat walk_at "s"
    refine ⟨d, c0, 12, rfl, hD, by decide, by decide, fun x H1 x0 x1 hD1 b1 => ?_⟩
    repeat walk_at "s"
    refine ⟨d, c0, 4, rfl, hD1, by decide, by decide, fun y H2 y0 y1 hD2 b2 => ?_⟩
    repeat walk_at "s"
    refine ⟨by show 3 ≤ sizeLine; decide, fun p hp => ?_⟩
    have s3 := same_upd (o := .tup [V.int (1 + x), V.int (3 + y), V.int 12]) hp
    have hp3 : upd H2 p (.tup [V.int (1 + x), V.int (3 + y), V.int 12]) p = some (.tup [V.int (1 + x), V.int (3 + y), V.int 12]) := upd_same
    generalize upd H2 p (.tup [V.int (1 + x), V.int (3 + y), V.int 12]) = H3 at s3 hp3 ⊢
    have hD3 := hD2.same s3
    repeat walk_at "s"
    refine ⟨d, c0, 3, rfl, hD3, by decide, by decide, fun r H4 r0 r1 hD4 b4 => ?_⟩
    have hp4 := b4 _ _ (hD3.ne_tup hp3) hp3
    have b04 := (b1.trans b2).trans ((s3.but (d := d)).trans b4)
    rcases (show r = 0 ∨ r = 1 ∨ r = 2 by omega) with rfl | rfl | rfl
    · exact i_ixT (SqT.of hp4) (v := .int (1 + x)) rfl (k _ _ (by omega) (by omega) hD4 b04)
    · exact i_ixT (SqT.of hp4) (v := .int (3 + y)) rfl (k _ _ (by omega) (by omega) hD4 b04)
    · exact i_ixT (SqT.of hp4) (v := .int 12) rfl (k _ _ (by omega) (by omega) hD4 b04)
end


def fig : Str := Str.ofString "0123456789"
def signsOk : List Nat := List.range 128
def isDig (c : Nat) : Bool := decide (48 ≤ c ∧ c ≤ 57)
theorem fig_in : ∀ c ∈ signsOk, (!(Builtin.Str.occurrences fig ⟨#[c]⟩ 0 fig.length 1).isEmpty) = isDig c := by decide +kernel
theorem fig_find : ∀ c ∈ signsOk, findI fig ⟨#[c]⟩ = if isDig c then (((c - 48 : Nat)) : Int) else -1 := by decide +kernel
theorem ascii_ok {cs : List Nat} (h : ∀ c ∈ cs, c ∈ signsOk) : (tx cs).cps.all (· < 128) = true := by
  unfold tx
  rw [List.all_toArray, List.all_eq_true]
  intro c hc
  have e : ∀ c ∈ signsOk, decide (c < 128) = true := by decide +kernel
  exact e c (h c hc)
theorem tx_len (cs : List Nat) : (tx cs).length = cs.length := by show cs.toArray.size = _; simp
theorem tx_inj {cs ds : List Nat} : V.str (tx cs) = V.str (tx ds) ↔ cs = ds := by
  constructor
  · intro h
    injection h with h
    unfold tx at h
    injection h with h
    simpa using h
  · rintro rfl; rfl
theorem e_empty : Str.ofString "" = tx [] := by decide +kernel
theorem e_nought : Str.ofString "0" = tx [48] := by decide +kernel
theorem chV_tx (c : Nat) : chV c = V.str (tx [c]) := rfl
/-- what a text's number is -/
def numD (cs : List Nat) : Dt := if cs = [] then .non else if cs.all isDig = false then .non else if cs.head? = some 48 ∧ 1 < cs.length then .non else .int (NumText.digitsVal cs : Nat)
def vOf : Dt → V
  | .int i => .int i
  | _ => .non
theorem vOf_num (cs : List Nat) : vOf (numD cs) = if cs = [] then .non else if cs.all isDig = false then .non else if cs.head? = some 48 ∧ 1 < cs.length then .non else .int (NumText.digitsVal cs : Nat) := by
  unfold numD
  split
  · rfl
  split
  · rfl
  split <;> rfl
def spNum : Sp := fun vs H Q _ => ∃ cs : List Nat, vs = [.str (tx cs)] ∧ cs.length ≤ 600 ∧ (∀ c ∈ cs, c ∈ signsOk) ∧ ∀ H', Same H H' → Q (vOf (numD cs)) H'
theorem mapS {cs : List Nat} {g : Nat → V} {te : TE} {H1 : Hp} {Fin : List V → Hp → Prop} (hl : cs.length ≤ 1000) (hte : ∀ c ∈ cs, ∀ R : VK, R (g c) H1 → te [some (chV c)] H1 R) (fin : Fin (cs.map g) H1) :
    CompT (Its (tx cs)) (gName 0) tYes te Fin [none] H1 := by
  have hz : (tx cs).cps.size = cs.length := by unfold tx; simp
  refine compW (fun i ys σ' H' => (∃ x, σ' = [x]) ∧ H' = H1 ∧ ys = (cs.take i).map g) cs.length ⟨⟨none, rfl⟩, rfl, rfl⟩ ?_ ?_
  · rintro ys σ' H' ⟨_, rfl, rfl⟩
    refine ⟨by show _ ≤ _; rw [hz]; exact Nat.le_refl _, ?_⟩
    rw [List.take_of_length_le (Nat.le_refl _)]
    exact fin
  · rintro i ys σ' H' hi ⟨⟨x0, rfl⟩, rfl, rfl⟩
    refine ⟨by show i < _; rw [hz]; exact hi, Nat.lt_of_lt_of_le (show _ < 1001 by rw [List.length_map, List.length_take]; omega) (by decide), ?_⟩
    rintro x H6 ⟨rfl, c, hc, rfl⟩
    have hc' : cs[i]? = some c := by unfold tx at hc; simpa using hc
    have hm : c ∈ cs := List.mem_of_getElem? hc'
    refine i_name (i_yes (iteT ?_))
    refine hte c hm _ ?_
    refine nxt hi ⟨⟨_, rfl⟩, rfl, ?_⟩
    rw [List.take_succ, hc', List.map_append]
    rfl
section
variable {P : Program} {w : World} {K : PySem.W.Frag} {mg : Str → Option Value} {base : Heap}
abbrev sNumber : Stmt := top 8
theorem scNumber : FnScope ["text"] ["text"] (defScope sNumber) := ⟨rfl, rfl, rfl, by decide +kernel, rfl, by decide +kernel, by decide +kernel⟩
theorem nd_14_29 : (["sign"] : List Str).Nodup := by decide +kernel
theorem S_14_29 : CompScope ["text"] (defScope sNumber) ({ kind := PySem.ScopeKind.function, names := [ (PySem.Str.ofString ".0", PySem.NameKind.local), (PySem.Str.ofString "sign", PySem.NameKind.local), (PySem.Str.ofString "FIGURES", PySem.NameKind.globalImplicit)], isGenerator := false, isCoroutine := false, more := [] : PySem.Scope }) (["sign"] : List Str) ([] : List (Nat × Str)) := ⟨by decide +kernel, by decide +kernel, by decide +kernel, by decide +kernel, by decide +kernel⟩
theorem ok_number {f : Addr} {fd : FuncData} (F : Fun K "number" "number" sNumber f fd) (T : BltM mg) {tk : Tok} (hFig : mg "FIGURES" = some (.str fig tk)) : FnOk P w K mg base CX0 1 f fd ["text"] spNum := by
  refine F.ok scNumber (fun vs H Q E h => ?_) (fun cdv A outer s H vs Q E hr h => ?_)
  · obtain ⟨cs, rfl, _⟩ := h
    rfl
  · obtain ⟨cs, rfl, hl, hc, k⟩ := h
    rw [vOf_num] at k
    refine ⟨_, (pss_cons (ps_if ((pw_or (pt_cmpR op_eq (pv 0) pe_str (nomark _)) (pw_or1 (pt_not (pt_val (pe_callB (cAll (K := K) rfl rfl) (by rfl) T.z_all bb_all (pa_cons (pe_lcomp rfl S_14_29 (piSK (K := K) rfl (pv 0)) (by intro _ _ _ _ _; exact (pg_name (i := 0) nd_14_29 rfl (Or.inl rfl))) (by intro _ _ _ _ _; exact pts_nil) (by intro _ _ _ _ _; exact (pe_cmpR oInStr (pv 0) (pe_glob (v := .str fig) (by rfl) hFig ⟨_, rfl⟩) (by with_unfolding_all rfl)))) pa_nil))))))).pt (pss_one (ps_ret pe_non)) pss_nil)
      (pss_cons (ps_if ((pw_and (pt_cmpR op_eq (pe_ix ix_str (pv 0) pe_int (fun _ _ => rfl)) pe_str (nomark _)) (pw_and1 (pt_cmpR op_ne (pv 0) pe_str (nomark _))))).pt (pss_one (ps_ret pe_non)) pss_nil)
      (pss_one (ps_ret (pe_callTy cIntS (by rfl) T.z_int bb_int (pa_cons (pv 0) pa_nil)))))), ?_⟩
    repeat walk_at "s"
    rw [e_empty, show decide (V.str (tx cs) = V.str (tx [])) = decide (cs = []) from decide_eq_decide.mpr tx_inj]
    refine ite2 (fun h => ?_) (fun h => ?_)
    · refine iteT ?_
      repeat walk_at "s"
      rw [if_pos (of_decide_eq_true h)] at k
      exact k H (Same.refl _)
    have hne : cs ≠ [] := fun z => h (decide_eq_true z)
    rw [if_neg hne] at k
    repeat walk_at "s"
    refine ⟨tx cs, rfl, ascii_ok hc, ?_⟩
    refine mapS (g := fun c => .bl (isDig c)) (by omega) ?_ ?_
    · intro c hcs R hR
      repeat walk_at "s"
      refine i_inStr ?_
      rw [fig_in c (hc c hcs)]
      exact hR
    intro D hD
    have s1 := same_upd (o := .lst (cs.map fun c => V.bl (isDig c))) hD
    repeat walk_at "s"
    refine ⟨D, cs.map isDig, rfl, SqL.of (by rw [upd_same, List.map_map]; rfl), ?_⟩
    rw [show (cs.map isDig).all id = cs.all isDig by rw [List.all_map]; rfl]
    repeat walk_at "s"
    cases hd : cs.all isDig with
    | false =>
      refine iteT ?_
      repeat walk_at "s"
      rw [if_pos hd] at k
      exact k _ s1
    | true =>
      refine iteF ?_
      rw [if_neg (by rw [hd]; decide)] at k
      obtain ⟨c, r, rfl⟩ : ∃ c r, cs = c :: r := by
        cases cs with
        | nil => exact absurd rfl hne
        | cons c r => exact ⟨c, r, rfl⟩
      repeat walk_at "s"
      refine i_ixS (c := c) (by rw [tx_len]; exact Nat.le_trans hl (by decide)) (show atI (tx (c :: r)).cps.toList ((0 : Nat) : Int) = some c from atI_nat (by unfold tx; simp)) ?_
      repeat walk_at "s"
      rw [e_nought, chV_tx, show decide (V.str (tx [c]) = V.str (tx [48])) = decide (c = 48) from decide_eq_decide.mpr (tx_inj.trans (by simp))]
      refine ite2 (fun h48 => ?_) (fun h48 => ?_)
      · repeat walk_at "s"
        rw [show (!decide (V.str (tx (c :: r)) = V.str (tx [48]))) = decide (1 < (c :: r).length) by
          have h48 := of_decide_eq_true h48
          subst h48
          rw [show decide (V.str (tx (48 :: r)) = V.str (tx [48])) = decide (r = []) from decide_eq_decide.mpr (tx_inj.trans (by simp))]
          cases r <;> simp]
        refine ite2 (fun h1 => ?_) (fun h1 => ?_)
        · repeat walk_at "s"
          rw [if_pos ⟨by rw [of_decide_eq_true h48]; rfl, of_decide_eq_true h1⟩] at k
          exact k _ s1
        · repeat walk_at "s"
          rw [if_neg (fun z => h1 (decide_eq_true z.2))] at k
          refine ⟨tx (c :: r), _, rfl, intText_digits (x := tx (c :: r)) ?_ (by unfold tx; simp) (by rw [tx_len]; omega), by rw [tx_len]; omega, ?_⟩
          · intro z hz
            unfold tx at hz
            have := List.all_eq_true.mp hd z (by simpa using hz)
            exact of_decide_eq_true this
          have q := k _ s1
          have e : (tx (c :: r)).cps.toList = c :: r := by unfold tx; simp
          rw [e]
          exact q
      · repeat walk_at "s"
        refine iteF ?_
        repeat walk_at "s"
        rw [if_neg (fun z => h48 (decide_eq_true (by have z1 := z.1; simpa using z1)))] at k
        refine ⟨tx (c :: r), _, rfl, intText_digits (x := tx (c :: r)) ?_ (by unfold tx; simp) (by rw [tx_len]; omega), by rw [tx_len]; omega, ?_⟩
        · intro z hz
          unfold tx at hz
          have := List.all_eq_true.mp hd z (by simpa using hz)
          exact of_decide_eq_true this
        have q := k _ s1
        have e : (tx (c :: r)).cps.toList = c :: r := by unfold tx; simp
        rw [e]
        exact q
end

section
variable {P : Program} {w : World} {K : PySem.W.Frag} {mg : Str → Option Value} {base : Heap}
theorem val_take {cs : List Nat} {i c : Nat} (h : cs[i]? = some c) : NumText.digitsVal (cs.take (i + 1)) = NumText.digitsVal (cs.take i) * 10 + (c - 48) := by
  rw [List.take_succ, h]
  show NumText.digitsVal (cs.take i ++ [c]) = _
  unfold NumText.digitsVal
  rw [List.foldl_append]
  rfl
abbrev sLawNumber : Stmt := top 23
theorem scLawNumber : FnScope ["_law_word", "_law_many", "_law_sign", "_law_at"] ["_law_word"] (defScope sLawNumber) := ⟨rfl, rfl, rfl, by decide +kernel, rfl, by decide +kernel, by decide +kernel⟩
theorem ok_lnumber {f : Addr} {fd : FuncData} (F : Fun K "_law_number" "_law_number" sLawNumber f fd) (T : BltM mg) : FnOk P w K mg base CX0 1 f fd ["_law_word"] spNum := by
  refine F.ok scLawNumber (fun vs H Q E h => ?_) (fun cdv A outer s H vs Q E hr h => ?_)
  · obtain ⟨cs, rfl, _⟩ := h
    rfl
  · obtain ⟨cs, rfl, hl, hc, k⟩ := h
    rw [vOf_num] at k
    have hz : (tx cs).cps.size = cs.length := by unfold tx; simp
    refine ⟨_, (pss_cons (ps_if ((pw_or (pt_cmpR op_eq (pv 0) pe_str (nomark _)) (pw_or1 ((pw_and (pt_cmpR op_gt (pe_callB cLenStr (by rfl) T.z_len bb_len (pa_cons (pv 0) pa_nil)) pe_int (nomark _)) (pw_and1 (pt_cmpR op_eq (pe_ix ix_str (pv 0) pe_int (fun _ _ => rfl)) pe_str (nomark _))))).pt))).pt (pss_one (ps_ret pe_non)) pss_nil)
      (pss_cons (ps_set (i := 1) scLawNumber.nd rfl (Or.inl rfl) pe_int)
      (pss_cons (ps_for PassesOwn.never rfl (piSK (K := K) rfl (pv 0)) (pg_name (i := 2) scLawNumber.nd rfl (Or.inl rfl)) (pss_cons (ps_set (i := 3) scLawNumber.nd rfl (Or.inl rfl) (mFind (K := K) rfl pe_str (pa_cons (pv 2) pa_nil)))
      (pss_cons (ps_if (pt_cmpR op_lt (pv 3) pe_int (nomark _)) (pss_one (ps_ret pe_non)) pss_nil)
      (pss_one (ps_set (i := 1) scLawNumber.nd rfl (Or.inl rfl) (pe_op op_add (pe_op op_mul (pv 1) pe_int) (pv 3)))))))
      (pss_one (ps_ret (pv 1)))))), ?_⟩
    repeat walk_at "s"
    rw [e_empty, show decide (V.str (tx cs) = V.str (tx [])) = decide (cs = []) from decide_eq_decide.mpr tx_inj]
    refine ite2 (fun h => ?_) (fun h => ?_)
    · refine iteT ?_
      repeat walk_at "s"
      rw [if_pos (of_decide_eq_true h)] at k
      exact k H (Same.refl _)
    have hne : cs ≠ [] := fun z => h (decide_eq_true z)
    rw [if_neg hne] at k
    have loop : ¬ (cs.head? = some 48 ∧ 1 < cs.length) → tSeq (tAsg (tC (.int 0)) (gName 1)) (tSeq (tFor (iStr (tVar 0)) (gName 2) (tSeq (tAsg (tBM K "str" rFind (tC (.str (Str.ofString "0123456789"))) (tCons (tVar 2) tNil)) (gName 3)) (tSeq (tIfS (tTest (tOp (rI0 fun i j => .bl (decide (i < j))) (tVar 3) (tC (.int 0)))) (tRet (tC .non)) tNext) (tAsg (tOp (rI0 fun i j => .int (i + j)) (tOp (rI CMul fun i j => .int (i * j)) (tVar 1) (tC (.int 10))) (tVar 3)) (gName 1))))) (tRet (tVar 1))) { nx := fun _ H' => Q .non H', rt := Q } [some (.str (tx cs)), none, none, none] H := by
      intro hh
      repeat walk_at "s"
      refine ⟨tx cs, rfl, ascii_ok hc, ?_⟩
      refine forW (fun i σ' H' => H' = H ∧ (cs.take i).all isDig = true ∧ ∃ x y, σ' = [some (.str (tx cs)), some (.int (NumText.digitsVal (cs.take i) : Nat)), x, y]) cs.length ⟨rfl, by simp, none, none, rfl⟩ ?_ ?_
      · rintro σ' H' ⟨rfl, hd, x, y, rfl⟩
        refine ⟨by show _ ≤ _; rw [hz]; exact Nat.le_refl _, ?_⟩
        rw [List.take_of_length_le (Nat.le_refl _)] at hd ⊢
        repeat walk_at "s"
        rw [if_neg (by rw [hd]; decide), if_neg hh] at k
        exact k _ (Same.refl _)
      · rintro i σ' H' hi ⟨rfl, hd, x, y, rfl⟩
        refine ⟨by show i < _; rw [hz]; exact hi, ?_⟩
        rintro v H2 ⟨rfl, c, hc', rfl⟩
        have hci : cs[i]? = some c := by unfold tx at hc'; simpa using hc'
        have hm : c ∈ cs := List.mem_of_getElem? hci
        repeat walk_at "s"
        refine ⟨rfl, ?_⟩
        repeat walk_at "s"
        refine i_find ?_
        rw [show findI (Str.ofString "0123456789") ⟨#[c]⟩ = _ from fig_find c (hc c hm)]
        repeat walk_at "s"
        cases hdc : isDig c with
        | true =>
          rw [if_pos rfl]
          rw [show decide ((((c - 48 : Nat)) : Int) < 0) = false from decide_eq_false (by omega)]
          refine iteF ?_
          repeat walk_at "s"
          refine ⟨rfl, ?_, some (chV c), some (.int ((c - 48 : Nat) : Int)), ?_⟩
          · rw [List.take_succ, hci, List.all_append, hd]
            show (true && ((isDig c) && true)) = true
            rw [hdc]; rfl
          · rw [val_take hci, Int.natCast_add, Int.natCast_mul]
            rfl
        | false =>
          rw [if_neg Bool.false_ne_true]
          refine iteT ?_
          repeat walk_at "s"
          have ha : cs.all isDig = false := by
            rw [Bool.eq_false_iff]
            intro z
            have := List.all_eq_true.mp z c hm
            rw [hdc] at this
            cases this
          rw [if_pos ha] at k
          exact k _ (Same.refl _)
    repeat walk_at "s"
    refine i_lenStr (by rw [tx_len]; exact Nat.le_trans hl (by decide)) ?_
    rw [tx_len]
    repeat walk_at "s"
    obtain ⟨c, r, rfl⟩ : ∃ c r, cs = c :: r := by
      cases cs with
      | nil => exact absurd rfl hne
      | cons c r => exact ⟨c, r, rfl⟩
    refine ite2 (fun h1 => ?_) (fun h1 => ?_)
    · repeat walk_at "s"
      refine i_ixS (c := c) (by rw [tx_len]; exact Nat.le_trans hl (by decide)) (show atI (tx (c :: r)).cps.toList ((0 : Nat) : Int) = some c from atI_nat (by unfold tx; simp)) ?_
      repeat walk_at "s"
      rw [e_nought, chV_tx, show decide (V.str (tx [c]) = V.str (tx [48])) = decide (c = 48) from decide_eq_decide.mpr (tx_inj.trans (by simp))]
      refine ite2 (fun h48 => ?_) (fun h48 => ?_)
      · repeat walk_at "s"
        have h1' : 1 < (c :: r).length := by have := of_decide_eq_true h1; omega
        have hy : (c :: r).head? = some 48 ∧ 1 < (c :: r).length := ⟨by rw [of_decide_eq_true h48]; rfl, h1'⟩
        by_cases ha : (c :: r).all isDig = false
        · rw [if_pos ha] at k
          exact k _ (Same.refl _)
        · rw [if_neg ha, if_pos hy] at k
          exact k _ (Same.refl _)
      · exact loop fun z => h48 (decide_eq_true (by have z1 := z.1; simpa using z1))
    · refine iteF ?_
      exact loop fun z => h1 (decide_eq_true (by have := z.2; omega))
end

/-! ### facts, as they are written -/
def slash : Str := "/"
def blank : Str := " "
def okN (ns : List Int) : Prop := ∀ n ∈ ns, 0 ≤ n ∧ n < 10 ^ 4
def okC (ns : List Int) : Prop := ∀ n ∈ ns, 0 ≤ n ∧ n < 10 ^ 7
inductive Fc where
  | num (x : Str) (ns : List Int) | mov (x : Str) (ns : List Int) | ref (ns : List Int) (nss : List (List Int))
def wdsR (ns : List Int) (nss : List (List Int)) : List Str := ns.map txI ++ nss.flatMap fun s => slash :: s.map txI
def Fc.wds : Fc → List Str
  | .num x ns => x :: ns.map txI
  | .mov x ns => x :: ns.map txI
  | .ref ns nss => "refit" :: wdsR ns nss
def Fc.ok : Fc → Prop
  | .num x ns => (((x = "fell" ∨ x = "clear") ∧ ns.length = 1) ∨ ((x = "lend" ∨ x = "pay") ∧ ns.length = 2)) ∧ okC ns
  | .mov x ns => (x = "storm" ∨ x = "find") ∧ ns.length ≤ 60 ∧ okN ns
  | .ref ns nss => ns.length ≤ 9 ∧ nss.length ≤ 8 ∧ okN ns ∧ ∀ s ∈ nss, s.length ≤ 12 ∧ okN s
def FcAt (H : Hp) (p : Addr) : Fc → Prop
  | .num x ns => H p = some (.tup (.str x :: ns.map V.int))
  | .mov x ns => ∃ a, H p = some (.tup [.str x, .ref a]) ∧ H a = some (.tup (ns.map V.int))
  | .ref ns nss => ∃ (a b : Addr) (ts : List Addr), H p = some (.tup [.str "refit", .ref a, .ref b]) ∧ H a = some (.tup (ns.map V.int)) ∧ H b = some (.tup (ts.map V.ref)) ∧ TsAt H ts nss
theorem FcAt.same {H H' : Hp} {p : Addr} {F : Fc} (s : Same H H') (h : FcAt H p F) : FcAt H' p F := by
  cases F with
  | num x ns => exact s _ _ h
  | mov x ns => obtain ⟨a, h1, h2⟩ := h; exact ⟨a, s _ _ h1, s _ _ h2⟩
  | ref ns nss => obtain ⟨a, b, ts, h1, h2, h3, h4⟩ := h; exact ⟨a, b, ts, s _ _ h1, s _ _ h2, s _ _ h3, h4.same s⟩
def FactN (H : Hp) (p : Addr) : Prop := ∃ F : Fc, F.ok ∧ FcAt H p F
theorem tx_toList (t : Str) : tx t.cps.toList = t := by
  cases t
  unfold tx
  simp
theorem txI_le {n : Int} {k : Nat} (hk : 0 < k) (h : 0 ≤ n ∧ n < 10 ^ k) : (txI n).length ≤ k ∧ ∀ c ∈ (txI n).cps.toList, c ∈ signsOk := by
  obtain ⟨m, rfl⟩ : ∃ m : Nat, n = m := ⟨n.toNat, by omega⟩
  have hm : m < 10 ^ k := by
    have := h.2
    exact_mod_cast this
  have e : (txI (m : Int)).length = (Nat.toDigits 10 m).length := by
    show (txI (m : Int)).cps.size = _
    rw [← Array.length_toList, txI_list, List.length_map]
  refine ⟨?_, fun c hc => ?_⟩
  · rw [e]
    exact (Nat.length_toDigits_le_iff (by decide) hk).mpr hm
  · rw [txI_list] at hc
    have := dig_digits m c hc
    exact List.mem_range.mpr (by omega)
theorem word_len : ∀ x ∈ (["fell", "clear", "lend", "pay", "storm", "find", "refit", "/"] : List Str), x.length ≤ 5 ∧ ∀ c ∈ x.cps.toList, c ∈ signsOk := by decide +kernel
theorem slash_len : slash.length ≤ 4 := by decide +kernel
theorem blank_len : blank.length = 1 := by decide +kernel
theorem blank_ok : ∀ c ∈ blank.cps.toList, c ∈ signsOk := by decide +kernel
theorem flat_le : ∀ l : List (List Int), (∀ s ∈ l, s.length ≤ 12) → (l.flatMap fun s => slash :: s.map txI).length ≤ l.length * 13
  | [], _ => Nat.le_refl _
  | s :: r, h => by
    have a := h s List.mem_cons_self
    have b := flat_le r fun x hx => h x (List.mem_cons_of_mem _ hx)
    rw [List.flatMap_cons, List.length_append, List.length_cons, List.length_map, List.length_cons, Nat.succ_mul]
    omega
theorem wdsR_len {ns : List Int} {nss : List (List Int)} (h1 : ns.length ≤ 9) (h2 : nss.length ≤ 8) (h3 : ∀ s ∈ nss, s.length ≤ 12) : (wdsR ns nss).length ≤ 113 := by
  have z := flat_le nss h3
  unfold wdsR
  rw [List.length_append, List.length_map]
  omega
theorem wds_ok {F : Fc} (h : F.ok) : ∃ x ws, F.wds = x :: ws ∧ x.length ≤ 5 ∧ (∀ c ∈ x.cps.toList, c ∈ signsOk) ∧ (∀ t ∈ ws, ∀ c ∈ t.cps.toList, c ∈ signsOk) ∧ ((ws.length ≤ 2 ∧ ∀ t ∈ ws, t.length ≤ 7) ∨ (ws.length ≤ 113 ∧ ∀ t ∈ ws, t.length ≤ 4)) := by
  have nn : ∀ ns : List Int, okN ns → ∀ t ∈ ns.map txI, t.length ≤ 4 ∧ ∀ c ∈ t.cps.toList, c ∈ signsOk := by
    intro ns ho t ht
    obtain ⟨n, hn, rfl⟩ := List.mem_map.mp ht
    exact txI_le (by decide) (ho n hn)
  cases F with
  | num x ns =>
    obtain ⟨hx, ho⟩ := h
    obtain ⟨w1, w2⟩ := word_len x (by rcases hx with ⟨rfl | rfl, _⟩ | ⟨rfl | rfl, _⟩ <;> simp)
    have nc : ∀ t ∈ ns.map txI, t.length ≤ 7 ∧ ∀ c ∈ t.cps.toList, c ∈ signsOk := by
      intro t ht
      obtain ⟨n, hn, rfl⟩ := List.mem_map.mp ht
      exact txI_le (by decide) (ho n hn)
    exact ⟨x, ns.map txI, rfl, w1, w2, fun t ht => (nc t ht).2, .inl ⟨by rw [List.length_map]; rcases hx with ⟨_, e⟩ | ⟨_, e⟩ <;> omega, fun t ht => (nc t ht).1⟩⟩
  | mov x ns =>
    obtain ⟨hx, l6, ho⟩ := h
    obtain ⟨w1, w2⟩ := word_len x (by rcases hx with rfl | rfl <;> simp)
    exact ⟨x, ns.map txI, rfl, w1, w2, fun t ht => (nn ns ho t ht).2, .inr ⟨by rw [List.length_map]; omega, fun t ht => (nn ns ho t ht).1⟩⟩
  | ref ns nss =>
    obtain ⟨l1, l2, o1, o2⟩ := h
    obtain ⟨w1, w2⟩ := word_len "refit" (by simp)
    have all : ∀ t ∈ wdsR ns nss, t.length ≤ 4 ∧ ∀ c ∈ t.cps.toList, c ∈ signsOk := by
      intro t ht
      unfold wdsR at ht
      rcases List.mem_append.mp ht with ht | ht
      · exact nn ns o1 t ht
      · obtain ⟨s, hs, ht⟩ := List.mem_flatMap.mp ht
        rcases List.mem_cons.mp ht with rfl | ht
        · exact ⟨slash_len, (word_len _ (by unfold slash; simp)).2⟩
        · exact nn s (o2 s hs).2 t ht
    exact ⟨"refit", wdsR ns nss, rfl, w1, w2, fun t ht => (all t ht).2, .inr ⟨wdsR_len l1 l2 fun s hs => (o2 s hs).1, fun t ht => (all t ht).1⟩⟩
def sumL (ts : List Str) : Nat := (ts.map fun t => t.length + 1).sum
theorem sumL_le {m : Nat} : ∀ ts : List Str, (∀ t ∈ ts, t.length ≤ m) → sumL ts ≤ ts.length * (m + 1)
  | [], _ => Nat.zero_le _
  | t :: r, h => by
    have h1 := h t List.mem_cons_self
    have h2 := sumL_le (m := m) r fun x hx => h x (List.mem_cons_of_mem _ hx)
    show t.length + 1 + sumL r ≤ _
    rw [List.length_cons, Nat.succ_mul]
    omega
theorem wds_sum {F : Fc} (h : F.ok) : sumL F.wds ≤ 580 := by
  obtain ⟨x, ws, e, x5, _, _, hw⟩ := wds_ok h
  rw [e]
  show x.length + 1 + sumL ws ≤ 580
  rcases hw with ⟨l, t⟩ | ⟨l, t⟩
  · have := sumL_le ws t
    have : ws.length * (7 + 1) ≤ 2 * 8 := Nat.mul_le_mul_right _ l
    omega
  · have := sumL_le ws t
    have : ws.length * (4 + 1) ≤ 113 * 5 := Nat.mul_le_mul_right _ l
    omega
def txtOf (F : Fc) : Str := Txt.join blank F.wds
theorem join_le : ∀ ts : List Str, (Str.join blank ts).length ≤ sumL ts ∧ ∀ c ∈ (Str.join blank ts).cps.toList, c ∈ blank.cps.toList ∨ ∃ t ∈ ts, c ∈ t.cps.toList
  | [] => ⟨Nat.zero_le _, fun c hc => by cases hc⟩
  | [a] => ⟨by show a.length ≤ a.length + 1 + 0; omega, fun c hc => .inr ⟨a, List.mem_cons_self, hc⟩⟩
  | a :: b :: r => by
    obtain ⟨h1, h2⟩ := join_le (b :: r)
    have e : (Str.join blank (a :: b :: r)).cps.toList = a.cps.toList ++ blank.cps.toList ++ (Str.join blank (b :: r)).cps.toList := by
      show (a ++ blank ++ Str.join blank (b :: r)).cps.toList = _
      rw [str_toList, str_toList]
    have el : (Str.join blank (a :: b :: r)).length = a.length + blank.length + (Str.join blank (b :: r)).length := by
      show (Str.join blank (a :: b :: r)).cps.size = _
      rw [← Array.length_toList, e, List.length_append, List.length_append, Array.length_toList, Array.length_toList, Array.length_toList]
      rfl
    refine ⟨?_, fun c hc => ?_⟩
    · rw [el, blank_len]
      show _ ≤ a.length + 1 + sumL (b :: r)
      omega
    · rw [e] at hc
      rcases List.mem_append.mp hc with hc | hc
      · rcases List.mem_append.mp hc with hc | hc
        · exact .inr ⟨a, List.mem_cons_self, hc⟩
        · exact .inl hc
      · rcases h2 c hc with z | ⟨t, ht, z⟩
        · exact .inl z
        · exact .inr ⟨t, List.mem_cons_of_mem _ ht, z⟩
theorem txt_ok {F : Fc} (h : F.ok) : (txtOf F).cps.toList.length ≤ 580 ∧ ∀ c ∈ (txtOf F).cps.toList, c ∈ signsOk := by
  obtain ⟨j1, j2⟩ := join_le F.wds
  obtain ⟨x, ws, e, _, x2, t2, _⟩ := wds_ok h
  unfold txtOf
  rw [join_txt]
  refine ⟨?_, fun c hc => ?_⟩
  · rw [Array.length_toList]
    exact Nat.le_trans j1 (wds_sum h)
  · rcases j2 c hc with z | ⟨t, ht, z⟩
    · exact blank_ok c z
    · rw [e] at ht
      rcases List.mem_cons.mp ht with rfl | ht
      · exact x2 c z
      · exact t2 t ht c z
theorem fold_sum : ∀ (ts : List Str) (z : Nat), ts.foldl (fun acc t => acc + t.length + blank.length) z = z + sumL ts
  | [], z => rfl
  | t :: r, z => by
    rw [List.foldl_cons, fold_sum r, blank_len]
    show _ = z + (t.length + 1 + sumL r)
    omega
theorem join_ok {F : Fc} (h : F.ok) : JoinOk blank F.wds = true := by
  have hf := wds_sum h
  unfold JoinOk Builtin.Str.tooLong
  rw [List.foldl_toArray, fold_sum]
  simp only [Bool.not_eq_true', decide_eq_false_iff_not, Nat.not_le, ge_iff_le, gt_iff_lt, Nat.not_lt]
  have : 30000 ≤ sizeLine := by decide
  omega
def tabM : List (Str × Int) := [("fell", 1), ("lend", 2), ("pay", 2), ("clear", 1)]
theorem datI_cons {k x : Str} {d : Int} {D : List (Str × Int)} : PyProof.Rows.KTD.datumAt k ((x, d) :: D) = if k = x then some d else PyProof.Rows.KTD.datumAt k D := by
  show (if decide (k = x) = true then some d else _) = _
  by_cases h : k = x
  · rw [if_pos h, if_pos (decide_eq_true h)]
  · rw [if_neg h, if_neg (by simp [h])]
theorem inV_2 {x a b : Str} : inV (.str x) [.str a, .str b] = (decide (x = a) || decide (x = b)) := by
  have e : ∀ a : Str, eqV (.str a) (.str x) = decide (x = a) := fun a => by
    show (a == x) = _
    by_cases h : x = a
    · subst h; simp
    · rw [decide_eq_false h]
      exact beq_eq_false_iff_ne.mpr fun z => h z.symm
  unfold inV
  rw [List.any_cons, List.any_cons, e, e, List.any_nil, Bool.or_false]
theorem decS {x a : Str} : decide (V.str x = V.str a) = decide (x = a) := decide_eq_decide.mpr ⟨fun h => by injection h, fun h => by rw [h]⟩
theorem at0 (v : V) (us : List V) : atI (v :: us) 0 = some v := atI_nat (xs := v :: us) (j := 0) rfl
theorem cut1 (v : V) (us : List V) : cutV (v :: us) (some 1) none = us := by
  have e1 : HT.sIx (v :: us).length 0 (some (1 : Int)) = 1 := (HT.sIx_nat (v :: us).length 0 1).trans (Nat.min_eq_left (by rw [List.length_cons]; omega))
  have e2 : HT.sIx (v :: us).length (v :: us).length none = (v :: us).length := HT.sIx_none _ _
  unfold cutV
  rw [e1, e2]
  show List.take _ us = us
  exact List.take_of_length_le (by rw [List.length_cons]; omega)
theorem cut1_not (v : V) (us : List V) {hi : Option Int} : ¬ (HT.sIx (v :: us).length 0 (some (1 : Int)) = 0 ∧ HT.sIx (v :: us).length (v :: us).length hi = (v :: us).length) := by
  have e1 : HT.sIx (v :: us).length 0 (some (1 : Int)) = 1 := (HT.sIx_nat (v :: us).length 0 1).trans (Nat.min_eq_left (by rw [List.length_cons]; omega))
  rw [e1]
  exact fun z => by cases z.1
theorem num_many {x : Str} {ns : List Int} (h : ((x = "fell" ∨ x = "clear") ∧ ns.length = 1) ∨ ((x = "lend" ∨ x = "pay") ∧ ns.length = 2)) : x ≠ "refit" ∧ x ≠ "storm" ∧ x ≠ "find" ∧ PyProof.Rows.KTD.datumAt x tabM = some (ns.length : Int) := by
  rcases h with ⟨rfl | rfl, e⟩ | ⟨rfl | rfl, e⟩ <;> rw [e] <;> exact ⟨by decide, by decide, by decide, by decide +kernel⟩
theorem mov_many {x : Str} (h : x = "storm" ∨ x = "find") : x ≠ "refit" ∧ PyProof.Rows.KTD.datumAt x tabM = none := by
  rcases h with rfl | rfl <;> exact ⟨by decide, by decide +kernel⟩
section
variable {P : Program} {w : World} {K : PySem.W.Frag} {mg : Str → Option Value} {base : Heap}
theorem big_pow {n : Int} (h : 0 ≤ n ∧ n < 10 ^ 7) : n.natAbs < 2 ^ 1000 := Nat.lt_trans (show n.natAbs < 2 ^ 30 by omega) (Nat.pow_lt_pow_right (by decide) (by decide))
theorem okN.c {ns : List Int} (h : okN ns) : okC ns := fun n hn => by have := h n hn; exact ⟨this.1, by omega⟩
/-- [str(x) for x in a tuple of numbers] -/
theorem mapStr {a : Addr} {ns : List Int} {H1 : Hp} {Fin : List V → Hp → Prop} (ha : H1 a = some (.tup (ns.map V.int))) (hl : ns.length ≤ 1000) (ho : okC ns) (fin : Fin ((ns.map txI).map V.str) H1) :
    CompT (Itt K a) (gName 0) tYes (tCB rStrI (tCons (tVar 0) tNil)) Fin [none] H1 := by
  refine compW (fun i ys σ' H' => (∃ x, σ' = [x]) ∧ H' = H1 ∧ ys = ((ns.take i).map txI).map V.str) ns.length ⟨⟨none, rfl⟩, rfl, rfl⟩ ?_ ?_
  · rintro ys σ' H' ⟨_, rfl, rfl⟩
    refine ⟨⟨_, SqT.of ha, by rw [List.length_map]; exact Nat.le_refl _⟩, ?_⟩
    rw [List.take_of_length_le (Nat.le_refl _)]
    exact fin
  · rintro i ys σ' H' hi ⟨⟨x0, rfl⟩, rfl, rfl⟩
    have e : ns[i]? = some ns[i] := List.getElem?_eq_getElem hi
    refine ⟨⟨_, .int ns[i], SqT.of ha, by rw [List.getElem?_map, e]; rfl⟩, Nat.lt_of_lt_of_le (show _ < 1001 by rw [List.length_map, List.length_map, List.length_take]; omega) (by decide), ?_⟩
    rintro v H2 ⟨rfl, hy⟩
    have ev := hy _ (SqT.of ha)
    rw [List.getElem?_map, e] at ev
    cases ev
    refine i_name (i_yes (iteT (i_cb (i_cons (i_var rfl (i_nil (i_strI (big_pow (ho _ (List.getElem_mem hi))) ?_)))))))
    refine nxt hi ⟨⟨_, rfl⟩, rfl, ?_⟩
    rw [List.take_succ, e, List.map_append, List.map_append]
    rfl
theorem wdsR_succ (ns : List Int) (nss : List (List Int)) (i : Nat) {s : List Int} (e : nss[i]? = some s) : wdsR ns (nss.take (i + 1)) = wdsR ns (nss.take i) ++ [slash] ++ s.map txI := by
  unfold wdsR
  rw [List.take_succ, e, List.flatMap_append]
  simp
def spWritten : Sp := fun vs H Q _ => ∃ (p : Addr) (F : Fc), vs = [.ref p] ∧ F.ok ∧ FcAt H p F ∧ ∀ cs H', Same H H' → cs.length ≤ 580 → (∀ c ∈ cs, c ∈ signsOk) → Q (.str (tx cs)) H'
abbrev sLawWritten : Stmt := top 25
theorem scLawWritten : FnScope ["_law_fact", "_law_words", "_law_timbers"] ["_law_fact"] (defScope sLawWritten) := ⟨rfl, rfl, rfl, by decide +kernel, rfl, by decide +kernel, by decide +kernel⟩
theorem nd_132_34 : (["_law_name"] : List Str).Nodup := by decide +kernel
theorem S_132_34 : CompScope ["_law_fact", "_law_words", "_law_timbers"] (defScope sLawWritten) ({ kind := PySem.ScopeKind.function, names := [ (PySem.Str.ofString ".0", PySem.NameKind.local), (PySem.Str.ofString "_law_name", PySem.NameKind.local), (PySem.Str.ofString "str", PySem.NameKind.globalImplicit)], isGenerator := false, isCoroutine := false, more := [] : PySem.Scope }) (["_law_name"] : List Str) ([] : List (Nat × Str)) := ⟨by decide +kernel, by decide +kernel, by decide +kernel, by decide +kernel, by decide +kernel⟩
theorem nd_134_46 : (["_law_timber"] : List Str).Nodup := by decide +kernel
theorem S_134_46 : CompScope ["_law_fact", "_law_words", "_law_timbers"] (defScope sLawWritten) ({ kind := PySem.ScopeKind.function, names := [ (PySem.Str.ofString ".0", PySem.NameKind.local), (PySem.Str.ofString "_law_timber", PySem.NameKind.local), (PySem.Str.ofString "str", PySem.NameKind.globalImplicit)], isGenerator := false, isCoroutine := false, more := [] : PySem.Scope }) (["_law_timber"] : List Str) ([] : List (Nat × Str)) := ⟨by decide +kernel, by decide +kernel, by decide +kernel, by decide +kernel, by decide +kernel⟩
theorem nd_136_34 : (["_law_timber"] : List Str).Nodup := by decide +kernel
theorem S_136_34 : CompScope ["_law_fact", "_law_words", "_law_timbers"] (defScope sLawWritten) ({ kind := PySem.ScopeKind.function, names := [ (PySem.Str.ofString ".0", PySem.NameKind.local), (PySem.Str.ofString "_law_timber", PySem.NameKind.local), (PySem.Str.ofString "str", PySem.NameKind.globalImplicit)], isGenerator := false, isCoroutine := false, more := [] : PySem.Scope }) (["_law_timber"] : List Str) ([] : List (Nat × Str)) := ⟨by decide +kernel, by decide +kernel, by decide +kernel, by decide +kernel, by decide +kernel⟩
theorem nd_138_34 : (["_law_thing"] : List Str).Nodup := by decide +kernel
theorem S_138_34 : CompScope ["_law_fact", "_law_words", "_law_timbers"] (defScope sLawWritten) ({ kind := PySem.ScopeKind.function, names := [ (PySem.Str.ofString ".0", PySem.NameKind.local), (PySem.Str.ofString "_law_thing", PySem.NameKind.local), (PySem.Str.ofString "str", PySem.NameKind.globalImplicit)], isGenerator := false, isCoroutine := false, more := [] : PySem.Scope }) (["_law_thing"] : List Str) ([] : List (Nat × Str)) := ⟨by decide +kernel, by decide +kernel, by decide +kernel, by decide +kernel, by decide +kernel⟩
theorem ok_written {f : Addr} {fd : FuncData} (F : Fun K "_law_written" "_law_written" sLawWritten f fd) (T : BltM mg) : FnOk P w K mg base CX0 1 f fd ["_law_fact"] spWritten := by
  refine F.ok scLawWritten (fun vs H Q E h => ?_) (fun cdv A outer s H vs Q E hr h => ?_)
  · obtain ⟨p, G, rfl, _⟩ := h
    rfl
  · obtain ⟨p, G, rfl, ok, hF, k⟩ := h
    refine' ⟨_, ?zz, ?_⟩
    case zz =>
      refine' pss_cons ?s0 ?r0
      case s0 => exact (ps_set (i := 1) scLawWritten.nd rfl (Or.inl rfl) (pe_lst (pa_cons (pe_ix (ixT (K := K) rfl) (pv 0) pe_int (fun _ _ => rfl)) pa_nil)))
      case r0 =>
      refine' pss_cons ?s1 ?r1
      case s1 => exact (ps_if (pt_cmpR op_eq (pe_ix (ixT (K := K) rfl) (pv 0) pe_int (fun _ _ => rfl)) pe_str (nomark _)) (pss_cons (by exact (ps_set (i := 1) scLawWritten.nd rfl (Or.inl rfl) (pe_op op_cat (pv 1) (pe_lcomp rfl S_132_34 (piT (K := K) rfl (pe_ix (ixT (K := K) rfl) (pv 0) pe_int (fun _ _ => rfl))) (by intro _ _ _ _ _; exact (pg_name (i := 0) nd_132_34 rfl (Or.inl rfl))) (by intro _ _ _ _ _; exact pts_nil) (by intro _ _ _ _ _; exact (pe_callTy cStrI (by rfl) T.z_str bb_str (pa_cons (pv 0) pa_nil)))))))
      (pss_one (by exact (ps_for PassesOwn.never rfl (piT (K := K) rfl (pe_ix (ixT (K := K) rfl) (pv 0) pe_int (fun _ _ => rfl))) (pg_name (i := 2) scLawWritten.nd rfl (Or.inl rfl)) (pss_one (by exact (ps_set (i := 1) scLawWritten.nd rfl (Or.inl rfl) (pe_op op_cat (pe_op op_cat (pv 1) (pe_lst (pa_cons pe_str pa_nil))) (pe_lcomp rfl S_134_46 (piT (K := K) rfl (pv 2)) (by intro _ _ _ _ _; exact (pg_name (i := 0) nd_134_46 rfl (Or.inl rfl))) (by intro _ _ _ _ _; exact pts_nil) (by intro _ _ _ _ _; exact (pe_callTy cStrI (by rfl) T.z_str bb_str (pa_cons (pv 0) pa_nil)))))))))))) (pss_one (by exact (ps_if (pt_cmpR (oIn (K := K) rfl) (pe_ix (ixT (K := K) rfl) (pv 0) pe_int (fun _ _ => rfl)) (pe_tup (pa_cons pe_str (pa_cons pe_str pa_nil))) (by with_unfolding_all rfl)) (pss_one (by exact (ps_set (i := 1) scLawWritten.nd rfl (Or.inl rfl) (pe_op op_cat (pv 1) (pe_lcomp rfl S_136_34 (piT (K := K) rfl (pe_ix (ixT (K := K) rfl) (pv 0) pe_int (fun _ _ => rfl))) (by intro _ _ _ _ _; exact (pg_name (i := 0) nd_136_34 rfl (Or.inl rfl))) (by intro _ _ _ _ _; exact pts_nil) (by intro _ _ _ _ _; exact (pe_callTy cStrI (by rfl) T.z_str bb_str (pa_cons (pv 0) pa_nil)))))))) (pss_one (by exact (ps_set (i := 1) scLawWritten.nd rfl (Or.inl rfl) (pe_op op_cat (pv 1) (pe_lcomp rfl S_138_34 (piT (K := K) rfl (pe_slice (slT (K := K) rfl) (pv 0) (po_some pe_int) po_none)) (by intro _ _ _ _ _; exact (pg_name (i := 0) nd_138_34 rfl (Or.inl rfl))) (by intro _ _ _ _ _; exact pts_nil) (by intro _ _ _ _ _; exact (pe_callTy cStrI (by rfl) T.z_str bb_str (pa_cons (pv 0) pa_nil))))))))))))
      case r1 =>
      exact pss_one (ps_ret (mJoinS (K := K) rfl pe_str (pa_cons (pv 1) pa_nil)))
    have fin : ∀ (l : Addr) (H1 : Hp) (z : Option V), Same H H1 → H1 l = some (.lst (G.wds.map V.str)) →
        tRet (tBM K "str" rJoinS (tC (.str " ")) (tCons (tVar 1) tNil)) { nx := fun _ H' => Q .non H', rt := Q } [some (.ref p), some (.ref l), z] H1 := by
      intro l H1 z s1 hl
      refine i_ret (i_bm (i_tC ⟨rfl, ?_⟩))
      repeat walk_at "s"
      have z := txt_ok ok
      refine i_joinS hl (join_ok ok) ?_
      have q := k _ _ s1 z.1 z.2
      rw [tx_toList] at q
      exact q
    cases G with
    | num x ns =>
      obtain ⟨n1, n2, n3, ed⟩ := num_many ok.1
      have lns : ns.length ≤ 2 := by rcases ok.1 with ⟨_, e⟩ | ⟨_, e⟩ <;> omega
      have hF' : H p = some (.tup (.str x :: ns.map V.int)) := hF
      repeat walk_at "s"
      refine i_ixT (SqT.of hF') (at0 _ _) ?_
      repeat walk_at "s"
      refine ⟨by show 1 ≤ sizeLine; decide, fun l hl => ?_⟩
      have s1 := same_upd (o := .lst [.str x]) hl
      have hl1 : upd H l (.lst [.str x]) l = some (.lst [.str x]) := upd_same
      replace hF' := s1 _ _ hF'
      generalize upd H l (.lst [.str x]) = H1 at s1 hl1 hF' ⊢
      repeat walk_at "s"
      refine i_ixT (SqT.of hF') (at0 _ _) ?_
      repeat walk_at "s"
      rw [decS, decide_eq_false n1]
      refine iteF ?_
      repeat walk_at "s"
      refine i_ixT (SqT.of hF') (at0 _ _) ?_
      repeat walk_at "s"
      refine ⟨by show 2 ≤ sizeLine; decide, fun q hq => ?_⟩
      have s2 := same_upd (o := .tup [.str "storm", .str "find"]) hq
      have hq2 : upd H1 q (.tup [.str "storm", .str "find"]) q = some (.tup [.str "storm", .str "find"]) := upd_same
      replace hl1 := s2 _ _ hl1
      replace hF' := s2 _ _ hF'
      replace s1 := s1.trans s2
      generalize upd H1 q (.tup [.str "storm", .str "find"]) = H2 at s2 hq2 hl1 hF' s1 ⊢
      refine ⟨q, _, rfl, .inr (SqT.of hq2), rfl, rfl, ?_⟩
      rw [inV_2, if_neg Bool.false_ne_true, decide_eq_false n2, decide_eq_false n3]
      repeat walk_at "s"
      refine iteF ?_
      repeat walk_at "s"
      refine i_slT (SqT.of hF') (cut1_not _ _) fun g hg => ?_
      rw [cut1]
      have s3 := same_upd (o := .tup (ns.map V.int)) hg
      have hg3 : upd H2 g (.tup (ns.map V.int)) g = some (.tup (ns.map V.int)) := upd_same
      replace hl1 := s3 _ _ hl1
      replace s1 := s1.trans s3
      generalize upd H2 g (.tup (ns.map V.int)) = H3 at s3 hg3 hl1 s1 ⊢
      refine ⟨g, rfl, ⟨_, SqT.of hg3⟩, ?_⟩
      refine mapStr hg3 (by omega) ok.2 ?_
      intro D hD
      have s4 := same_upd (o := .lst ((ns.map txI).map V.str)) hD
      repeat walk_at "s"
      refine i_cat (s4 _ _ hl1) upd_same (le_line (by rw [List.length_map, List.length_map]; show 1 + _ ≤ _; omega)) fun m hm => ?_
      refine i_name ?_
      exact fin m _ _ ((s1.trans s4).trans (same_upd hm)) (by rw [upd_same]; rfl)
    | mov x ns =>
      obtain ⟨n1, ed⟩ := mov_many ok.1
      have lns := ok.2.1
      obtain ⟨a, hp, ha⟩ := hF
      repeat walk_at "s"
      refine ⟨by show 1 ≤ sizeLine; decide, fun l hl => ?_⟩
      have s1 := same_upd (o := .lst [.str x]) hl
      have hl1 : upd H l (.lst [.str x]) l = some (.lst [.str x]) := upd_same
      replace hp := s1 _ _ hp
      replace ha := s1 _ _ ha
      generalize upd H l (.lst [.str x]) = H1 at s1 hl1 hp ha ⊢
      repeat walk_at "s"
      rw [decS, decide_eq_false n1]
      refine iteF ?_
      repeat walk_at "s"
      refine ⟨by show 2 ≤ sizeLine; decide, fun q hq => ?_⟩
      have s2 := same_upd (o := .tup [.str "storm", .str "find"]) hq
      have hq2 : upd H1 q (.tup [.str "storm", .str "find"]) q = some (.tup [.str "storm", .str "find"]) := upd_same
      replace hl1 := s2 _ _ hl1
      replace hp := s2 _ _ hp
      replace ha := s2 _ _ ha
      replace s1 := s1.trans s2
      generalize upd H1 q (.tup [.str "storm", .str "find"]) = H2 at s2 hq2 hl1 hp ha s1 ⊢
      refine ⟨q, _, rfl, .inr (SqT.of hq2), rfl, rfl, ?_⟩
      rw [inV_2, if_neg Bool.false_ne_true, show (decide (x = "storm") || decide (x = "find")) = true by rcases ok.1 with rfl | rfl <;> simp]
      repeat walk_at "s"
      refine iteT ?_
      repeat walk_at "s"
      refine ⟨a, rfl, ⟨_, SqT.of ha⟩, ?_⟩
      refine mapStr ha (by omega) (okN.c ok.2.2) ?_
      intro D hD
      have s4 := same_upd (o := .lst ((ns.map txI).map V.str)) hD
      repeat walk_at "s"
      refine i_cat (s4 _ _ hl1) upd_same (le_line (by rw [List.length_map, List.length_map]; show 1 + _ ≤ _; omega)) fun m hm => ?_
      refine i_name ?_
      exact fin m _ _ ((s1.trans s4).trans (same_upd hm)) (by rw [upd_same]; rfl)
    | ref ns nss =>
      have okk := ok
      obtain ⟨l1, l2, o1, o2⟩ := ok
      obtain ⟨a, b, ts, hp, ha, hb, ht⟩ := hF
      have lt := ht.1
      repeat walk_at "s"
      refine ⟨by show 1 ≤ sizeLine; decide, fun l hl => ?_⟩
      have s1 := same_upd (o := .lst [.str "refit"]) hl
      have hl1 : upd H l (.lst [.str "refit"]) l = some (.lst [.str "refit"]) := upd_same
      have hp1 := s1 _ _ hp
      have ha1 := s1 _ _ ha
      generalize upd H l (.lst [.str "refit"]) = H1 at s1 hl1 hp1 ha1 ⊢
      repeat walk_at "s"
      rw [decS, decide_eq_true rfl]
      refine iteT ?_
      repeat walk_at "s"
      refine ⟨a, rfl, ⟨_, SqT.of ha1⟩, ?_⟩
      refine mapStr ha1 (by omega) (okN.c o1) ?_
      intro D hD
      have s4 := same_upd (o := .lst ((ns.map txI).map V.str)) hD
      repeat walk_at "s"
      refine i_cat (s4 _ _ hl1) upd_same (le_line (by rw [List.length_map, List.length_map]; show 1 + _ ≤ _; omega)) fun m hm => ?_
      have s5 := (s1.trans s4).trans (same_upd (o := .lst ([V.str "refit"] ++ (ns.map txI).map V.str)) hm)
      have hm5 : upd (upd H1 D (.lst ((ns.map txI).map V.str))) m (.lst ([V.str "refit"] ++ (ns.map txI).map V.str)) m = some (.lst ((("refit" : Str) :: wdsR ns (nss.take 0)).map V.str)) := by rw [upd_same]; simp [wdsR]
      generalize upd (upd H1 D (.lst ((ns.map txI).map V.str))) m (.lst ([V.str "refit"] ++ (ns.map txI).map V.str)) = H5 at s5 hm5 ⊢
      have hp5 := s5 _ _ hp
      repeat walk_at "s"
      refine ⟨b, rfl, ⟨_, SqT.of (s5 _ _ hb)⟩, ?_⟩
      refine forW (fun i σ' H' => ∃ (m : Addr) (z : Option V), σ' = [some (.ref p), some (.ref m), z] ∧ Same H H' ∧ H' m = some (.lst ((("refit" : Str) :: wdsR ns (nss.take i)).map V.str))) nss.length ⟨m, none, rfl, s5, hm5⟩ ?_ ?_
      · rintro σ' H' ⟨m, z, rfl, s6, hm6⟩
        rw [List.take_of_length_le (Nat.le_refl _)] at hm6
        refine ⟨⟨_, SqT.of (s6 _ _ hb), by rw [List.length_map]; omega⟩, ?_⟩
        exact fin m H' z s6 hm6
      · rintro i σ' H' hi ⟨m, z, rfl, s6, hm6⟩
        have hi2 : i < ts.length := by omega
        have e1 : ts[i]? = some ts[i] := List.getElem?_eq_getElem hi2
        have e2 : nss[i]? = some nss[i] := List.getElem?_eq_getElem hi
        have hr2 := s6 _ _ (ht.2 i _ _ e1 e2)
        have hm := o2 _ (List.mem_of_getElem? e2)
        have hlen := wdsR_len (nss := nss.take i) l1 (by rw [List.length_take]; omega) fun s hs => (o2 s (List.mem_of_mem_take hs)).1
        refine ⟨⟨_, .ref ts[i], SqT.of (s6 _ _ hb), by rw [List.getElem?_map, e1]; rfl⟩, ?_⟩
        rintro v H7 ⟨rfl, hy⟩
        have ev := hy _ (SqT.of (s6 _ _ hb))
        rw [List.getElem?_map, e1] at ev
        cases ev
        repeat walk_at "s"
        refine ⟨by show 1 ≤ sizeLine; decide, fun g hg => ?_⟩
        have s7 := same_upd (o := .lst [.str slash]) hg
        have hg7 : upd H7 g (.lst [.str slash]) g = some (.lst [.str slash]) := upd_same
        have hm7 := s7 _ _ hm6
        rw [show (V.str (Str.ofString "/")) = V.str slash from rfl]
        generalize upd H7 g (.lst [.str slash]) = H8 at s7 hg7 hm7 ⊢
        repeat walk_at "s"
        refine i_cat hm7 hg7 (le_line (by rw [List.length_map, List.length_cons]; show _ + 1 ≤ _; omega)) fun e he => ?_
        have s8 := same_upd (o := .lst ((("refit" : Str) :: wdsR ns (nss.take i)).map V.str ++ [V.str slash])) he
        have he8 : upd H8 e (.lst ((("refit" : Str) :: wdsR ns (nss.take i)).map V.str ++ [V.str slash])) e = some (.lst ((("refit" : Str) :: wdsR ns (nss.take i)).map V.str ++ [V.str slash])) := upd_same
        have s08 := (s6.trans s7).trans s8
        generalize upd H8 e (.lst ((("refit" : Str) :: wdsR ns (nss.take i)).map V.str ++ [V.str slash])) = H9 at s8 he8 s08 ⊢
        have hr9 := s08 _ _ (ht.2 i _ _ e1 e2)
        repeat walk_at "s"
        refine ⟨ts[i], rfl, ⟨_, SqT.of hr9⟩, ?_⟩
        refine mapStr hr9 (by omega) (okN.c hm.2) ?_
        intro D hD
        have sA := same_upd (o := .lst (((nss[i]).map txI).map V.str)) hD
        repeat walk_at "s"
        refine i_cat (sA _ _ he8) upd_same (le_line (by rw [List.length_append, List.length_map, List.length_map, List.length_map, List.length_cons]; show _ + 1 + _ ≤ _; omega)) fun n hn => ?_
        repeat walk_at "s"
        refine ⟨n, _, rfl, (s08.trans sA).trans (same_upd hn), ?_⟩
        rw [upd_same, wdsR_succ ns nss i e2]
        simp
end

/-! ### reading -/
theorem split_ne (x : Str) : Txt.split x blank ≠ [] := by
  intro z
  have p := PyProof.Rows.split_pos x blank
  rw [z] at p
  cases p
theorem join_parts : ∀ ts : List Str, ts ≠ [] → (Str.join blank ts).length + 1 = sumL ts ∧ ∀ t ∈ ts, ∀ c ∈ t.cps.toList, c ∈ (Str.join blank ts).cps.toList
  | [], h => absurd rfl h
  | [a], _ => ⟨by show a.length + 1 = a.length + 1 + 0; rfl, fun t ht c hc => by rw [List.mem_singleton] at ht; subst ht; exact hc⟩
  | a :: b :: r, _ => by
    obtain ⟨h1, h2⟩ := join_parts (b :: r) (List.cons_ne_nil _ _)
    have e : (Str.join blank (a :: b :: r)).cps.toList = a.cps.toList ++ blank.cps.toList ++ (Str.join blank (b :: r)).cps.toList := by
      show (a ++ blank ++ Str.join blank (b :: r)).cps.toList = _
      rw [str_toList, str_toList]
    have el : (Str.join blank (a :: b :: r)).length = a.length + blank.length + (Str.join blank (b :: r)).length := by
      show (Str.join blank (a :: b :: r)).cps.size = _
      rw [← Array.length_toList, e, List.length_append, List.length_append, Array.length_toList, Array.length_toList, Array.length_toList]
      rfl
    refine ⟨?_, fun t ht c hc => ?_⟩
    · rw [el, blank_len]
      show _ = a.length + 1 + sumL (b :: r)
      omega
    · rw [e]
      rcases List.mem_cons.mp ht with rfl | ht
      · exact List.mem_append_left _ (List.mem_append_left _ hc)
      · exact List.mem_append_right _ (h2 t ht c hc)
theorem sumL_mem : ∀ {ts : List Str} {t : Str}, t ∈ ts → t.length + 1 ≤ sumL ts
  | a :: r, t, h => by
    show _ ≤ a.length + 1 + sumL r
    rcases List.mem_cons.mp h with rfl | h
    · omega
    · have := sumL_mem h; omega
theorem sumL_len : ∀ ts : List Str, ts.length ≤ sumL ts
  | [] => Nat.le_refl _
  | a :: r => by
    show r.length + 1 ≤ a.length + 1 + sumL r
    have := sumL_len r
    omega
def okW (ws : List Str) : Prop := ∀ t ∈ ws, t.length ≤ 600 ∧ ∀ c ∈ t.cps.toList, c ∈ signsOk
theorem split_ok {cs : List Nat} (hl : cs.length ≤ 600) (hs : ∀ c ∈ cs, c ∈ signsOk) : (Txt.split (tx cs) blank).length ≤ 601 ∧ okW (Txt.split (tx cs) blank) := by
  obtain ⟨j1, j2⟩ := join_parts _ (split_ne (tx cs))
  rw [StrLaws.join_split] at j1 j2
  rw [tx_len] at j1
  have := sumL_len (Txt.split (tx cs) blank)
  refine ⟨by omega, fun t ht => ⟨?_, fun c hc => ?_⟩⟩
  · have := sumL_mem ht
    omega
  · have := j2 t ht c hc
    unfold tx at this
    exact hs c (by simpa using this)
def toN : Dt → Int
  | .int i => i
  | _ => 0
theorem numD_or (cs : List Nat) : numD cs = .non ∨ numD cs = .int (toN (numD cs)) := by
  unfold numD
  split
  · exact .inl rfl
  split
  · exact .inl rfl
  split
  · exact .inl rfl
  · exact .inr rfl
def isNon : Dt → Bool
  | .non => true
  | _ => false
theorem eqV_num (cs : List Nat) : eqV (vOf (numD cs)) .non = isNon (numD cs) := by
  rcases numD_or cs with e | e
  · rw [e]; rfl
  · rw [e]; rfl
def rdN (ss : List Str) : Option (List Int) := if ss.any (fun t => isNon (numD t.cps.toList)) then none else some (ss.map fun t => toN (numD t.cps.toList))
section
variable {P : Program} {w : World} {K : PySem.W.Frag} {mg : Str → Option Value} {base : Heap}
def spReadN (CB : Addr) : Sp := fun vs H Q E => ∃ (l : Addr) (ss : List Str), vs = [.ref l] ∧ H l = some (.lst (ss.map V.str)) ∧ ss.length ≤ 700 ∧ okW ss ∧
  (∀ ns : List Int, rdN ss = some ns → ∀ p H', Same H H' → H' p = some (.tup (ns.map V.int)) → Q (.ref p) H') ∧ (rdN ss = none → ∀ H', Same H H' → E (.ref CB) none H')
abbrev sReadNumbers : Stmt := top 9
theorem scReadNumbers : FnScope ["words", "numbers"] ["words"] (defScope sReadNumbers) := ⟨rfl, rfl, rfl, by decide +kernel, rfl, by decide +kernel, by decide +kernel⟩
theorem nd_20_14 : (["word"] : List Str).Nodup := by decide +kernel
theorem S_20_14 : CompScope ["words", "numbers"] (defScope sReadNumbers) ({ kind := PySem.ScopeKind.function, names := [ (PySem.Str.ofString ".0", PySem.NameKind.local), (PySem.Str.ofString "word", PySem.NameKind.local), (PySem.Str.ofString "number", PySem.NameKind.globalImplicit)], isGenerator := false, isCoroutine := false, more := [] : PySem.Scope }) (["word"] : List Str) ([] : List (Nat × Str)) := ⟨by decide +kernel, by decide +kernel, by decide +kernel, by decide +kernel, by decide +kernel⟩
theorem ok_readn {f : Addr} {fd : FuncData} {cBadText : Addr} (F : Fun K "read_numbers" "read_numbers" sReadNumbers f fd) (T : BltM mg) (xBadText : ExcC K mg "BadText" cBadText) (c_number : Cal P w K mg base "number" 1 ["text"] spNum) : FnOk P w K mg base (CX1 P w) 2 f fd ["words"] (spReadN cBadText) := by
  refine F.okX scReadNumbers (fun vs H Q E h => ?_) (fun cdv A outer s H vs Q E hr h => ?_)
  · obtain ⟨l, ss, rfl, _⟩ := h
    rfl
  · obtain ⟨l, ss, rfl, hl, len, hs, k, kE⟩ := h
    refine ⟨_, (pss_cons (ps_lcomp (iy := 1) rfl scReadNumbers.nd rfl rfl S_20_14 (piL (K := K) rfl (pv 0)) (by intro _ _ _ _ _; exact (pg_name (i := 0) nd_20_14 rfl (Or.inl rfl))) (by intro _ _ _ _ _; exact pts_nil) (by intro _ _ _ _ _; exact (pe_callC c_number (hr.mono (by omega)) (by rfl) (pa_cons (pv 0) pa_nil))) (by rfl))
      (pss_cons (ps_if (pt_cmpR (oIn (K := K) rfl) pe_non (pv 1) (by with_unfolding_all rfl)) (pss_one (ps_raise rfl (by rfl) xBadText raises1 (pa_cons pe_str pa_nil))) pss_nil)
      (pss_one (ps_ret (pe_callTy (cTuple (K := K) rfl) (by rfl) T.z_tuple bb_tuple (pa_cons (pv 1) pa_nil)))))), ?_⟩
    repeat walk_at "s"
    refine ⟨l, rfl, ⟨_, SqL.of hl⟩, ?_⟩
    refine mapW (ws := ss.map fun t => vOf (numD t.cps.toList)) (fun σ => ∃ x, σ = [x]) ⟨none, rfl⟩ (by rw [List.length_map]; omega) (fun H' s' => ⟨_, SqL.of (s' _ _ hl), by rw [List.length_map, List.length_map]; exact Nat.le_refl _⟩) (fun i H' hi s' => ?_) ?_ ?_
    · rw [List.length_map] at hi
      exact ⟨_, .str ss[i], SqL.of (s' _ _ hl), by rw [List.getElem?_map, List.getElem?_eq_getElem hi]; rfl⟩
    · rintro i w' x σ' H' H2 R R0 hw ⟨y, rfl⟩ s' ⟨rfl, hy⟩ hR
      have e := hy _ (SqL.of (s' _ _ hl))
      rw [List.getElem?_map] at e hw
      cases hi : ss[i]? with
      | none => rw [hi] at e; cases e
      | some t =>
        rw [hi] at e hw
        cases e
        cases hw
        have ht := hs t (List.mem_of_getElem? hi)
        repeat walk_at "s"
        refine iteT ?_
        repeat walk_at "s"
        refine ⟨t.cps.toList, by rw [tx_toList]; rfl, by rw [Array.length_toList]; exact ht.1, ht.2, fun H3 s3 => hR _ _ ⟨_, rfl⟩ (s'.trans s3)⟩
    intro H1 s1 D hD
    have s2 := s1.trans (same_upd (o := .lst (ss.map fun t => vOf (numD t.cps.toList))) hD)
    have hD2 : upd H1 D (.lst (ss.map fun t => vOf (numD t.cps.toList))) D = some (.lst (ss.map fun t => vOf (numD t.cps.toList))) := upd_same
    generalize upd H1 D (.lst (ss.map fun t => vOf (numD t.cps.toList))) = H2 at s2 hD2 ⊢
    repeat walk_at "s"
    refine ⟨D, _, rfl, .inl (SqL.of hD2), rfl, ?_, ?_⟩
    · rw [List.all_map, List.all_eq_true]
      intro t _
      rcases numD_or t.cps.toList with e | e <;> · show flatV (vOf (numD t.cps.toList)) = true; rw [e]; rfl
    rw [if_neg Bool.false_ne_true]
    have ei : inV .non (ss.map fun t => vOf (numD t.cps.toList)) = ss.any fun t => isNon (numD t.cps.toList) := by
      unfold inV
      rw [List.any_map]
      congr 1
      funext t
      exact eqV_num _
    rw [ei]
    repeat walk_at "s"
    cases hany : ss.any fun t => isNon (numD t.cps.toList) with
    | true =>
      refine iteT ?_
      refine i_raise ?_
      repeat walk_at "s"
      exact ⟨by show 1 ≤ sizeLine; decide, kE (by unfold rdN; rw [hany]; rfl) _ s2⟩
    | false =>
      refine iteF ?_
      have en : ss.map (fun t => numD t.cps.toList) = (ss.map fun t => toN (numD t.cps.toList)).map Dt.int := by
        rw [List.map_map]
        refine List.map_congr_left fun t ht => ?_
        rcases numD_or t.cps.toList with e | e
        · have := List.any_eq_false.mp hany t ht
          rw [e] at this
          exact absurd rfl this
        · exact e
      have ev : (ss.map fun t => vOf (numD t.cps.toList)) = (ss.map fun t => toN (numD t.cps.toList)).map V.int := by
        have := congrArg (List.map vOf) en
        rw [List.map_map, List.map_map] at this
        exact this
      rw [ev] at hD2
      repeat walk_at "s"
      refine ⟨D, _, rfl, .inl ⟨SqL.of hD2, fun p hp => ?_⟩⟩
      exact k _ (by unfold rdN; rw [hany]; rfl) p _ (s2.trans (same_upd hp)) upd_same
end

/-! ### a refit's groups -/
def stp (g : List (List Str) × List Str) (x : Str) : List (List Str) × List Str := if x = slash then (g.1 ++ [g.2], []) else (g.1, g.2 ++ [x])
def pp (ss : List Str) : List (List Str) × List Str := ss.foldl stp ([], [])
theorem pp_succ {ss : List Str} {i : Nat} {x : Str} (e : ss[i]? = some x) : pp (ss.take (i + 1)) = stp (pp (ss.take i)) x := by
  unfold pp
  rw [List.take_succ, e, List.foldl_append]
  rfl
def LsS (H : Hp) (gs : List Addr) (tss : List (List Str)) : Prop := gs.length = tss.length ∧ ∀ (i : Nat) g ts, gs[i]? = some g → tss[i]? = some ts → H g = some (.lst (ts.map V.str))
theorem LsS.same {H H' : Hp} {gs : List Addr} {tss : List (List Str)} (s : Same H H') (h : LsS H gs tss) : LsS H' gs tss := ⟨h.1, fun i g ts e1 e2 => s _ _ (h.2 i g ts e1 e2)⟩
theorem LsS.put {H : Hp} {gs : List Addr} {tss : List (List Str)} {a : Addr} {o : HO} (h : LsS H gs tss) (n : a ∉ gs) : LsS (upd H a o) gs tss := ⟨h.1, fun i g ts e1 e2 => by
  have ng : g ≠ a := fun z => n (by rw [← z]; exact List.mem_of_getElem? e1)
  rw [upd_ne ng]
  exact h.2 i g ts e1 e2⟩
theorem LsS.snoc {H : Hp} {gs : List Addr} {tss : List (List Str)} {g : Addr} {ts : List Str} (h : LsS H gs tss) (e : H g = some (.lst (ts.map V.str))) : LsS H (gs ++ [g]) (tss ++ [ts]) := by
  have hl := h.1
  refine ⟨by rw [List.length_append, List.length_append, hl]; rfl, fun i g' ts' e1 e2 => ?_⟩
  rcases Nat.lt_or_ge i gs.length with hi | hi
  · rw [List.getElem?_append_left hi] at e1
    rw [List.getElem?_append_left (by omega)] at e2
    exact h.2 i g' ts' e1 e2
  · rw [List.getElem?_append_right hi] at e1
    rw [List.getElem?_append_right (by omega)] at e2
    cases hj : i - gs.length with
    | zero =>
      rw [hj] at e1
      rw [show i - tss.length = 0 by omega] at e2
      cases e1
      cases e2
      exact e
    | succ z => rw [hj] at e1; simp at e1
theorem at_last (xs : List V) (v : V) : atI (xs ++ [v]) (-1) = some v := by
  unfold atI ixN
  rw [if_neg (by decide), if_pos (by rw [List.length_append]; show -((xs.length + 1 : Nat) : Int) ≤ -1; omega)]
  have e : (-1 + ((xs ++ [v]).length : Int)).toNat = xs.length := by rw [List.length_append]; show (-1 + ((xs.length + 1 : Nat) : Int)).toNat = _; omega
  show (xs ++ [v])[(-1 + ((xs ++ [v]).length : Int)).toNat]? = some v
  rw [e]
  simp
section
variable {P : Program} {w : World} {K : PySem.W.Frag} {mg : Str → Option Value} {base : Heap}
def spPart : Sp := fun vs H Q _ => ∃ (a : Addr) (ss : List Str), vs = [.ref a] ∧ H a = some (.lst (ss.map V.str)) ∧ ss.length ≤ 800 ∧ ∀ l H' (gs : List Addr), Same H H' → H' l = some (.lst (gs.map V.ref)) → LsS H' gs ((pp ss).1 ++ [(pp ss).2]) → gs.length ≤ 801 → Q (.ref l) H'
theorem pp_len (ss : List Str) : (pp ss).1.length ≤ ss.length ∧ (pp ss).2.length ≤ ss.length := by
  have : ∀ (l : List Str) (g : List (List Str) × List Str), (l.foldl stp g).1.length ≤ g.1.length + l.length ∧ (l.foldl stp g).2.length ≤ g.2.length + l.length := by
    intro l
    induction l with
    | nil => intro g; exact ⟨Nat.le_refl _, Nat.le_refl _⟩
    | cons x r ih =>
      intro g
      have h := ih (stp g x)
      have h1 : (stp g x).1.length ≤ g.1.length + 1 ∧ (stp g x).2.length ≤ g.2.length + 1 := by
        unfold stp
        split
        · simp
        · simp
      rw [List.foldl_cons, List.length_cons]
      omega
  have := this ss ([], [])
  unfold pp
  simpa using this
abbrev sPartedAtStrokes : Stmt := top 10
theorem scPartedAtStrokes : FnScope ["words", "groups", "word"] ["words"] (defScope sPartedAtStrokes) := ⟨rfl, rfl, rfl, by decide +kernel, rfl, by decide +kernel, by decide +kernel⟩
theorem ok_part {f : Addr} {fd : FuncData} (F : Fun K "parted_at_strokes" "parted_at_strokes" sPartedAtStrokes f fd) (T : BltM mg) : FnOk P w K mg base CX0 1 f fd ["words"] spPart := by
  refine F.ok scPartedAtStrokes (fun vs H Q E h => ?_) (fun cdv A outer s H vs Q E hr h => ?_)
  · obtain ⟨a, ss, rfl, _⟩ := h
    rfl
  · obtain ⟨a, ss, rfl, ha, hl, k⟩ := h
    refine ⟨_, (pss_cons (ps_set (i := 1) scPartedAtStrokes.nd rfl (Or.inl rfl) (pe_lst (pa_cons (pe_lst pa_nil) pa_nil)))
      (pss_cons (ps_for PassesOwn.never rfl (piL (K := K) rfl (pv 0)) (pg_name (i := 2) scPartedAtStrokes.nd rfl (Or.inl rfl)) (pss_one (ps_if (pt_cmpR op_eq (pv 2) pe_str (nomark _)) (pss_one (ps_expr (mApp (K := K) rfl (pv 1) (pa_cons (pe_lst pa_nil) pa_nil)))) (pss_one (ps_expr (mApp (K := K) rfl (pe_ix (ixL (K := K) rfl) (pv 1) (pe_un un_neg pe_int) (fun _ _ => rfl)) (pa_cons (pv 2) pa_nil)))))))
      (pss_one (ps_ret (pv 1))))), ?_⟩
    repeat walk_at "s"
    refine ⟨Nat.zero_le _, fun g0 hg0 => ?_⟩
    have s1 := same_upd (o := .lst []) hg0
    have hg1 : upd H g0 (.lst []) g0 = some (.lst []) := upd_same
    generalize upd H g0 (.lst []) = H1 at s1 hg1 ⊢
    repeat walk_at "s"
    refine ⟨by show 1 ≤ sizeLine; decide, fun l hl0 => ?_⟩
    have s2 := s1.trans (same_upd (o := .lst [.ref g0]) hl0)
    have hl2 : upd H1 l (.lst [.ref g0]) l = some (.lst [.ref g0]) := upd_same
    have hg2 := same_upd (o := .lst [.ref g0]) hl0 _ _ hg1
    have hgl : g0 ≠ l := ne_of_none hg1 hl0
    have hlH := s1.free hl0
    generalize upd H1 l (.lst [.ref g0]) = H2 at s2 hl2 hg2 ⊢
    repeat walk_at "s"
    refine ⟨a, rfl, ⟨_, SqL.of (s2 _ _ ha)⟩, ?_⟩
    refine forW (fun i σ' H' => ∃ (x : Option V) (gi : List Addr) (gl : Addr), σ' = [some (.ref a), some (.ref l), x] ∧ Same H H' ∧ H' l = some (.lst ((gi ++ [gl]).map V.ref)) ∧ LsS H' gi (pp (ss.take i)).1 ∧ H' gl = some (.lst ((pp (ss.take i)).2.map V.str)) ∧ gl ∉ gi ∧ gl ≠ l ∧ H gl = none ∧ ∀ g ∈ gi, g ≠ l ∧ H g = none) ss.length
      ⟨none, [], g0, rfl, s2, hl2, ⟨rfl, fun i g ts e => by simp at e⟩, hg2, by simp, hgl, hg0, fun _ h => by cases h⟩ ?_ ?_
    · rintro σ' H' ⟨x, gi, gl, rfl, s3, hl3, hs3, hg3, ni, nl, nH, nA⟩
      rw [List.take_of_length_le (Nat.le_refl _)] at hs3 hg3
      refine ⟨⟨_, SqL.of (s3 _ _ ha), by rw [List.length_map]; omega⟩, ?_⟩
      repeat walk_at "s"
      have := hs3.1
      have := (pp_len ss).1
      exact k l H' (gi ++ [gl]) s3 hl3 (hs3.snoc hg3) (by rw [List.length_append]; show _ + 1 ≤ _; omega)
    · rintro i σ' H' hi ⟨x, gi, gl, rfl, s3, hl3, hs3, hg3, ni, nl, nH, nA⟩
      have e1 : ss[i]? = some ss[i] := List.getElem?_eq_getElem hi
      have lgi := hs3.1
      obtain ⟨pl1, pl2⟩ := pp_len (ss.take i)
      rw [List.length_take] at pl1 pl2
      refine ⟨⟨_, .str ss[i], SqL.of (s3 _ _ ha), by rw [List.getElem?_map, e1]; rfl⟩, ?_⟩
      rintro v H3 ⟨rfl, hy⟩
      have ev := hy _ (SqL.of (s3 _ _ ha))
      rw [List.getElem?_map, e1] at ev
      cases ev
      have ep := pp_succ e1
      unfold stp at ep
      repeat walk_at "s"
      rw [decS]
      by_cases hx : ss[i] = slash
      · rw [decide_eq_true (show ss[i] = Str.ofString "/" from hx)]
        rw [if_pos hx] at ep
        refine iteT ?_
        repeat walk_at "s"
        refine ⟨.inl ⟨rfl, _, SqL.of hl3⟩, ?_⟩
        repeat walk_at "s"
        refine ⟨Nat.zero_le _, fun g' hg' => ?_⟩
        have s4 := same_upd (o := .lst []) hg'
        have hg4 : upd H3 g' (.lst []) g' = some (.lst []) := upd_same
        have hl4 := s4 _ _ hl3
        have hgl4 := s4 _ _ hg3
        have hs4 := hs3.same s4
        have ngl : g' ≠ l := Ne.symm (ne_of_none hl3 hg')
        have ngg : g' ≠ gl := Ne.symm (ne_of_none hg3 hg')
        have nH' : H g' = none := s3.free hg'
        have ngi : g' ∉ gi := by
          intro z
          obtain ⟨j, hj, ej⟩ := List.mem_iff_getElem.mp z
          have := hs3.2 j g' _ (by rw [List.getElem?_eq_getElem hj, ej]) (List.getElem?_eq_getElem (by omega))
          rw [hg'] at this
          cases this
        have s04 := s3.trans s4
        generalize upd H3 g' (.lst []) = H4 at s4 hg4 hl4 hgl4 hs4 s04 ⊢
        repeat walk_at "s"
        refine i_app hl4 (lt_line (by rw [List.length_map, List.length_append]; show _ + 1 < _; omega)) ?_
        repeat walk_at "s"
        have lni : l ∉ gi := fun z => (nA l z).1 rfl
        refine ⟨_, gi ++ [gl], g', rfl, fun b o e => ?_, ?_, ?_, ?_, ?_, ngl, nH', ?_⟩
        · rw [upd_ne (ne_of_none e hlH)]
          exact s04 _ _ e
        · rw [upd_same, List.map_append (l₂ := [g'])]
          rfl
        · rw [ep]
          exact (hs4.snoc hgl4).put (by simp [lni, Ne.symm nl])
        · rw [upd_ne ngl, ep]
          exact hg4
        · simp [ngi, ngg]
        · intro g hg
          rcases List.mem_append.mp hg with hg | hg
          · exact nA g hg
          · rw [List.mem_singleton] at hg
            subst hg
            exact ⟨nl, nH⟩
      · rw [decide_eq_false (show ¬ ss[i] = Str.ofString "/" from hx)]
        rw [if_neg hx] at ep
        refine iteF ?_
        repeat walk_at "s"
        refine i_ixL (SqL.of hl3) (by rw [List.map_append]; exact at_last _ _) ?_
        repeat walk_at "s"
        refine ⟨.inl ⟨rfl, _, SqL.of hg3⟩, ?_⟩
        repeat walk_at "s"
        refine i_app hg3 (lt_line (by rw [List.length_map]; omega)) ?_
        repeat walk_at "s"
        refine ⟨_, gi, gl, rfl, fun b o e => ?_, ?_, ?_, ?_, ni, nl, nH, nA⟩
        · rw [upd_ne (ne_of_none e nH)]
          exact s3 _ _ e
        · rw [upd_ne (Ne.symm nl)]
          exact hl3
        · rw [ep]
          exact hs3.put ni
        · rw [upd_same, ep, List.map_append]
          rfl
end

def rdG : List (List Str) → Option (List (List Int))
  | [] => some []
  | g :: r => match rdN g with
    | none => none
    | some n => match rdG r with
      | none => none
      | some s => some (n :: s)
theorem rdG_snoc : ∀ (l : List (List Str)) (g : List Str) {s : List (List Int)} {n : List Int}, rdG l = some s → rdN g = some n → rdG (l ++ [g]) = some (s ++ [n])
  | [], g, s, n, h, hn => by
    cases h
    show (match rdN g with | none => none | some n => some [n]) = _
    rw [hn]
    rfl
  | x :: r, g, s, n, h, hn => by
    unfold rdG at h
    cases hx : rdN x with
    | none => rw [hx] at h; cases h
    | some m =>
      rw [hx] at h
      cases hr : rdG r with
      | none => rw [hr] at h; cases h
      | some q =>
        rw [hr] at h
        cases h
        show (match rdN x with | none => none | some n => match rdG (r ++ [g]) with | none => none | some s => some (n :: s)) = _
        rw [hx, rdG_snoc r g hr hn]
        rfl
theorem rdG_none : ∀ {l : List (List Str)} {g : List Str}, g ∈ l → rdN g = none → rdG l = none
  | x :: r, g, h, hn => by
    unfold rdG
    rcases List.mem_cons.mp h with rfl | h
    · rw [hn]
    · rw [rdG_none h hn]
      cases rdN x <;> rfl
def grp (ws : List Str) : List (List Str) := (pp ws).1 ++ [(pp ws).2]
theorem pp_in : ∀ (l : List Str) (a : List (List Str) × List Str), (∀ g ∈ (l.foldl stp a).1 ++ [(l.foldl stp a).2], ∀ t ∈ g, t ∈ l ∨ ∃ g' ∈ a.1 ++ [a.2], t ∈ g') ∧ (l.foldl stp a).1.flatten.length + (l.foldl stp a).2.length ≤ a.1.flatten.length + a.2.length + l.length
  | [], a => ⟨fun g hg t ht => .inr ⟨g, hg, ht⟩, Nat.le_refl _⟩
  | x :: r, a => by
    obtain ⟨h1, h2⟩ := pp_in r (stp a x)
    rw [List.foldl_cons]
    refine ⟨fun g hg t ht => ?_, ?_⟩
    · rcases h1 g hg t ht with z | ⟨g', hg', z⟩
      · exact .inl (List.mem_cons_of_mem _ z)
      · unfold stp at hg'
        split at hg'
        · rcases List.mem_append.mp hg' with y | y
          · exact .inr ⟨g', y, z⟩
          · rw [List.mem_singleton] at y
            rw [y] at z
            cases z
        · rcases List.mem_append.mp hg' with y | y
          · exact .inr ⟨g', List.mem_append_left _ y, z⟩
          · rw [List.mem_singleton] at y
            rw [y] at z
            rcases List.mem_append.mp z with z | z
            · exact .inr ⟨a.2, List.mem_append_right _ List.mem_cons_self, z⟩
            · rw [List.mem_singleton] at z
              exact .inl (by rw [z]; exact List.mem_cons_self)
    · refine Nat.le_trans h2 ?_
      unfold stp
      split
      · simp
        try omega
      · simp
        try omega
theorem grp_ok {ws : List Str} (h : okW ws) {g : List Str} (hg : g ∈ grp ws) : okW g ∧ g.length ≤ ws.length := by
  obtain ⟨h1, h2⟩ := pp_in ws ([], [])
  refine ⟨fun t ht => ?_, ?_⟩
  · rcases h1 g hg t ht with z | ⟨g', hg', z⟩
    · exact h t z
    · simp at hg'
      rw [hg'] at z
      cases z
  · have h3 : (pp ws).1.flatten.length + (pp ws).2.length ≤ ws.length := by simpa [pp] using h2
    rcases List.mem_append.mp (show g ∈ (pp ws).1 ++ [(pp ws).2] from hg) with z | z
    · have : g.length ≤ (pp ws).1.flatten.length := by
        generalize (pp ws).1 = L at z
        induction L with
        | nil => cases z
        | cons a r ih =>
          rw [List.flatten_cons, List.length_append]
          rcases List.mem_cons.mp z with rfl | z
          · omega
          · have := ih z; omega
      omega
    · rw [List.mem_singleton] at z
      rw [z]
      omega
def rdR (ws : List Str) : Option Fc := match rdG (grp ws) with
  | none => none
  | some [] => none
  | some (n :: s) => if (n = [] ∧ s = []) ∨ [] ∈ s then none else some (.ref n s)
theorem TsAt.nil {H : Hp} : TsAt H [] [] := ⟨rfl, fun i t p e => by simp at e⟩
theorem TsAt.snoc {H : Hp} {ts : List Addr} {nss : List (List Int)} {p : Addr} {n : List Int} (h : TsAt H ts nss) (e : H p = some (.tup (n.map V.int))) : TsAt H (ts ++ [p]) (nss ++ [n]) := by
  refine ⟨by rw [List.length_append, List.length_append, h.1]; rfl, fun j t s' f1 f2 => ?_⟩
  rcases Nat.lt_or_ge j ts.length with hj | hj
  · rw [List.getElem?_append_left hj] at f1
    rw [List.getElem?_append_left (by rw [← h.1]; exact hj)] at f2
    exact h.2 j t s' f1 f2
  · rw [List.getElem?_append_right hj] at f1
    rw [List.getElem?_append_right (by rw [← h.1]; exact hj), ← h.1] at f2
    cases hj2 : j - ts.length with
    | zero =>
      rw [hj2] at f1 f2
      cases f1
      cases f2
      exact e
    | succ z => rw [hj2] at f1; simp at f1
section
variable {P : Program} {w : World} {K : PySem.W.Frag} {mg : Str → Option Value} {base : Heap}
def spReadR (CB : Addr) : Sp := fun vs H Q E => ∃ (a : Addr) (ws : List Str), vs = [.ref a] ∧ H a = some (.lst (ws.map V.str)) ∧ ws.length ≤ 700 ∧ okW ws ∧
  (∀ F, rdR ws = some F → ∀ p H', Same H H' → FcAt H' p F → Q (.ref p) H') ∧ (rdR ws = none → ∀ H', Same H H' → E (.ref CB) none H')
abbrev sReadRefit : Stmt := top 11
theorem scReadRefit : FnScope ["words", "names", "sets"] ["words"] (defScope sReadRefit) := ⟨rfl, rfl, rfl, by decide +kernel, rfl, by decide +kernel, by decide +kernel⟩
theorem nd_33_19 : (["group"] : List Str).Nodup := by decide +kernel
theorem S_33_19 : CompScope ["words", "names", "sets"] (defScope sReadRefit) ({ kind := PySem.ScopeKind.function, names := [ (PySem.Str.ofString ".0", PySem.NameKind.local), (PySem.Str.ofString "group", PySem.NameKind.local), (PySem.Str.ofString "read_numbers", PySem.NameKind.globalImplicit)], isGenerator := false, isCoroutine := false, more := [] : PySem.Scope }) (["group"] : List Str) ([] : List (Nat × Str)) := ⟨by decide +kernel, by decide +kernel, by decide +kernel, by decide +kernel, by decide +kernel⟩
theorem ok_readr {f : Addr} {fd : FuncData} {cBadText : Addr} (F : Fun K "read_refit" "read_refit" sReadRefit f fd) (T : BltM mg) (xBadText : ExcC K mg "BadText" cBadText) (c_read_numbers : CalX P w K mg base "read_numbers" 2 ["words"] (spReadN cBadText)) (c_parted_at_strokes : Cal P w K mg base "parted_at_strokes" 1 ["words"] spPart) : FnOk P w K mg base (CX1 P w) 3 f fd ["words"] (spReadR cBadText) := by
  refine F.okX scReadRefit (fun vs H Q E h => ?_) (fun cdv A outer s H vs Q E hr h => ?_)
  · obtain ⟨a, ws, rfl, _⟩ := h
    rfl
  · obtain ⟨a, ws, rfl, ha, lw, ow, k, kE⟩ := h
    refine ⟨_, (pss_cons (ps_asg (pe_lcompX passC1 ⟨rfl, rfl, rfl⟩ rfl S_33_19 (piL (K := K) rfl (pe_callC c_parted_at_strokes (hr.mono (by omega)) (by rfl) (pa_cons (pv 0) pa_nil))) (by intro _ _ _ _ _; exact (pg_name (i := 0) nd_33_19 rfl (Or.inl rfl))) (by intro _ _ _ _ _; exact pts_nil) (by intro _ _ _ _ _ _ hp; exact (pe_callS c_read_numbers (hr.mono (by omega)) (by rfl) hp (pa_cons (pv 0) pa_nil)))) (pgStar (K := K) rfl rfl (pgs_cons (pg_name (i := 1) scReadRefit.nd rfl (Or.inl rfl)) (pgs_cons (pg_name (i := 2) scReadRefit.nd rfl (Or.inl rfl)) pgs_nil))))
      (pss_cons (ps_if ((pw_and (pt_cmpR op_eq (pe_callB (cLen (K := K) rfl) (by rfl) T.z_len bb_len (pa_cons (pv 1) pa_nil)) pe_int (nomark _)) (pw_and1 (pt_cmpR op_eq (pe_callB (cLen (K := K) rfl) (by rfl) T.z_len bb_len (pa_cons (pv 2) pa_nil)) pe_int (nomark _))))).pt (pss_one (ps_raise rfl (by rfl) xBadText raises1 (pa_cons pe_str pa_nil))) pss_nil)
      (pss_cons (ps_if (pt_cmpR (op_inT hr.units) (pe_tup pa_nil) (pv 2) (by with_unfolding_all rfl)) (pss_one (ps_raise rfl (by rfl) xBadText raises1 (pa_cons pe_str pa_nil))) pss_nil)
      (pss_one (ps_ret (pe_tup (pa_cons pe_str (pa_cons (pv 1) (pa_cons (pe_callTy (cTuple (K := K) rfl) (by rfl) T.z_tuple bb_tuple (pa_cons (pv 2) pa_nil)) pa_nil))))))))), ?_⟩
    repeat walk_at "s"
    refine ⟨a, ws, rfl, ha, by omega, fun l H1 gs s1 hl hgs lgs => ?_⟩
    have hgs' : LsS H1 gs (grp ws) := hgs
    have lg := hgs'.1
    repeat walk_at "s"
    refine ⟨l, rfl, ⟨_, SqL.of hl⟩, ?_⟩
    refine compW (fun i ys σ' H' => (∃ x, σ' = [x]) ∧ Same H1 H' ∧ ∃ (ts : List Addr) (nss : List (List Int)), ys = ts.map V.ref ∧ TsAt H' ts nss ∧ rdG ((grp ws).take i) = some nss ∧ nss.length = i) (grp ws).length ⟨⟨none, rfl⟩, Same.refl _, [], [], rfl, TsAt.nil, rfl, rfl⟩ ?_ ?_
    rotate_left
    · rintro i ys σ' H' hi ⟨⟨x, rfl⟩, s2, ts, nss, rfl, ht, hg, ln⟩
      have hi2 : i < gs.length := by omega
      have e1 : gs[i]? = some gs[i] := List.getElem?_eq_getElem hi2
      have e2 : (grp ws)[i]? = some (grp ws)[i] := List.getElem?_eq_getElem hi
      have hgi := s2 _ _ (hgs'.2 i _ _ e1 e2)
      have mem := List.getElem_mem hi
      obtain ⟨o1, o2⟩ := grp_ok ow mem
      have lts := ht.1
      refine ⟨⟨_, .ref gs[i], SqL.of (s2 _ _ hl), by rw [List.getElem?_map, e1]; rfl⟩, small1000 (by rw [List.length_map]; omega), ?_⟩
      rintro v H3 ⟨rfl, hy⟩
      have ev := hy _ (SqL.of (s2 _ _ hl))
      rw [List.getElem?_map, e1] at ev
      cases ev
      refine i_name (i_yes (iteT (i_callS (i_cons (i_var rfl (i_nil ?_))))))
      refine ⟨gs[i], (grp ws)[i], rfl, hgi, by omega, o1, fun n hn p H4 s4 hp => ?_, fun hn H4 s4 => ?_⟩
      · refine nxt hi ⟨⟨_, rfl⟩, s2.trans s4, ts ++ [p], nss ++ [n], by rw [List.map_append]; rfl, K10.TsAt.snoc (ht.same s4) hp, ?_, by rw [List.length_append, ln]; rfl⟩
        rw [List.take_succ, e2]
        exact rdG_snoc _ _ hg hn
      · refine kE ?_ _ (s1.trans (s2.trans s4))
        unfold rdR
        rw [rdG_none mem hn]
    · rintro ys σ' H2 ⟨_, s2, ts, nss, rfl, ht, hg, ln⟩
      rw [List.take_length] at hg
      refine ⟨⟨_, SqL.of (s2 _ _ hl), by rw [List.length_map]; omega⟩, fun D hD => ?_⟩
      have s3 := (s1.trans s2).trans (same_upd (o := .lst (ts.map V.ref)) hD)
      have hD3 : upd H2 D (.lst (ts.map V.ref)) D = some (.lst (ts.map V.ref)) := upd_same
      have ht3 := ht.same (same_upd (o := .lst (ts.map V.ref)) hD)
      generalize upd H2 D (.lst (ts.map V.ref)) = H3 at s3 hD3 ht3 ⊢
      have lt3 := ht3.1
      have lpos : 0 < nss.length := by
        rw [ln]
        unfold grp
        rw [List.length_append]
        show 0 < _ + 1
        omega
      have lgr : (grp ws).length ≤ 801 := by omega
      cases nss with
      | nil => cases lpos
      | cons n0 sr =>
      cases ts with
      | nil => cases lt3
      | cons t0 tr =>
      have h0 := ht3.2 0 t0 n0 rfl rfl
      have htr : TsAt H3 tr sr := ⟨by simpa using lt3, fun i t s' f1 f2 => ht3.2 (i + 1) t s' (by simpa using f1) (by simpa using f2)⟩
      have er : rdR ws = if (n0 = [] ∧ sr = []) ∨ [] ∈ sr then none else some (.ref n0 sr) := by
        unfold rdR
        rw [hg]
      rw [er] at k kE
      rw [List.length_cons] at ln
      repeat walk_at "s"
      refine i_star (SqL.of hD3) (by rw [List.length_map]; have := htr.1; omega) fun e he => ?_
      have s4 := same_upd (o := .lst (tr.map V.ref)) he
      have he4 : upd H3 e (.lst (tr.map V.ref)) e = some (.lst (tr.map V.ref)) := upd_same
      have h04 := s4 _ _ h0
      have htr4 := htr.same s4
      have s04 := s3.trans s4
      generalize upd H3 e (.lst (tr.map V.ref)) = H4 at s4 he4 h04 htr4 s04 ⊢
      have ltr := htr4.1
      have rest : ¬ (n0 = [] ∧ sr = []) → tSeq (tIfS (tTest (tOp (rInT false) (tTup tNil) (tVar 2))) (tRaise cBadText E (tCons (tC (V.str "a set has a number or more")) tNil)) tNext) (tRet (tTup (tCons (tC (V.str "refit")) (tCons (tVar 1) (tCons (tCB (rTupleOf K) (tCons (tVar 2) tNil)) tNil))))) { nx := fun _ H' => Q V.non H', rt := Q } [some (.ref a), some (.ref t0), some (.ref e)] H4 := by
        intro hne
        repeat walk_at "s"
        refine ⟨Nat.zero_le _, fun q hq => ?_⟩
        have s5 := same_upd (o := .tup []) hq
        have hq5 : upd H4 q (.tup []) q = some (.tup (([] : List Int).map V.int)) := upd_same
        have he5 := s5 _ _ he4
        have h05 := s5 _ _ h04
        have htr5 := htr4.same s5
        have s05 := s04.trans s5
        repeat walk_at "s"
        refine i_inT hq5 he5 htr5 ?_
        rw [if_neg Bool.false_ne_true]
        generalize upd H4 q (.tup []) = H5 at s5 hq5 he5 h05 htr5 s05 ⊢
        repeat walk_at "s"
        by_cases hin : [] ∈ sr
        · rw [decide_eq_true hin]
          rw [if_pos (.inr hin)] at kE
          refine iteT ?_
          refine i_raise ?_
          repeat walk_at "s"
          exact ⟨by show 1 ≤ sizeLine; decide, kE rfl _ s05⟩
        · rw [decide_eq_false hin]
          rw [if_neg (fun z => z.elim hne hin)] at k
          refine iteF ?_
          repeat walk_at "s"
          refine ⟨e, _, rfl, .inl ⟨SqL.of he5, fun g hg => ?_⟩⟩
          have s6 := same_upd (o := .tup (tr.map V.ref)) hg
          have hg6 : upd H5 g (.tup (tr.map V.ref)) g = some (.tup (tr.map V.ref)) := upd_same
          have h06 := s6 _ _ h05
          have htr6 := htr5.same s6
          have s06 := s05.trans s6
          generalize upd H5 g (.tup (tr.map V.ref)) = H6 at s6 hg6 h06 htr6 s06 ⊢
          repeat walk_at "s"
          refine ⟨by show 3 ≤ sizeLine; decide, fun p hp => ?_⟩
          have s7 := same_upd (o := .tup [.str "refit", .ref t0, .ref g]) hp
          exact k _ rfl p _ (s06.trans s7) ⟨t0, g, tr, upd_same, s7 _ _ h06, s7 _ _ hg6, htr6.same s7⟩
      repeat walk_at "s"
      have hn : (decide (V.int ((n0.map V.int).length : Int) = V.int 0)) = decide (n0 = []) := by
        cases n0 with
        | nil => rfl
        | cons n r => exact (decide_eq_false fun z => by injection z with z; rw [List.length_map, List.length_cons] at z; omega).trans (decide_eq_false (List.cons_ne_nil _ _)).symm
      have hn2 : (decide (V.int ((tr.map V.ref).length : Int) = V.int 0)) = decide (sr = []) := by
        cases sr with
        | nil => rw [List.length_map, ltr]; rfl
        | cons n r => exact (decide_eq_false fun z => by injection z with z; rw [List.length_map, ltr, List.length_cons] at z; omega).trans (decide_eq_false (List.cons_ne_nil _ _)).symm
      rw [hn]
      by_cases hz : n0 = []
      · rw [decide_eq_true hz]
        refine iteT ?_
        repeat walk_at "s"
        rw [hn2]
        by_cases hz2 : sr = []
        · rw [decide_eq_true hz2]
          rw [if_pos (.inl ⟨hz, hz2⟩)] at kE
          refine iteT ?_
          refine i_raise ?_
          repeat walk_at "s"
          exact ⟨by show 1 ≤ sizeLine; decide, kE rfl _ s04⟩
        · rw [decide_eq_false hz2]
          refine iteF ?_
          refine i_next ?_
          exact rest fun z => hz2 z.2
      · rw [decide_eq_false hz]
        refine iteF (iteF ?_)
        refine i_next ?_
        exact rest fun z => hz z.1
end

def rdW (x : Str) (ws : List Str) : Option Fc := if x = "refit" then rdR ws else match rdN ws with
  | none => none
  | some ns => if PyProof.Rows.KTD.datumAt x tabM = some (ns.length : Int) then some (.num x ns) else if (x = "storm" ∨ x = "find") ∧ ns ≠ [] then some (.mov x ns) else none
def rdF : List Str → Option Fc
  | [] => none
  | x :: ws => rdW x ws
theorem rdN_len {ws : List Str} {ns : List Int} (h : rdN ws = some ns) : ns.length = ws.length := by
  unfold rdN at h
  split at h
  · cases h
  · cases h
    rw [List.length_map]
section
variable {P : Program} {w : World} {K : PySem.W.Frag} {mg : Str → Option Value} {base : Heap}
def spReadF (CB : Addr) : Sp := fun vs H Q E => ∃ cs : List Nat, vs = [.str (tx cs)] ∧ cs.length ≤ 600 ∧ (∀ c ∈ cs, c ∈ signsOk) ∧
  (∀ F, rdF (Txt.split (tx cs) blank) = some F → ∀ p H', Same H H' → FcAt H' p F → Q (.ref p) H') ∧ (rdF (Txt.split (tx cs) blank) = none → ∀ H', Same H H' → E (.ref CB) none H')
abbrev sReadFact : Stmt := top 12
theorem scReadFact : FnScope ["text", "word", "words", "numbers"] ["text"] (defScope sReadFact) := ⟨rfl, rfl, rfl, by decide +kernel, rfl, by decide +kernel, by decide +kernel⟩
theorem ok_readf {f : Addr} {fd : FuncData} {cBadText : Addr} (F : Fun K "read_fact" "read_fact" sReadFact f fd) (T : BltM mg) (xBadText : ExcC K mg "BadText" cBadText) {aM : Addr} (hM : mg "MANY" = some (.ref aM)) (tM : TabI K aM tabM) (c_read_numbers : CalX P w K mg base "read_numbers" 2 ["words"] (spReadN cBadText)) (c_read_refit : CalX P w K mg base "read_refit" 3 ["words"] (spReadR cBadText)) : FnOk P w K mg base (CX1 P w) 4 f fd ["text"] (spReadF cBadText) := by
  refine F.okX scReadFact (fun vs H Q E h => ?_) (fun cdv A outer s H vs Q E hr h => ?_)
  · obtain ⟨cs, rfl, _⟩ := h
    rfl
  · obtain ⟨cs, rfl, hl, hc, k, kE⟩ := h
    refine ⟨_, (pss_cons (ps_asg (mSplit (K := K) rfl (pv 0) (pa_cons pe_str pa_nil)) (pgStar (K := K) rfl rfl (pgs_cons (pg_name (i := 1) scReadFact.nd rfl (Or.inl rfl)) (pgs_cons (pg_name (i := 2) scReadFact.nd rfl (Or.inl rfl)) pgs_nil))))
      (pss_cons (ps_if (pt_cmpR op_eq (pv 1) pe_str (nomark _)) (pss_one (ps_ret (pe_callX c_read_refit (hr.mono (by omega)) (by rfl) pass1 (pa_cons (pv 2) pa_nil)))) pss_nil)
      (pss_cons (ps_set (i := 3) scReadFact.nd rfl (Or.inl rfl) (pe_callX c_read_numbers (hr.mono (by omega)) (by rfl) pass1 (pa_cons (pv 2) pa_nil)))
      (pss_cut (ps_if ((pw_and (pt_cmp (pc_tabin (K := K) rfl (pv 1) (pe_glob (v := .ref aM) (by rfl) hM rfl))) (pw_and1 (pt_cmpR op_eq (pe_callB (cLen (K := K) rfl) (by rfl) T.z_len bb_len (pa_cons (pv 3) pa_nil)) (pe_tabI (K := K) rfl (pe_glob (v := .ref aM) (by rfl) hM rfl) (pv 1) (fun _ _ => rfl)) (nomark _))))).pt (pss_one (ps_ret (pe_op op_catU (pe_tup (pa_cons (pv 1) pa_nil)) (pv 3)))) pss_nil)
      (pss_cons (ps_if ((pw_and (pt_cmpR (oIn (K := K) rfl) (pv 1) (pe_tup (pa_cons pe_str (pa_cons pe_str pa_nil))) (by with_unfolding_all rfl)) (pw_and1 (pt_cmpR op_gt (pe_callB (cLen (K := K) rfl) (by rfl) T.z_len bb_len (pa_cons (pv 3) pa_nil)) pe_int (nomark _))))).pt (pss_one (ps_ret (pe_tup (pa_cons (pv 1) (pa_cons (pv 3) pa_nil))))) pss_nil)
      (pss_one (ps_raise rfl (by rfl) xBadText raises1 (pa_cons pe_str pa_nil)))))))), ?_⟩
    obtain ⟨wl, wt⟩ := split_ok hl hc
    have wne := split_ne (tx cs)
    repeat walk_at "s"
    refine ⟨rfl, ?_⟩
    repeat walk_at "s"
    refine i_split (by decide +kernel) (by rw [tx_len]; omega) fun l hl => ?_
    rw [show Txt.split (tx cs) (Str.ofString " ") = Txt.split (tx cs) blank from rfl]
    generalize Txt.split (tx cs) blank = ss at wl wt wne k kE ⊢
    cases ss with
    | nil => exact absurd rfl wne
    | cons x ws =>
    have ow : okW ws := fun t ht => wt t (List.mem_cons_of_mem _ ht)
    rw [List.length_cons] at wl
    have s1 := same_upd (o := .lst ((x :: ws).map V.str)) hl
    have hl1 : upd H l (.lst ((x :: ws).map V.str)) l = some (.lst ((x :: ws).map V.str)) := upd_same
    generalize upd H l (.lst ((x :: ws).map V.str)) = H1 at s1 hl1 ⊢
    refine i_star (x := .str x) (xs := ws.map V.str) (SqL.of hl1) (by rw [List.length_map]; omega) fun e he => ?_
    have s2 := same_upd (o := .lst (ws.map V.str)) he
    have he2 : upd H1 e (.lst (ws.map V.str)) e = some (.lst (ws.map V.str)) := upd_same
    have s02 := s1.trans s2
    generalize upd H1 e (.lst (ws.map V.str)) = H2 at s2 he2 s02 ⊢
    have er : rdF (x :: ws) = rdW x ws := rfl
    rw [er] at k kE
    unfold rdW at k kE
    repeat walk_at "s"
    rw [decS]
    by_cases hx : x = "refit"
    · rw [decide_eq_true hx]
      rw [if_pos hx] at k kE
      refine iteT ?_
      repeat walk_at "s"
      exact ⟨e, ws, rfl, he2, by omega, ow, fun F hF p H3 s3 hp => k F hF p H3 (s02.trans s3) hp, fun hn H3 s3 => kE hn H3 (s02.trans s3)⟩
    · rw [decide_eq_false hx]
      rw [if_neg hx] at k kE
      refine iteF ?_
      repeat walk_at "s"
      refine ⟨e, ws, rfl, he2, by omega, ow, fun ns hns p H3 s3 hp => ?_, fun hn H3 s3 => kE (by rw [hn]) H3 (s02.trans s3)⟩
      rw [hns] at k kE
      have ln := rdN_len hns
      replace k : ∀ F, (if PyProof.Rows.KTD.datumAt x tabM = some (ns.length : Int) then some (Fc.num x ns) else if (x = "storm" ∨ x = "find") ∧ ns ≠ [] then some (Fc.mov x ns) else none) = some F → ∀ p H', Same H H' → FcAt H' p F → Q (.ref p) H' := k
      replace kE : (if PyProof.Rows.KTD.datumAt x tabM = some (ns.length : Int) then some (Fc.num x ns) else if (x = "storm" ∨ x = "find") ∧ ns ≠ [] then some (Fc.mov x ns) else none) = none → ∀ H', Same H H' → E (.ref cBadText) none H' := kE
      have lns : ns.length ≤ 700 := by omega
      clear hns ln
      repeat walk_at "s"
      refine ⟨fun σ' H' => σ' = [some (.str (tx cs)), some (.str x), some (.ref e), some (.ref p)] ∧ H' = H3 ∧ PyProof.Rows.KTD.datumAt x tabM ≠ some (ns.length : Int), ?_, ?_⟩
      · repeat walk_at "s"
        refine ⟨aM, _, x, rfl, tM, rfl, ?_⟩
        cases ed : PyProof.Rows.KTD.datumAt x tabM with
        | none =>
          repeat walk_at "s"
          refine iteF (iteF ?_)
          repeat walk_at "s"
          exact ⟨rfl, rfl, by simp⟩
        | some v =>
          repeat walk_at "s"
          refine iteT ?_
          repeat walk_at "s"
          refine ⟨aM, _, x, _, rfl, tM, rfl, ed, ?_⟩
          rw [List.length_map]
          repeat walk_at "s"
          by_cases hv : v = (ns.length : Int)
          · rw [decide_eq_true (by rw [hv])]
            rw [ed, if_pos (by rw [hv])] at k
            refine iteT ?_
            repeat walk_at "s"
            refine ⟨by show 1 ≤ sizeLine; decide, fun q hq => ?_⟩
            have s4 := same_upd (o := .tup [.str x]) hq
            repeat walk_at "s"
            refine i_catU upd_same (s4 _ _ hp) (le_line (by rw [List.length_map]; show 1 + _ ≤ _; omega)) fun g H5 s5 hg => ?_
            exact k _ rfl g H5 (((s02.trans s3).trans s4).trans s5) hg
          · rw [decide_eq_false (fun z => hv (by injection z with z; exact z.symm))]
            refine iteF ?_
            repeat walk_at "s"
            exact ⟨rfl, rfl, fun z => hv (by injection z)⟩
      · rintro σ' H' ⟨rfl, rfl, hd⟩
        rw [if_neg hd] at k kE
        repeat walk_at "s"
        refine ⟨by show 2 ≤ sizeLine; decide, fun q hq => ?_⟩
        have s4 := same_upd (o := .tup [.str "storm", .str "find"]) hq
        have hq4 : upd H' q (.tup [.str "storm", .str "find"]) q = some (.tup [.str "storm", .str "find"]) := upd_same
        have hp4 := s4 _ _ hp
        have s04 := (s02.trans s3).trans s4
        generalize upd H' q (.tup [.str "storm", .str "find"]) = H4 at s4 hq4 hp4 s04 ⊢
        refine ⟨q, _, rfl, .inr (SqT.of hq4), rfl, rfl, ?_⟩
        rw [inV_2, if_neg Bool.false_ne_true]
        repeat walk_at "s"
        by_cases hm : x = "storm" ∨ x = "find"
        · rw [show (decide (x = "storm") || decide (x = "find")) = true by rcases hm with rfl | rfl <;> simp]
          refine iteT ?_
          repeat walk_at "s"
          by_cases hz : ns = []
          · rw [decide_eq_false (show ¬ ((0 : Int) < ((ns.map V.int).length : Int)) by rw [hz]; decide)]
            rw [if_neg (fun z => z.2 hz)] at kE
            refine iteF ?_
            refine i_next ?_
            dsimp only
            refine i_raise ?_
            repeat walk_at "s"
            exact ⟨by show 1 ≤ sizeLine; decide, kE rfl _ s04⟩
          · have lp : 0 < ns.length := List.length_pos_iff.mpr hz
            rw [decide_eq_true (show (0 : Int) < ((ns.map V.int).length : Int) by rw [List.length_map]; omega)]
            rw [if_pos ⟨hm, hz⟩] at k
            refine iteT ?_
            repeat walk_at "s"
            refine ⟨by show 2 ≤ sizeLine; decide, fun g hg => ?_⟩
            have s5 := same_upd (o := .tup [.str x, .ref p]) hg
            exact k _ rfl g _ (s04.trans s5) ⟨p, upd_same, s5 _ _ hp4⟩
        · rw [decide_eq_false fun z => hm (.inl z), decide_eq_false fun z => hm (.inr z)]
          rw [if_neg (fun z => hm z.1)] at kE
          refine iteF (iteF ?_)
          refine i_next ?_
          dsimp only
          refine i_raise ?_
          repeat walk_at "s"
          exact ⟨by show 1 ≤ sizeLine; decide, kE rfl _ s04⟩
end

/-! ### the law's reading -/
theorem pp_count : ∀ (l : List Str) (a : List (List Str) × List Str), (l.foldl stp a).1.length + (l.foldl stp a).1.flatten.length + (l.foldl stp a).2.length = a.1.length + a.1.flatten.length + a.2.length + l.length
  | [], a => rfl
  | x :: r, a => by
    rw [List.foldl_cons, pp_count r]
    unfold stp
    split
    · simp
      omega
    · simp
      omega
/-- what the groups come to, one by one -/
theorem rdG_some : ∀ {l : List (List Str)} {s : List (List Int)}, rdG l = some s → l.length = s.length ∧ ∀ (i : Nat) g, l[i]? = some g → ∃ n, s[i]? = some n ∧ rdN g = some n
  | [], s, h => by cases h; exact ⟨rfl, fun i g e => by simp at e⟩
  | x :: r, s, h => by
    unfold rdG at h
    cases hx : rdN x with
    | none => rw [hx] at h; cases h
    | some m =>
      rw [hx] at h
      cases hr : rdG r with
      | none => rw [hr] at h; cases h
      | some q =>
        rw [hr] at h
        cases h
        obtain ⟨l1, l2⟩ := rdG_some hr
        refine ⟨by rw [List.length_cons, List.length_cons, l1], fun i g e => ?_⟩
        cases i with
        | zero => cases e; exact ⟨m, rfl, hx⟩
        | succ i => exact l2 i g e
theorem rdN_nil {g : List Str} {n : List Int} (h : rdN g = some n) : n = [] ↔ g = [] := by
  have := rdN_len h
  constructor
  · rintro rfl
    exact List.eq_nil_of_length_eq_zero this.symm
  · rintro rfl
    exact List.eq_nil_of_length_eq_zero this
theorem rdR_eq {ws : List Str} {n : List Int} {s : List (List Int)} (h : rdG (grp ws) = some (n :: s)) : rdR ws = if ws = [] ∨ ((grp ws).drop 1).any List.isEmpty = true then none else some (.ref n s) := by
  have e1 : rdR ws = if (n = [] ∧ s = []) ∨ [] ∈ s then none else some (.ref n s) := by
    unfold rdR
    rw [h]
  obtain ⟨l1, l2⟩ := rdG_some h
  have c := pp_count ws ([], [])
  have iff1 : (n = [] ∧ s = []) ↔ ws = [] := by
    constructor
    · rintro ⟨rfl, rfl⟩
      have lg : (grp ws).length = 1 := l1
      unfold grp at lg
      rw [List.length_append] at lg
      have e0 : (pp ws).1 = [] := List.eq_nil_of_length_eq_zero (by simpa using lg)
      obtain ⟨m, em, hm⟩ := l2 0 (pp ws).2 (by unfold grp; rw [e0]; rfl)
      cases em
      have e2 := (rdN_nil hm).mp rfl
      have e0' : (ws.foldl stp ([], [])).1 = [] := e0
      have e2' : (ws.foldl stp ([], [])).2 = [] := e2
      rw [e0', e2'] at c
      exact List.eq_nil_of_length_eq_zero (by simpa using c.symm)
    · rintro rfl
      have e : rdG (grp []) = some [[]] := rfl
      rw [e] at h
      cases h
      exact ⟨rfl, rfl⟩
  have iff2 : [] ∈ s ↔ ((grp ws).drop 1).any List.isEmpty = true := by
    rw [List.any_eq_true]
    constructor
    · intro hm
      obtain ⟨i, hi, ei⟩ := List.mem_iff_getElem.mp hm
      have hi2 : i + 1 < (grp ws).length := by rw [l1, List.length_cons]; omega
      obtain ⟨m, em, hm2⟩ := l2 (i + 1) (grp ws)[i + 1] (List.getElem?_eq_getElem hi2)
      have em' : s[i]? = some m := em
      rw [List.getElem?_eq_getElem hi, ei] at em'
      cases em'
      have eg := (rdN_nil hm2).mp rfl
      refine ⟨(grp ws)[i + 1], ?_, by rw [eg]; rfl⟩
      rw [List.mem_iff_getElem]
      exact ⟨i, by rw [List.length_drop]; omega, by rw [List.getElem_drop]; congr 1; omega⟩
    · rintro ⟨g, hg, eg⟩
      obtain ⟨i, hi, ei⟩ := List.mem_iff_getElem.mp hg
      rw [List.length_drop] at hi
      rw [List.getElem_drop] at ei
      have hi2 : 1 + i < (grp ws).length := by omega
      obtain ⟨m, em, hm2⟩ := l2 (1 + i) g (by rw [List.getElem?_eq_getElem hi2, ei])
      have hmn := (rdN_nil hm2).mpr (List.isEmpty_iff.mp eg)
      subst hmn
      rw [Nat.add_comm] at em
      have em' : s[i]? = some [] := em
      exact List.mem_of_getElem? em'
  rw [e1]
  by_cases h1 : (n = [] ∧ s = []) ∨ [] ∈ s
  · rw [if_pos h1, if_pos (h1.imp iff1.mp iff2.mp)]
  · rw [if_neg h1, if_neg fun z => h1 (z.imp iff1.mpr iff2.mpr)]
theorem rdR_empty {ws : List Str} (h : ws = [] ∨ ((grp ws).drop 1).any List.isEmpty = true) : rdR ws = none := by
  cases hg : rdG (grp ws) with
  | none => unfold rdR; rw [hg]
  | some q =>
    cases q with
    | nil => unfold rdR; rw [hg]
    | cons n s => rw [rdR_eq hg, if_pos h]
section
variable {P : Program} {w : World} {K : PySem.W.Frag} {mg : Str → Option Value} {base : Heap}
/-- [x is None for x in a list] -/
theorem areNone {l : Addr} {vs : List V} {H1 : Hp} {Fin : List V → Hp → Prop} (hl : H1 l = some (.lst vs)) (lv : vs.length ≤ 1000) (fin : Fin ((vs.map fun v => decide (v = .non)).map V.bl) H1) :
    CompT (Itl K l) (gName 0) tYes (tIsN (tVar 0)) Fin [none] H1 := by
  refine compW (fun i ys σ' H' => (∃ x, σ' = [x]) ∧ H' = H1 ∧ ys = ((vs.take i).map fun v => decide (v = .non)).map V.bl) vs.length ⟨⟨none, rfl⟩, rfl, rfl⟩ ?_ ?_
  · rintro ys σ' H' ⟨_, rfl, rfl⟩
    refine ⟨⟨_, SqL.of hl, Nat.le_refl _⟩, ?_⟩
    rw [List.take_of_length_le (Nat.le_refl _)]
    exact fin
  · rintro i ys σ' H' hi ⟨⟨x0, rfl⟩, rfl, rfl⟩
    have e : vs[i]? = some vs[i] := List.getElem?_eq_getElem hi
    refine ⟨⟨_, vs[i], SqL.of hl, e⟩, Nat.lt_of_lt_of_le (show _ < 1001 by rw [List.length_map, List.length_map, List.length_take]; omega) (by decide), ?_⟩
    rintro v H2 ⟨rfl, hy⟩
    have ev := hy _ (SqL.of hl)
    rw [e] at ev
    cases ev
    refine i_name (i_yes (iteT (i_isN (i_var rfl ?_))))
    refine nxt hi ⟨⟨_, rfl⟩, rfl, ?_⟩
    rw [List.take_succ, e, List.map_append, List.map_append]
    rfl
def spLNums : Sp := fun vs H Q _ => ∃ (l : Addr) (ss : List Str), vs = [.ref l] ∧ H l = some (.lst (ss.map V.str)) ∧ ss.length ≤ 700 ∧ okW ss ∧
  (∀ ns : List Int, rdN ss = some ns → ∀ p H', Same H H' → H' p = some (.tup (ns.map V.int)) → Q (.ref p) H') ∧ (rdN ss = none → ∀ H', Same H H' → Q .non H')
abbrev sLawNumbers : Stmt := top 24
theorem scLawNumbers : FnScope ["_law_words", "_law_found"] ["_law_words"] (defScope sLawNumbers) := ⟨rfl, rfl, rfl, by decide +kernel, rfl, by decide +kernel, by decide +kernel⟩
theorem nd_125_17 : (["_law_word"] : List Str).Nodup := by decide +kernel
theorem S_125_17 : CompScope ["_law_words", "_law_found"] (defScope sLawNumbers) ({ kind := PySem.ScopeKind.function, names := [ (PySem.Str.ofString ".0", PySem.NameKind.local), (PySem.Str.ofString "_law_word", PySem.NameKind.local), (PySem.Str.ofString "_law_number", PySem.NameKind.globalImplicit)], isGenerator := false, isCoroutine := false, more := [] : PySem.Scope }) (["_law_word"] : List Str) ([] : List (Nat × Str)) := ⟨by decide +kernel, by decide +kernel, by decide +kernel, by decide +kernel, by decide +kernel⟩
theorem nd_126_11 : (["_law_one"] : List Str).Nodup := by decide +kernel
theorem S_126_11 : CompScope ["_law_words", "_law_found"] (defScope sLawNumbers) ({ kind := PySem.ScopeKind.function, names := [(PySem.Str.ofString ".0", PySem.NameKind.local), (PySem.Str.ofString "_law_one", PySem.NameKind.local)], isGenerator := false, isCoroutine := false, more := [] : PySem.Scope }) (["_law_one"] : List Str) ([] : List (Nat × Str)) := ⟨by decide +kernel, by decide +kernel, by decide +kernel, by decide +kernel, by decide +kernel⟩
theorem ok_lnums {f : Addr} {fd : FuncData} (F : Fun K "_law_numbers" "_law_numbers" sLawNumbers f fd) (T : BltM mg) (hz_any : mg "any" = none) (c_law_number : Cal P w K mg base "_law_number" 1 ["_law_word"] spNum) : FnOk P w K mg base CX0 2 f fd ["_law_words"] spLNums := by
  refine F.ok scLawNumbers (fun vs H Q E h => ?_) (fun cdv A outer s H vs Q E hr h => ?_)
  · obtain ⟨l, ss, rfl, _⟩ := h
    rfl
  · obtain ⟨l, ss, rfl, hl, len, hs, k, kN⟩ := h
    refine ⟨_, (pss_cons (ps_lcomp (iy := 1) rfl scLawNumbers.nd rfl rfl S_125_17 (piL (K := K) rfl (pv 0)) (by intro _ _ _ _ _; exact (pg_name (i := 0) nd_125_17 rfl (Or.inl rfl))) (by intro _ _ _ _ _; exact pts_nil) (by intro _ _ _ _ _; exact (pe_callC c_law_number (hr.mono (by omega)) (by rfl) (pa_cons (pv 0) pa_nil))) (by rfl))
      (pss_cons (ps_if (pt_val (pe_callB (cAny (K := K) rfl rfl) (by rfl) hz_any bb_any (pa_cons (pe_lcomp rfl S_126_11 (piL (K := K) rfl (pv 1)) (by intro _ _ _ _ _; exact (pg_name (i := 0) nd_126_11 rfl (Or.inl rfl))) (by intro _ _ _ _ _; exact pts_nil) (by intro _ _ _ _ _; exact (pe_cmp (pc_isN (pv 0))))) pa_nil))) (pss_one (ps_ret pe_non)) pss_nil)
      (pss_one (ps_ret (pe_callTy (cTuple (K := K) rfl) (by rfl) T.z_tuple bb_tuple (pa_cons (pv 1) pa_nil)))))), ?_⟩
    repeat walk_at "s"
    refine ⟨l, rfl, ⟨_, SqL.of hl⟩, ?_⟩
    refine mapW (ws := ss.map fun t => vOf (numD t.cps.toList)) (fun σ => ∃ x, σ = [x]) ⟨none, rfl⟩ (by rw [List.length_map]; omega) (fun H' s' => ⟨_, SqL.of (s' _ _ hl), by rw [List.length_map, List.length_map]; exact Nat.le_refl _⟩) (fun i H' hi s' => ?_) ?_ ?_
    · rw [List.length_map] at hi
      exact ⟨_, .str ss[i], SqL.of (s' _ _ hl), by rw [List.getElem?_map, List.getElem?_eq_getElem hi]; rfl⟩
    · rintro i w' x σ' H' H2 R R0 hw ⟨y, rfl⟩ s' ⟨rfl, hy⟩ hR
      have e := hy _ (SqL.of (s' _ _ hl))
      rw [List.getElem?_map] at e hw
      cases hi : ss[i]? with
      | none => rw [hi] at e; cases e
      | some t =>
        rw [hi] at e hw
        cases e
        cases hw
        have ht := hs t (List.mem_of_getElem? hi)
        repeat walk_at "s"
        refine iteT ?_
        repeat walk_at "s"
        refine ⟨t.cps.toList, by rw [tx_toList]; rfl, by rw [Array.length_toList]; exact ht.1, ht.2, fun H3 s3 => hR _ _ ⟨_, rfl⟩ (s'.trans s3)⟩
    intro H1 s1 D hD
    have s2 := s1.trans (same_upd (o := .lst (ss.map fun t => vOf (numD t.cps.toList))) hD)
    have hD2 : upd H1 D (.lst (ss.map fun t => vOf (numD t.cps.toList))) D = some (.lst (ss.map fun t => vOf (numD t.cps.toList))) := upd_same
    generalize upd H1 D (.lst (ss.map fun t => vOf (numD t.cps.toList))) = H2 at s2 hD2 ⊢
    repeat walk_at "s"
    refine ⟨D, rfl, ⟨_, SqL.of hD2⟩, ?_⟩
    refine areNone hD2 (by rw [List.length_map]; omega) ?_
    intro D2 hD2'
    have s3 := s2.trans (same_upd (o := .lst (((ss.map fun t => vOf (numD t.cps.toList)).map fun v => decide (v = .non)).map V.bl)) hD2')
    have hD3 := same_upd (o := .lst (((ss.map fun t => vOf (numD t.cps.toList)).map fun v => decide (v = .non)).map V.bl)) hD2' _ _ hD2
    repeat walk_at "s"
    refine ⟨D2, _, rfl, SqL.of upd_same, ?_⟩
    generalize upd H2 D2 _ = H3 at s3 hD3 ⊢
    have ea : (((ss.map fun t => vOf (numD t.cps.toList)).map fun v => decide (v = V.non)).any id) = ss.any fun t => isNon (numD t.cps.toList) := by
      rw [List.any_map, List.any_map]
      congr 1
      funext t
      show decide (vOf (numD t.cps.toList) = V.non) = _
      rcases numD_or t.cps.toList with e | e
      · rw [e]; rfl
      · rw [e]; rfl
    rw [ea]
    repeat walk_at "s"
    cases hany : ss.any fun t => isNon (numD t.cps.toList) with
    | true =>
      refine iteT ?_
      repeat walk_at "s"
      exact kN (by unfold rdN; rw [hany]; rfl) _ s3
    | false =>
      refine iteF ?_
      have en : ss.map (fun t => numD t.cps.toList) = (ss.map fun t => toN (numD t.cps.toList)).map Dt.int := by
        rw [List.map_map]
        refine List.map_congr_left fun t ht => ?_
        rcases numD_or t.cps.toList with e | e
        · have := List.any_eq_false.mp hany t ht
          rw [e] at this
          exact absurd rfl this
        · exact e
      have ev : (ss.map fun t => vOf (numD t.cps.toList)) = (ss.map fun t => toN (numD t.cps.toList)).map V.int := by
        have := congrArg (List.map vOf) en
        rw [List.map_map, List.map_map] at this
        exact this
      rw [ev] at hD3
      repeat walk_at "s"
      refine ⟨D, _, rfl, .inl ⟨SqL.of hD3, fun p hp => ?_⟩⟩
      exact k _ (by unfold rdN; rw [hany]; rfl) p _ (s3.trans (same_upd hp)) upd_same
end

def RdV (H : Hp) (v : V) (g : List Str) : Prop := (rdN g = none ∧ v = .non) ∨ (∃ n p, rdN g = some n ∧ v = .ref p ∧ H p = some (.tup (n.map V.int)))
def VsG (H : Hp) (vs : List V) (gs : List (List Str)) : Prop := vs.length = gs.length ∧ ∀ (i : Nat) v g, vs[i]? = some v → gs[i]? = some g → RdV H v g
theorem RdV.same {H H' : Hp} {v : V} {g : List Str} (s : Same H H') (h : RdV H v g) : RdV H' v g := by
  rcases h with h | ⟨n, p, h1, h2, h3⟩
  · exact .inl h
  · exact .inr ⟨n, p, h1, h2, s _ _ h3⟩
theorem VsG.same {H H' : Hp} {vs : List V} {gs : List (List Str)} (s : Same H H') (h : VsG H vs gs) : VsG H' vs gs := ⟨h.1, fun i v g e1 e2 => (h.2 i v g e1 e2).same s⟩
theorem VsG.snoc {H : Hp} {vs : List V} {gs : List (List Str)} {v : V} {g : List Str} (h : VsG H vs gs) (q : RdV H v g) : VsG H (vs ++ [v]) (gs ++ [g]) := by
  refine ⟨by rw [List.length_append, List.length_append, h.1]; rfl, fun j v' g' f1 f2 => ?_⟩
  rcases Nat.lt_or_ge j vs.length with hj | hj
  · rw [List.getElem?_append_left hj] at f1
    rw [List.getElem?_append_left (by rw [← h.1]; exact hj)] at f2
    exact h.2 j v' g' f1 f2
  · rw [List.getElem?_append_right hj] at f1
    rw [List.getElem?_append_right (by rw [← h.1]; exact hj), ← h.1] at f2
    cases hj2 : j - vs.length with
    | zero =>
      rw [hj2] at f1 f2
      cases f1
      cases f2
      exact q
    | succ z => rw [hj2] at f1; simp at f1
theorem VsG.tail {H : Hp} {v : V} {vs : List V} {g : List Str} {gs : List (List Str)} (h : VsG H (v :: vs) (g :: gs)) : RdV H v g ∧ VsG H vs gs :=
  ⟨h.2 0 v g rfl rfl, by have := h.1; simpa using this, fun i v' g' e1 e2 => h.2 (i + 1) v' g' (by simpa using e1) (by simpa using e2)⟩
theorem VsG.none {H : Hp} : ∀ {vs : List V} {gs : List (List Str)}, VsG H vs gs → (vs.map fun v => decide (v = V.non)).any id = true → rdG gs = none
  | [], [], _, h => by cases h
  | [], _ :: _, h, _ => by cases h.1
  | _ :: _, [], h, _ => by cases h.1
  | v :: vs, g :: gs, h, hn => by
    obtain ⟨h1, h2⟩ := h.tail
    unfold rdG
    rcases h1 with ⟨e, rfl⟩ | ⟨n, p, e, rfl, _⟩
    · rw [e]
    · rw [e]
      have : (vs.map fun v => decide (v = V.non)).any id = true := by simpa using hn
      rw [VsG.none h2 this]
theorem VsG.some {H : Hp} : ∀ {vs : List V} {gs : List (List Str)}, VsG H vs gs → (vs.map fun v => decide (v = V.non)).any id = false → ∃ (ps : List Addr) (nss : List (List Int)), vs = ps.map V.ref ∧ TsAt H ps nss ∧ rdG gs = Option.some nss
  | [], [], _, _ => ⟨[], [], rfl, TsAt.nil, rfl⟩
  | [], _ :: _, h, _ => by cases h.1
  | _ :: _, [], h, _ => by cases h.1
  | v :: vs, g :: gs, h, hn => by
    obtain ⟨h1, h2⟩ := h.tail
    rcases h1 with ⟨e, rfl⟩ | ⟨n, p, e, rfl, hp⟩
    · simp at hn
    · have : (vs.map fun v => decide (v = V.non)).any id = false := by simpa using hn
      obtain ⟨ps, nss, rfl, ht, hr⟩ := VsG.some h2 this
      refine ⟨p :: ps, n :: nss, rfl, ⟨by rw [List.length_cons, List.length_cons, ht.1], fun i t s' e1 e2 => ?_⟩, ?_⟩
      · cases i with
        | zero => cases e1; cases e2; exact hp
        | succ i => exact ht.2 i t s' (by simpa using e1) (by simpa using e2)
      · unfold rdG
        rw [e, hr]
section
variable {P : Program} {w : World} {K : PySem.W.Frag} {mg : Str → Option Value} {base : Heap}
def spLRef : Sp := fun vs H Q _ => ∃ (a : Addr) (ws : List Str), vs = [.ref a] ∧ H a = some (.lst (ws.map V.str)) ∧ ws.length ≤ 700 ∧ okW ws ∧
  (∀ F, rdR ws = some F → ∀ p H', Same H H' → FcAt H' p F → Q (.ref p) H') ∧ (rdR ws = none → ∀ H', Same H H' → Q .non H')
abbrev sLawReadRefit : Stmt := top 26
theorem scLawReadRefit : FnScope ["_law_words", "_law_rows", "_law_word", "_law_found"] ["_law_words"] (defScope sLawReadRefit) := ⟨rfl, rfl, rfl, by decide +kernel, rfl, by decide +kernel, by decide +kernel⟩
theorem nd_147_17 : (["_law_row"] : List Str).Nodup := by decide +kernel
theorem S_147_17 : CompScope ["_law_words", "_law_rows", "_law_word", "_law_found"] (defScope sLawReadRefit) ({ kind := PySem.ScopeKind.function, names := [ (PySem.Str.ofString ".0", PySem.NameKind.local), (PySem.Str.ofString "_law_row", PySem.NameKind.local), (PySem.Str.ofString "_law_numbers", PySem.NameKind.globalImplicit)], isGenerator := false, isCoroutine := false, more := [] : PySem.Scope }) (["_law_row"] : List Str) ([] : List (Nat × Str)) := ⟨by decide +kernel, by decide +kernel, by decide +kernel, by decide +kernel, by decide +kernel⟩
theorem nd_148_86 : (["_law_one"] : List Str).Nodup := by decide +kernel
theorem S_148_86 : CompScope ["_law_words", "_law_rows", "_law_word", "_law_found"] (defScope sLawReadRefit) ({ kind := PySem.ScopeKind.function, names := [(PySem.Str.ofString ".0", PySem.NameKind.local), (PySem.Str.ofString "_law_one", PySem.NameKind.local)], isGenerator := false, isCoroutine := false, more := [] : PySem.Scope }) (["_law_one"] : List Str) ([] : List (Nat × Str)) := ⟨by decide +kernel, by decide +kernel, by decide +kernel, by decide +kernel, by decide +kernel⟩
theorem nd_148_31 : (["_law_row"] : List Str).Nodup := by decide +kernel
theorem S_148_31 : CompScope ["_law_words", "_law_rows", "_law_word", "_law_found"] (defScope sLawReadRefit) ({ kind := PySem.ScopeKind.function, names := [(PySem.Str.ofString ".0", PySem.NameKind.local), (PySem.Str.ofString "_law_row", PySem.NameKind.local)], isGenerator := false, isCoroutine := false, more := [] : PySem.Scope }) (["_law_row"] : List Str) ([] : List (Nat × Str)) := ⟨by decide +kernel, by decide +kernel, by decide +kernel, by decide +kernel, by decide +kernel⟩
theorem ok_lrefit {f : Addr} {fd : FuncData} (F : Fun K "_law_read_refit" "_law_read_refit" sLawReadRefit f fd) (T : BltM mg) (hz_any : mg "any" = none) (c_law_numbers : Cal P w K mg base "_law_numbers" 2 ["_law_words"] spLNums) : FnOk P w K mg base CX0 3 f fd ["_law_words"] spLRef := by
  refine F.ok scLawReadRefit (fun vs H Q E h => ?_) (fun cdv A outer s H vs Q E hr h => ?_)
  · obtain ⟨l, ss, rfl, _⟩ := h
    rfl
  · obtain ⟨a, ss, rfl, ha, hl, ow, k, kN⟩ := h
    refine ⟨_, (pss_cons (ps_set (i := 1) scLawReadRefit.nd rfl (Or.inl rfl) (pe_lst (pa_cons (pe_lst pa_nil) pa_nil)))
      (pss_cons (ps_for PassesOwn.never rfl (piL (K := K) rfl (pv 0)) (pg_name (i := 2) scLawReadRefit.nd rfl (Or.inl rfl)) (pss_one (ps_if (pt_cmpR op_eq (pv 2) pe_str (nomark _)) (pss_one (ps_expr (mApp (K := K) rfl (pv 1) (pa_cons (pe_lst pa_nil) pa_nil)))) (pss_one (ps_expr (mApp (K := K) rfl (pe_ix (ixL (K := K) rfl) (pv 1) (pe_un un_neg pe_int) (fun _ _ => rfl)) (pa_cons (pv 2) pa_nil)))))))
      (pss_cons (ps_lcomp (iy := 3) rfl scLawReadRefit.nd rfl rfl S_147_17 (piL (K := K) rfl (pv 1)) (by intro _ _ _ _ _; exact (pg_name (i := 0) nd_147_17 rfl (Or.inl rfl))) (by intro _ _ _ _ _; exact pts_nil) (by intro _ _ _ _ _; exact (pe_callC c_law_numbers (hr.mono (by omega)) (by rfl) (pa_cons (pv 0) pa_nil))) (by rfl))
      (pss_cons (ps_if ((pw_or (pt_cmpR (op_eqNoL hr.units) (pv 0) (pe_lst pa_nil) (nomark _)) (pw_or (pt_val (pe_callB (cAny (K := K) rfl rfl) (by rfl) hz_any bb_any (pa_cons (pe_lcomp rfl S_148_31 (piL (K := K) rfl (pe_slice (slL (K := K) rfl) (pv 1) (po_some pe_int) po_none)) (by intro _ _ _ _ _; exact (pg_name (i := 0) nd_148_31 rfl (Or.inl rfl))) (by intro _ _ _ _ _; exact pts_nil) (by intro _ _ _ _ _; exact (pe_cmpR (op_eqNoL hr.units) (pv 0) (pe_lst pa_nil) (nomark _)))) pa_nil))) (pw_or1 (pt_val (pe_callB (cAny (K := K) rfl rfl) (by rfl) hz_any bb_any (pa_cons (pe_lcomp rfl S_148_86 (piL (K := K) rfl (pv 3)) (by intro _ _ _ _ _; exact (pg_name (i := 0) nd_148_86 rfl (Or.inl rfl))) (by intro _ _ _ _ _; exact pts_nil) (by intro _ _ _ _ _; exact (pe_cmp (pc_isN (pv 0))))) pa_nil))))))).pt (pss_one (ps_ret pe_non)) pss_nil)
      (pss_one (ps_ret (pe_tup (pa_cons pe_str (pa_cons (pe_ix (ixL (K := K) rfl) (pv 3) pe_int (fun _ _ => rfl)) (pa_cons (pe_callTy (cTuple (K := K) rfl) (by rfl) T.z_tuple bb_tuple (pa_cons (pe_slice (slL (K := K) rfl) (pv 3) (po_some pe_int) po_none) pa_nil)) pa_nil)))))))))), ?_⟩
    repeat walk_at "s"
    refine ⟨Nat.zero_le _, fun g0 hg0 => ?_⟩
    have s1 := same_upd (o := .lst []) hg0
    have hg1 : upd H g0 (.lst []) g0 = some (.lst []) := upd_same
    generalize upd H g0 (.lst []) = H1 at s1 hg1 ⊢
    repeat walk_at "s"
    refine ⟨by show 1 ≤ sizeLine; decide, fun l hl0 => ?_⟩
    have s2 := s1.trans (same_upd (o := .lst [.ref g0]) hl0)
    have hl2 : upd H1 l (.lst [.ref g0]) l = some (.lst [.ref g0]) := upd_same
    have hg2 := same_upd (o := .lst [.ref g0]) hl0 _ _ hg1
    have hgl : g0 ≠ l := ne_of_none hg1 hl0
    have hlH := s1.free hl0
    generalize upd H1 l (.lst [.ref g0]) = H2 at s2 hl2 hg2 ⊢
    repeat walk_at "s"
    refine ⟨a, rfl, ⟨_, SqL.of (s2 _ _ ha)⟩, ?_⟩
    refine forW (fun i σ' H' => ∃ (x : Option V) (gi : List Addr) (gl : Addr), σ' = [some (.ref a), some (.ref l), x, none] ∧ Same H H' ∧ H' l = some (.lst ((gi ++ [gl]).map V.ref)) ∧ LsS H' gi (pp (ss.take i)).1 ∧ H' gl = some (.lst ((pp (ss.take i)).2.map V.str)) ∧ gl ∉ gi ∧ gl ≠ l ∧ H gl = none ∧ ∀ g ∈ gi, g ≠ l ∧ H g = none) ss.length
      ⟨none, [], g0, rfl, s2, hl2, ⟨rfl, fun i g ts e => by simp at e⟩, hg2, by simp, hgl, hg0, fun _ h => by cases h⟩ ?_ ?_
    · rintro σ' H' ⟨x, gi, gl, rfl, s3, hl3, hs3, hg3, ni, nl, nH, nA⟩
      rw [List.take_of_length_le (Nat.le_refl _)] at hs3 hg3
      refine ⟨⟨_, SqL.of (s3 _ _ ha), by rw [List.length_map]; omega⟩, ?_⟩
      have hgs : LsS H' (gi ++ [gl]) (grp ss) := hs3.snoc hg3
      have lgi := hs3.1
      have lpp := (pp_len ss).1
      have lgs := hgs.1
      have lgs2 : (gi ++ [gl]).length ≤ 801 := by rw [List.length_append]; show _ + 1 ≤ _; omega
      clear hs3 hg3 ni nl nH nA
      generalize gi ++ [gl] = gs at hl3 hgs lgs lgs2
      repeat walk_at "s"
      refine ⟨l, rfl, ⟨_, SqL.of hl3⟩, ?_⟩
      refine compW (fun i ys σ' H2 => (∃ x, σ' = [x]) ∧ Same H' H2 ∧ VsG H2 ys ((grp ss).take i) ∧ ys.length = i) (grp ss).length ⟨⟨none, rfl⟩, Same.refl _, ⟨rfl, fun i v g e => by simp at e⟩, rfl⟩ ?_ ?_
      rotate_left
      · rintro i ys σ' H4 hi ⟨⟨x, rfl⟩, s4, hv, ly⟩
        have hi2 : i < gs.length := by omega
        have e1 : gs[i]? = some gs[i] := List.getElem?_eq_getElem hi2
        have e2 : (grp ss)[i]? = some (grp ss)[i] := List.getElem?_eq_getElem hi
        have hgi := s4 _ _ (hgs.2 i _ _ e1 e2)
        obtain ⟨o1, o2⟩ := grp_ok ow (List.getElem_mem hi)
        refine ⟨⟨_, .ref gs[i], SqL.of (s4 _ _ hl3), by rw [List.getElem?_map, e1]; rfl⟩, small1000 (by omega), ?_⟩
        rintro v H5 ⟨rfl, hy⟩
        have ev := hy _ (SqL.of (s4 _ _ hl3))
        rw [List.getElem?_map, e1] at ev
        cases ev
        repeat walk_at "s"
        refine iteT ?_
        repeat walk_at "s"
        have et : (grp ss).take (i + 1) = (grp ss).take i ++ [(grp ss)[i]] := by rw [List.take_succ, e2]; rfl
        refine ⟨gs[i], (grp ss)[i], rfl, hgi, by omega, o1, fun n hn p H6 s6 hp => ?_, fun hn H6 s6 => ?_⟩
        · refine nxt hi ⟨⟨_, rfl⟩, s4.trans s6, ?_, by rw [List.length_append, ly]; rfl⟩
          rw [et]
          exact (hv.same s6).snoc (.inr ⟨n, p, hn, rfl, hp⟩)
        · refine nxt hi ⟨⟨_, rfl⟩, s4.trans s6, ?_, by rw [List.length_append, ly]; rfl⟩
          rw [et]
          exact (hv.same s6).snoc (.inl ⟨hn, rfl⟩)
      · rintro ys σ' H4 ⟨_, s4, hv, ly⟩
        rw [List.take_length] at hv
        refine ⟨⟨_, SqL.of (s4 _ _ hl3), by rw [List.length_map]; omega⟩, fun D hD => ?_⟩
        have s5' := same_upd (o := .lst ys) hD
        have hD5 : upd H4 D (.lst ys) D = some (.lst ys) := upd_same
        have hv5 := hv.same s5'
        have hl5 := s5' _ _ (s4 _ _ hl3)
        have hgs5 := (hgs.same s4).same s5'
        have s5 := (s3.trans s4).trans s5'
        have ha5 := s5 _ _ ha
        generalize upd H4 D (.lst ys) = H5 at s5 hD5 hv5 hl5 hgs5 ha5 s5' ⊢
        have lgr : (grp ss).length ≤ 801 := by omega
        have gpos : 0 < (grp ss).length := by
          unfold grp
          rw [List.length_append]
          show 0 < _ + 1
          omega
        repeat walk_at "s"
        refine ⟨Nat.zero_le _, fun q hq => ?_⟩
        have t6 := same_upd (o := .lst []) hq
        refine i_noL (t6 _ _ ha5) upd_same ?_
        have hD6 := t6 _ _ hD5
        have hv6 := hv5.same t6
        have hl6 := t6 _ _ hl5
        have hgs6 := hgs5.same t6
        have s6 := s5.trans t6
        generalize upd H5 q (.lst []) = H6 at s6 hD6 hv6 hl6 hgs6 ⊢
        rw [if_neg Bool.false_ne_true, List.isEmpty_map]
        repeat walk_at "s"
        cases hse : ss.isEmpty with
        | true =>
          refine iteT ?_
          repeat walk_at "s"
          exact kN (rdR_empty (.inl (List.isEmpty_iff.mp hse))) _ s6
        | false =>
          refine iteF ?_
          repeat walk_at "s"
          intro m hm
          rw [show cutV (gs.map V.ref) (some 1) none = (gs.drop 1).map V.ref by
            cases gs with
            | nil => rfl
            | cons g0 gr => exact cut1 _ _]
          have t7 := same_upd (o := .lst ((gs.drop 1).map V.ref)) hm
          have hm7 : upd H6 m (.lst ((gs.drop 1).map V.ref)) m = some (.lst ((gs.drop 1).map V.ref)) := upd_same
          have hD7 := t7 _ _ hD6
          have hv7 := hv6.same t7
          have hgs7 := hgs6.same t7
          have s7 := s6.trans t7
          generalize upd H6 m (.lst ((gs.drop 1).map V.ref)) = H7 at s7 hm7 hD7 hv7 hgs7 ⊢
          refine ⟨m, rfl, ⟨_, SqL.of hm7⟩, ?_⟩
          have ld : (gs.drop 1).length = ((grp ss).drop 1).length := by rw [List.length_drop, List.length_drop, lgs]
          refine compW (fun i ys σ' H2 => (∃ x, σ' = [x]) ∧ Same H7 H2 ∧ ys = ((((grp ss).drop 1).take i).map List.isEmpty).map V.bl) (gs.drop 1).length ⟨⟨none, rfl⟩, Same.refl _, rfl⟩ ?_ ?_
          rotate_left
          · rintro i ys' σ' H8 hi ⟨⟨x, rfl⟩, s8, rfl⟩
            have hi2 : i + 1 < gs.length := by rw [List.length_drop] at hi; omega
            have e1 : (gs.drop 1)[i]? = some gs[i + 1] := by rw [List.getElem?_drop, Nat.add_comm]; exact List.getElem?_eq_getElem hi2
            have e2 : (grp ss)[i + 1]? = some ((grp ss)[i + 1]'(by omega)) := List.getElem?_eq_getElem _
            have e3 : ((grp ss).drop 1)[i]? = some ((grp ss)[i + 1]'(by omega)) := by rw [List.getElem?_drop, Nat.add_comm]; exact e2
            have hg8 := s8 _ _ (hgs7.2 (i + 1) _ _ (List.getElem?_eq_getElem hi2) e2)
            refine ⟨⟨_, .ref gs[i + 1], SqL.of (s8 _ _ hm7), by rw [List.getElem?_map, e1]; rfl⟩, small1000 (by rw [List.length_map, List.length_map, List.length_take]; omega), ?_⟩
            rintro v H9 ⟨rfl, hy⟩
            have ev := hy _ (SqL.of (s8 _ _ hm7))
            rw [List.getElem?_map, e1] at ev
            cases ev
            repeat walk_at "s"
            refine iteT ?_
            repeat walk_at "s"
            refine ⟨Nat.zero_le _, fun q9 hq9 => ?_⟩
            have t9 := same_upd (o := .lst []) hq9
            refine i_noL (t9 _ _ hg8) upd_same ?_
            refine nxt hi ⟨⟨_, rfl⟩, s8.trans t9, ?_⟩
            rw [if_neg Bool.false_ne_true, List.isEmpty_map, List.take_succ, e3, List.map_append, List.map_append]
            rfl
          · rintro ys' σ' H8 ⟨_, s8, rfl⟩
            rw [ld, List.take_length]
            refine ⟨⟨_, SqL.of (s8 _ _ hm7), by rw [List.length_map, ld]; exact Nat.le_refl _⟩, fun D2 hD2 => ?_⟩
            have t9 := same_upd (o := .lst ((((grp ss).drop 1).map List.isEmpty).map V.bl)) hD2
            have hD29 : upd H8 D2 (.lst ((((grp ss).drop 1).map List.isEmpty).map V.bl)) D2 = some (.lst ((((grp ss).drop 1).map List.isEmpty).map V.bl)) := upd_same
            have s79 := s8.trans t9
            have hD9 := s79 _ _ hD7
            have hv9 := hv7.same s79
            have s9 := s7.trans s79
            generalize upd H8 D2 (.lst ((((grp ss).drop 1).map List.isEmpty).map V.bl)) = H9 at s9 hD29 hD9 hv9 ⊢
            repeat walk_at "s"
            refine ⟨D2, _, rfl, SqL.of hD29, ?_⟩
            rw [show (((grp ss).drop 1).map List.isEmpty).any id = ((grp ss).drop 1).any List.isEmpty by rw [List.any_map]; rfl]
            repeat walk_at "s"
            cases hem : ((grp ss).drop 1).any List.isEmpty with
            | true =>
              refine iteT ?_
              repeat walk_at "s"
              exact kN (rdR_empty (.inr hem)) _ s9
            | false =>
              refine iteF ?_
              repeat walk_at "s"
              refine ⟨D, rfl, ⟨_, SqL.of hD9⟩, ?_⟩
              refine areNone hD9 (by rw [hv9.1]; omega) ?_
              intro D3 hD3
              have tA := same_upd (o := .lst ((ys.map fun v => decide (v = .non)).map V.bl)) hD3
              have hD3A : upd H9 D3 (.lst ((ys.map fun v => decide (v = .non)).map V.bl)) D3 = some (.lst ((ys.map fun v => decide (v = .non)).map V.bl)) := upd_same
              have hDA := tA _ _ hD9
              have hvA := hv9.same tA
              have sA := s9.trans tA
              generalize upd H9 D3 (.lst ((ys.map fun v => decide (v = .non)).map V.bl)) = HA at sA hD3A hDA hvA ⊢
              repeat walk_at "s"
              refine ⟨D3, _, rfl, SqL.of hD3A, ?_⟩
              repeat walk_at "s"
              have nse : ss ≠ [] := fun z => by rw [z] at hse; cases hse
              cases hno : (ys.map fun v => decide (v = V.non)).any id with
              | true =>
                refine iteT ?_
                repeat walk_at "s"
                refine kN ?_ _ sA
                unfold rdR
                rw [hvA.none hno]
              | false =>
                refine iteF ?_
                obtain ⟨ps, nss, eys, htA, hrd⟩ := hvA.some hno
                subst eys
                have lps := htA.1
                have lns := (rdG_some hrd).1
                cases nss with
                | nil => rw [lns] at gpos; cases gpos
                | cons n0 sr =>
                cases ps with
                | nil => cases lps
                | cons p0 pr =>
                have hp0 := htA.2 0 p0 n0 rfl rfl
                have htr : TsAt HA pr sr := ⟨by simpa using lps, fun i t s' f1 f2 => htA.2 (i + 1) t s' (by simpa using f1) (by simpa using f2)⟩
                have er := rdR_eq hrd
                rw [if_neg (fun z => z.elim nse fun y => by rw [hem] at y; cases y)] at er
                repeat walk_at "s"
                refine i_ixL (SqL.of hDA) (at0 _ _) ?_
                repeat walk_at "s"
                intro m2 hm2
                rw [show cutV ((p0 :: pr).map V.ref) (some 1) none = pr.map V.ref from cut1 _ _]
                have tB := same_upd (o := .lst (pr.map V.ref)) hm2
                have hm2B : upd HA m2 (.lst (pr.map V.ref)) m2 = some (.lst (pr.map V.ref)) := upd_same
                have hp0B := tB _ _ hp0
                have htB := htr.same tB
                have sB := sA.trans tB
                generalize upd HA m2 (.lst (pr.map V.ref)) = HB at sB hm2B hp0B htB ⊢
                repeat walk_at "s"
                refine ⟨m2, _, rfl, .inl ⟨SqL.of hm2B, fun m3 hm3 => ?_⟩⟩
                have tC' := same_upd (o := .tup (pr.map V.ref)) hm3
                have hm3C : upd HB m3 (.tup (pr.map V.ref)) m3 = some (.tup (pr.map V.ref)) := upd_same
                have hp0C := tC' _ _ hp0B
                have htC := htB.same tC'
                have sC := sB.trans tC'
                generalize upd HB m3 (.tup (pr.map V.ref)) = HC at sC hm3C hp0C htC ⊢
                repeat walk_at "s"
                refine ⟨by show 3 ≤ sizeLine; decide, fun p hp => ?_⟩
                have tD := same_upd (o := .tup [.str "refit", .ref p0, .ref m3]) hp
                exact k _ er p _ (sC.trans tD) ⟨p0, m3, pr, upd_same, tD _ _ hp0C, tD _ _ hm3C, htC.same tD⟩
    · rintro i σ' H' hi ⟨x, gi, gl, rfl, s3, hl3, hs3, hg3, ni, nl, nH, nA⟩
      have e1 : ss[i]? = some ss[i] := List.getElem?_eq_getElem hi
      have lgi := hs3.1
      obtain ⟨pl1, pl2⟩ := pp_len (ss.take i)
      rw [List.length_take] at pl1 pl2
      refine ⟨⟨_, .str ss[i], SqL.of (s3 _ _ ha), by rw [List.getElem?_map, e1]; rfl⟩, ?_⟩
      rintro v H3 ⟨rfl, hy⟩
      have ev := hy _ (SqL.of (s3 _ _ ha))
      rw [List.getElem?_map, e1] at ev
      cases ev
      have ep := pp_succ e1
      unfold stp at ep
      repeat walk_at "s"
      rw [decS]
      by_cases hx : ss[i] = slash
      · rw [decide_eq_true (show ss[i] = Str.ofString "/" from hx)]
        rw [if_pos hx] at ep
        refine iteT ?_
        repeat walk_at "s"
        refine ⟨.inl ⟨rfl, _, SqL.of hl3⟩, ?_⟩
        repeat walk_at "s"
        refine ⟨Nat.zero_le _, fun g' hg' => ?_⟩
        have s4 := same_upd (o := .lst []) hg'
        have hg4 : upd H3 g' (.lst []) g' = some (.lst []) := upd_same
        have hl4 := s4 _ _ hl3
        have hgl4 := s4 _ _ hg3
        have hs4 := hs3.same s4
        have ngl : g' ≠ l := Ne.symm (ne_of_none hl3 hg')
        have ngg : g' ≠ gl := Ne.symm (ne_of_none hg3 hg')
        have nH' : H g' = none := s3.free hg'
        have ngi : g' ∉ gi := by
          intro z
          obtain ⟨j, hj, ej⟩ := List.mem_iff_getElem.mp z
          have := hs3.2 j g' _ (by rw [List.getElem?_eq_getElem hj, ej]) (List.getElem?_eq_getElem (by omega))
          rw [hg'] at this
          cases this
        have s04 := s3.trans s4
        generalize upd H3 g' (.lst []) = H4 at s4 hg4 hl4 hgl4 hs4 s04 ⊢
        repeat walk_at "s"
        refine i_app hl4 (lt_line (by rw [List.length_map, List.length_append]; show _ + 1 < _; omega)) ?_
        repeat walk_at "s"
        have lni : l ∉ gi := fun z => (nA l z).1 rfl
        refine ⟨_, gi ++ [gl], g', rfl, fun b o e => ?_, ?_, ?_, ?_, ?_, ngl, nH', ?_⟩
        · rw [upd_ne (ne_of_none e hlH)]
          exact s04 _ _ e
        · rw [upd_same, List.map_append (l₂ := [g'])]
          rfl
        · rw [ep]
          exact (hs4.snoc hgl4).put (by simp [lni, Ne.symm nl])
        · rw [upd_ne ngl, ep]
          exact hg4
        · simp [ngi, ngg]
        · intro g hg
          rcases List.mem_append.mp hg with hg | hg
          · exact nA g hg
          · rw [List.mem_singleton] at hg
            subst hg
            exact ⟨nl, nH⟩
      · rw [decide_eq_false (show ¬ ss[i] = Str.ofString "/" from hx)]
        rw [if_neg hx] at ep
        refine iteF ?_
        repeat walk_at "s"
        refine i_ixL (SqL.of hl3) (by rw [List.map_append]; exact at_last _ _) ?_
        repeat walk_at "s"
        refine ⟨.inl ⟨rfl, _, SqL.of hg3⟩, ?_⟩
        repeat walk_at "s"
        refine i_app hg3 (lt_line (by rw [List.length_map]; omega)) ?_
        repeat walk_at "s"
        refine ⟨_, gi, gl, rfl, fun b o e => ?_, ?_, ?_, ?_, ni, nl, nH, nA⟩
        · rw [upd_ne (ne_of_none e nH)]
          exact s3 _ _ e
        · rw [upd_ne (Ne.symm nl)]
          exact hl3
        · rw [ep]
          exact hs3.put ni
        · rw [upd_same, ep, List.map_append]
          rfl
end

def mny : List (Key × V) := [(.inr "fell", .int 1), (.inr "lend", .int 2), (.inr "pay", .int 2), (.inr "clear", .int 1)]
theorem mny_m : mergeK [] mny = mny := by decide +kernel
theorem valV_cons {k0 k : Key} {v : V} {r : List (Key × V)} : valV ((k0, v) :: r) k = if k0 = k then some v else valV r k := by
  unfold valV
  rw [List.find?_cons]
  by_cases h : k0 = k
  · rw [if_pos h, decide_eq_true h]; rfl
  · rw [if_neg h, decide_eq_false h]
theorem inr_eq {a b : Str} : ((Sum.inr a : Key) = Sum.inr b) = (b = a) := propext ⟨fun h => by injection h with h; exact h.symm, fun h => by rw [h]⟩
theorem mny_get (x : Str) : valV mny (.inr x) = (PyProof.Rows.KTD.datumAt x tabM).map V.int := by
  unfold mny tabM
  simp only [valV_cons, inr_eq, datI_cons]
  repeat' split
  all_goals first | rfl | (simp_all)
theorem nums_pos {x : Str} {v : Int} (h : PyProof.Rows.KTD.datumAt x tabM = some v) : 0 < v ∧ x ≠ "storm" ∧ x ≠ "find" := by
  unfold tabM at h
  simp only [datI_cons] at h
  split at h
  · cases h; rename_i e; subst e; exact ⟨by decide, by decide, by decide⟩
  split at h
  · cases h; rename_i e; subst e; exact ⟨by decide, by decide, by decide⟩
  split at h
  · cases h; rename_i e; subst e; exact ⟨by decide, by decide, by decide⟩
  split at h
  · cases h; rename_i e; subst e; exact ⟨by decide, by decide, by decide⟩
  · cases h
section
variable {P : Program} {w : World} {K : PySem.W.Frag} {mg : Str → Option Value} {base : Heap}
def spLRead : Sp := fun vs H Q _ => ∃ (a : Addr) (ss : List Str), vs = [.ref a] ∧ H a = some (.lst (ss.map V.str)) ∧ ss ≠ [] ∧ ss.length ≤ 601 ∧ okW ss ∧
  (∀ F, rdF ss = some F → ∀ p H', Same H H' → FcAt H' p F → Q (.ref p) H') ∧ (rdF ss = none → ∀ H', Same H H' → Q .non H')
abbrev sLawRead : Stmt := top 27
theorem scLawRead : FnScope ["_law_words", "_law_many", "_law_found"] ["_law_words"] (defScope sLawRead) := ⟨rfl, rfl, rfl, by decide +kernel, rfl, by decide +kernel, by decide +kernel⟩
theorem ok_lread {f : Addr} {fd : FuncData} (F : Fun K "_law_read" "_law_read" sLawRead f fd) (T : BltM mg) (c_law_numbers : Cal P w K mg base "_law_numbers" 2 ["_law_words"] spLNums) (c_law_read_refit : Cal P w K mg base "_law_read_refit" 3 ["_law_words"] spLRef) : FnOk P w K mg base CX0 4 f fd ["_law_words"] spLRead := by
  refine F.ok scLawRead (fun vs H Q E h => ?_) (fun cdv A outer s H vs Q E hr h => ?_)
  · obtain ⟨l, ss, rfl, _⟩ := h
    rfl
  · obtain ⟨a, ss, rfl, ha, hne, hl, ow, k, kN⟩ := h
    cases ss with
    | nil => exact absurd rfl hne
    | cons x ws =>
    have ow2 : okW ws := fun t ht => ow t (List.mem_cons_of_mem _ ht)
    rw [List.length_cons] at hl
    have er : rdF (x :: ws) = rdW x ws := rfl
    rw [er] at k kN
    unfold rdW at k kN
    refine' ⟨_, ?zz, ?_⟩
    case zz =>
      refine' pss_cons ?s0 ?r0
      case s0 => exact (ps_if (pt_cmpR op_eq (pe_ix (ixL (K := K) rfl) (pv 0) pe_int (fun _ _ => rfl)) pe_str (nomark _)) (pss_one (by exact (ps_ret (pe_callC c_law_read_refit (hr.mono (by omega)) (by rfl) (pa_cons (pe_slice (slL (K := K) rfl) (pv 0) (po_some pe_int) po_none) pa_nil))))) pss_nil)
      case r0 =>
      refine' pss_cons ?s1 ?r1
      case s1 => exact (by refine' ps_set (i := 1) ?xa ?xb ?xc ?xd ?xe ?xf; (case xa => exact scLawRead.nd); (case xb => rfl); (case xc => exact Or.inl rfl); (case xe => rfl); (case xf => first | exact .inl rfl | exact .inr rfl); (case xd => exact (by refine' pe_disp ?xp ?y1 ?y2 ?y3 ?y4; (case y1 => rfl); (case y2 => rfl); (case y3 => exact List.cons_ne_nil _ _); (case y4 => decide); (case xp => exact (by exact pps_cons pe_str pe_int (by exact pps_cons pe_str pe_int (by exact pps_cons pe_str pe_int (by exact pps_cons pe_str pe_int pps_nil))))))))
      case r1 =>
      refine' pss_cons ?s2 ?r2
      case s2 => exact (ps_set (i := 2) scLawRead.nd rfl (Or.inl rfl) (pe_callC c_law_numbers (hr.mono (by omega)) (by rfl) (pa_cons (pe_slice (slL (K := K) rfl) (pv 0) (po_some pe_int) po_none) pa_nil)))
      case r2 =>
      refine' pss_cons ?s3 ?r3
      case s3 => exact (ps_if (pt_cmp (pc_isN (pv 2))) (pss_one (by exact (ps_ret pe_non))) pss_nil)
      case r3 =>
      refine' pss_cons ?s4 ?r4
      case s4 => exact (ps_if (pt_cmpR (oIn (K := K) rfl) (pe_ix (ixL (K := K) rfl) (pv 0) pe_int (fun _ _ => rfl)) (pe_tup (pa_cons pe_str (pa_cons pe_str pa_nil))) (by with_unfolding_all rfl)) (pss_one (by exact (ps_ret (by refine' pe_ifExp ?it1 ?ib1 ?ie1; (case it1 => exact (pt_cmpR (op_eqNoT hr.units) (pv 2) (pe_tup pa_nil) (nomark _))); (case ib1 => exact pe_non); (case ie1 => refine' pe_tup ?zt3; (case zt3 => refine' pa_cons ?za4 ?zb4 ?zs4; (case zs4 => rfl); (case za4 => exact (pe_ix (ixL (K := K) rfl) (pv 0) pe_int (fun _ _ => rfl))); (case zb4 => refine' pa_cons ?za6 ?zb6 ?zs6; (case zs6 => rfl); (case za6 => exact (pv 2)); (case zb6 => exact pa_nil)))))))) pss_nil)
      case r4 =>
      refine' pss_cons ?s5 ?r5
      case s5 => exact (ps_if ((pw_or (pt_cmpR op_ne (pe_dget2 (hu1 hr.units) (pv 1) (pe_ix (ixL (K := K) rfl) (pv 0) pe_int (fun _ _ => rfl)) pe_int ⟨rfl, rfl, rfl, rfl⟩) (pe_callB (cLen (K := K) rfl) (by rfl) T.z_len bb_len (pa_cons (pv 2) pa_nil)) (nomark _)) (pw_or1 (pt_cmp (pc_dnotin (hu1 hr.units) (pe_ix (ixL (K := K) rfl) (pv 0) pe_int (fun _ _ => rfl)) (pv 1)))))).pt (pss_one (by exact (ps_ret pe_non))) pss_nil)
      case r5 =>
      exact pss_one (ps_ret (pe_op op_catU (pe_tup (pa_cons (pe_ix (ixL (K := K) rfl) (pv 0) pe_int (fun _ _ => rfl)) pa_nil)) (pv 2)))
    repeat walk_at "s"
    refine i_ixL (SqL.of ha) (at0 _ _) ?_
    repeat walk_at "s"
    rw [decS]
    by_cases hx : x = "refit"
    · rw [decide_eq_true hx]
      rw [if_pos hx] at k kN
      refine iteT ?_
      repeat walk_at "s"
      intro m hm
      rw [show cutV ((x :: ws).map V.str) (some 1) none = ws.map V.str from cut1 _ _]
      have s1 := same_upd (o := .lst (ws.map V.str)) hm
      repeat walk_at "s"
      exact ⟨m, ws, rfl, upd_same, by omega, ow2, fun F hF p H3 s3 hp => k F hF p H3 (s1.trans s3) hp, fun hn H3 s3 => kN hn H3 (s1.trans s3)⟩
    · rw [decide_eq_false hx]
      rw [if_neg hx] at k kN
      refine iteF ?_
      repeat walk_at "s"
      refine i_disp fun q hq => ?_
      refine ⟨upd_same, mny, rfl, by decide, ?_⟩
      rw [mny_m]
      have s1 : Same H (upd (upd H q (.dK [])) q (.dK mny)) := fun b o e => by
        have nb : b ≠ q := ne_of_none e hq
        rw [upd_ne nb, upd_ne nb]
        exact e
      have hq1 : upd (upd H q (.dK [])) q (.dK mny) q = some (.dK mny) := upd_same
      generalize upd (upd H q (.dK [])) q (.dK mny) = H1 at s1 hq1 ⊢
      have ha1 := s1 _ _ ha
      repeat walk_at "s"
      intro m hm
      rw [show cutV ((x :: ws).map V.str) (some 1) none = ws.map V.str from cut1 _ _]
      have s2' := same_upd (o := .lst (ws.map V.str)) hm
      have s2 := s1.trans s2'
      have hq2 := s2' _ _ hq1
      have ha2 := s2' _ _ ha1
      have hm2 : upd H1 m (.lst (ws.map V.str)) m = some (.lst (ws.map V.str)) := upd_same
      generalize upd H1 m (.lst (ws.map V.str)) = H2 at s2 hq2 ha2 hm2 ⊢
      repeat walk_at "s"
      refine ⟨m, ws, rfl, hm2, by omega, ow2, fun ns hns p H3 s3' hp => ?_, fun hn H3 s3 => ?_⟩
      rotate_left
      · repeat walk_at "s"
        rw [decide_eq_true (show V.non = V.non from rfl)]
        refine iteT ?_
        repeat walk_at "s"
        exact kN (by rw [hn]) H3 (s2.trans s3)
      rw [hns] at k kN
      replace k : ∀ F, (if PyProof.Rows.KTD.datumAt x tabM = some (ns.length : Int) then some (Fc.num x ns) else if (x = "storm" ∨ x = "find") ∧ ns ≠ [] then some (Fc.mov x ns) else none) = some F → ∀ p H', Same H H' → FcAt H' p F → Q (.ref p) H' := k
      replace kN : (if PyProof.Rows.KTD.datumAt x tabM = some (ns.length : Int) then some (Fc.num x ns) else if (x = "storm" ∨ x = "find") ∧ ns ≠ [] then some (Fc.mov x ns) else none) = none → ∀ H', Same H H' → Q .non H' := kN
      have ln := rdN_len hns
      have lns : ns.length ≤ 700 := by omega
      have s3 := s2.trans s3'
      have hq3 := s3' _ _ hq2
      have ha3 := s3' _ _ ha2
      repeat walk_at "s"
      rw [decide_eq_false (show ¬ V.ref p = V.non from nofun)]
      refine iteF ?_
      repeat walk_at "s"
      refine i_ixL (SqL.of ha3) (at0 _ _) ?_
      repeat walk_at "s"
      refine ⟨by show 2 ≤ sizeLine; decide, fun t ht => ?_⟩
      have t4 := same_upd (o := .tup [.str "storm", .str "find"]) ht
      have ht4 : upd H3 t (.tup [.str "storm", .str "find"]) t = some (.tup [.str "storm", .str "find"]) := upd_same
      have hp4 := t4 _ _ hp
      have hq4 := t4 _ _ hq3
      have ha4 := t4 _ _ ha3
      have s4 := s3.trans t4
      generalize upd H3 t (.tup [.str "storm", .str "find"]) = H4 at t4 ht4 hp4 hq4 ha4 s4 ⊢
      refine ⟨t, _, rfl, .inr (SqT.of ht4), rfl, rfl, ?_⟩
      rw [inV_2, if_neg Bool.false_ne_true]
      repeat walk_at "s"
      by_cases hm : x = "storm" ∨ x = "find"
      · have nd : PyProof.Rows.KTD.datumAt x tabM ≠ some (ns.length : Int) := fun z => by
          have := (nums_pos z).2
          rcases hm with e | e
          · exact this.1 e
          · exact this.2 e
        rw [if_neg nd] at k kN
        rw [show (decide (x = "storm") || decide (x = "find")) = true by rcases hm with rfl | rfl <;> simp]
        refine iteT ?_
        repeat walk_at "s"
        refine ⟨Nat.zero_le _, fun u hu => ?_⟩
        have t5 := same_upd (o := .tup []) hu
        refine i_noT (t5 _ _ hp4) upd_same ?_
        have hp5 := t5 _ _ hp4
        have ha5 := t5 _ _ ha4
        have s5 := s4.trans t5
        generalize upd H4 u (.tup []) = H5 at t5 hp5 ha5 s5 ⊢
        rw [if_neg Bool.false_ne_true]
        rw [List.isEmpty_map]
        repeat walk_at "s"
        cases hz : ns.isEmpty with
        | true =>
          rw [if_neg (fun z => z.2 (List.isEmpty_iff.mp hz))] at kN
          refine iteT ?_
          repeat walk_at "s"
          exact kN rfl _ s5
        | false =>
          have nne : ns ≠ [] := fun z => by rw [z] at hz; cases hz
          rw [if_pos ⟨hm, nne⟩] at k
          refine iteF ?_
          repeat walk_at "s"
          refine i_ixL (SqL.of ha5) (at0 _ _) ?_
          repeat walk_at "s"
          refine ⟨by show 2 ≤ sizeLine; decide, fun g hg => ?_⟩
          have s6 := same_upd (o := .tup [.str x, .ref p]) hg
          exact k _ rfl g _ (s5.trans s6) ⟨p, upd_same, s6 _ _ hp5⟩
      · rw [decide_eq_false fun z => hm (.inl z), decide_eq_false fun z => hm (.inr z)]
        refine iteF ?_
        repeat walk_at "s"
        refine ⟨q, rfl, .inl ⟨mny, .inl hq4⟩, ?_⟩
        repeat walk_at "s"
        refine i_ixL (SqL.of ha4) (at0 _ _) ?_
        repeat walk_at "s"
        refine ⟨_, DGet.k (k := .inr x) hq4, ?_⟩
        rw [mny_get]
        rw [if_neg (fun z : (x = "storm" ∨ x = "find") ∧ ns ≠ [] => hm z.1)] at k kN
        cases ed : PyProof.Rows.KTD.datumAt x tabM with
        | none =>
          rw [ed, if_neg (by simp)] at kN
          repeat walk_at "s"
          refine ite2 (fun _ => ?_) (fun _ => ?_)
          · refine iteT ?_
            repeat walk_at "s"
            exact kN rfl _ s4
          · repeat walk_at "s"
            refine i_ixL (SqL.of ha4) (at0 _ _) ?_
            repeat walk_at "s"
            refine ⟨q, _, rfl, DGet.k (k := .inr x) hq4, ?_⟩
            rw [mny_get, ed]
            repeat walk_at "s"
            refine iteT ?_
            repeat walk_at "s"
            exact kN rfl _ s4
        | some v =>
          rw [show (Option.map V.int (some v)).getD (V.int 0) = V.int v from rfl]
          repeat walk_at "s"
          by_cases hv : v = (ns.length : Int)
          · rw [ed, if_pos (by rw [hv])] at k
            rw [show (!decide (V.int v = V.int ((ns.map V.int).length : Int))) = false by rw [List.length_map, hv]; simp]
            refine iteF ?_
            repeat walk_at "s"
            refine i_ixL (SqL.of ha4) (at0 _ _) ?_
            repeat walk_at "s"
            refine ⟨q, _, rfl, DGet.k (k := .inr x) hq4, ?_⟩
            rw [mny_get, ed]
            repeat walk_at "s"
            refine iteF ?_
            repeat walk_at "s"
            refine i_ixL (SqL.of ha4) (at0 _ _) ?_
            repeat walk_at "s"
            refine ⟨by show 1 ≤ sizeLine; decide, fun g hg => ?_⟩
            have t5 := same_upd (o := .tup [.str x]) hg
            repeat walk_at "s"
            refine i_catU upd_same (t5 _ _ hp4) (le_line (by rw [List.length_map]; show 1 + _ ≤ _; omega)) fun g2 H6 s6 hg2 => ?_
            exact k _ rfl g2 H6 ((s4.trans t5).trans s6) hg2
          · rw [ed, if_neg (fun z => hv (by injection z))] at kN
            rw [show (!decide (V.int v = V.int ((ns.map V.int).length : Int))) = true by
              rw [List.length_map, decide_eq_false (fun z => hv (by injection z))]; rfl]
            refine iteT (iteT ?_)
            repeat walk_at "s"
            exact kN rfl _ s4
end

theorem cut_take {us : List V} {i : Nat} : cutV us none (some (i : Int)) = us.take i := by
  have z : HT.sIx us.length us.length (some (i : Int)) = min i us.length := HT.sIx_nat us.length us.length i
  unfold cutV
  rw [HT.sIx_none, z, List.drop_zero, Nat.sub_zero]
  rcases Nat.le_total i us.length with q | q
  · rw [Nat.min_eq_left q]
  · rw [Nat.min_eq_right q, List.take_of_length_le (Nat.le_refl _), List.take_of_length_le q]
theorem cut_drop {us : List V} {i : Nat} : cutV us (some (i : Int)) none = us.drop i := by
  have z : HT.sIx us.length 0 (some (i : Int)) = min i us.length := HT.sIx_nat us.length 0 i
  unfold cutV
  rw [HT.sIx_none, z]
  rcases Nat.le_total i us.length with q | q
  · rw [Nat.min_eq_left q]
    exact List.take_of_length_le (by rw [List.length_drop]; omega)
  · rw [Nat.min_eq_right q, List.drop_of_length_le (Nat.le_refl _), List.drop_of_length_le q, List.take_nil]
theorem part_next {nss : List (List Int)} {L fs ls : List Int} (h : (nss.flatten ++ L).Nodup) (pm : (fs ++ ls).Perm L) : ((nss ++ [fs]).flatten ++ L.filter fun x => !decide (x ∈ fs)).Nodup := by
  rw [List.nodup_append] at h
  obtain ⟨h1, h2, h3⟩ := h
  have nf := pm.nodup_iff.mpr h2
  rw [List.nodup_append] at nf
  have sub : ∀ x ∈ fs, x ∈ L := fun x hx => pm.mem_iff.mp (List.mem_append_left _ hx)
  rw [List.flatten_append, List.flatten_singleton, List.append_assoc, List.nodup_append, List.nodup_append]
  refine ⟨h1, ⟨nf.1, h2.filter _, ?_⟩, ?_⟩
  · intro a ha b hb e
    subst e
    have := (List.mem_filter.mp hb).2
    simp [ha] at this
  · intro a ha b hb
    rcases List.mem_append.mp hb with hb | hb
    · exact h3 a ha b (sub b hb)
    · exact h3 a ha b (List.mem_filter.mp hb).1
theorem filter_next {nss : List (List Int)} {L : List Int} (h : (nss.flatten ++ L).Nodup) (fs : List Int) : (nss.flatten ++ L.filter fun x => !decide (x ∈ fs)).Nodup := by
  rw [List.nodup_append] at h ⊢
  exact ⟨h.1, h.2.1.filter _, fun a ha b hb => h.2.2 a ha b (List.mem_filter.mp hb).1⟩
theorem rot_perm (ns : List Int) (i : Nat) : (ns.drop i ++ ns.take i).Perm ns := by
  have := List.perm_append_comm (l₁ := ns.drop i) (l₂ := ns.take i)
  rwa [List.take_append_drop] at this
section
variable {P : Program} {w : World} {K : PySem.W.Frag} {mg : Str → Option Value} {base : Heap}
theorem nodup_60 : (rangeI 1 60).Nodup := (rangeI_rises 1 60).imp fun h => Int.ne_of_lt h
theorem in_60 {x : Int} (h : x ∈ rangeI 1 60) : inB 1 60 x = true := by
  have z := mem_rangeI.mp h
  exact inB_true z.1 (by omega)
def spAny : Sp := fun vs H Q _ => ∃ (d c0 : Addr) (m : Int), vs = [.ref d, .int m] ∧ DrawC H d c0 ∧ 1 ≤ m ∧ m ≤ 60 ∧ ∀ p H' (ns : List Int), DrawC H' d c0 → But d H H' → H' p = some (.tup (ns.map V.int)) → ns.Nodup → ns.all (inB 1 60) = true → ns ≠ [] → ns.length ≤ 60 → Q (.ref p) H'
abbrev sLawAnyTimbers : Stmt := top 20
theorem scLawAnyTimbers : FnScope ["_law_draw", "_law_many"] ["_law_draw", "_law_many"] (defScope sLawAnyTimbers) := ⟨rfl, rfl, rfl, by decide +kernel, rfl, by decide +kernel, by decide +kernel⟩
theorem ok_any {f : Addr} {fd : FuncData} (F : Fun K "_law_any_timbers" "_law_any_timbers" sLawAnyTimbers f fd) (T : BltM mg) (c_law_some : Cal P w K mg base "_law_some" 2 ["_law_draw", "_law_pool", "_law_many"] (spSomeC K)) : FnOk P w K mg base CX0 3 f fd ["_law_draw", "_law_many"] spAny := by
  refine F.ok scLawAnyTimbers (fun vs H Q E h => ?_) (fun cdv A outer s H vs Q E hr h => ?_)
  · obtain ⟨d, c0, m, rfl, _⟩ := h
    rfl
  · obtain ⟨d, c0, m, rfl, hD, m1, m2, k⟩ := h
    refine ⟨_, (pss_one (ps_ret (pe_callTy (cTuple (K := K) rfl) (by rfl) T.z_tuple bb_tuple (pa_cons (pe_callC c_law_some (hr.mono (by omega)) (by rfl) (pa_cons (pv 0) (pa_cons (pe_callTy (cListRng rfl) (by rfl) T.z_list bb_list (pa_cons (pe_callTy cRng2 (by rfl) T.z_range bb_range (pa_cons pe_int (pa_cons pe_int pa_nil))) pa_nil)) (pa_cons (pv 1) pa_nil)))) pa_nil)))), ?_⟩
    repeat walk_at "s"
    intro r0 hr0
    repeat walk_at "s"
    refine i_listRng upd_same (by decide) (by decide) (by decide) (by decide) (by decide) fun l hl => ?_
    have s2 := (same_upd (o := .rng 1 61) hr0).trans (same_upd (o := .lst ((rangeI 1 (61 - 1 : Int).toNat).map V.int)) hl)
    have hl2 : upd (upd H r0 (.rng 1 61)) l (.lst ((rangeI 1 (61 - 1 : Int).toNat).map V.int)) l = some (.lst ((rangeI 1 60).map V.int)) := upd_same
    generalize upd (upd H r0 (.rng 1 61)) l (.lst ((rangeI 1 (61 - 1 : Int).toNat).map V.int)) = H2 at s2 hl2 ⊢
    repeat walk_at "s"
    refine ⟨d, c0, l, rangeI 1 60, m, rfl, hD.same s2, SqL.of hl2, by rw [rangeI_length]; decide, by omega, by omega, fun p H3 fs ls hD3 b3 hp0 hp3 pm lf => ?_⟩
    repeat walk_at "s"
    refine ⟨p, _, rfl, .inl ⟨SqL.of hp3, fun t ht => ?_⟩⟩
    have s4 := same_upd (o := .tup (fs.map V.int)) ht
    have nd := (pm.nodup_iff.mpr nodup_60)
    rw [List.nodup_append] at nd
    have sub : ∀ x ∈ fs, x ∈ rangeI 1 60 := fun x hx => pm.mem_iff.mp (List.mem_append_left _ hx)
    rw [rangeI_length] at lf
    refine k t _ fs (hD3.same s4) ((s2.but (d := d)).trans (b3.trans (s4.but (d := d)))) upd_same nd.1 (List.all_eq_true.mpr fun x hx => in_60 (sub x hx)) (fun z => ?_) (by omega)
    rw [z] at lf
    simp at lf
    omega
theorem TsAt.but {H H' : Hp} {d c : Addr} {ts : List Addr} {nss : List (List Int)} (h : TsAt H ts nss) (b : But d H H') (hD : DrawC H d c) : TsAt H' ts nss := ⟨h.1, fun i t ns e1 e2 => b _ _ (hD.ne_tup (h.2 i t ns e1 e2)) (h.2 i t ns e1 e2)⟩
def spFact : Sp := fun vs H Q _ => ∃ (d c0 : Addr) (slip : Int), vs = [.ref d, .int slip] ∧ DrawC H d c0 ∧ 1 ≤ slip ∧ slip ≤ 12 ∧ ∀ p H', DrawC H' d c0 → But d H H' → FactN H' p → Q (.ref p) H'
abbrev sLawSoundRefit : Stmt := top 21
theorem scLawSoundRefit : FnScope ["_law_draw", "_law_slip_here", "_law_names", "_law_at", "_law_left", "_law_sets", "_law_k", "_law_some_here"] ["_law_draw", "_law_slip_here"] (defScope sLawSoundRefit) := ⟨rfl, rfl, rfl, by decide +kernel, rfl, by decide +kernel, by decide +kernel⟩
theorem nd_90_26 : (["_law_k", "_law_draw"] : List Str).Nodup := by decide +kernel
theorem S_90_26 : CompScope ["_law_draw", "_law_slip_here", "_law_names", "_law_at", "_law_left", "_law_sets", "_law_k", "_law_some_here"] (defScope sLawSoundRefit) ({ kind := PySem.ScopeKind.function, names := [ (PySem.Str.ofString ".0", PySem.NameKind.local), (PySem.Str.ofString "_law_k", PySem.NameKind.local), (PySem.Str.ofString "_law_take", PySem.NameKind.globalImplicit), (PySem.Str.ofString "_law_draw", PySem.NameKind.free)], isGenerator := false, isCoroutine := false, more := [] : PySem.Scope }) (["_law_k"] : List Str) ([(0, "_law_draw")] : List (Nat × Str)) := ⟨by decide +kernel, by decide +kernel, by decide +kernel, by decide +kernel, by decide +kernel⟩
theorem nd_96_20 : (["_law_timber", "_law_some_here"] : List Str).Nodup := by decide +kernel
theorem S_96_20 : CompScope ["_law_draw", "_law_slip_here", "_law_names", "_law_at", "_law_left", "_law_sets", "_law_k", "_law_some_here"] (defScope sLawSoundRefit) ({ kind := PySem.ScopeKind.function, names := [ (PySem.Str.ofString ".0", PySem.NameKind.local), (PySem.Str.ofString "_law_timber", PySem.NameKind.local), (PySem.Str.ofString "_law_some_here", PySem.NameKind.free)], isGenerator := false, isCoroutine := false, more := [] : PySem.Scope }) (["_law_timber"] : List Str) ([(7, "_law_some_here")] : List (Nat × Str)) := ⟨by decide +kernel, by decide +kernel, by decide +kernel, by decide +kernel, by decide +kernel⟩
theorem ok_sound_refit {f : Addr} {fd : FuncData} (F : Fun K "_law_sound_refit" "_law_sound_refit" sLawSoundRefit f fd) (T : BltM mg) (c_law_take : Cal P w K mg base "_law_take" 1 ["_law_draw", "_law_many"] spTakeC) (c_law_set : Cal P w K mg base "_law_set" 1 ["_law_timbers"] (spRis K)) (c_law_some : Cal P w K mg base "_law_some" 2 ["_law_draw", "_law_pool", "_law_many"] (spSomeC K)) : FnOk P w K mg base CX0 3 f fd ["_law_draw", "_law_slip_here"] spFact := by
  refine F.ok scLawSoundRefit (fun vs H Q E h => ?_) (fun cdv A outer s H vs Q E hr h => ?_)
  · obtain ⟨d, c0, slip, rfl, _⟩ := h
    rfl
  · obtain ⟨d, c0, slip, rfl, hD, sl1, sl2, k⟩ := h
    refine' ⟨_, ?zz, ?_⟩
    case zz =>
      refine' pss_cons ?s0 ?r0
      case s0 => exact (ps_set (i := 2) scLawSoundRefit.nd rfl (Or.inl rfl) (pe_callC c_law_set (hr.mono (by omega)) (by rfl) (pa_cons (pe_lcomp rfl S_90_26 (pi_range1 (by rfl) T.z_range (pa_cons (pe_callC c_law_take (hr.mono (by omega)) (by rfl) (pa_cons (pv 0) (pa_cons pe_int pa_nil))) pa_nil)) (by intro _ _ _ _ _; exact (pg_name (i := 0) nd_90_26 rfl (Or.inl rfl))) (by intro _ _ _ _ _; exact pts_nil) (by intro _ _ _ _ _; exact (pe_op op_add pe_int (pe_callC c_law_take (hr.mono (by omega)) (by rfl) (pa_cons (pv 1) (pa_cons pe_int pa_nil)))))) pa_nil)))
      case r0 =>
      refine' pss_cons ?s1 ?r1
      case s1 => exact (ps_set (i := 3) scLawSoundRefit.nd rfl (Or.inl rfl) (pe_callC c_law_take (hr.mono (by omega)) (by rfl) (pa_cons (pv 0) (pa_cons (pe_op op_add (pe_callB (cLen (K := K) rfl) (by rfl) T.z_len bb_len (pa_cons (pv 2) pa_nil)) pe_int) pa_nil))))
      case r1 =>
      refine' pss_cons ?s2 ?r2
      case s2 => exact (ps_set (i := 4) scLawSoundRefit.nd rfl (Or.inl rfl) (pe_callTy (cListRng rfl) (by rfl) T.z_list bb_list (pa_cons (pe_callTy cRng2 (by rfl) T.z_range bb_range (pa_cons pe_int (pa_cons pe_int pa_nil))) pa_nil)))
      case r2 =>
      refine' pss_cons ?s3 ?r3
      case s3 => exact (ps_set (i := 5) scLawSoundRefit.nd rfl (Or.inl rfl) (pe_lst pa_nil))
      case r3 =>
      refine' pss_cons ?s4 ?r4
      case s4 => exact (ps_for PassesOwn.never rfl (pi_range1 (by rfl) T.z_range (pa_cons (pe_callC c_law_take (hr.mono (by omega)) (by rfl) (pa_cons (pv 0) (pa_cons pe_int pa_nil))) pa_nil)) (pg_name (i := 6) scLawSoundRefit.nd rfl (Or.inl rfl)) (pss_cons (by exact (ps_set (i := 7) scLawSoundRefit.nd rfl (Or.inr rfl) (pe_callC c_law_some (hr.mono (by omega)) (by rfl) (by exact pa_cons (pv 0) (by exact pa_cons (pv 4) (by exact pa_cons (pe_op op_add pe_int (pe_callC c_law_take (hr.mono (by omega)) (by rfl) (pa_cons (pv 0) (pa_cons (pv 1) pa_nil)))) pa_nil))))))
      (pss_cons (by exact (ps_lcomp (iy := 4) rfl scLawSoundRefit.nd rfl rfl S_96_20 (piL (K := K) rfl (pv 4)) (by intro _ _ _ _ _; exact (pg_name (i := 0) nd_96_20 rfl (Or.inl rfl))) (by intro _ _ _ _ _; exact (pts_one (pt_cmpR (oNotIn (K := K) rfl) (pv 0) (pv 1) (by with_unfolding_all rfl)))) (by intro _ _ _ _ _; exact (pv 0)) (by rfl)))
      (pss_one (by exact (ps_if (pt_cmpR (op_neI hr.units) (pv 7) (pe_lst pa_nil) (nomark _)) (pss_one (by exact (ps_expr (mApp (K := K) rfl (pv 5) (pa_cons (pe_callTy (cTuple (K := K) rfl) (by rfl) T.z_tuple bb_tuple (pa_cons (pv 7) pa_nil)) pa_nil))))) pss_nil))))))
      case r4 =>
      refine' pss_cons ?s5 ?r5
      case s5 => exact (ps_if ((pw_and (pt_cmpR (op_eqI hr.units) (pv 2) (pe_lst pa_nil) (nomark _)) (pw_and1 (pt_cmpR (op_eqNoL hr.units) (pv 5) (pe_lst pa_nil) (nomark _))))).pt (pss_one (by exact (ps_set (i := 2) scLawSoundRefit.nd rfl (Or.inl rfl) (pe_lst (pa_cons pe_int pa_nil))))) pss_nil)
      case r5 =>
      exact pss_one (ps_ret (by refine' pe_tup ?zt1; (case zt1 => refine' pa_cons ?za2 ?zb2 ?zs2; (case zs2 => rfl); (case za2 => exact pe_str); (case zb2 => refine' pa_cons ?za4 ?zb4 ?zs4; (case zs4 => rfl); (case za4 => exact (pe_callTy (cTuple (K := K) rfl) (by rfl) T.z_tuple bb_tuple (pa_cons (pe_op op_cat (pe_slice (slL (K := K) rfl) (pv 2) (po_some (pv 3)) po_none) (pe_slice (slL (K := K) rfl) (pv 2) po_none (po_some (pv 3)))) pa_nil))); (case zb4 => refine' pa_cons ?za6 ?zb6 ?zs6; (case zs6 => rfl); (case za6 => exact (pe_callTy (cTuple (K := K) rfl) (by rfl) T.z_tuple bb_tuple (pa_cons (pv 5) pa_nil))); (case zb6 => exact pa_nil))))))
    repeat walk_at "s"
    refine ⟨d, c0, 9, rfl, hD, by decide, by decide, fun n H1 n0 n1 hD1 b1 => ?_⟩
    repeat walk_at "s"
    refine ⟨n, rfl, by omega, by omega, ?_⟩
    refine compW (fun i ys σ' H' => (∃ x, σ' = [x, some (.ref d)]) ∧ DrawC H' d c0 ∧ But d H H' ∧ ∃ ns : List Int, ys = ns.map V.int ∧ ns.length = i ∧ ns.all (inB 10 4007) = true) n.toNat ⟨⟨_, rfl⟩, hD1, b1, [], rfl, rfl, rfl⟩ ?_ ?_
    rotate_left
    · rintro i ys σ' H' hi ⟨⟨x, rfl⟩, hD', b', ns, rfl, ln, an⟩
      refine ⟨by show i < n.toNat; exact hi, small1000 (by rw [List.length_map]; omega), ?_⟩
      rintro v H2 ⟨rfl, rfl⟩
      repeat walk_at "s"
      refine iteT ?_
      repeat walk_at "s"
      refine ⟨d, c0, 3998, rfl, hD', by decide, by decide, fun y H3 y0 y1 hD3 b3 => ?_⟩
      repeat walk_at "s"
      refine nxt hi ⟨⟨_, rfl⟩, hD3, b'.trans b3, ns ++ [10 + y], by rw [List.map_append]; rfl, by rw [List.length_append, ln]; rfl, ?_⟩
      rw [List.all_append, an, Bool.true_and, List.all_cons, List.all_nil, Bool.and_true]
      exact inB_true (by omega) (by omega)
    · rintro ys σ' H2 ⟨_, hD2, b2, ns, rfl, ln, an⟩
      refine ⟨by show n.toNat ≤ n.toNat; exact Nat.le_refl _, fun l hl => ?_⟩
      have s3 := same_upd (o := .lst (ns.map V.int)) hl
      have hl3 : upd H2 l (.lst (ns.map V.int)) l = some (.lst (ns.map V.int)) := upd_same
      generalize upd H2 l (.lst (ns.map V.int)) = H3 at s3 hl3 ⊢
      have hD3 := hD2.same s3
      repeat walk_at "s"
      refine ⟨l, ns, rfl, .inl (SqL.of hl3), by omega, fun a H4 rs s4 ha0 ha4 ris => ?_⟩
      have hD4 := hD3.same s4
      have b4 : But d H H4 := b2.trans ((s3.but (d := d)).trans (s4.but (d := d)))
      have nd_rs : rs.Nodup := ris.nodup
      have al_rs : rs.all (inB 10 4007) = true := List.all_eq_true.mpr fun x hx => List.all_eq_true.mp an x ((ris.2 x).mp hx)
      have le_rs : rs.length ≤ 8 := Nat.le_trans (nodup_le nd_rs fun x hx => (ris.2 x).mp hx) (by omega)
      clear ris
      have had : a ≠ d := hD4.ne_ints ha4
      have hac : a ≠ c0 := by
        obtain ⟨_, ⟨o, ho⟩⟩ := hD3.is
        exact Ne.symm (ne_of_none ho ha0)
      repeat walk_at "s"
      refine ⟨d, c0, _, rfl, hD4, by rw [List.length_map]; omega, small_int (by rw [List.length_map]; omega) (by rw [List.length_map]; omega), fun at' H5 at0 at1 hD5 b5 => ?_⟩
      rw [List.length_map] at at1
      obtain ⟨i0, rfl⟩ : ∃ i : Nat, at' = i := ⟨at'.toNat, by omega⟩
      have ha5 := b5 _ _ had ha4
      have b05 := b4.trans b5
      repeat walk_at "s"
      intro r0 hr0
      repeat walk_at "s"
      refine i_listRng upd_same (by decide) (by decide) (by decide) (by decide) (by decide) fun g hg => ?_
      have s6 := (same_upd (o := .rng 1 61) hr0).trans (same_upd (o := .lst ((rangeI 1 (61 - 1 : Int).toNat).map V.int)) hg)
      have hg6 : upd (upd H5 r0 (.rng 1 61)) g (.lst ((rangeI 1 (61 - 1 : Int).toNat).map V.int)) g = some (.lst ((rangeI 1 60).map V.int)) := upd_same
      generalize upd (upd H5 r0 (.rng 1 61)) g (.lst ((rangeI 1 (61 - 1 : Int).toNat).map V.int)) = H6 at s6 hg6 ⊢
      repeat walk_at "s"
      refine ⟨Nat.zero_le _, fun q hq => ?_⟩
      have s7 := same_upd (o := .lst []) hq
      have hq7 : upd H6 q (.lst []) q = some (.lst []) := upd_same
      have hg7 := s7 _ _ hg6
      have hqa : q ≠ a := Ne.symm (ne_of_none (s6 _ _ ha5) hq)
      have hD6 := hD5.same s6
      have hqd : q ≠ d := by obtain ⟨⟨o, ho⟩, _⟩ := hD6.is; exact Ne.symm (ne_of_none ho hq)
      have hqc : q ≠ c0 := by obtain ⟨_, ⟨o, ho⟩⟩ := hD6.is; exact Ne.symm (ne_of_none ho hq)
      have hgq : g ≠ q := ne_of_none hg6 hq
      have hqH : ∀ b o, H b = some o → b ≠ d → b ≠ q := fun b o e nb => ne_of_none (s6 _ _ (b05 _ _ nb e)) hq
      have ha7 := s7 _ _ (s6 _ _ ha5)
      have hD7 := hD6.same s7
      have b07 : But d H (upd H6 q (.lst [])) := b05.trans ((s6.but (d := d)).trans (s7.but (d := d)))
      generalize upd H6 q (.lst []) = H7 at s7 hq7 hg7 ha7 hD7 b07 ⊢
      clear hq hr0 hg s6 s7 hg6 hD5 hD6 ha5 b05
      repeat walk_at "s"
      refine ⟨d, c0, 9, rfl, hD7, by decide, by decide, fun m H8 m0 m1 hD8 b8 => ?_⟩
      have hg8 := b8 _ _ (hD7.ne_ints hg7) hg7
      have ha8 := b8 _ _ had ha7
      have hq8 := b8 _ _ hqd hq7
      have b08 := b07.trans b8
      repeat walk_at "s"
      refine ⟨m, rfl, by omega, by omega, ?_⟩
      refine forW (fun i σ' H' => ∃ (g : Addr) (ts : List Addr) (nss : List (List Int)) (L : List Int) (x y : Option V), σ' = [some (.ref d), some (.int slip), some (.ref a), some (.int i0), some (.ref g), some (.ref q), x, y] ∧ DrawC H' d c0 ∧ But d H H' ∧ H' a = some (.lst (rs.map V.int)) ∧ H' g = some (.lst (L.map V.int)) ∧ g ≠ q ∧ H' q = some (.lst (ts.map V.ref)) ∧ TsAt H' ts nss ∧ nss.length ≤ i ∧ (nss.flatten ++ L).Nodup ∧ (∀ x ∈ L, inB 1 60 x = true) ∧ L.length ≤ 60 ∧ ∀ ns ∈ nss, ns ≠ [] ∧ ns.all (inB 1 60) = true ∧ (ns.length : Int) ≤ slip) m.toNat
        ⟨g, [], [], rangeI 1 60, none, none, rfl, hD8, b08, ha8, hg8, hgq, hq8, ⟨rfl, fun i t p e => by simp at e⟩, Nat.zero_le _, nodup_60, fun x hx => in_60 hx, by rw [rangeI_length]; omega, fun _ h => by cases h⟩ ?_ ?_
      · rintro σ' H9 ⟨g, ts, nss, L, x, y, rfl, hD9, b09, ha9, hg9, hgq, hq9, ht9, ln9, nd9, al9, le9, go9⟩
        refine ⟨by show m.toNat ≤ m.toNat; exact Nat.le_refl _, ?_⟩
        have nn8 : nss.length ≤ 8 := by omega
        have nd_f : nss.flatten.Nodup := (List.nodup_append.mp nd9).1
        have lts := ht9.1
        have fin : ∀ (ns : List Int) (a2 : Addr) (H10 : Hp), DrawC H10 d c0 → But d H H10 → H10 a2 = some (.lst (ns.map V.int)) → H10 q = some (.lst (ts.map V.ref)) → TsAt H10 ts nss → ns.length ≤ 8 → ns.all (inB 10 4007) = true → ns.Nodup → (ns ≠ [] ∨ nss ≠ []) →
            tRet (tTup (tCons (tC (.str "refit")) (tCons (tCB (rTupleOf K) (tCons (tOp rCat (tSl (rSlL K) (tVar 2) (tPart (tVar 3)) tNoPart) (tSl (rSlL K) (tVar 2) tNoPart (tPart (tVar 3)))) tNil)) (tCons (tCB (rTupleOf K) (tCons (tVar 5) tNil)) tNil)))) { nx := fun _ H' => Q .non H', rt := Q } [some (.ref d), some (.int slip), some (.ref a2), some (.int i0), some (.ref g), some (.ref q), x, y] H10 := by
          intro ns a2 H10 hD10 b10 ha10 hq10 ht10 l8 al nd ne
          repeat walk_at "s"
          intro e1 he1
          have s11 := same_upd (o := .lst (cutV (ns.map V.int) (some (i0 : Int)) none)) he1
          have he11 : upd H10 e1 (.lst (cutV (ns.map V.int) (some (i0 : Int)) none)) e1 = some (.lst ((ns.drop i0).map V.int)) := by rw [upd_same, cut_drop, List.map_drop]
          have ha11 := s11 _ _ ha10
          have hq11 := s11 _ _ hq10
          have ht11 := ht10.same s11
          have hD11 := hD10.same s11
          have b11 := b10.trans (s11.but (d := d))
          generalize upd H10 e1 (.lst (cutV (ns.map V.int) (some (i0 : Int)) none)) = H11 at he11 ha11 hq11 ht11 hD11 b11 ⊢
          repeat walk_at "s"
          intro e2 he2
          have s12 := same_upd (o := .lst (cutV (ns.map V.int) none (some (i0 : Int)))) he2
          have he12 : upd H11 e2 (.lst (cutV (ns.map V.int) none (some (i0 : Int)))) e2 = some (.lst ((ns.take i0).map V.int)) := by rw [upd_same, cut_take, List.map_take]
          have he112 := s12 _ _ he11
          have hq12 := s12 _ _ hq11
          have ht12 := ht11.same s12
          have hD12 := hD11.same s12
          have b12 := b11.trans (s12.but (d := d))
          generalize upd H11 e2 (.lst (cutV (ns.map V.int) none (some (i0 : Int)))) = H12 at he12 he112 hq12 ht12 hD12 b12 ⊢
          refine i_cat he112 he12 (le_line (by rw [List.length_map, List.length_map, List.length_drop, List.length_take]; omega)) fun e3 he3 => ?_
          rw [← List.map_append]
          have s13 := same_upd (o := .lst ((ns.drop i0 ++ ns.take i0).map V.int)) he3
          have he13 : upd H12 e3 (.lst ((ns.drop i0 ++ ns.take i0).map V.int)) e3 = some (.lst ((ns.drop i0 ++ ns.take i0).map V.int)) := upd_same
          have hq13 := s13 _ _ hq12
          have ht13 := ht12.same s13
          have hD13 := hD12.same s13
          have b13 := b12.trans (s13.but (d := d))
          generalize upd H12 e3 (.lst ((ns.drop i0 ++ ns.take i0).map V.int)) = H13 at he13 hq13 ht13 hD13 b13 ⊢
          repeat walk_at "s"
          refine ⟨e3, _, rfl, .inl ⟨SqL.of he13, fun e4 he4 => ?_⟩⟩
          have s14 := same_upd (o := .tup ((ns.drop i0 ++ ns.take i0).map V.int)) he4
          have he14 : upd H13 e4 (.tup ((ns.drop i0 ++ ns.take i0).map V.int)) e4 = some (.tup ((ns.drop i0 ++ ns.take i0).map V.int)) := upd_same
          have hq14 := s14 _ _ hq13
          have ht14 := ht13.same s14
          have hD14 := hD13.same s14
          have b14 := b13.trans (s14.but (d := d))
          generalize upd H13 e4 (.tup ((ns.drop i0 ++ ns.take i0).map V.int)) = H14 at he14 hq14 ht14 hD14 b14 ⊢
          repeat walk_at "s"
          refine ⟨q, _, rfl, .inl ⟨SqL.of hq14, fun e5 he5 => ?_⟩⟩
          have s15 := same_upd (o := .tup (ts.map V.ref)) he5
          have he15 : upd H14 e5 (.tup (ts.map V.ref)) e5 = some (.tup (ts.map V.ref)) := upd_same
          have he145 := s15 _ _ he14
          have ht15 := ht14.same s15
          have hD15 := hD14.same s15
          have b15 := b14.trans (s15.but (d := d))
          generalize upd H14 e5 (.tup (ts.map V.ref)) = H15 at he15 he145 ht15 hD15 b15 ⊢
          repeat walk_at "s"
          refine ⟨by show 3 ≤ sizeLine; decide, fun p hp => ?_⟩
          have s16 := same_upd (o := .tup [.str "refit", .ref e4, .ref e5]) hp
          have pr := rot_perm ns i0
          have lr := pr.length_eq
          refine k p _ (hD15.same s16) (b15.trans (s16.but (d := d))) ⟨.ref (ns.drop i0 ++ ns.take i0) nss, ⟨by omega, by omega, ?_, fun s hs => ?_⟩, e4, e5, ts, upd_same, s16 _ _ he145, s16 _ _ he15, ht15.same s16⟩
          · intro x hx
            have := inB_iff.mp (List.all_eq_true.mp al x (pr.mem_iff.mp hx))
            exact ⟨by omega, by omega⟩
          · obtain ⟨g1, g2, g3⟩ := go9 s hs
            exact ⟨by omega, fun x hx => by have := inB_iff.mp (List.all_eq_true.mp g2 x hx); exact ⟨by omega, by omega⟩⟩
        repeat walk_at "s"
        refine ⟨Nat.zero_le _, fun e1 he1 => ?_⟩
        have s10 := same_upd (o := .lst []) he1
        have he10 : upd H9 e1 (.lst []) e1 = some (.lst (([] : List Int).map V.int)) := upd_same
        have hq10 := s10 _ _ hq9
        refine i_eqI (s10 _ _ ha9) he10 ?_
        have ha10 := s10 _ _ ha9
        have ht10 := ht9.same s10
        have hD10 := hD9.same s10
        have b10 := b09.trans (s10.but (d := d))
        generalize upd H9 e1 (.lst []) = H10 at s10 he10 hq10 ha10 ht10 hD10 b10 ⊢
        rw [if_neg Bool.false_ne_true]
        repeat walk_at "s"
        by_cases hrs : rs = []
        · rw [decide_eq_true hrs]
          refine iteT ?_
          repeat walk_at "s"
          refine ⟨Nat.zero_le _, fun e2 he2 => ?_⟩
          have s11 := same_upd (o := .lst []) he2
          refine i_noL (s11 _ _ hq10) upd_same ?_
          rw [if_neg Bool.false_ne_true]
          repeat walk_at "s"
          cases hts : (ts.map V.ref).isEmpty with
          | true =>
            refine iteT ?_
            repeat walk_at "s"
            refine ⟨by show 1 ≤ sizeLine; decide, fun e3 he3 => ?_⟩
            have s12 := same_upd (o := .lst [.int 4007]) he3
            refine i_name ?_
            exact fin [4007] e3 _ ((hD10.same s11).same s12) (b10.trans ((s11.trans s12).but (d := d))) upd_same (s12 _ _ (s11 _ _ hq10)) ((ht10.same s11).same s12) (by decide) (by decide) (by decide) (.inl (by decide))
          | false =>
            refine iteF ?_
            refine i_next ?_
            refine fin rs a _ (hD10.same s11) (b10.trans (s11.but (d := d))) (s11 _ _ ha10) (s11 _ _ hq10) (ht10.same s11) le_rs al_rs nd_rs (.inr fun z => ?_)
            rw [z] at lts
            rw [List.eq_nil_of_length_eq_zero lts] at hts
            cases hts
        · rw [decide_eq_false hrs]
          refine iteF ?_
          refine i_next ?_
          exact fin rs a _ hD10 b10 ha10 hq10 ht10 le_rs al_rs nd_rs (.inl hrs)
      · rintro i σ' H9 hi ⟨g, ts, nss, L, x, y, rfl, hD9, b09, ha9, hg9, hgq, hq9, ht9, ln9, nd9, al9, le9, go9⟩
        refine ⟨by show i < m.toNat; exact hi, ?_⟩
        rintro v H10 ⟨rfl, rfl⟩
        repeat walk_at "s"
        refine ⟨d, c0, slip, rfl, hD9, by omega, small_int (by omega) (by omega), fun t H11 t0 t1 hD11 b11 => ?_⟩
        have hg11 := b11 _ _ (hD9.ne_ints hg9) hg9
        have ha11 := b11 _ _ had ha9
        have hq11 := b11 _ _ hqd hq9
        have ht11 := TsAt.but ht9 b11 hD9
        have b011 := b09.trans b11
        repeat walk_at "s"
        refine ⟨d, c0, g, L, 1 + t, rfl, hD11, SqL.of hg11, by omega, by omega, by omega, fun e1 H12 fs ls hD12 b12 he0 he12 pm lf => ?_⟩
        have hg12 := b12 _ _ (hD11.ne_ints hg11) hg11
        have ha12 := b12 _ _ had ha11
        have hq12 := b12 _ _ hqd hq11
        have ht12 := TsAt.but ht11 b12 hD11
        have b012 := b011.trans b12
        have heq : q ≠ e1 := ne_of_none hq11 he0
        repeat walk_at "s"
        refine ⟨g, rfl, ⟨_, SqL.of hg12⟩, ?_⟩
        refine filterL (f := fun x => !decide (x ∈ fs)) (by omega) (SqL.of hg12) (fun z R hz => ?_) ?_
        · repeat walk_at "s"
          refine i_notInI (SqL.of he12) ?_
          repeat walk_at "s"
          exact hz
        intro g2 hg2
        have s13 := same_upd (o := .lst ((L.filter fun x => !decide (x ∈ fs)).map V.int)) hg2
        have hg13 : upd H12 g2 (.lst ((L.filter fun x => !decide (x ∈ fs)).map V.int)) g2 = some (.lst ((L.filter fun x => !decide (x ∈ fs)).map V.int)) := upd_same
        have hgq2 : g2 ≠ q := Ne.symm (ne_of_none hq12 hg2)
        have he13 := s13 _ _ he12
        have ha13 := s13 _ _ ha12
        have hq13 := s13 _ _ hq12
        have ht13 := ht12.same s13
        have hD13 := hD12.same s13
        have b013 := b012.trans (s13.but (d := d))
        generalize upd H12 g2 (.lst ((L.filter fun x => !decide (x ∈ fs)).map V.int)) = H13 at s13 hg13 he13 ha13 hq13 ht13 hD13 b013 ⊢
        have sub : ∀ x ∈ fs, x ∈ L := fun x hx => pm.mem_iff.mp (List.mem_append_left _ hx)
        have lfL : (L.filter fun x => !decide (x ∈ fs)).length ≤ 60 := Nat.le_trans (List.length_filter_le _ _) le9
        repeat walk_at "s"
        refine ⟨Nat.zero_le _, fun e2 he2 => ?_⟩
        have s14 := same_upd (o := .lst []) he2
        have he14 : upd H13 e2 (.lst []) e2 = some (.lst (([] : List Int).map V.int)) := upd_same
        have hg14 := s14 _ _ hg13
        have he114 := s14 _ _ he13
        have ha14 := s14 _ _ ha13
        have hq14 := s14 _ _ hq13
        have ht14 := ht13.same s14
        have hD14 := hD13.same s14
        have b014 := b013.trans (s14.but (d := d))
        refine i_eqI he114 he14 ?_
        generalize upd H13 e2 (.lst []) = H14 at s14 he14 hg14 he114 ha14 hq14 ht14 hD14 b014 ⊢
        rw [if_pos rfl]
        repeat walk_at "s"
        by_cases hfs : fs = []
        · rw [decide_eq_true hfs]
          refine iteF ?_
          repeat walk_at "s"
          exact ⟨g2, ts, nss, _, _, _, rfl, hD14, b014, ha14, hg14, hgq2, hq14, ht14, by omega, filter_next nd9 fs, fun x hx => al9 x (List.mem_filter.mp hx).1, lfL, go9⟩
        · rw [decide_eq_false hfs]
          refine iteT ?_
          repeat walk_at "s"
          refine ⟨.inl ⟨rfl, _, SqL.of hq14⟩, ?_⟩
          repeat walk_at "s"
          refine ⟨e1, _, rfl, .inl ⟨SqL.of he114, fun e3 he3 => ?_⟩⟩
          have s15 := same_upd (o := .tup (fs.map V.int)) he3
          have he15 : upd H14 e3 (.tup (fs.map V.int)) e3 = some (.tup (fs.map V.int)) := upd_same
          have hq15 := s15 _ _ hq14
          have hg15 := s15 _ _ hg14
          have ha15 := s15 _ _ ha14
          have ht15 := ht14.same s15
          have hD15 := hD14.same s15
          have b015 := b014.trans (s15.but (d := d))
          have hqe3 : e3 ≠ q := Ne.symm (ne_of_none hq14 he3)
          generalize upd H14 e3 (.tup (fs.map V.int)) = H15 at s15 he15 hq15 hg15 ha15 ht15 hD15 b015 ⊢
          have lts := ht15.1
          repeat walk_at "s"
          refine i_app hq15 (lt_line (by rw [List.length_map]; omega)) ?_
          repeat walk_at "s"
          have tne : ∀ t ∈ ts, t ≠ q := by
            intro t htm z
            obtain ⟨j, hj, ej⟩ := List.mem_iff_getElem.mp htm
            have := ht15.2 j t nss[j] (by rw [List.getElem?_eq_getElem hj, ej]) (List.getElem?_eq_getElem (by omega))
            rw [z, hq15] at this
            cases this
          refine ⟨g2, ts ++ [e3], nss ++ [fs], _, _, _, rfl, hD15.put hqd hqc, fun b o nb e => ?_, by rw [upd_ne (Ne.symm hqa)]; exact ha15, by rw [upd_ne hgq2]; exact hg15, hgq2, by rw [upd_same, List.map_append]; rfl, ⟨by simp [lts], fun j t ns e1 e2 => ?_⟩, by rw [List.length_append]; show _ + 1 ≤ _; omega, part_next nd9 pm, fun x hx => al9 x (List.mem_filter.mp hx).1, lfL, fun ns hn => ?_⟩
          · rw [upd_ne (hqH b o e nb)]
            exact b015 b o nb e
          · rcases Nat.lt_or_ge j ts.length with hj | hj
            · rw [List.getElem?_append_left hj] at e1
              rw [List.getElem?_append_left (by omega)] at e2
              rw [upd_ne (tne t (List.mem_of_getElem? e1))]
              exact ht15.2 j t ns e1 e2
            · rw [List.getElem?_append_right hj] at e1
              rw [List.getElem?_append_right (by omega)] at e2
              cases hj2 : j - ts.length with
              | zero =>
                rw [hj2] at e1
                rw [show j - nss.length = 0 by omega] at e2
                cases e1
                cases e2
                rw [upd_ne hqe3]
                exact he15
              | succ z => rw [hj2] at e1; simp at e1
          · rcases List.mem_append.mp hn with hn | hn
            · exact go9 ns hn
            · rw [List.mem_singleton] at hn
              subst hn
              exact ⟨hfs, List.all_eq_true.mpr fun x hx => al9 x (sub x hx), by omega⟩
theorem at_two {u v : V} {r : Int} (h : r = 0 ∨ r = 1) : ∃ y, atI [u, v] r = some y ∧ (y = u ∨ y = v) := by
  rcases h with rfl | rfl
  · exact ⟨u, rfl, .inl rfl⟩
  · exact ⟨v, rfl, .inr rfl⟩
abbrev sLawSoundFact : Stmt := top 22
theorem scLawSoundFact : FnScope ["_law_draw", "_law_slip_here", "_law_way", "_law_name"] ["_law_draw", "_law_slip_here"] (defScope sLawSoundFact) := ⟨rfl, rfl, rfl, by decide +kernel, rfl, by decide +kernel, by decide +kernel⟩
theorem ok_sound_fact {f : Addr} {fd : FuncData} (F : Fun K "_law_sound_fact" "_law_sound_fact" sLawSoundFact f fd) (T : BltM mg) (c_law_take : Cal P w K mg base "_law_take" 1 ["_law_draw", "_law_many"] spTakeC) (c_law_sound_refit : Cal P w K mg base "_law_sound_refit" 3 ["_law_draw", "_law_slip_here"] spFact) (c_law_any_timbers : Cal P w K mg base "_law_any_timbers" 3 ["_law_draw", "_law_many"] spAny) : FnOk P w K mg base CX0 4 f fd ["_law_draw", "_law_slip_here"] spFact := by
  refine F.ok scLawSoundFact (fun vs H Q E h => ?_) (fun cdv A outer s H vs Q E hr h => ?_)
  · obtain ⟨d, c0, slip, rfl, _⟩ := h
    rfl
  · obtain ⟨d, c0, slip, rfl, hD, sl1, sl2, k⟩ := h
    refine' ⟨_, ?zz, ?_⟩
    case zz =>
      refine' pss_cons ?s0 ?r0
      case s0 => exact (ps_set (i := 2) scLawSoundFact.nd rfl (Or.inl rfl) (pe_callC c_law_take (hr.mono (by omega)) (by rfl) (pa_cons (pv 0) (pa_cons pe_int pa_nil))))
      case r0 =>
      refine' pss_cons ?s1 ?r1
      case s1 => exact (ps_set (i := 3) scLawSoundFact.nd rfl (Or.inl rfl) (pe_op op_add pe_int (pe_callC c_law_take (hr.mono (by omega)) (by rfl) (pa_cons (pv 0) (pa_cons pe_int pa_nil)))))
      case r1 =>
      refine' pss_cons ?s2 ?r2
      case s2 => exact (ps_if (pt_cmpR op_eq (pv 2) pe_int (nomark _)) (pss_one (by exact (ps_ret (pe_tup (pa_cons pe_str (pa_cons (pe_op op_add pe_int (pe_callC c_law_take (hr.mono (by omega)) (by rfl) (pa_cons (pv 0) (pa_cons pe_int pa_nil)))) pa_nil)))))) pss_nil)
      case r2 =>
      refine' pss_cons ?s3 ?r3
      case s3 => exact (ps_if (pt_cmpR op_lt (pv 2) pe_int (nomark _)) (pss_one (by exact (ps_ret (pe_callC c_law_sound_refit (hr.mono (by omega)) (by rfl) (pa_cons (pv 0) (pa_cons (pv 1) pa_nil)))))) pss_nil)
      case r3 =>
      refine' pss_cons ?s4 ?r4
      case s4 => exact (ps_if (pt_cmpR op_lt (pv 2) pe_int (nomark _)) (pss_one (by exact (ps_ret (by refine' pe_tup ?zt8; (case zt8 => refine' pa_cons ?za9 ?zb9 ?zs9; (case zs9 => rfl); (case za9 => exact (pe_ix (ixT (K := K) rfl) (pe_tup (pa_cons pe_str (pa_cons pe_str pa_nil))) (pe_op op_sub (pv 2) pe_int) (fun _ _ => rfl))); (case zb9 => refine' pa_cons ?za11 ?zb11 ?zs11; (case zs11 => rfl); (case za11 => exact (pe_callC c_law_any_timbers (hr.mono (by omega)) (by rfl) (pa_cons (pv 0) (pa_cons (pe_op op_add pe_int (pe_callC c_law_take (hr.mono (by omega)) (by rfl) (pa_cons (pv 0) (pa_cons (pe_ix (ixT (K := K) rfl) (pe_tup (pa_cons pe_int (pa_cons pe_int pa_nil))) (pe_callC c_law_take (hr.mono (by omega)) (by rfl) (pa_cons (pv 0) (pa_cons pe_int pa_nil))) (fun _ _ => rfl)) pa_nil)))) pa_nil)))); (case zb11 => exact pa_nil))))))) pss_nil)
      case r4 =>
      refine' pss_cons ?s5 ?r5
      case s5 => exact (ps_if (pt_cmpR op_lt (pv 2) pe_int (nomark _)) (pss_one (by exact (ps_ret (pe_tup (by exact pa_cons (pe_ix (ixT (K := K) rfl) (pe_tup (pa_cons pe_str (pa_cons pe_str pa_nil))) (pe_op op_sub (pv 2) pe_int) (fun _ _ => rfl)) (by exact pa_cons (pv 3) (by exact pa_cons (pe_op op_add pe_int (pe_callC c_law_take (hr.mono (by omega)) (by rfl) (pa_cons (pv 0) (pa_cons (pe_ix (ixT (K := K) rfl) (pe_tup (pa_cons pe_int (pa_cons (pe_op op_pow pe_int pe_int) pa_nil))) (pe_callC c_law_take (hr.mono (by omega)) (by rfl) (pa_cons (pv 0) (pa_cons pe_int pa_nil))) (fun _ _ => rfl)) pa_nil)))) pa_nil))))))) pss_nil)
      case r5 =>
      exact pss_one (ps_ret (pe_tup (pa_cons pe_str (pa_cons (pe_op op_add pe_int (pe_callC c_law_take (hr.mono (by omega)) (by rfl) (pa_cons (pv 0) (pa_cons pe_int pa_nil)))) pa_nil))))
    repeat walk_at "s"
    refine ⟨d, c0, 8, rfl, hD, by decide, by decide, fun r H1 r0 r1 hD1 b1 => ?_⟩
    repeat walk_at "s"
    refine ⟨d, c0, 3998, rfl, hD1, by decide, by decide, fun nm H2 m0 m1 hD2 b2 => ?_⟩
    have b12 := b1.trans b2
    repeat walk_at "s"
    refine ite2 (fun _ => ?_) (fun h0 => ?_)
    · repeat walk_at "s"
      refine ⟨d, c0, 60, rfl, hD2, by decide, by decide, fun n H3 n0 n1 hD3 b3 => ?_⟩
      repeat walk_at "s"
      refine ⟨by show 2 ≤ sizeLine; decide, fun p hp => ?_⟩
      have s4 := same_upd (o := .tup [.str "fell", .int (1 + n)]) hp
      exact k p _ (hD3.same s4) ((b12.trans b3).trans (s4.but (d := d))) ⟨.num "fell" [1 + n], ⟨.inl ⟨.inl rfl, rfl⟩, fun x hx => by rw [List.mem_singleton] at hx; omega⟩, upd_same⟩
    have hr0 : ¬ r = 0 := fun z => h0 (by rw [z]; exact decide_eq_true rfl)
    repeat walk_at "s"
    refine ite2 (fun _ => ?_) (fun h3 => ?_)
    · repeat walk_at "s"
      exact ⟨d, c0, slip, rfl, hD2, sl1, sl2, fun p H3 hD3 b3 hF => k p H3 hD3 (b12.trans b3) hF⟩
    have hr3 : ¬ r < 3 := fun z => h3 (decide_eq_true z)
    repeat walk_at "s"
    refine ite2 (fun h5 => ?_) (fun h5 => ?_)
    · have hr5 : r < 5 := of_decide_eq_true h5
      repeat walk_at "s"
      refine ⟨by show 2 ≤ sizeLine; decide, fun t ht => ?_⟩
      have s3 := same_upd (o := .tup [.str "storm", .str "find"]) ht
      have ht3 : upd H2 t (.tup [.str "storm", .str "find"]) t = some (.tup [.str "storm", .str "find"]) := upd_same
      have hD3 := hD2.same s3
      have b13 := b12.trans (s3.but (d := d))
      generalize upd H2 t (.tup [.str "storm", .str "find"]) = H3 at s3 ht3 hD3 b13 ⊢
      repeat walk_at "s"
      obtain ⟨y, ey, hy⟩ := at_two (u := .str "storm") (v := .str "find") (r := r - 3) (by omega)
      refine i_ixT (SqT.of ht3) ey ?_
      repeat walk_at "s"
      refine ⟨by show 2 ≤ sizeLine; decide, fun t2 ht2 => ?_⟩
      have s4 := same_upd (o := .tup [.int 4, .int 60]) ht2
      have ht4 : upd H3 t2 (.tup [.int 4, .int 60]) t2 = some (.tup [.int 4, .int 60]) := upd_same
      have hD4 := hD3.same s4
      have b14 := b13.trans (s4.but (d := d))
      generalize upd H3 t2 (.tup [.int 4, .int 60]) = H4 at s4 ht4 hD4 b14 ⊢
      repeat walk_at "s"
      refine ⟨d, c0, 2, rfl, hD4, by decide, by decide, fun c H5 c0' c1 hD5 b5 => ?_⟩
      repeat walk_at "s"
      obtain ⟨u, eu, hu⟩ := at_two (u := .int 4) (v := .int 60) (r := c) (by omega)
      refine i_ixT (SqT.of (b5 _ _ (hD4.ne_tup ht4) ht4)) eu ?_
      obtain ⟨mm, rfl, mm0, mm1⟩ : ∃ mm : Int, u = .int mm ∧ 4 ≤ mm ∧ mm ≤ 60 := by
        rcases hu with rfl | rfl
        · exact ⟨4, rfl, by decide, by decide⟩
        · exact ⟨60, rfl, by decide, by decide⟩
      repeat walk_at "s"
      refine ⟨d, c0, mm, rfl, hD5, by omega, small_int (by omega) (by omega), fun n H6 n0 n1 hD6 b6 => ?_⟩
      repeat walk_at "s"
      refine ⟨d, c0, 1 + n, rfl, hD6, by omega, by omega, fun p H7 ns hD7 b7 hp7 nd al ne l60 => ?_⟩
      repeat walk_at "s"
      refine ⟨by show 2 ≤ sizeLine; decide, fun g hg => ?_⟩
      have s8 := same_upd (o := .tup [y, .ref p]) hg
      have b18 := ((b14.trans b5).trans b6).trans (b7.trans (s8.but (d := d)))
      have oo : okN ns := fun x hx => by have := inB_iff.mp (List.all_eq_true.mp al x hx); exact ⟨by omega, by omega⟩
      rcases hy with rfl | rfl
      · exact k g _ (hD7.same s8) b18 ⟨.mov "storm" ns, ⟨.inl rfl, l60, oo⟩, p, upd_same, s8 _ _ hp7⟩
      · exact k g _ (hD7.same s8) b18 ⟨.mov "find" ns, ⟨.inr rfl, l60, oo⟩, p, upd_same, s8 _ _ hp7⟩
    have hr5 : ¬ r < 5 := fun z => h5 (decide_eq_true z)
    repeat walk_at "s"
    refine ite2 (fun h7 => ?_) (fun h7 => ?_)
    · have hr7 : r < 7 := of_decide_eq_true h7
      repeat walk_at "s"
      refine ⟨by show 2 ≤ sizeLine; decide, fun t ht => ?_⟩
      have s3 := same_upd (o := .tup [.str "lend", .str "pay"]) ht
      have ht3 : upd H2 t (.tup [.str "lend", .str "pay"]) t = some (.tup [.str "lend", .str "pay"]) := upd_same
      have hD3 := hD2.same s3
      have b13 := b12.trans (s3.but (d := d))
      generalize upd H2 t (.tup [.str "lend", .str "pay"]) = H3 at s3 ht3 hD3 b13 ⊢
      repeat walk_at "s"
      obtain ⟨y, ey, hy⟩ := at_two (u := .str "lend") (v := .str "pay") (r := r - 5) (by omega)
      refine i_ixT (SqT.of ht3) ey ?_
      repeat walk_at "s"
      refine ⟨by show 2 ≤ sizeLine; decide, fun t2 ht2 => ?_⟩
      have s4 := same_upd (o := .tup [.int 9, .int 1000000]) ht2
      have ht4 : upd H3 t2 (.tup [.int 9, .int 1000000]) t2 = some (.tup [.int 9, .int 1000000]) := upd_same
      have hD4 := hD3.same s4
      have b14 := b13.trans (s4.but (d := d))
      have e6 : (10 : Int) ^ (6 : Int).toNat = 1000000 := by decide
      rw [e6]
      generalize upd H3 t2 (.tup [.int 9, .int 1000000]) = H4 at s4 ht4 hD4 b14 ⊢
      repeat walk_at "s"
      refine ⟨d, c0, 2, rfl, hD4, by decide, by decide, fun c H5 c0' c1 hD5 b5 => ?_⟩
      repeat walk_at "s"
      obtain ⟨u, eu, hu⟩ := at_two (u := .int 9) (v := .int 1000000) (r := c) (by omega)
      refine i_ixT (SqT.of (b5 _ _ (hD4.ne_tup ht4) ht4)) eu ?_
      obtain ⟨mm, rfl, mm0, mm1⟩ : ∃ mm : Int, u = .int mm ∧ 9 ≤ mm ∧ mm ≤ 1000000 := by
        rcases hu with rfl | rfl
        · exact ⟨9, rfl, by decide, by decide⟩
        · exact ⟨1000000, rfl, by decide, by decide⟩
      repeat walk_at "s"
      refine ⟨d, c0, mm, rfl, hD5, by omega, Nat.lt_trans (show mm.natAbs < 2 ^ 20 by omega) (Nat.pow_lt_pow_right (by decide) (by decide)), fun n H6 n0 n1 hD6 b6 => ?_⟩
      repeat walk_at "s"
      refine ⟨by show 3 ≤ sizeLine; decide, fun g hg => ?_⟩
      have s8 := same_upd (o := .tup [y, .int (10 + nm), .int (1 + n)]) hg
      have b18 := (b14.trans b5).trans (b6.trans (s8.but (d := d)))
      have oo : okC [10 + nm, 1 + n] := fun x hx => by simp only [List.mem_cons, List.not_mem_nil, or_false] at hx; rcases hx with rfl | rfl <;> exact ⟨by omega, by omega⟩
      rcases hy with rfl | rfl
      · exact k g _ (hD6.same s8) b18 ⟨.num "lend" [10 + nm, 1 + n], ⟨.inr ⟨.inl rfl, rfl⟩, oo⟩, upd_same⟩
      · exact k g _ (hD6.same s8) b18 ⟨.num "pay" [10 + nm, 1 + n], ⟨.inr ⟨.inr rfl, rfl⟩, oo⟩, upd_same⟩
    · repeat walk_at "s"
      refine ⟨d, c0, 60, rfl, hD2, by decide, by decide, fun n H3 n0 n1 hD3 b3 => ?_⟩
      repeat walk_at "s"
      refine ⟨by show 2 ≤ sizeLine; decide, fun p hp => ?_⟩
      have s4 := same_upd (o := .tup [.str "clear", .int (1 + n)]) hp
      exact k p _ (hD3.same s4) ((b12.trans b3).trans (s4.but (d := d))) ⟨.num "clear" [1 + n], ⟨.inl ⟨.inr rfl, rfl⟩, fun x hx => by rw [List.mem_singleton] at hx; omega⟩, upd_same⟩
end

theorem star_c {e : Expr} {es : List Expr} {env : Env} (h : ∀ s p, e ≠ .Starred s p) : starEach (e :: es) env = (false, eval e env) :: starEach es env := by
  cases e <;> first | rfl | (exact absurd rfl (h _ _))
/-- long displays, their readings given -/
def tCq : List TE → TA
  | [] => tNil
  | t :: ts => tCons t (tCq ts)
inductive Cq (X : Cx) : List Expr → List TE → Prop
  | nil : Cq X [] []
  | cons {e : Expr} {es : List Expr} {t : TE} {ts : List TE} (h : PE X e t) (hs : ∀ env, starEach (e :: es) env = (false, eval e env) :: starEach es env) (r : Cq X es ts) : Cq X (e :: es) (t :: ts)
theorem Cq.pa {X : Cx} : ∀ {es : List Expr} {ts : List TE}, Cq X es ts → PA X es (tCq ts)
  | _, _, .nil => pa_nil
  | _, _, .cons h hs r => fun pos pins s σ H Q I q => pa_cons h r.pa (hs _) pos pins s σ H Q I q
section
variable {X : Cx}
theorem op_neNoL (hu : X.A.units + 64 < cLine) : OpR X (compareOp .NotEq) (rNoL true) := by
  intro pins s σ H x y v u Q I rx ry h
  obtain ⟨p, q, xs, rfl, rfl, h1, h2, k⟩ := h
  cases (show v = Value.ref p from rx)
  cases (show u = Value.ref q from ry)
  obtain ⟨us, r1, l1⟩ := lstAt I h1
  obtain ⟨zs, r2, l2⟩ := lstAt I h2
  have e1 := r1.length
  have e2 := r2.length
  cases xs with
  | nil =>
    refine SeqAt.RcNeAt.lists (A := X.A) (s := s) (e := fun _ => true) l1 l2 (by simp [← e1, ← e2]) (by omega) (fun j _ z2 => absurd z2 (by rw [List.size_toArray, ← r2.length]; exact Nat.not_lt_zero _)) X.prog X.w _ _ ?_
    rw [List.size_toArray, ← e1]
    exact ⟨.bl false, H, I, rfl, k⟩
  | cons x r =>
    refine SeqAt.RcNeAt.lists_lengths l1 l2 (by simp [← e1, ← e2]) (by omega) X.prog X.w _ _ ?_
    exact ⟨.bl true, H, I, rfl, k⟩
end
section
variable {P : Program} {w : World} {K : PySem.W.Frag} {mg : Str → Option Value} {base : Heap}
def spAnyN : Sp := fun vs H Q _ => ∃ (d c0 : Addr), vs = [.ref d, .bl false] ∧ DrawC H d c0 ∧ ∀ (n : Int) H', 0 ≤ n → n < 10 ^ 4 → DrawC H' d c0 → But d H H' → Q (.int n) H'
theorem small9 {m : Int} (h : 0 < m) (h2 : m ≤ 10 ^ 9) : m.natAbs < 2 ^ 500 := Nat.lt_trans (show m.natAbs < 2 ^ 40 by omega) (Nat.pow_lt_pow_right (by decide) (by decide))
abbrev sLawAnyNumber : Stmt := top 30
theorem scLawAnyNumber : FnScope ["_law_draw", "_law_great", "_law_many"] ["_law_draw", "_law_great"] (defScope sLawAnyNumber) := ⟨rfl, rfl, rfl, by decide +kernel, rfl, by decide +kernel, by decide +kernel⟩
theorem ok_anyn {f : Addr} {fd : FuncData} (F : Fun K "_law_any_number" "_law_any_number" sLawAnyNumber f fd) (T : BltM mg) (c_law_take : Cal P w K mg base "_law_take" 1 ["_law_draw", "_law_many"] spTakeC) : FnOk P w K mg base CX0 2 f fd ["_law_draw", "_law_great"] spAnyN := by
  refine F.ok scLawAnyNumber (fun vs H Q E h => ?_) (fun cdv A outer s H vs Q E hr h => ?_)
  · obtain ⟨d, c0, rfl, _⟩ := h
    rfl
  · obtain ⟨d, c0, rfl, hD, k⟩ := h
    refine' ⟨_, ?zz, ?_⟩
    case zz =>
      refine' pss_cons ?s0 ?r0
      case s0 => exact (ps_if (pt_not (pt_val (pv 1))) (pss_one (by exact (ps_ret (pe_callC c_law_take (hr.mono (by omega)) (by rfl) (pa_cons (pv 0) (pa_cons (pe_ix (ixT (K := K) rfl) (pe_tup (by exact pa_cons pe_int (by exact pa_cons pe_int (by exact pa_cons pe_int pa_nil)))) (pe_callC c_law_take (hr.mono (by omega)) (by rfl) (pa_cons (pv 0) (pa_cons pe_int pa_nil))) (fun _ _ => rfl)) pa_nil)))))) pss_nil)
      case r0 =>
      refine' pss_cons ?s1 ?r1
      case s1 => exact (ps_set (i := 2) scLawAnyNumber.nd rfl (Or.inl rfl) (pe_callC c_law_take (hr.mono (by omega)) (by rfl) (pa_cons (pv 0) (pa_cons (pe_ix (ixT (K := K) rfl) (pe_tup (by exact pa_cons pe_int (by exact pa_cons pe_int (by exact pa_cons pe_int (by exact pa_cons (pe_op op_pow pe_int pe_int) pa_nil))))) (pe_callC c_law_take (hr.mono (by omega)) (by rfl) (pa_cons (pv 0) (pa_cons pe_int pa_nil))) (fun _ _ => rfl)) pa_nil))))
      case r1 =>
      refine' pss_cons ?s2 ?r2
      case s2 => exact (ps_if (pt_cmpR op_eq (pe_callC c_law_take (hr.mono (by omega)) (by rfl) (pa_cons (pv 0) (pa_cons pe_int pa_nil))) pe_int (nomark _)) (pss_one (by exact (ps_ret (pe_op op_add (pe_op op_mulB (pv 2) (pe_op op_pow pe_int pe_int)) (pe_callC c_law_take (hr.mono (by omega)) (by rfl) (pa_cons (pv 0) (pa_cons (pe_op op_pow pe_int pe_int) pa_nil))))))) pss_nil)
      case r2 =>
      exact pss_one (ps_ret (pv 2))
    repeat walk_at "s"
    refine iteT ?_
    repeat walk_at "s"
    refine ⟨by show 3 ≤ sizeLine; decide, fun t ht => ?_⟩
    have s1 := same_upd (o := .tup [.int 10, .int 100, .int 1000]) ht
    have ht1 : upd H t (.tup [.int 10, .int 100, .int 1000]) t = some (.tup [.int 10, .int 100, .int 1000]) := upd_same
    have hD1 := hD.same s1
    generalize upd H t (.tup [.int 10, .int 100, .int 1000]) = H1 at s1 ht1 hD1 ⊢
    repeat walk_at "s"
    refine ⟨d, c0, 3, rfl, hD1, by decide, by decide, fun r H2 r0 r1 hD2 b2 => ?_⟩
    obtain ⟨m, em, m0, m1⟩ : ∃ m : Int, atI [V.int 10, V.int 100, V.int 1000] r = some (.int m) ∧ 0 < m ∧ m ≤ 1000 := by
      rcases (show r = 0 ∨ r = 1 ∨ r = 2 by omega) with rfl | rfl | rfl
      · exact ⟨10, rfl, by decide, by decide⟩
      · exact ⟨100, rfl, by decide, by decide⟩
      · exact ⟨1000, rfl, by decide, by decide⟩
    refine i_ixT (SqT.of (b2 _ _ (hD1.ne_tup ht1) ht1)) em ?_
    repeat walk_at "s"
    refine ⟨d, c0, m, rfl, hD2, m0, small9 m0 (by omega), fun n H3 n0 n1 hD3 b3 => ?_⟩
    exact k n H3 n0 (by omega) hD3 (((s1.but (d := d)).trans b2).trans b3)
/-- some numbers, drawn -/
theorem drawnN {d c0 : Addr} {n : Nat} {H1 : Hp} {Fin : List V → Hp → Prop} (hl : n ≤ 20) (hD : DrawC H1 d c0) (fin : ∀ (ns : List Int) H', DrawC H' d c0 → But d H1 H' → ns.length = n → okN ns → Fin (ns.map V.int) H') :
    CompT (Itr 0 n) (gName 0) tYes (tCall spAnyN [] E0 (tCons (tVar 1) (tCons (tVar 2) tNil))) Fin [none, some (.ref d), some (.bl false)] H1 := by
  refine compW (fun i ys σ' H' => (∃ x, σ' = [x, some (.ref d), some (.bl false)]) ∧ DrawC H' d c0 ∧ But d H1 H' ∧ ∃ ns : List Int, ys = ns.map V.int ∧ ns.length = i ∧ okN ns) n ⟨⟨_, rfl⟩, hD, But.refl, [], rfl, rfl, fun _ h => by cases h⟩ ?_ ?_
  · rintro ys σ' H' ⟨_, hD', b', ns, rfl, ln, on⟩
    exact ⟨Nat.le_refl _, fin ns H' hD' b' ln on⟩
  · rintro i ys σ' H' hi ⟨⟨x, rfl⟩, hD', b', ns, rfl, ln, on⟩
    refine ⟨hi, small1000 (by rw [List.length_map]; omega), ?_⟩
    rintro v H2 ⟨rfl, rfl⟩
    refine i_name (i_yes (iteT (i_call (i_cons (i_var rfl (i_cons (i_var rfl (i_nil ?_))))))))
    refine ⟨d, c0, rfl, hD', fun y H3 y0 y1 hD3 b3 => ?_⟩
    refine nxt hi ⟨⟨_, rfl⟩, hD3, b'.trans b3, ns ++ [y], by rw [List.map_append]; rfl, by rw [List.length_append, ln]; rfl, fun z hz => ?_⟩
    rcases List.mem_append.mp hz with hz | hz
    · exact on z hz
    · rw [List.mem_singleton] at hz
      subst hz
      exact ⟨y0, y1⟩
def spLoose : Sp := fun vs H Q _ => ∃ (d c0 : Addr), vs = [.ref d, .bl false] ∧ DrawC H d c0 ∧ ∀ p H', DrawC H' d c0 → But d H H' → FactN H' p → Q (.ref p) H'
def wdsL : List V := [.str "fell", .str "refit", .str "refit", .str "storm", .str "find", .str "lend", .str "pay", .str "clear"]
abbrev sLawLooseFact : Stmt := top 28
theorem scLawLooseFact : FnScope ["_law_draw", "_law_great", "_law_word", "_law_numbers_here", "_law_sets", "_law_k"] ["_law_draw", "_law_great"] (defScope sLawLooseFact) := ⟨rfl, rfl, rfl, by decide +kernel, rfl, by decide +kernel, by decide +kernel⟩
theorem nd_169_30 : (["_law_k", "_law_draw", "_law_great"] : List Str).Nodup := by decide +kernel
theorem S_169_30 : CompScope ["_law_draw", "_law_great", "_law_word", "_law_numbers_here", "_law_sets", "_law_k"] (defScope sLawLooseFact) ({ kind := PySem.ScopeKind.function, names := [ (PySem.Str.ofString ".0", PySem.NameKind.local), (PySem.Str.ofString "_law_k", PySem.NameKind.local), (PySem.Str.ofString "_law_any_number", PySem.NameKind.globalImplicit), (PySem.Str.ofString "_law_draw", PySem.NameKind.free), (PySem.Str.ofString "_law_great", PySem.NameKind.free)], isGenerator := false, isCoroutine := false, more := [] : PySem.Scope }) (["_law_k"] : List Str) ([(0, "_law_draw"), (1, "_law_great")] : List (Nat × Str)) := ⟨by decide +kernel, by decide +kernel, by decide +kernel, by decide +kernel, by decide +kernel⟩
theorem nd_174_31 : (["_law_j", "_law_draw", "_law_great"] : List Str).Nodup := by decide +kernel
theorem S_174_31 : CompScope ["_law_draw", "_law_great", "_law_word", "_law_numbers_here", "_law_sets", "_law_k"] (defScope sLawLooseFact) ({ kind := PySem.ScopeKind.function, names := [ (PySem.Str.ofString ".0", PySem.NameKind.local), (PySem.Str.ofString "_law_j", PySem.NameKind.local), (PySem.Str.ofString "_law_any_number", PySem.NameKind.globalImplicit), (PySem.Str.ofString "_law_draw", PySem.NameKind.free), (PySem.Str.ofString "_law_great", PySem.NameKind.free)], isGenerator := false, isCoroutine := false, more := [] : PySem.Scope }) (["_law_j"] : List Str) ([(0, "_law_draw"), (1, "_law_great")] : List (Nat × Str)) := ⟨by decide +kernel, by decide +kernel, by decide +kernel, by decide +kernel, by decide +kernel⟩
theorem ok_loose {f : Addr} {fd : FuncData} (F : Fun K "_law_loose_fact" "_law_loose_fact" sLawLooseFact f fd) (T : BltM mg) (c_law_take : Cal P w K mg base "_law_take" 1 ["_law_draw", "_law_many"] spTakeC) (c_law_any_number : Cal P w K mg base "_law_any_number" 2 ["_law_draw", "_law_great"] spAnyN) : FnOk P w K mg base CX0 3 f fd ["_law_draw", "_law_great"] spLoose := by
  refine F.ok scLawLooseFact (fun vs H Q E h => ?_) (fun cdv A outer s H vs Q E hr h => ?_)
  · obtain ⟨d, c0, rfl, _⟩ := h
    rfl
  · obtain ⟨d, c0, rfl, hD, k⟩ := h
    refine' ⟨_, ?zz, ?_⟩
    case zz =>
      refine' pss_cons ?s0 ?r0
      case s0 => exact (ps_set (i := 2) scLawLooseFact.nd rfl (Or.inl rfl) (pe_ix (ixT (K := K) rfl) (by refine' pe_tup ?lt; (case lt => refine' Cq.pa (ts := [tC (.str "fell"), tC (.str "refit"), tC (.str "refit"), tC (.str "storm"), tC (.str "find"), tC (.str "lend"), tC (.str "pay"), tC (.str "clear")]) ?cc; (case cc => refine Cq.cons pe_str (fun _ => star_c nofun) ?_; refine Cq.cons pe_str (fun _ => star_c nofun) ?_; refine Cq.cons pe_str (fun _ => star_c nofun) ?_; refine Cq.cons pe_str (fun _ => star_c nofun) ?_; refine Cq.cons pe_str (fun _ => star_c nofun) ?_; refine Cq.cons pe_str (fun _ => star_c nofun) ?_; refine Cq.cons pe_str (fun _ => star_c nofun) ?_; refine Cq.cons pe_str (fun _ => star_c nofun) ?_; exact Cq.nil))) (pe_callC c_law_take (hr.mono (by omega)) (by rfl) (pa_cons (pv 0) (pa_cons pe_int pa_nil))) (fun _ _ => rfl)))
      case r0 =>
      refine' pss_cons ?s1 ?r1
      case s1 => exact (ps_if (pt_cmpR (oIn (K := K) rfl) (pv 2) (pe_tup (pa_cons pe_str (pa_cons pe_str pa_nil))) (by with_unfolding_all rfl)) (pss_one (by exact (ps_ret (by refine' pe_tup ?zt1; (case zt1 => refine' pa_cons ?za2 ?zb2 ?zs2; (case zs2 => rfl); (case za2 => exact (pv 2)); (case zb2 => refine' pa_cons ?za4 ?zb4 ?zs4; (case zs4 => rfl); (case za4 => exact (pe_callC c_law_any_number (hr.mono (by omega)) (by rfl) (pa_cons (pv 0) (pa_cons (pv 1) pa_nil)))); (case zb4 => exact pa_nil))))))) pss_nil)
      case r1 =>
      refine' pss_cons ?s2 ?r2
      case s2 => exact (ps_if (pt_cmpR (oIn (K := K) rfl) (pv 2) (pe_tup (pa_cons pe_str (pa_cons pe_str pa_nil))) (by with_unfolding_all rfl)) (pss_one (by exact (ps_ret (by refine' pe_tup ?zt6; (case zt6 => refine' pa_cons ?za7 ?zb7 ?zs7; (case zs7 => rfl); (case za7 => exact (pv 2)); (case zb7 => refine' pa_cons ?za9 ?zb9 ?zs9; (case zs9 => rfl); (case za9 => exact (pe_callC c_law_any_number (hr.mono (by omega)) (by rfl) (pa_cons (pv 0) (pa_cons (pv 1) pa_nil)))); (case zb9 => refine' pa_cons ?za11 ?zb11 ?zs11; (case zs11 => rfl); (case za11 => exact (pe_callC c_law_any_number (hr.mono (by omega)) (by rfl) (pa_cons (pv 0) (pa_cons (pv 1) pa_nil)))); (case zb11 => exact pa_nil)))))))) pss_nil)
      case r2 =>
      refine' pss_cons ?s3 ?r3
      case s3 => exact (ps_set (i := 3) scLawLooseFact.nd rfl (Or.inl rfl) (pe_callTy (cTuple (K := K) rfl) (by rfl) T.z_tuple bb_tuple (pa_cons (pe_lcomp rfl S_169_30 (pi_range1 (by rfl) T.z_range (pa_cons (pe_op op_add pe_int (pe_callC c_law_take (hr.mono (by omega)) (by rfl) (pa_cons (pv 0) (pa_cons pe_int pa_nil)))) pa_nil)) (by intro _ _ _ _ _; exact (pg_name (i := 0) nd_169_30 rfl (Or.inl rfl))) (by intro _ _ _ _ _; exact pts_nil) (by intro _ _ _ _ _; exact (pe_callC c_law_any_number (hr.mono (by omega)) (by rfl) (pa_cons (pv 1) (pa_cons (pv 2) pa_nil))))) pa_nil)))
      case r3 =>
      refine' pss_cons ?s4 ?r4
      case s4 => exact (ps_if (pt_cmpR op_ne (pv 2) pe_str (nomark _)) (pss_one (by exact (ps_ret (pe_tup (pa_cons (pv 2) (pa_cons (pv 3) pa_nil)))))) pss_nil)
      case r4 =>
      refine' pss_cons ?s5 ?r5
      case s5 => exact (ps_set (i := 4) scLawLooseFact.nd rfl (Or.inl rfl) (pe_lst pa_nil))
      case r5 =>
      refine' pss_cons ?s6 ?r6
      case s6 => exact (ps_for PassesOwn.never rfl (pi_range1 (by rfl) T.z_range (pa_cons (pe_callC c_law_take (hr.mono (by omega)) (by rfl) (pa_cons (pv 0) (pa_cons pe_int pa_nil))) pa_nil)) (pg_name (i := 5) scLawLooseFact.nd rfl (Or.inl rfl)) (pss_one (by exact (ps_expr (mApp (K := K) rfl (pv 4) (pa_cons (pe_callTy (cTuple (K := K) rfl) (by rfl) T.z_tuple bb_tuple (pa_cons (pe_lcomp rfl S_174_31 (pi_range1 (by rfl) T.z_range (pa_cons (pe_op op_add pe_int (pe_callC c_law_take (hr.mono (by omega)) (by rfl) (pa_cons (pv 0) (pa_cons pe_int pa_nil)))) pa_nil)) (by intro _ _ _ _ _; exact (pg_name (i := 0) nd_174_31 rfl (Or.inl rfl))) (by intro _ _ _ _ _; exact pts_nil) (by intro _ _ _ _ _; exact (pe_callC c_law_any_number (hr.mono (by omega)) (by rfl) (pa_cons (pv 1) (pa_cons (pv 2) pa_nil))))) pa_nil)) pa_nil))))))
      case r6 =>
      refine' pss_cons ?s7 ?r7
      case s7 => exact (ps_if ((pw_and (pt_cmpR (op_neNoL hr.units) (pv 4) (pe_lst pa_nil) (nomark _)) (pw_and1 (pt_cmpR op_eq (pe_callC c_law_take (hr.mono (by omega)) (by rfl) (pa_cons (pv 0) (pa_cons pe_int pa_nil))) pe_int (nomark _))))).pt (pss_one (by exact (ps_set (i := 3) scLawLooseFact.nd rfl (Or.inl rfl) (pe_tup pa_nil)))) pss_nil)
      case r7 =>
      exact pss_one (ps_ret (by refine' pe_tup ?zt13; (case zt13 => refine' pa_cons ?za14 ?zb14 ?zs14; (case zs14 => rfl); (case za14 => exact (pv 2)); (case zb14 => refine' pa_cons ?za16 ?zb16 ?zs16; (case zs16 => rfl); (case za16 => exact (pv 3)); (case zb16 => refine' pa_cons ?za18 ?zb18 ?zs18; (case zs18 => rfl); (case za18 => exact (pe_callTy (cTuple (K := K) rfl) (by rfl) T.z_tuple bb_tuple (pa_cons (pv 4) pa_nil))); (case zb18 => exact pa_nil))))))
    simp only [tCq]
    repeat walk_at "s"
    refine ⟨by show 8 ≤ sizeLine; decide, fun t ht => ?_⟩
    rw [show HO.tup [.str "fell", .str "refit", .str "refit", .str "storm", .str "find", .str "lend", .str "pay", .str "clear"] = HO.tup wdsL from rfl]
    have s1 := same_upd (o := .tup wdsL) ht
    have ht1 : upd H t (.tup wdsL) t = some (.tup wdsL) := upd_same
    have hD1 := hD.same s1
    generalize upd H t (.tup wdsL) = H1 at s1 ht1 hD1 ⊢
    repeat walk_at "s"
    refine ⟨d, c0, 8, rfl, hD1, by decide, by decide, fun r H2 r0 r1 hD2 b2 => ?_⟩
    obtain ⟨x, ex, hx⟩ : ∃ x : Str, atI wdsL r = some (.str x) ∧ (x = "fell" ∨ x = "clear" ∨ x = "lend" ∨ x = "pay" ∨ x = "storm" ∨ x = "find" ∨ x = "refit") := by
      rcases (show r = 0 ∨ r = 1 ∨ r = 2 ∨ r = 3 ∨ r = 4 ∨ r = 5 ∨ r = 6 ∨ r = 7 by omega) with rfl | rfl | rfl | rfl | rfl | rfl | rfl | rfl
      · exact ⟨"fell", rfl, by simp⟩
      · exact ⟨"refit", rfl, by simp⟩
      · exact ⟨"refit", rfl, by simp⟩
      · exact ⟨"storm", rfl, by simp⟩
      · exact ⟨"find", rfl, by simp⟩
      · exact ⟨"lend", rfl, by simp⟩
      · exact ⟨"pay", rfl, by simp⟩
      · exact ⟨"clear", rfl, by simp⟩
    have b02 := (s1.but (d := d)).trans b2
    refine i_ixT (SqT.of (b2 _ _ (hD1.ne_tup ht1) ht1)) ex ?_
    clear ht1 s1 hD1 b2 hD
    repeat walk_at "s"
    refine ⟨by show 2 ≤ sizeLine; decide, fun q hq => ?_⟩
    have s3 := same_upd (o := .tup [.str "fell", .str "clear"]) hq
    have hq3 : upd H2 q (.tup [.str "fell", .str "clear"]) q = some (.tup [.str "fell", .str "clear"]) := upd_same
    have hD3 := hD2.same s3
    have b03 := b02.trans (s3.but (d := d))
    generalize upd H2 q (.tup [.str "fell", .str "clear"]) = H3 at s3 hq3 hD3 b03 ⊢
    refine ⟨q, _, rfl, .inr (SqT.of hq3), rfl, rfl, ?_⟩
    rw [inV_2, if_neg Bool.false_ne_true]
    repeat walk_at "s"
    by_cases h1 : x = "fell" ∨ x = "clear"
    · rw [show (decide (x = "fell") || decide (x = "clear")) = true by rcases h1 with rfl | rfl <;> simp]
      refine iteT ?_
      repeat walk_at "s"
      refine ⟨d, c0, rfl, hD3, fun n H4 n0 n1 hD4 b4 => ?_⟩
      repeat walk_at "s"
      refine ⟨by show 2 ≤ sizeLine; decide, fun p hp => ?_⟩
      have s5 := same_upd (o := .tup [.str x, .int n]) hp
      exact k p _ (hD4.same s5) ((b03.trans b4).trans (s5.but (d := d))) ⟨.num x [n], ⟨.inl ⟨h1, rfl⟩, fun z hz => by rw [List.mem_singleton] at hz; subst hz; exact ⟨n0, by omega⟩⟩, upd_same⟩
    rw [decide_eq_false fun z => h1 (.inl z), decide_eq_false fun z => h1 (.inr z)]
    refine iteF ?_
    repeat walk_at "s"
    refine ⟨by show 2 ≤ sizeLine; decide, fun q2 hq2 => ?_⟩
    have s4 := same_upd (o := .tup [.str "lend", .str "pay"]) hq2
    have hq4 : upd H3 q2 (.tup [.str "lend", .str "pay"]) q2 = some (.tup [.str "lend", .str "pay"]) := upd_same
    have hD4 := hD3.same s4
    have b04 := b03.trans (s4.but (d := d))
    generalize upd H3 q2 (.tup [.str "lend", .str "pay"]) = H4 at s4 hq4 hD4 b04 ⊢
    refine ⟨q2, _, rfl, .inr (SqT.of hq4), rfl, rfl, ?_⟩
    rw [inV_2, if_neg Bool.false_ne_true]
    repeat walk_at "s"
    by_cases h2 : x = "lend" ∨ x = "pay"
    · rw [show (decide (x = "lend") || decide (x = "pay")) = true by rcases h2 with rfl | rfl <;> simp]
      refine iteT ?_
      repeat walk_at "s"
      refine ⟨d, c0, rfl, hD4, fun n H5 n0 n1 hD5 b5 => ?_⟩
      repeat walk_at "s"
      refine ⟨d, c0, rfl, hD5, fun m H6 m0 m1 hD6 b6 => ?_⟩
      repeat walk_at "s"
      refine ⟨by show 3 ≤ sizeLine; decide, fun p hp => ?_⟩
      have s7 := same_upd (o := .tup [.str x, .int n, .int m]) hp
      refine k p _ (hD6.same s7) (((b04.trans b5).trans b6).trans (s7.but (d := d))) ⟨.num x [n, m], ⟨.inr ⟨h2, rfl⟩, fun z hz => ?_⟩, upd_same⟩
      simp only [List.mem_cons, List.not_mem_nil, or_false] at hz
      rcases hz with rfl | rfl
      · exact ⟨n0, by omega⟩
      · exact ⟨m0, by omega⟩
    rw [decide_eq_false fun z => h2 (.inl z), decide_eq_false fun z => h2 (.inr z)]
    refine iteF ?_
    repeat walk_at "s"
    refine ⟨d, c0, 6, rfl, hD4, by decide, by decide, fun y H5 y0 y1 hD5 b5 => ?_⟩
    repeat walk_at "s"
    refine ⟨1 + y, rfl, by omega, by omega, ?_⟩
    refine drawnN (by omega) hD5 fun ns H6 hD6 b6 ln on => ?_
    intro D hD
    have s7 := same_upd (o := .lst (ns.map V.int)) hD
    have hD7' : upd H6 D (.lst (ns.map V.int)) D = some (.lst (ns.map V.int)) := upd_same
    have hD7 := hD6.same s7
    have b07 := ((b04.trans b5).trans b6).trans (s7.but (d := d))
    generalize upd H6 D (.lst (ns.map V.int)) = H7 at s7 hD7' hD7 b07 ⊢
    repeat walk_at "s"
    refine ⟨D, _, rfl, .inl ⟨SqL.of hD7', fun g hg => ?_⟩⟩
    have s8 := same_upd (o := .tup (ns.map V.int)) hg
    have hg8 : upd H7 g (.tup (ns.map V.int)) g = some (.tup (ns.map V.int)) := upd_same
    have hD8 := hD7.same s8
    have b08 := b07.trans (s8.but (d := d))
    generalize upd H7 g (.tup (ns.map V.int)) = H8 at s8 hg8 hD8 b08 ⊢
    have lnp : 0 < ns.length := by omega
    repeat walk_at "s"
    rw [decS]
    by_cases h3 : x = "refit"
    · rw [decide_eq_true h3]
      subst h3
      refine iteF ?_
      repeat walk_at "s"
      refine ⟨Nat.zero_le _, fun e he => ?_⟩
      have s9 := same_upd (o := .lst []) he
      have he9 : upd H8 e (.lst []) e = some (.lst []) := upd_same
      have hg9 := s9 _ _ hg8
      have hD9 := hD8.same s9
      have hed : e ≠ d := by obtain ⟨⟨o, ho⟩, _⟩ := hD8.is; exact Ne.symm (ne_of_none ho he)
      have hec : e ≠ c0 := by obtain ⟨_, ⟨o, ho⟩⟩ := hD8.is; exact Ne.symm (ne_of_none ho he)
      have heg : g ≠ e := ne_of_none hg8 he
      have heH : ∀ b o, H b = some o → b ≠ d → b ≠ e := fun b o q nb => ne_of_none (b08 _ _ nb q) he
      have b09 := b08.trans (s9.but (d := d))
      generalize upd H8 e (.lst []) = H9 at s9 he9 hg9 hD9 b09 ⊢
      repeat walk_at "s"
      refine ⟨d, c0, 5, rfl, hD9, by decide, by decide, fun m HA m0 m1 hDA bA => ?_⟩
      have heA := bA _ _ hed he9
      have hgA := bA _ _ (hD9.ne_tup hg9) hg9
      have b0A := b09.trans bA
      repeat walk_at "s"
      refine ⟨m, rfl, by omega, by omega, ?_⟩
      refine forW (fun i σ' H' => ∃ (z : Option V) (ts : List Addr) (nss : List (List Int)), σ' = [some (.ref d), some (.bl false), some (.str "refit"), some (.ref g), some (.ref e), z] ∧ DrawC H' d c0 ∧ But d H H' ∧ H' g = some (.tup (ns.map V.int)) ∧ H' e = some (.lst (ts.map V.ref)) ∧ TsAt H' ts nss ∧ nss.length ≤ i ∧ ∀ s ∈ nss, s.length ≤ 12 ∧ okN s) m.toNat
        ⟨none, [], [], rfl, hDA, b0A, hgA, heA, ⟨rfl, fun i t p q => by simp at q⟩, Nat.zero_le _, fun _ h => by cases h⟩ ?_ ?_
      · rintro σ' HB ⟨z, ts, nss, rfl, hDB, bB, hgB, heB, htB, lB, oB⟩
        refine ⟨by show m.toNat ≤ m.toNat; exact Nat.le_refl _, ?_⟩
        have lts := htB.1
        have fin : ∀ (ns' : List Int) (g' : Addr) (HC : Hp), DrawC HC d c0 → But d H HC → HC g' = some (.tup (ns'.map V.int)) → HC e = some (.lst (ts.map V.ref)) → TsAt HC ts nss → ns'.length ≤ 9 → okN ns' → (ns' ≠ [] ∨ nss ≠ []) →
            tRet (tTup (tCons (tVar 2) (tCons (tVar 3) (tCons (tCB (rTupleOf K) (tCons (tVar 4) tNil)) tNil)))) { nx := fun _ H' => Q .non H', rt := Q } [some (.ref d), some (.bl false), some (.str "refit"), some (.ref g'), some (.ref e), z] HC := by
          intro ns' g' HC hDC bC hgC heC htC l6 on' ne
          repeat walk_at "s"
          refine ⟨e, _, rfl, .inl ⟨SqL.of heC, fun e5 he5 => ?_⟩⟩
          have sD := same_upd (o := .tup (ts.map V.ref)) he5
          have he5' : upd HC e5 (.tup (ts.map V.ref)) e5 = some (.tup (ts.map V.ref)) := upd_same
          have hgD := sD _ _ hgC
          have htD := htC.same sD
          have hDD := hDC.same sD
          have bD := bC.trans (sD.but (d := d))
          generalize upd HC e5 (.tup (ts.map V.ref)) = HD at sD he5' hgD htD hDD bD ⊢
          repeat walk_at "s"
          refine ⟨by show 3 ≤ sizeLine; decide, fun p hp => ?_⟩
          have sE := same_upd (o := .tup [.str "refit", .ref g', .ref e5]) hp
          exact k p _ (hDD.same sE) (bD.trans (sE.but (d := d))) ⟨.ref ns' nss, ⟨l6, by omega, on', oB⟩, g', e5, ts, upd_same, sE _ _ hgD, sE _ _ he5', htD.same sE⟩
        repeat walk_at "s"
        refine ⟨Nat.zero_le _, fun e6 he6 => ?_⟩
        have sC := same_upd (o := .lst []) he6
        have heC := sC _ _ heB
        refine i_noL heC upd_same ?_
        have hgC := sC _ _ hgB
        have htC := htB.same sC
        have hDC := hDB.same sC
        have bC := bB.trans (sC.but (d := d))
        generalize upd HB e6 (.lst []) = HC at sC heC hgC htC hDC bC ⊢
        rw [if_pos rfl]
        repeat walk_at "s"
        cases hts : (ts.map V.ref).isEmpty with
        | true =>
          refine iteF (iteF ?_)
          refine i_next ?_
          exact fin ns g HC hDC bC hgC heC htC (by omega) on (.inl fun q => by rw [q] at lnp; cases lnp)
        | false =>
          have nne : nss ≠ [] := fun q => by
            rw [q] at lts
            rw [List.eq_nil_of_length_eq_zero lts] at hts
            cases hts
          refine iteT ?_
          repeat walk_at "s"
          refine ⟨d, c0, 3, rfl, hDC, by decide, by decide, fun c HF _ _ hDF bF => ?_⟩
          have heF := bF _ _ hed heC
          have hgF := bF _ _ (hDC.ne_tup hgC) hgC
          have htF := TsAt.but htC bF hDC
          have b0F := bC.trans bF
          repeat walk_at "s"
          refine ite2 (fun _ => ?_) (fun _ => ?_)
          · repeat walk_at "s"
            refine ⟨Nat.zero_le _, fun g' hg' => ?_⟩
            have sG := same_upd (o := .tup []) hg'
            refine i_name ?_
            exact fin [] g' _ (hDF.same sG) (b0F.trans (sG.but (d := d))) upd_same (sG _ _ heF) (htF.same sG) (by decide) (fun _ h => by cases h) (.inr nne)
          · refine i_next ?_
            exact fin ns g HF hDF b0F hgF heF htF (by omega) on (.inr nne)
      · rintro i σ' HB hi ⟨z, ts, nss, rfl, hDB, bB, hgB, heB, htB, lB, oB⟩
        refine ⟨by show i < m.toNat; exact hi, ?_⟩
        rintro v HC ⟨rfl, rfl⟩
        have lts := htB.1
        repeat walk_at "s"
        refine ⟨.inl ⟨rfl, _, SqL.of heB⟩, ?_⟩
        repeat walk_at "s"
        refine ⟨d, c0, 5, rfl, hDB, by decide, by decide, fun y HD y0 y1 hDD bD => ?_⟩
        have heD := bD _ _ hed heB
        have hgD := bD _ _ (hDB.ne_tup hgB) hgB
        have htD := TsAt.but htB bD hDB
        repeat walk_at "s"
        refine ⟨1 + y, rfl, by omega, by omega, ?_⟩
        refine drawnN (by omega) hDD fun ms HE hDE bE lm om => ?_
        intro D2 hD2
        have sF := same_upd (o := .lst (ms.map V.int)) hD2
        have hDF' : upd HE D2 (.lst (ms.map V.int)) D2 = some (.lst (ms.map V.int)) := upd_same
        have heF := sF _ _ (bE _ _ hed heD)
        have hgF := sF _ _ (bE _ _ (hDD.ne_tup hgD) hgD)
        have htF := (TsAt.but htD bE hDD).same sF
        have hDF := hDE.same sF
        have b0F := ((bB.trans bD).trans bE).trans (sF.but (d := d))
        generalize upd HE D2 (.lst (ms.map V.int)) = HF at sF hDF' heF hgF htF hDF b0F ⊢
        repeat walk_at "s"
        refine ⟨D2, _, rfl, .inl ⟨SqL.of hDF', fun p hp => ?_⟩⟩
        have sG := same_upd (o := .tup (ms.map V.int)) hp
        have hpG : upd HF p (.tup (ms.map V.int)) p = some (.tup (ms.map V.int)) := upd_same
        have heG := sG _ _ heF
        have hgG := sG _ _ hgF
        have htG := htF.same sG
        have hDG := hDF.same sG
        have b0G := b0F.trans (sG.but (d := d))
        have hpe : p ≠ e := Ne.symm (ne_of_none heF hp)
        generalize upd HF p (.tup (ms.map V.int)) = HG at sG hpG heG hgG htG hDG b0G ⊢
        repeat walk_at "s"
        refine i_app heG (lt_line (by rw [List.length_map]; omega)) ?_
        repeat walk_at "s"
        have tne : ∀ t ∈ ts, t ≠ e := by
          intro t htm q
          obtain ⟨j, hj, ej⟩ := List.mem_iff_getElem.mp htm
          have := htG.2 j t nss[j] (by rw [List.getElem?_eq_getElem hj, ej]) (List.getElem?_eq_getElem (by omega))
          rw [q, heG] at this
          cases this
        refine ⟨_, ts ++ [p], nss ++ [ms], rfl, hDG.put hed hec, fun b o nb q => ?_, by rw [upd_ne heg]; exact hgG, by rw [upd_same, List.map_append]; rfl, ⟨by simp [lts], fun j t s' e1 e2 => ?_⟩, by rw [List.length_append]; show _ + 1 ≤ _; omega, fun s' hs => ?_⟩
        · rw [upd_ne (heH b o q nb)]
          exact b0G b o nb q
        · rcases Nat.lt_or_ge j ts.length with hj | hj
          · rw [List.getElem?_append_left hj] at e1
            rw [List.getElem?_append_left (by omega)] at e2
            rw [upd_ne (tne t (List.mem_of_getElem? e1))]
            exact htG.2 j t s' e1 e2
          · rw [List.getElem?_append_right hj] at e1
            rw [List.getElem?_append_right (by omega)] at e2
            cases hj2 : j - ts.length with
            | zero =>
              rw [hj2] at e1
              rw [show j - nss.length = 0 by omega] at e2
              cases e1
              cases e2
              rw [upd_ne hpe]
              exact hpG
            | succ z => rw [hj2] at e1; simp at e1
        · rcases List.mem_append.mp hs with hs | hs
          · exact oB s' hs
          · rw [List.mem_singleton] at hs
            subst hs
            exact ⟨by omega, om⟩
    · rw [decide_eq_false h3]
      refine iteT ?_
      repeat walk_at "s"
      refine ⟨by show 2 ≤ sizeLine; decide, fun p hp => ?_⟩
      have s9 := same_upd (o := .tup [.str x, .ref g]) hp
      refine k p _ (hD8.same s9) (b08.trans (s9.but (d := d))) ⟨.mov x ns, ⟨?_, by omega, on⟩, g, upd_same, s9 _ _ hg8⟩
      rcases hx with h | h | h | h | h | h | h
      · exact absurd (.inl h) h1
      · exact absurd (.inr h) h1
      · exact absurd (.inl h) h2
      · exact absurd (.inr h) h2
      · exact .inl h
      · exact .inr h
      · exact absurd h h3
end

section
variable {P : Program} {w : World} {K : PySem.W.Frag} {mg : Str → Option Value} {base : Heap}
def alph : Str := Str.ofString " /0123456789,-+.~acdefilmnoprst\nA"
theorem alph_len : alph.length = 33 := by decide +kernel
theorem alph_at : ∀ r < 33, ∃ c ∈ signsOk, atI alph.cps.toList ((r : Nat) : Int) = some c := by decide +kernel
def mid : List Nat := [32, 47, 32]
theorem mid_eq : Str.ofString " / " = tx mid := by decide +kernel
theorem mid_ok : ∀ c ∈ mid, c ∈ signsOk := by decide +kernel
def tails : List (List Nat) := [[32], [10], [32, 48], [48], [32, 47]]
theorem tails_eq : [V.str (Str.ofString " "), V.str (Str.ofString "\n"), V.str (Str.ofString " 0"), V.str (Str.ofString "0"), V.str (Str.ofString " /")] = tails.map fun t => V.str (tx t) := by decide +kernel
theorem tails_at {r : Int} (h0 : 0 ≤ r) (h1 : r < 5) : ∃ t : List Nat, atI (tails.map fun t => V.str (tx t)) r = some (.str (tx t)) ∧ t.length ≤ 2 ∧ ∀ c ∈ t, c ∈ signsOk := by
  rcases (show r = 0 ∨ r = 1 ∨ r = 2 ∨ r = 3 ∨ r = 4 by omega) with rfl | rfl | rfl | rfl | rfl
  · exact ⟨[32], rfl, by decide, by decide +kernel⟩
  · exact ⟨[10], rfl, by decide, by decide +kernel⟩
  · exact ⟨[32, 48], rfl, by decide, by decide +kernel⟩
  · exact ⟨[48], rfl, by decide, by decide +kernel⟩
  · exact ⟨[32, 47], rfl, by decide, by decide +kernel⟩
theorem ok_app {a b : List Nat} (h1 : ∀ c ∈ a, c ∈ signsOk) (h2 : ∀ c ∈ b, c ∈ signsOk) : ∀ c ∈ a ++ b, c ∈ signsOk := fun c hc => (List.mem_append.mp hc).elim (h1 c) (h2 c)
def spBent : Sp := fun vs H Q _ => ∃ (d c0 : Addr) (cs : List Nat), vs = [.ref d, .str (tx cs)] ∧ DrawC H d c0 ∧ cs.length ≤ 800 ∧ (∀ c ∈ cs, c ∈ signsOk) ∧ ∀ ds H', DrawC H' d c0 → But d H H' → ds.length ≤ cs.length + 3 → (∀ c ∈ ds, c ∈ signsOk) → Q (.str (tx ds)) H'
abbrev sLawBentText : Stmt := top 29
theorem scLawBentText : FnScope ["_law_draw", "_law_text", "_law_at", "_law_alphabet", "_law_sign", "_law_way"] ["_law_draw", "_law_text"] (defScope sLawBentText) := ⟨rfl, rfl, rfl, by decide +kernel, rfl, by decide +kernel, by decide +kernel⟩
theorem ok_bent {f : Addr} {fd : FuncData} (F : Fun K "_law_bent_text" "_law_bent_text" sLawBentText f fd) (T : BltM mg) (c_law_take : Cal P w K mg base "_law_take" 1 ["_law_draw", "_law_many"] spTakeC) : FnOk P w K mg base CX0 2 f fd ["_law_draw", "_law_text"] spBent := by
  refine F.ok scLawBentText (fun vs H Q E h => ?_) (fun cdv A outer s H vs Q E hr h => ?_)
  · obtain ⟨d, c0, cs, rfl, _⟩ := h
    rfl
  · obtain ⟨d, c0, cs, rfl, hD, hl, hc, k⟩ := h
    refine' ⟨_, ?zz, ?_⟩
    case zz =>
      refine' pss_cons ?s0 ?r0
      case s0 => exact (ps_set (i := 2) scLawBentText.nd rfl (Or.inl rfl) (pe_callC c_law_take (hr.mono (by omega)) (by rfl) (pa_cons (pv 0) (pa_cons (pe_op op_add (pe_callB cLenStr (by rfl) T.z_len bb_len (pa_cons (pv 1) pa_nil)) pe_int) pa_nil))))
      case r0 =>
      refine' pss_cons ?s1 ?r1
      case s1 => exact (ps_set (i := 3) scLawBentText.nd rfl (Or.inl rfl) pe_str)
      case r1 =>
      refine' pss_cons ?s2 ?r2
      case s2 => exact (ps_set (i := 4) scLawBentText.nd rfl (Or.inl rfl) (pe_ix ix_str (pv 3) (pe_callC c_law_take (hr.mono (by omega)) (by rfl) (by exact pa_cons (pv 0) (by exact pa_cons (pe_callB cLenStr (by rfl) T.z_len bb_len (pa_cons (pv 3) pa_nil)) pa_nil))) (fun _ _ => rfl)))
      case r2 =>
      refine' pss_cons ?s3 ?r3
      case s3 => exact (ps_set (i := 5) scLawBentText.nd rfl (Or.inl rfl) (pe_callC c_law_take (hr.mono (by omega)) (by rfl) (pa_cons (pv 0) (pa_cons pe_int pa_nil))))
      case r3 =>
      refine' pss_cons ?s4 ?r4
      case s4 => exact (ps_if (pt_cmpR op_eq (pv 5) pe_int (nomark _)) (pss_one (by exact (ps_ret (pe_op oAddStr (pe_op oAddStr (pe_slice sl_S (pv 1) po_none (po_some (pv 2))) (pv 4)) (pe_slice sl_S (pv 1) (po_some (pv 2)) po_none))))) pss_nil)
      case r4 =>
      refine' pss_cons ?s5 ?r5
      case s5 => exact (ps_if (pt_cmpR op_eq (pv 5) pe_int (nomark _)) (pss_one (by exact (ps_ret (pe_op oAddStr (pe_slice sl_S (pv 1) po_none (po_some (pv 2))) (pe_slice sl_S (pv 1) (po_some (pe_op op_add (pv 2) pe_int)) po_none))))) pss_nil)
      case r5 =>
      refine' pss_cons ?s6 ?r6
      case s6 => exact (ps_if (pt_cmpR op_eq (pv 5) pe_int (nomark _)) (pss_one (by exact (ps_ret (pe_op oAddStr (pe_op oAddStr (pe_slice sl_S (pv 1) po_none (po_some (pv 2))) (pv 4)) (pe_slice sl_S (pv 1) (po_some (pe_op op_add (pv 2) pe_int)) po_none))))) pss_nil)
      case r6 =>
      refine' pss_cons ?s7 ?r7
      case s7 => exact (ps_if (pt_cmpR op_eq (pv 5) pe_int (nomark _)) (pss_one (by exact (ps_ret (pe_slice sl_S (pv 1) po_none (po_some (pv 2)))))) pss_nil)
      case r7 =>
      refine' pss_cons ?s8 ?r8
      case s8 => exact (ps_if (pt_cmpR op_eq (pv 5) pe_int (nomark _)) (pss_one (by exact (ps_ret (pe_slice sl_S (pv 1) (po_some (pv 2)) po_none)))) pss_nil)
      case r8 =>
      refine' pss_cons ?s9 ?r9
      case s9 => exact (ps_if (pt_cmpR op_eq (pv 5) pe_int (nomark _)) (pss_one (by exact (ps_ret (pe_op oAddStr (pe_op oAddStr (pe_slice sl_S (pv 1) po_none (po_some (pv 2))) pe_str) (pe_slice sl_S (pv 1) (po_some (pv 2)) po_none))))) pss_nil)
      case r9 =>
      exact pss_one (ps_ret (pe_op oAddStr (pv 1) (pe_ix (ixL (K := K) rfl) (pe_lst (by exact pa_cons pe_str (by exact pa_cons pe_str (by exact pa_cons pe_str (by exact pa_cons pe_str (by exact pa_cons pe_str pa_nil)))))) (pe_callC c_law_take (hr.mono (by omega)) (by rfl) (pa_cons (pv 0) (pa_cons pe_int pa_nil))) (fun _ _ => rfl))))
    repeat walk_at "s"
    refine i_lenStr (by rw [tx_len]; exact Nat.le_trans hl (by decide)) ?_
    rw [tx_len]
    repeat walk_at "s"
    refine ⟨d, c0, _, rfl, hD, by omega, small_int (by omega) (by omega), fun at' H1 a0 a1 hD1 b1 => ?_⟩
    repeat walk_at "s"
    rw [show Str.ofString " /0123456789,-+.~acdefilmnoprst\nA" = alph from rfl]
    refine i_lenStr (by rw [alph_len]; decide) ?_
    rw [alph_len]
    repeat walk_at "s"
    refine ⟨d, c0, 33, rfl, hD1, by decide, by decide, fun r H2 r0 r1 hD2 b2 => ?_⟩
    obtain ⟨r', rfl⟩ : ∃ n : Nat, r = n := ⟨r.toNat, by omega⟩
    obtain ⟨c1, hc1, e1⟩ := alph_at r' (by omega)
    refine i_ixS (by rw [alph_len]; decide) e1 ?_
    rw [chV_tx]
    repeat walk_at "s"
    refine ⟨d, c0, 7, rfl, hD2, by decide, by decide, fun way H3 w0 w1 hD3 b3 => ?_⟩
    have b03 := b1.trans (b2.trans b3)
    have s1 : ∀ c ∈ [c1], c ∈ signsOk := fun c h => by rw [List.mem_singleton] at h; rw [h]; exact hc1
    obtain ⟨i, rfl⟩ : ∃ n : Nat, at' = n := ⟨at'.toNat, by omega⟩
    have z1 := idx_to i cs.length
    have z2 := idx_from i cs.length
    have z3 := idx_from (i + 1) cs.length
    rw [show (((i + 1 : Nat)) : Int) = (i : Int) + 1 by omega] at z3
    repeat walk_at "s"
    refine ite2 (fun _ => ?_) (fun _ => ?_)
    · repeat walk_at "s"
      refine i_slS (by omega) fun x1 l1 m1 => ?_
      repeat walk_at "s"
      refine i_addS (by show _ + 1 ≤ _; omega) ?_
      repeat walk_at "s"
      refine i_slS (by omega) fun x2 l2 m2 => ?_
      refine i_addS (by rw [List.length_append]; show _ + 1 + _ ≤ _; omega) ?_
      exact k _ _ hD3 b03 (by rw [List.length_append, List.length_append]; show _ + 1 + _ ≤ _; omega) (ok_app (ok_app (fun c h => hc c (m1 c h)) s1) fun c h => hc c (m2 c h))
    repeat walk_at "s"
    refine ite2 (fun _ => ?_) (fun _ => ?_)
    · repeat walk_at "s"
      refine i_slS (by omega) fun x1 l1 m1 => ?_
      repeat walk_at "s"
      refine i_slS (by omega) fun x2 l2 m2 => ?_
      refine i_addS (by omega) ?_
      exact k _ _ hD3 b03 (by rw [List.length_append]; omega) (ok_app (fun c h => hc c (m1 c h)) fun c h => hc c (m2 c h))
    repeat walk_at "s"
    refine ite2 (fun _ => ?_) (fun _ => ?_)
    · repeat walk_at "s"
      refine i_slS (by omega) fun x1 l1 m1 => ?_
      repeat walk_at "s"
      refine i_addS (by show _ + 1 ≤ _; omega) ?_
      repeat walk_at "s"
      refine i_slS (by omega) fun x2 l2 m2 => ?_
      refine i_addS (by rw [List.length_append]; show _ + 1 + _ ≤ _; omega) ?_
      exact k _ _ hD3 b03 (by rw [List.length_append, List.length_append]; show _ + 1 + _ ≤ _; omega) (ok_app (ok_app (fun c h => hc c (m1 c h)) s1) fun c h => hc c (m2 c h))
    repeat walk_at "s"
    refine ite2 (fun _ => ?_) (fun _ => ?_)
    · repeat walk_at "s"
      refine i_slS (by omega) fun x1 l1 m1 => ?_
      exact k _ _ hD3 b03 (by omega) fun c h => hc c (m1 c h)
    repeat walk_at "s"
    refine ite2 (fun _ => ?_) (fun _ => ?_)
    · repeat walk_at "s"
      refine i_slS (by omega) fun x1 l1 m1 => ?_
      exact k _ _ hD3 b03 (by omega) fun c h => hc c (m1 c h)
    repeat walk_at "s"
    refine ite2 (fun _ => ?_) (fun _ => ?_)
    · repeat walk_at "s"
      refine i_slS (by omega) fun x1 l1 m1 => ?_
      repeat walk_at "s"
      rw [mid_eq]
      refine i_addS (by show _ + 3 ≤ _; omega) ?_
      repeat walk_at "s"
      refine i_slS (by omega) fun x2 l2 m2 => ?_
      refine i_addS (by rw [List.length_append]; show _ + 3 + _ ≤ _; omega) ?_
      exact k _ _ hD3 b03 (by rw [List.length_append, List.length_append]; show _ + 3 + _ ≤ _; omega) (ok_app (ok_app (fun c h => hc c (m1 c h)) mid_ok) fun c h => hc c (m2 c h))
    repeat walk_at "s"
    refine ⟨by show 5 ≤ sizeLine; decide, fun t ht => ?_⟩
    rw [show HO.lst [V.str (Str.ofString " "), V.str (Str.ofString "\n"), V.str (Str.ofString " 0"), V.str (Str.ofString "0"), V.str (Str.ofString " /")] = HO.lst (tails.map fun t => V.str (tx t)) by rw [tails_eq]]
    have s4 := same_upd (o := .lst (tails.map fun t => V.str (tx t))) ht
    have ht4 : upd H3 t (.lst (tails.map fun t => V.str (tx t))) t = some (.lst (tails.map fun t => V.str (tx t))) := upd_same
    have hD4 := hD3.same s4
    generalize upd H3 t (.lst (tails.map fun t => V.str (tx t))) = H4 at s4 ht4 hD4 ⊢
    repeat walk_at "s"
    refine ⟨d, c0, 5, rfl, hD4, by decide, by decide, fun n H5 n0 n1 hD5 b5 => ?_⟩
    obtain ⟨tt, et, lt, mt⟩ := tails_at n0 n1
    have ntd : t ≠ d := by
      obtain ⟨⟨o, ho⟩, _⟩ := hD3.is
      exact Ne.symm (ne_of_none ho ht)
    refine i_ixL (SqL.of (b5 _ _ ntd ht4)) et ?_
    refine i_addS (by omega) ?_
    exact k _ _ hD5 (b03.trans ((s4.but (d := d)).trans b5)) (by rw [List.length_append]; omega) (ok_app hc mt)
end

section
variable {P : Program} {w : World} {K : PySem.W.Frag} {mg : Str → Option Value} {base : Heap}
def spTold : Sp := fun vs H Q _ => ∃ cs : List Nat, vs = [.str (tx cs)] ∧ cs.length ≤ 600 ∧ (∀ c ∈ cs, c ∈ signsOk) ∧
  (∀ F, rdF (Txt.split (tx cs) blank) = some F → ∀ p H', Same H H' → FcAt H' p F → Q (.ref p) H') ∧ (rdF (Txt.split (tx cs) blank) = none → ∀ H', Same H H' → Q .non H')
abbrev sLawTold : Stmt := top 31
theorem scLawTold : FnScope ["_law_text", "_law_told_here", "e"] ["_law_text"] (defScope sLawTold) := ⟨rfl, rfl, rfl, by decide +kernel, rfl, by decide +kernel, by decide +kernel⟩
theorem ok_told {f : Addr} {fd : FuncData} {cBadText cArgosyError cBadNumber cBadFact : Addr} (F : Fun K "_law_told" "_law_told" sLawTold f fd) (T : BltM mg) (hBadText : mg "BadText" = some (.ref cBadText)) (hArgosyError : mg "ArgosyError" = some (.ref cArgosyError)) (hBadNumber : mg "BadNumber" = some (.ref cBadNumber)) (hBadFact : mg "BadFact" = some (.ref cBadFact))
    (ek : ExcK K cBadText) (ct0 : Catches K cBadText cBadText) (k1 : PySem.W.kitOne K (.ref cBadText) (.ref cArgosyError) = some true) (k2 : PySem.W.kitOne K (.ref cBadText) (.ref cBadNumber) = some false) (k3 : PySem.W.kitOne K (.ref cBadText) (.ref cBadFact) = some false)
    (c_read_fact : CalX P w K mg base "read_fact" 4 ["text"] (spReadF cBadText)) : FnOk P w K mg base CX0 5 f fd ["_law_text"] spTold := by
  refine F.ok scLawTold (fun vs H Q E h => ?_) (fun cdv A outer s H vs Q E hr h => ?_)
  · obtain ⟨cs, rfl, _⟩ := h
    rfl
  · obtain ⟨cs, rfl, hl, hc, k, kN⟩ := h
    refine ⟨_, (pss_cons (ps_set (i := 1) scLawTold.nd rfl (Or.inl rfl) pe_non)
      (pss_cons (ps_try (G := ExcK K) (i := 2) rfl ⟨rfl, rfl, rfl⟩ scLawTold.nd rfl rfl (by rfl) hBadText (fun ES W pn hp => (pss_one (ps_set (i := 1) scLawTold.nd rfl (Or.inl rfl) (pe_callS c_read_fact (hr.mono (by omega)) (by rfl) hp (pa_cons (pv 0) pa_nil))))) (fun A pn a C gC hA ct => (pss_cons (ps_set (i := 1) scLawTold.nd rfl (Or.inl rfl) pe_non)
      (pss_one (ps_if ((pw_or (pt_val (pe_callB (cIsE (K := K) rfl ct gC) (by rfl) T.z_isinstance bb_isinstance (pa_cons (pv 2) (pa_cons (pe_glob (v := .ref cBadFact) (by rfl) hBadFact rfl) pa_nil)))) (pw_or (pt_val (pe_callB (cIsE (K := K) rfl ct gC) (by rfl) T.z_isinstance bb_isinstance (pa_cons (pv 2) (pa_cons (pe_glob (v := .ref cBadNumber) (by rfl) hBadNumber rfl) pa_nil)))) (pw_or1 (pt_not (pt_val (pe_callB (cIsE (K := K) rfl ct gC) (by rfl) T.z_isinstance bb_isinstance (pa_cons (pv 2) (pa_cons (pe_glob (v := .ref cArgosyError) (by rfl) hArgosyError rfl) pa_nil))))))))).pt (pss_one (ps_set (i := 1) scLawTold.nd rfl (Or.inl rfl) (pe_tup (pa_cons pe_str pa_nil)))) pss_nil)))))
      (pss_one (ps_ret (pv 1))))), ?_⟩
    repeat walk_at "s"
    refine ⟨fun σ1 C _ H' => σ1 = [some (.str (tx cs)), some .non, none] ∧ C = .ref cBadText ∧ Same H H' ∧ rdF (Txt.split (tx cs) blank) = none, ?_, ?_⟩
    · repeat walk_at "s"
      refine i_callS ?_
      repeat walk_at "s"
      refine ⟨cs, rfl, hl, hc, fun G hG p H1 s1 hp => ?_, fun hn H1 s1 => ⟨rfl, rfl, s1, hn⟩⟩
      repeat walk_at "s"
      exact k G hG p H1 s1 hp
    · rintro σ1 C H1 ⟨rfl, rfl, s1, hf⟩
      refine ⟨cBadText, rfl, ct0, ek, fun x => ?_⟩
      repeat walk_at "s"
      refine i_isE k3 ?_
      repeat walk_at "s"
      refine iteF ?_
      repeat walk_at "s"
      refine i_isE k2 ?_
      repeat walk_at "s"
      refine iteF ?_
      repeat walk_at "s"
      refine i_isE k1 ?_
      repeat walk_at "s"
      refine iteF ?_
      repeat walk_at "s"
      refine ⟨⟨_, rfl⟩, ?_⟩
      repeat walk_at "s"
      exact kN hf _ s1
end

theorem dep_ints (ns : List Int) : depths (ns.map Dt.int) = 0 := by
  induction ns with
  | nil => rfl
  | cons n r ih => show max 0 (depths _) = 0; rw [ih]; rfl
theorem wid_ints (ns : List Int) : wides (ns.map Dt.int) = 0 := by
  induction ns with
  | nil => rfl
  | cons n r ih => show max 0 (wides _) = 0; rw [ih]; rfl
theorem reps_ints {H : Hp} : ∀ ns : List Int, Reps H (ns.map V.int) (ns.map Dt.int)
  | [] => .nil
  | n :: r => .cons (.int n) (reps_ints r)
def tupI (ns : List Int) : Dt := .tup (ns.map Dt.int)
theorem reps_ts {H : Hp} : ∀ {ts : List Addr} {nss : List (List Int)}, TsAt H ts nss → Reps H (ts.map V.ref) (nss.map tupI)
  | [], [], _ => .nil
  | [], _ :: _, h => by cases h.1
  | _ :: _, [], h => by cases h.1
  | t :: ts, ns :: nss, h => .cons (.tup (h.2 0 t ns rfl rfl) (reps_ints ns)) (reps_ts ⟨by have := h.1; simpa using this, fun i t p e1 e2 => h.2 (i + 1) t p (by simpa using e1) (by simpa using e2)⟩)
def Fc.dt : Fc → Dt
  | .num x ns => .tup (.str x :: ns.map Dt.int)
  | .mov x ns => .tup [.str x, tupI ns]
  | .ref ns nss => .tup [.str "refit", tupI ns, .tup (nss.map tupI)]
theorem FcAt.rep {H : Hp} {p : Addr} {F : Fc} (h : FcAt H p F) : Rep H (.ref p) F.dt := by
  cases F with
  | num x ns => exact .tup h (.cons (.str x) (reps_ints ns))
  | mov x ns =>
    obtain ⟨a, h1, h2⟩ := h
    exact .tup h1 (.cons (.str x) (.cons (.tup h2 (reps_ints ns)) .nil))
  | ref ns nss =>
    obtain ⟨a, b, ts, h1, h2, h3, h4⟩ := h
    exact .tup h1 (.cons (.str _) (.cons (.tup h2 (reps_ints ns)) (.cons (.tup h3 (reps_ts h4)) .nil)))
theorem dep_tupI (ns : List Int) : (tupI ns).depth = 1 := by show depths (ns.map Dt.int) + 1 = 1; rw [dep_ints]
theorem wid_tupI (ns : List Int) : (tupI ns).wide = ns.length := by
  show max (ns.map Dt.int).length (wides (ns.map Dt.int)) = _
  rw [wid_ints, List.length_map]
  omega
theorem deps_tupI (nss : List (List Int)) : depths (nss.map tupI) ≤ 1 := by
  induction nss with
  | nil => exact Nat.zero_le _
  | cons n r ih =>
    show max (tupI n).depth (depths (r.map tupI)) ≤ 1
    rw [dep_tupI]
    omega
theorem wids_tupI {nss : List (List Int)} {m : Nat} (h : ∀ ns ∈ nss, ns.length ≤ m) : wides (nss.map tupI) ≤ m := by
  induction nss with
  | nil => exact Nat.zero_le _
  | cons n r ih =>
    show max (tupI n).wide (wides (r.map tupI)) ≤ m
    rw [wid_tupI]
    have := h n List.mem_cons_self
    have := ih fun x hx => h x (List.mem_cons_of_mem _ hx)
    omega
theorem Fc.depN (x : Str) {ns : List Int} (h : ns.length ≤ 900) : (Fc.num x ns).dt.depth ≤ 3 ∧ (Fc.num x ns).dt.wide ≤ 1000 := by
  constructor
  · show max 0 (depths (ns.map Dt.int)) + 1 ≤ 3
    rw [dep_ints]
    decide
  · show max (Dt.str x :: ns.map Dt.int).length (max 0 (wides (ns.map Dt.int))) ≤ 1000
    rw [wid_ints, List.length_cons, List.length_map]
    omega
theorem Fc.depM (x : Str) {ns : List Int} (h : ns.length ≤ 900) : (Fc.mov x ns).dt.depth ≤ 3 ∧ (Fc.mov x ns).dt.wide ≤ 1000 := by
  constructor
  · show max 0 (max (tupI ns).depth 0) + 1 ≤ 3
    rw [dep_tupI]
    decide
  · show max 2 (max 0 (max (tupI ns).wide 0)) ≤ 1000
    rw [wid_tupI]
    omega
theorem Fc.depR {ns : List Int} {nss : List (List Int)} (l1 : ns.length ≤ 900) (l2 : nss.length ≤ 900) (o2 : ∀ s ∈ nss, s.length ≤ 900) : (Fc.ref ns nss).dt.depth ≤ 3 ∧ (Fc.ref ns nss).dt.wide ≤ 1000 := by
  constructor
  · show max 0 (max (tupI ns).depth (max (depths (nss.map tupI) + 1) 0)) + 1 ≤ 3
    rw [dep_tupI]
    have := deps_tupI nss
    omega
  · show max 3 (max 0 (max (tupI ns).wide (max (max (nss.map tupI).length (wides (nss.map tupI))) 0))) ≤ 1000
    rw [wid_tupI, List.length_map]
    have := wids_tupI (m := 900) o2
    omega
theorem rdF_dep {ss : List Str} (hl : ss.length ≤ 601) (ow : okW ss) {F : Fc} (h : rdF ss = some F) : F.dt.depth ≤ 3 ∧ F.dt.wide ≤ 1000 := by
  cases ss with
  | nil => cases h
  | cons x ws =>
    rw [List.length_cons] at hl
    have ow2 : okW ws := fun t ht => ow t (List.mem_cons_of_mem _ ht)
    replace h : rdW x ws = some F := h
    unfold rdW at h
    split at h
    · cases hg : rdG (grp ws) with
      | none => unfold rdR at h; rw [hg] at h; cases h
      | some q =>
        cases q with
        | nil => unfold rdR at h; rw [hg] at h; cases h
        | cons n s =>
          unfold rdR at h
          rw [hg] at h
          replace h : (if (n = [] ∧ s = []) ∨ [] ∈ s then none else some (Fc.ref n s)) = some F := h
          split at h
          · cases h
          · cases h
            obtain ⟨l1, l2⟩ := rdG_some hg
            have lp := (pp_len ws).1
            have lg : (grp ws).length = (pp ws).1.length + 1 := by unfold grp; rw [List.length_append]; rfl
            rw [List.length_cons] at l1
            have each : ∀ m ∈ n :: s, m.length ≤ 900 := by
              intro m hm
              obtain ⟨i, hi, ei⟩ := List.mem_iff_getElem.mp hm
              have hi2 : i < (grp ws).length := by rw [List.length_cons] at hi; omega
              obtain ⟨m', em, hm'⟩ := l2 i _ (List.getElem?_eq_getElem hi2)
              rw [List.getElem?_eq_getElem hi, ei] at em
              cases em
              have := rdN_len hm'
              have := (grp_ok ow2 (List.getElem_mem hi2)).2
              omega
            exact Fc.depR (each n List.mem_cons_self) (by omega) fun m hm => each m (List.mem_cons_of_mem _ hm)
    · cases hn : rdN ws with
      | none => rw [hn] at h; cases h
      | some ns =>
        rw [hn] at h
        have := rdN_len hn
        replace h : (if PyProof.Rows.KTD.datumAt x tabM = some (ns.length : Int) then some (Fc.num x ns) else if (x = "storm" ∨ x = "find") ∧ ns ≠ [] then some (Fc.mov x ns) else none) = some F := h
        split at h
        · cases h
          exact Fc.depN x (by omega)
        · split at h
          · cases h
            exact Fc.depM x (by omega)
          · cases h
def odd1 : List Str := ["", " ", "refit", "refit ", "refit /", "refit / /", "refit 1 /", "refit / 1 /", "refit 1 / 2", "refit /1"]
def odd2 : List Str := ["storm", "find ", "fell", "fell 1 2", "lend 10", "Fell 3", "fells 3", "fell 03", " fell 3", "fell  3"]
def odd3 : List Str := ["fell -3", "storm 1 / 2", "fell /", "clear 4 ", "pay 10 2 3", "refit 1  / 2"]
def odds : List Str := odd1 ++ odd2 ++ odd3
theorem odds_ok : ∀ t ∈ odds, t.length ≤ 20 ∧ ∀ c ∈ t.cps.toList, c ∈ signsOk := by decide +kernel
theorem bend_at {r : Int} (h0 : 0 ≤ r) (h1 : r < 6) : ∃ m : Nat, atI [V.int 0, V.int 1, V.int 1, V.int 1, V.int 2, V.int 1] r = some (.int m) ∧ m ≤ 2 := by
  rcases (show r = 0 ∨ r = 1 ∨ r = 2 ∨ r = 3 ∨ r = 4 ∨ r = 5 by omega) with rfl | rfl | rfl | rfl | rfl | rfl
  · exact ⟨0, rfl, by decide⟩
  · exact ⟨1, rfl, by decide⟩
  · exact ⟨1, rfl, by decide⟩
  · exact ⟨1, rfl, by decide⟩
  · exact ⟨2, rfl, by decide⟩
  · exact ⟨1, rfl, by decide⟩
theorem FactN.but {H H' : Hp} {d c0 p : Addr} (h : FactN H p) (b : But d H H') (hD : DrawC H d c0) : FactN H' p := by
  obtain ⟨F, ok, hF⟩ := h
  refine ⟨F, ok, ?_⟩
  cases F with
  | num x ns => exact b _ _ (hD.ne_tup hF) hF
  | mov x ns =>
    obtain ⟨a, h1, h2⟩ := hF
    exact ⟨a, b _ _ (hD.ne_tup h1) h1, b _ _ (hD.ne_tup h2) h2⟩
  | ref ns nss =>
    obtain ⟨a, q, ts, h1, h2, h3, h4⟩ := hF
    exact ⟨a, q, ts, b _ _ (hD.ne_tup h1) h1, b _ _ (hD.ne_tup h2) h2, b _ _ (hD.ne_tup h3) h3, TsAt.but h4 b hD⟩
section
variable {P : Program} {w : World} {K : PySem.W.Frag} {mg : Str → Option Value} {base : Heap}
def spLaw (K : PySem.W.Frag) : Sp := fun vs H Q _ => ∃ (a : Addr) (ns : List Int), vs = [.ref a] ∧ SqL K H a (ns.map V.int) ∧ ns.length ≤ 63 ∧ ∀ H', Q (.bl true) H'
abbrev sLaw : Stmt := top 32
theorem scLaw : FnScope ["_law_script", "_law_draw", "_law_odd", "_law_way", "_law_bends", "_law_fact", "_law_text", "_law_k"] ["_law_script"] (defScope sLaw) := ⟨rfl, rfl, rfl, by decide +kernel, rfl, by decide +kernel, by decide +kernel⟩
theorem ok_law {f : Addr} {fd : FuncData} (F : Fun K "law" "law" sLaw f fd) (T : BltM mg) (c_law_begin : Cal P w K mg base "_law_begin" 1 ["_law_script"] (spBeginC K)) (c_law_take : Cal P w K mg base "_law_take" 1 ["_law_draw", "_law_many"] spTakeC) (c_law_slip : Cal P w K mg base "_law_slip" 2 ["_law_draw"] spSlip) (c_law_sound_fact : Cal P w K mg base "_law_sound_fact" 4 ["_law_draw", "_law_slip_here"] spFact) (c_law_loose_fact : Cal P w K mg base "_law_loose_fact" 3 ["_law_draw", "_law_great"] spLoose) (c_law_written : Cal P w K mg base "_law_written" 1 ["_law_fact"] spWritten) (c_law_same : Cal P w K mg base "_law_same" 4 ["_law_found", "_law_due"] (spS 4)) (c_law_bent_text : Cal P w K mg base "_law_bent_text" 2 ["_law_draw", "_law_text"] spBent) (c_law_told : Cal P w K mg base "_law_told" 5 ["_law_text"] spTold) (c_law_read : Cal P w K mg base "_law_read" 4 ["_law_words"] spLRead) : FnOk P w K mg base CX0 6 f fd ["_law_script"] (spLaw K) := by
  refine F.ok scLaw (fun vs H Q E h => ?_) (fun cdv A outer s H vs Q E hr h => ?_)
  · obtain ⟨a, ns, rfl, _⟩ := h
    rfl
  · obtain ⟨a, ns, rfl, hS, hl, k⟩ := h
    refine' ⟨_, ?zz, ?_⟩
    case zz =>
      refine' pss_cons ?s0 ?r0
      case s0 => exact (ps_set (i := 1) scLaw.nd rfl (Or.inl rfl) (pe_callC c_law_begin (hr.mono (by omega)) (by rfl) (pa_cons (pv 0) pa_nil)))
      case r0 =>
      refine' pss_cons ?s1 ?r1
      case s1 => exact (by refine' ps_set (i := 2) ?xa ?xb ?xc ?xd ?xe ?xf; (case xa => exact scLaw.nd); (case xb => rfl); (case xc => exact Or.inl rfl); (case xe => rfl); (case xf => first | exact .inl rfl | exact .inr rfl); (case xd => exact (by refine' pe_lst ?ll; (case ll => refine' Cq.pa (ts := [tC (.str ""), tC (.str " "), tC (.str "refit"), tC (.str "refit "), tC (.str "refit /"), tC (.str "refit / /"), tC (.str "refit 1 /"), tC (.str "refit / 1 /"), tC (.str "refit 1 / 2"), tC (.str "refit /1")]) ?cc; (case cc => refine Cq.cons pe_str (fun _ => star_c nofun) ?_; refine Cq.cons pe_str (fun _ => star_c nofun) ?_; refine Cq.cons pe_str (fun _ => star_c nofun) ?_; refine Cq.cons pe_str (fun _ => star_c nofun) ?_; refine Cq.cons pe_str (fun _ => star_c nofun) ?_; refine Cq.cons pe_str (fun _ => star_c nofun) ?_; refine Cq.cons pe_str (fun _ => star_c nofun) ?_; refine Cq.cons pe_str (fun _ => star_c nofun) ?_; refine Cq.cons pe_str (fun _ => star_c nofun) ?_; refine Cq.cons pe_str (fun _ => star_c nofun) ?_; exact Cq.nil)))))
      case r1 =>
      refine' pss_cons ?s2 ?r2
      case s2 => exact (ps_set (i := 2) scLaw.nd rfl (Or.inl rfl) (pe_op op_cat (pv 2) (by refine' pe_lst ?ll; (case ll => refine' Cq.pa (ts := [tC (.str "storm"), tC (.str "find "), tC (.str "fell"), tC (.str "fell 1 2"), tC (.str "lend 10"), tC (.str "Fell 3"), tC (.str "fells 3"), tC (.str "fell 03"), tC (.str " fell 3"), tC (.str "fell  3")]) ?cc; (case cc => refine Cq.cons pe_str (fun _ => star_c nofun) ?_; refine Cq.cons pe_str (fun _ => star_c nofun) ?_; refine Cq.cons pe_str (fun _ => star_c nofun) ?_; refine Cq.cons pe_str (fun _ => star_c nofun) ?_; refine Cq.cons pe_str (fun _ => star_c nofun) ?_; refine Cq.cons pe_str (fun _ => star_c nofun) ?_; refine Cq.cons pe_str (fun _ => star_c nofun) ?_; refine Cq.cons pe_str (fun _ => star_c nofun) ?_; refine Cq.cons pe_str (fun _ => star_c nofun) ?_; refine Cq.cons pe_str (fun _ => star_c nofun) ?_; exact Cq.nil)))))
      case r2 =>
      refine' pss_cons ?s3 ?r3
      case s3 => exact (ps_set (i := 2) scLaw.nd rfl (Or.inl rfl) (pe_op op_cat (pv 2) (pe_lst (by exact pa_cons pe_str (by exact pa_cons pe_str (by exact pa_cons pe_str (by exact pa_cons pe_str (by exact pa_cons pe_str (by exact pa_cons pe_str pa_nil)))))))))
      case r3 =>
      refine' pss_cons ?s4 ?r4
      case s4 => exact (ps_set (i := 3) scLaw.nd rfl (Or.inl rfl) (pe_callC c_law_take (hr.mono (by omega)) (by rfl) (pa_cons (pv 1) (pa_cons pe_int pa_nil))))
      case r4 =>
      refine' pss_cons ?s5 ?r5
      case s5 => exact (ps_set (i := 4) scLaw.nd rfl (Or.inl rfl) (pe_ix (ixT (K := K) rfl) (pe_tup (by exact pa_cons pe_int (by exact pa_cons pe_int (by exact pa_cons pe_int (by exact pa_cons pe_int (by exact pa_cons pe_int (by exact pa_cons pe_int pa_nil))))))) (pe_callC c_law_take (hr.mono (by omega)) (by rfl) (pa_cons (pv 1) (pa_cons pe_int pa_nil))) (fun _ _ => rfl)))
      case r5 =>
      refine' pss_cons ?s6 ?r6
      case s6 => exact (ps_set (i := 5) scLaw.nd rfl (Or.inl rfl) (pe_callC c_law_sound_fact (hr.mono (by omega)) (by rfl) (by exact pa_cons (pv 1) (by exact pa_cons (pe_callC c_law_slip (hr.mono (by omega)) (by rfl) (pa_cons (pv 1) pa_nil)) pa_nil))))
      case r6 =>
      refine' pss_cut ?s7 ?r7
      case s7 => exact (ps_if (pt_cmpR op_eq (pe_callC c_law_take (hr.mono (by omega)) (by rfl) (pa_cons (pv 1) (pa_cons pe_int pa_nil))) pe_int (nomark _)) (pss_one (by exact (ps_set (i := 5) scLaw.nd rfl (Or.inl rfl) (pe_callC c_law_loose_fact (hr.mono (by omega)) (by rfl) (pa_cons (pv 1) (pa_cons pe_bl pa_nil)))))) pss_nil)
      case r7 =>
      refine' pss_cons ?s8 ?r8
      case s8 => exact (ps_set (i := 6) scLaw.nd rfl (Or.inl rfl) (pe_callC c_law_written (hr.mono (by omega)) (by rfl) (pa_cons (pv 5) pa_nil)))
      case r8 =>
      refine' pss_cut ?s9 ?r9
      case s9 => exact (ps_if (pt_cmpR op_eq (pv 3) pe_int (nomark _)) (pss_one (by exact (ps_set (i := 6) scLaw.nd rfl (Or.inl rfl) (pe_ix (ixL (K := K) rfl) (pv 2) (pe_callC c_law_take (hr.mono (by omega)) (by rfl) (by exact pa_cons (pv 1) (by exact pa_cons (pe_callB (cLen (K := K) rfl) (by rfl) T.z_len bb_len (pa_cons (pv 2) pa_nil)) pa_nil))) (fun _ _ => rfl))))) pss_nil)
      case r9 =>
      refine' pss_cons ?s10 ?r10
      case s10 => exact (ps_for PassesOwn.never rfl (pi_range1 (by rfl) T.z_range (pa_cons (pv 4) pa_nil)) (pg_name (i := 7) scLaw.nd rfl (Or.inl rfl)) (pss_one (by exact (ps_set (i := 6) scLaw.nd rfl (Or.inl rfl) (pe_callC c_law_bent_text (hr.mono (by omega)) (by rfl) (pa_cons (pv 1) (pa_cons (pv 6) pa_nil)))))))
      case r10 =>
      exact pss_one (ps_ret (pe_callC c_law_same (hr.mono (by omega)) (by rfl) (by exact pa_cons (pe_callC c_law_told (hr.mono (by omega)) (by rfl) (pa_cons (pv 6) pa_nil)) (by exact pa_cons (pe_callC c_law_read (hr.mono (by omega)) (by rfl) (pa_cons (mSplit (K := K) rfl (pv 6) (pa_cons pe_str pa_nil)) pa_nil)) pa_nil))))
    simp only [tCq]
    repeat walk_at "s"
    refine ⟨a, ns, rfl, hS, hl, fun d c0 H1 s1 hd hc hD1 => ?_⟩
    repeat walk_at "s"
    refine ⟨by show 10 ≤ sizeLine; decide, fun o1 ho1 => ?_⟩
    show gName 2 _ _ (upd H1 o1 (.lst (odd1.map V.str))) _
    have t1 := same_upd (o := .lst (odd1.map V.str)) ho1
    have g1 : upd H1 o1 (.lst (odd1.map V.str)) o1 = some (.lst (odd1.map V.str)) := upd_same
    generalize upd H1 o1 (.lst (odd1.map V.str)) = H2 at t1 g1 ⊢
    have hD2 := hD1.same t1
    repeat walk_at "s"
    refine ⟨by show 10 ≤ sizeLine; decide, fun o2 ho2 => ?_⟩
    show rCat _ _ (upd H2 o2 (.lst (odd2.map V.str))) _
    have t2 := same_upd (o := .lst (odd2.map V.str)) ho2
    have g2 : upd H2 o2 (.lst (odd2.map V.str)) o2 = some (.lst (odd2.map V.str)) := upd_same
    generalize upd H2 o2 (.lst (odd2.map V.str)) = H3 at t2 g2 ⊢
    have hD3 := hD2.same t2
    refine i_cat (t2 _ _ g1) g2 (by decide) fun o3 ho3 => ?_
    rw [← List.map_append]
    have t3 := same_upd (o := .lst ((odd1 ++ odd2).map V.str)) ho3
    have g3 : upd H3 o3 (.lst ((odd1 ++ odd2).map V.str)) o3 = some (.lst ((odd1 ++ odd2).map V.str)) := upd_same
    generalize upd H3 o3 (.lst ((odd1 ++ odd2).map V.str)) = H4 at t3 g3 ⊢
    have hD4 := hD3.same t3
    repeat walk_at "s"
    refine ⟨by show 6 ≤ sizeLine; decide, fun o4 ho4 => ?_⟩
    show rCat _ _ (upd H4 o4 (.lst (odd3.map V.str))) _
    have t4 := same_upd (o := .lst (odd3.map V.str)) ho4
    have g4 : upd H4 o4 (.lst (odd3.map V.str)) o4 = some (.lst (odd3.map V.str)) := upd_same
    generalize upd H4 o4 (.lst (odd3.map V.str)) = H5 at t4 g4 ⊢
    have hD5 := hD4.same t4
    refine i_cat (t4 _ _ g3) g4 (by decide) fun o5 ho5 => ?_
    rw [← List.map_append]
    show gName 2 _ _ (upd H5 o5 (.lst (odds.map V.str))) _
    have t5 := same_upd (o := .lst (odds.map V.str)) ho5
    have g5 : upd H5 o5 (.lst (odds.map V.str)) o5 = some (.lst (odds.map V.str)) := upd_same
    have no5 : o5 ≠ d := by
      obtain ⟨⟨o, ho⟩, _⟩ := hD5.is
      exact Ne.symm (ne_of_none ho ho5)
    generalize upd H5 o5 (.lst (odds.map V.str)) = H6 at t5 g5 ⊢
    have hD6 := hD5.same t5
    clear g1 g2 g3 g4 t1 t2 t3 t4 t5 hD1 hD2 hD3 hD4 hD5 s1
    repeat walk_at "s"
    refine ⟨d, c0, 8, rfl, hD6, by decide, by decide, fun way H7 _ _ hD7 b7 => ?_⟩
    have g7 := b7 _ _ no5 g5
    repeat walk_at "s"
    refine ⟨by show 6 ≤ sizeLine; decide, fun u hu => ?_⟩
    have t8 := same_upd (o := .tup [.int 0, .int 1, .int 1, .int 1, .int 2, .int 1]) hu
    have u8 : upd H7 u (.tup [.int 0, .int 1, .int 1, .int 1, .int 2, .int 1]) u = some (.tup [.int 0, .int 1, .int 1, .int 1, .int 2, .int 1]) := upd_same
    generalize upd H7 u (.tup [.int 0, .int 1, .int 1, .int 1, .int 2, .int 1]) = H8 at t8 u8 ⊢
    have hD8 := hD7.same t8
    have g8 := t8 _ _ g7
    repeat walk_at "s"
    refine ⟨d, c0, 6, rfl, hD8, by decide, by decide, fun r H9 r0 r1 hD9 b9 => ?_⟩
    obtain ⟨bn, eb, bn2⟩ := bend_at r0 r1
    refine i_ixT (SqT.of (b9 _ _ (hD8.ne_tup u8) u8)) eb ?_
    have g9 := b9 _ _ no5 g8
    repeat walk_at "s"
    refine ⟨d, c0, rfl, hD9, fun slip HA sl1 sl2 hDA bA => ?_⟩
    have gA := bA _ _ no5 g9
    repeat walk_at "s"
    refine ⟨d, c0, slip, rfl, hDA, sl1, sl2, fun p HB hDB bB hF => ?_⟩
    have gB := bB _ _ no5 gA
    repeat walk_at "s"
    refine ⟨fun σ' H' => ∃ p : Addr, σ' = [some (.ref a), some (.ref d), some (.ref o5), some (.int way), some (.int bn), some (.ref p), none, none] ∧ DrawC H' d c0 ∧ H' o5 = some (.lst (odds.map V.str)) ∧ FactN H' p, ?_, ?_⟩
    · repeat walk_at "s"
      refine ⟨d, c0, 3, rfl, hDB, by decide, by decide, fun c HC _ _ hDC bC => ?_⟩
      have gC := bC _ _ no5 gB
      repeat walk_at "s"
      refine ite2 (fun _ => ?_) (fun _ => ?_)
      · repeat walk_at "s"
        refine ⟨d, c0, rfl, hDC, fun p2 HD hDD bD hF2 => ?_⟩
        repeat walk_at "s"
        exact ⟨p2, rfl, hDD, bD _ _ no5 gC, hF2⟩
      · repeat walk_at "s"
        exact ⟨p, rfl, hDC, gC, hF.but bC hDB⟩
    · rintro σ' HC ⟨p, rfl, hDC, gC, G, ok, hG⟩
      repeat walk_at "s"
      refine ⟨p, G, rfl, ok, hG, fun cs HD sD lc mc => ?_⟩
      have hDD := hDC.same sD
      have gD := sD _ _ gC
      repeat walk_at "s"
      refine ⟨fun σ' H' => ∃ cs : List Nat, σ' = [some (.ref a), some (.ref d), some (.ref o5), some (.int way), some (.int bn), some (.ref p), some (.str (tx cs)), none] ∧ DrawC H' d c0 ∧ cs.length ≤ 580 ∧ ∀ c ∈ cs, c ∈ signsOk, ?_, ?_⟩
      · repeat walk_at "s"
        refine ite2 (fun _ => ?_) (fun _ => ?_)
        · repeat walk_at "s"
          rw [List.length_map]
          refine ⟨d, c0, _, rfl, hDD, by decide, by decide, fun n HE n0 n1 hDE bE => ?_⟩
          obtain ⟨n', rfl⟩ : ∃ m : Nat, n = m := ⟨n.toNat, by omega⟩
          have hn : n' < odds.length := by omega
          obtain ⟨o1, o2⟩ := odds_ok _ (List.getElem_mem hn)
          refine i_ixL (SqL.of (bE _ _ no5 gD)) (v := .str odds[n']) (atI_nat (by rw [List.getElem?_map, List.getElem?_eq_getElem hn]; rfl)) ?_
          repeat walk_at "s"
          exact ⟨odds[n'].cps.toList, by rw [tx_toList]; rfl, hDE, by rw [Array.length_toList]; exact Nat.le_trans o1 (by decide), o2⟩
        · repeat walk_at "s"
          exact ⟨cs, rfl, hDD, lc, mc⟩
      · rintro σ' HE ⟨cs, rfl, hDE, lc, mc⟩
        repeat walk_at "s"
        refine ⟨_, rfl, by omega, by omega, ?_⟩
        rw [Int.toNat_natCast]
        refine forW (fun i σ' H' => ∃ (cs : List Nat) (x : Option V), σ' = [some (.ref a), some (.ref d), some (.ref o5), some (.int way), some (.int bn), some (.ref p), some (.str (tx cs)), x] ∧ DrawC H' d c0 ∧ cs.length ≤ 580 + 3 * i ∧ ∀ c ∈ cs, c ∈ signsOk) bn ⟨cs, none, rfl, hDE, by omega, mc⟩ ?_ ?_
        · rintro σ' HF ⟨cs, x, rfl, hDF, lc, mc⟩
          refine ⟨Nat.le_refl _, ?_⟩
          have lc6 : cs.length ≤ 600 := by omega
          obtain ⟨wl, wt⟩ := split_ok lc6 mc
          have wne := split_ne (tx cs)
          repeat walk_at "s"
          have rest : ∀ (v : V) (HG : Hp) (D : Dt), Rep HG v D → D.depth ≤ 3 → D.wide ≤ 1000 → (∀ l HH, Same HG HH → HH l = some (.lst ((Txt.split (tx cs) blank).map V.str)) → ∀ (R : VK), (∀ u H', Same HH H' → Rep H' u D → R u H') → spLRead [.ref l] HH R E0) →
              (tCons (tCall spLRead [] E0 (tCons (tBM K "str" rSplit (tVar 6) (tCons (tC (V.str " ")) tNil)) tNil)) tNil) [some (.ref a), some (.ref d), some (.ref o5), some (.int way), some (.int bn), some (.ref p), some (.str (tx cs)), x] HG fun xs H2 => spS 4 (v :: xs ++ []) H2 Q E0 := by
            intro v HG D rv dd dw rd
            repeat walk_at "s"
            refine ⟨rfl, ?_⟩
            repeat walk_at "s"
            refine i_split (by decide +kernel) (by rw [tx_len]; omega) fun l hl => ?_
            rw [show Txt.split (tx cs) (Str.ofString " ") = Txt.split (tx cs) blank from rfl]
            have t1 := same_upd (o := .lst ((Txt.split (tx cs) blank).map V.str)) hl
            repeat walk_at "s"
            refine rd l _ t1 upd_same _ fun u H' s' ru => ?_
            repeat walk_at "s"
            exact ⟨v, u, D, rfl, rv.mono (t1.trans s'), ru, dd, dw, fun H3 _ => k H3⟩
          cases hr2 : rdF (Txt.split (tx cs) blank) with
          | some G2 =>
            obtain ⟨dd, dw⟩ := rdF_dep wl wt hr2
            refine ⟨cs, rfl, lc6, mc, fun G3 h3 q HG sG hq => ?_, fun hn => by rw [hr2] at hn; cases hn⟩
            rw [hr2] at h3
            cases h3
            exact rest _ HG G2.dt hq.rep dd dw fun l HH sH hl R kR => ⟨l, _, rfl, hl, wne, wl, wt, fun G4 h4 q4 H4 s4 hq4 => by
              rw [hr2] at h4
              cases h4
              exact kR _ _ s4 hq4.rep, fun hn => by rw [hr2] at hn; cases hn⟩
          | none =>
            refine ⟨cs, rfl, lc6, mc, fun G3 h3 => (by rw [hr2] at h3; cases h3), fun _ HG sG => ?_⟩
            exact rest _ HG .non .non (Nat.zero_le _) (Nat.zero_le _) fun l HH sH hl R kR => ⟨l, _, rfl, hl, wne, wl, wt, fun G4 h4 => (by rw [hr2] at h4; cases h4), fun _ H4 s4 => kR _ _ s4 .non⟩
        · rintro i σ' HF hi ⟨cs, x, rfl, hDF, lc, mc⟩
          refine ⟨hi, ?_⟩
          rintro x' HG ⟨rfl, rfl⟩
          repeat walk_at "s"
          refine ⟨d, c0, cs, rfl, hDF, by omega, mc, fun ds HH hDH bH ld md => ?_⟩
          repeat walk_at "s"
          exact ⟨ds, _, rfl, hDH, by omega, md⟩
end
end K10

namespace K10
open PySem L2
theorem len_1 {fd : FuncData} {ps : List Str} (h : ∀ a0, bindArgs fd { pos := [a0] } = pure (ps.zip [a0])) : ∀ us : List Value, us.length = 1 → bindArgs fd { pos := us } = pure (ps.zip us)
  | [a0], _ => h a0
theorem len_2 {fd : FuncData} {ps : List Str} (h : ∀ a0 a1, bindArgs fd { pos := [a0, a1] } = pure (ps.zip [a0, a1])) : ∀ us : List Value, us.length = 2 → bindArgs fd { pos := us } = pure (ps.zip us)
  | [a0, a1], _ => h a0 a1
theorem len_3 {fd : FuncData} {ps : List Str} (h : ∀ a0 a1 a2, bindArgs fd { pos := [a0, a1, a2] } = pure (ps.zip [a0, a1, a2])) : ∀ us : List Value, us.length = 3 → bindArgs fd { pos := us } = pure (ps.zip us)
  | [a0, a1, a2], _ => h a0 a1 a2
theorem all_mk {l : PySem.W.OpenLaw} {w : World} {K : PySem.W.Frag} {h : Heap} {mg : Str → Option Value} {fa f0 f1 f2 f3 f4 f5 f6 f7 f8 f9 f10 f11 f12 f13 f14 f15 f16 f17 f18 f19 f20 f21 f22 f23 : Addr} (X : K.In h) (G : h.Ns mainGlobals mg) (hfa : mg "law" = some (.ref fa))
    {od0 an0 od1 an1 od2 an2 od3 an3 od4 an4 od5 an5 od6 an6 od7 an7 od8 an8 od9 an9 od10 an10 od11 an11 od12 an12 od13 an13 od14 an14 od15 an15 od16 an16 od17 an17 od18 an18 od19 an19 od20 an20 od21 an21 od22 an22 od23 an23 : Option Addr} {sl0 sl1 sl2 sl3 sl4 sl5 sl6 sl7 sl8 sl9 sl10 sl11 sl12 sl13 sl14 sl15 sl16 sl17 sl18 sl19 sl20 sl21 sl22 sl23 : Array (Option Value)} {oc0 kV0 dc0 pm0 cd0 ct0 oc1 kV1 dc1 pm1 cd1 ct1 oc2 kV2 dc2 pm2 cd2 ct2 oc3 kV3 dc3 pm3 cd3 ct3 oc4 kV4 dc4 pm4 cd4 ct4 oc5 kV5 dc5 pm5 cd5 ct5 oc6 kV6 dc6 pm6 cd6 ct6 oc7 kV7 dc7 pm7 cd7 ct7 oc8 kV8 dc8 pm8 cd8 ct8 oc9 kV9 dc9 pm9 cd9 ct9 oc10 kV10 dc10 pm10 cd10 ct10 oc11 kV11 dc11 pm11 cd11 ct11 oc12 kV12 dc12 pm12 cd12 ct12 oc13 kV13 dc13 pm13 cd13 ct13 oc14 kV14 dc14 pm14 cd14 ct14 oc15 kV15 dc15 pm15 cd15 ct15 oc16 kV16 dc16 pm16 cd16 ct16 oc17 kV17 dc17 pm17 cd17 ct17 oc18 kV18 dc18 pm18 cd18 ct18 oc19 kV19 dc19 pm19 cd19 ct19 oc20 kV20 dc20 pm20 cd20 ct20 oc21 kV21 dc21 pm21 cd21 ct21 oc22 kV22 dc22 pm22 cd22 ct22 oc23 kV23 dc23 pm23 cd23 ct23 : Value}
    (a0 : PySem.W.nsIn K mainGlobals "number" = some (some (.ref f0))) (l0 : K.lookup f0 = some ⟨oc0, od0, .func (PySem.W.fnOf "number" "number" (defArgs sNumber) (defBody sNumber) (defScope sNumber) .none kV0 dc0 pm0 an0 cd0 ct0), sl0⟩) (c0 : PySem.W.codeIn K cd0 "number" = true) (k0 : PySem.W.keepIn K (.ref f0) = true)
    (a1 : PySem.W.nsIn K mainGlobals "read_numbers" = some (some (.ref f1))) (l1 : K.lookup f1 = some ⟨oc1, od1, .func (PySem.W.fnOf "read_numbers" "read_numbers" (defArgs sReadNumbers) (defBody sReadNumbers) (defScope sReadNumbers) .none kV1 dc1 pm1 an1 cd1 ct1), sl1⟩) (c1 : PySem.W.codeIn K cd1 "read_numbers" = true) (k1 : PySem.W.keepIn K (.ref f1) = true)
    (a2 : PySem.W.nsIn K mainGlobals "parted_at_strokes" = some (some (.ref f2))) (l2 : K.lookup f2 = some ⟨oc2, od2, .func (PySem.W.fnOf "parted_at_strokes" "parted_at_strokes" (defArgs sPartedAtStrokes) (defBody sPartedAtStrokes) (defScope sPartedAtStrokes) .none kV2 dc2 pm2 an2 cd2 ct2), sl2⟩) (c2 : PySem.W.codeIn K cd2 "parted_at_strokes" = true) (k2 : PySem.W.keepIn K (.ref f2) = true)
    (a3 : PySem.W.nsIn K mainGlobals "read_refit" = some (some (.ref f3))) (l3 : K.lookup f3 = some ⟨oc3, od3, .func (PySem.W.fnOf "read_refit" "read_refit" (defArgs sReadRefit) (defBody sReadRefit) (defScope sReadRefit) .none kV3 dc3 pm3 an3 cd3 ct3), sl3⟩) (c3 : PySem.W.codeIn K cd3 "read_refit" = true) (k3 : PySem.W.keepIn K (.ref f3) = true)
    (a4 : PySem.W.nsIn K mainGlobals "read_fact" = some (some (.ref f4))) (l4 : K.lookup f4 = some ⟨oc4, od4, .func (PySem.W.fnOf "read_fact" "read_fact" (defArgs sReadFact) (defBody sReadFact) (defScope sReadFact) .none kV4 dc4 pm4 an4 cd4 ct4), sl4⟩) (c4 : PySem.W.codeIn K cd4 "read_fact" = true) (k4 : PySem.W.keepIn K (.ref f4) = true)
    (a5 : PySem.W.nsIn K mainGlobals "_law_begin" = some (some (.ref f5))) (l5 : K.lookup f5 = some ⟨oc5, od5, .func (PySem.W.fnOf "_law_begin" "_law_begin" (defArgs sLawBegin) (defBody sLawBegin) (defScope sLawBegin) .none kV5 dc5 pm5 an5 cd5 ct5), sl5⟩) (c5 : PySem.W.codeIn K cd5 "_law_begin" = true) (k5 : PySem.W.keepIn K (.ref f5) = true)
    (a6 : PySem.W.nsIn K mainGlobals "_law_take" = some (some (.ref f6))) (l6 : K.lookup f6 = some ⟨oc6, od6, .func (PySem.W.fnOf "_law_take" "_law_take" (defArgs sLawTake) (defBody sLawTake) (defScope sLawTake) .none kV6 dc6 pm6 an6 cd6 ct6), sl6⟩) (c6 : PySem.W.codeIn K cd6 "_law_take" = true) (k6 : PySem.W.keepIn K (.ref f6) = true)
    (a7 : PySem.W.nsIn K mainGlobals "_law_same" = some (some (.ref f7))) (l7 : K.lookup f7 = some ⟨oc7, od7, .func (PySem.W.fnOf "_law_same" "_law_same" (defArgs sLawSame) (defBody sLawSame) (defScope sLawSame) .none kV7 dc7 pm7 an7 cd7 ct7), sl7⟩) (c7 : PySem.W.codeIn K cd7 "_law_same" = true) (k7 : PySem.W.keepIn K (.ref f7) = true)
    (a8 : PySem.W.nsIn K mainGlobals "_law_set" = some (some (.ref f8))) (l8 : K.lookup f8 = some ⟨oc8, od8, .func (PySem.W.fnOf "_law_set" "_law_set" (defArgs sLawSet) (defBody sLawSet) (defScope sLawSet) .none kV8 dc8 pm8 an8 cd8 ct8), sl8⟩) (c8 : PySem.W.codeIn K cd8 "_law_set" = true) (k8 : PySem.W.keepIn K (.ref f8) = true)
    (a9 : PySem.W.nsIn K mainGlobals "_law_some" = some (some (.ref f9))) (l9 : K.lookup f9 = some ⟨oc9, od9, .func (PySem.W.fnOf "_law_some" "_law_some" (defArgs sLawSome) (defBody sLawSome) (defScope sLawSome) .none kV9 dc9 pm9 an9 cd9 ct9), sl9⟩) (c9 : PySem.W.codeIn K cd9 "_law_some" = true) (k9 : PySem.W.keepIn K (.ref f9) = true)
    (a10 : PySem.W.nsIn K mainGlobals "_law_slip" = some (some (.ref f10))) (l10 : K.lookup f10 = some ⟨oc10, od10, .func (PySem.W.fnOf "_law_slip" "_law_slip" (defArgs sLawSlip) (defBody sLawSlip) (defScope sLawSlip) .none kV10 dc10 pm10 an10 cd10 ct10), sl10⟩) (c10 : PySem.W.codeIn K cd10 "_law_slip" = true) (k10 : PySem.W.keepIn K (.ref f10) = true)
    (a11 : PySem.W.nsIn K mainGlobals "_law_any_timbers" = some (some (.ref f11))) (l11 : K.lookup f11 = some ⟨oc11, od11, .func (PySem.W.fnOf "_law_any_timbers" "_law_any_timbers" (defArgs sLawAnyTimbers) (defBody sLawAnyTimbers) (defScope sLawAnyTimbers) .none kV11 dc11 pm11 an11 cd11 ct11), sl11⟩) (c11 : PySem.W.codeIn K cd11 "_law_any_timbers" = true) (k11 : PySem.W.keepIn K (.ref f11) = true)
    (a12 : PySem.W.nsIn K mainGlobals "_law_sound_refit" = some (some (.ref f12))) (l12 : K.lookup f12 = some ⟨oc12, od12, .func (PySem.W.fnOf "_law_sound_refit" "_law_sound_refit" (defArgs sLawSoundRefit) (defBody sLawSoundRefit) (defScope sLawSoundRefit) .none kV12 dc12 pm12 an12 cd12 ct12), sl12⟩) (c12 : PySem.W.codeIn K cd12 "_law_sound_refit" = true) (k12 : PySem.W.keepIn K (.ref f12) = true)
    (a13 : PySem.W.nsIn K mainGlobals "_law_sound_fact" = some (some (.ref f13))) (l13 : K.lookup f13 = some ⟨oc13, od13, .func (PySem.W.fnOf "_law_sound_fact" "_law_sound_fact" (defArgs sLawSoundFact) (defBody sLawSoundFact) (defScope sLawSoundFact) .none kV13 dc13 pm13 an13 cd13 ct13), sl13⟩) (c13 : PySem.W.codeIn K cd13 "_law_sound_fact" = true) (k13 : PySem.W.keepIn K (.ref f13) = true)
    (a14 : PySem.W.nsIn K mainGlobals "_law_number" = some (some (.ref f14))) (l14 : K.lookup f14 = some ⟨oc14, od14, .func (PySem.W.fnOf "_law_number" "_law_number" (defArgs sLawNumber) (defBody sLawNumber) (defScope sLawNumber) .none kV14 dc14 pm14 an14 cd14 ct14), sl14⟩) (c14 : PySem.W.codeIn K cd14 "_law_number" = true) (k14 : PySem.W.keepIn K (.ref f14) = true)
    (a15 : PySem.W.nsIn K mainGlobals "_law_numbers" = some (some (.ref f15))) (l15 : K.lookup f15 = some ⟨oc15, od15, .func (PySem.W.fnOf "_law_numbers" "_law_numbers" (defArgs sLawNumbers) (defBody sLawNumbers) (defScope sLawNumbers) .none kV15 dc15 pm15 an15 cd15 ct15), sl15⟩) (c15 : PySem.W.codeIn K cd15 "_law_numbers" = true) (k15 : PySem.W.keepIn K (.ref f15) = true)
    (a16 : PySem.W.nsIn K mainGlobals "_law_written" = some (some (.ref f16))) (l16 : K.lookup f16 = some ⟨oc16, od16, .func (PySem.W.fnOf "_law_written" "_law_written" (defArgs sLawWritten) (defBody sLawWritten) (defScope sLawWritten) .none kV16 dc16 pm16 an16 cd16 ct16), sl16⟩) (c16 : PySem.W.codeIn K cd16 "_law_written" = true) (k16 : PySem.W.keepIn K (.ref f16) = true)
    (a17 : PySem.W.nsIn K mainGlobals "_law_read_refit" = some (some (.ref f17))) (l17 : K.lookup f17 = some ⟨oc17, od17, .func (PySem.W.fnOf "_law_read_refit" "_law_read_refit" (defArgs sLawReadRefit) (defBody sLawReadRefit) (defScope sLawReadRefit) .none kV17 dc17 pm17 an17 cd17 ct17), sl17⟩) (c17 : PySem.W.codeIn K cd17 "_law_read_refit" = true) (k17 : PySem.W.keepIn K (.ref f17) = true)
    (a18 : PySem.W.nsIn K mainGlobals "_law_read" = some (some (.ref f18))) (l18 : K.lookup f18 = some ⟨oc18, od18, .func (PySem.W.fnOf "_law_read" "_law_read" (defArgs sLawRead) (defBody sLawRead) (defScope sLawRead) .none kV18 dc18 pm18 an18 cd18 ct18), sl18⟩) (c18 : PySem.W.codeIn K cd18 "_law_read" = true) (k18 : PySem.W.keepIn K (.ref f18) = true)
    (a19 : PySem.W.nsIn K mainGlobals "_law_any_number" = some (some (.ref f19))) (l19 : K.lookup f19 = some ⟨oc19, od19, .func (PySem.W.fnOf "_law_any_number" "_law_any_number" (defArgs sLawAnyNumber) (defBody sLawAnyNumber) (defScope sLawAnyNumber) .none kV19 dc19 pm19 an19 cd19 ct19), sl19⟩) (c19 : PySem.W.codeIn K cd19 "_law_any_number" = true) (k19 : PySem.W.keepIn K (.ref f19) = true)
    (a20 : PySem.W.nsIn K mainGlobals "_law_loose_fact" = some (some (.ref f20))) (l20 : K.lookup f20 = some ⟨oc20, od20, .func (PySem.W.fnOf "_law_loose_fact" "_law_loose_fact" (defArgs sLawLooseFact) (defBody sLawLooseFact) (defScope sLawLooseFact) .none kV20 dc20 pm20 an20 cd20 ct20), sl20⟩) (c20 : PySem.W.codeIn K cd20 "_law_loose_fact" = true) (k20 : PySem.W.keepIn K (.ref f20) = true)
    (a21 : PySem.W.nsIn K mainGlobals "_law_bent_text" = some (some (.ref f21))) (l21 : K.lookup f21 = some ⟨oc21, od21, .func (PySem.W.fnOf "_law_bent_text" "_law_bent_text" (defArgs sLawBentText) (defBody sLawBentText) (defScope sLawBentText) .none kV21 dc21 pm21 an21 cd21 ct21), sl21⟩) (c21 : PySem.W.codeIn K cd21 "_law_bent_text" = true) (k21 : PySem.W.keepIn K (.ref f21) = true)
    (a22 : PySem.W.nsIn K mainGlobals "_law_told" = some (some (.ref f22))) (l22 : K.lookup f22 = some ⟨oc22, od22, .func (PySem.W.fnOf "_law_told" "_law_told" (defArgs sLawTold) (defBody sLawTold) (defScope sLawTold) .none kV22 dc22 pm22 an22 cd22 ct22), sl22⟩) (c22 : PySem.W.codeIn K cd22 "_law_told" = true) (k22 : PySem.W.keepIn K (.ref f22) = true)
    (a23 : PySem.W.nsIn K mainGlobals "law" = some (some (.ref f23))) (l23 : K.lookup f23 = some ⟨oc23, od23, .func (PySem.W.fnOf "law" "law" (defArgs sLaw) (defBody sLaw) (defScope sLaw) .none kV23 dc23 pm23 an23 cd23 ct23), sl23⟩) (c23 : PySem.W.codeIn K cd23 "law" = true) (k23 : PySem.W.keepIn K (.ref f23) = true)
    {gt0 : Tok} (g0 : PySem.W.nsIn K mainGlobals "FIGURES" = some (some (.str (Str.ofString "0123456789") gt0)))
    {cArgosyError : Addr} (xcl0 : PySem.W.nsIn K mainGlobals "ArgosyError" = some (some (.ref cArgosyError)))
    {cBadNumber : Addr} (xcl1 : PySem.W.nsIn K mainGlobals "BadNumber" = some (some (.ref cBadNumber)))
    {cBadFact : Addr} (xcl2 : PySem.W.nsIn K mainGlobals "BadFact" = some (some (.ref cBadFact)))
    {cBadText : Addr} (xcl3 : PySem.W.nsIn K mainGlobals "BadText" = some (some (.ref cBadText)))
    {cMANY : Addr} (xcl4 : PySem.W.nsIn K mainGlobals "MANY" = some (some (.ref cMANY)))
    (fct0 : (PySem.W.excIn K cBadText bmV "ValueError.__new__" = true))
    (fct1 : (PySem.W.findIn K (.ref cBadText) "__getattribute__" = some (some (.builtin "BaseException.__getattribute__"))))
    (fct2 : (PySem.W.findIn K (.ref cBadText) "__getattr__" = some none))
    (fct3 : (PySem.W.subIn K (.ref cBadText) (.type "BaseException") = some true))
    (fct4 : (PySem.W.findIn K (.ref cBadText) "__class__" = some (some (.builtin "object.__class__"))))
    (fct5 : (PySem.W.specialIn K (.builtin "object.__class__") "__get__" = some (some (.builtin "getset_descriptor.__get__"))))
    (fct6 : (PySem.W.takesIn K (.builtin "object.__class__") = some true))
    (fct7 : (PySem.W.mroIn K cBadText (.type "object") = some true))
    (fct8 : (PySem.W.isClsIn K cBadText = true))
    (fct9 : (PySem.W.subIn K (.ref cBadText) (.ref cBadText) = some true))
    (fct10 : (PySem.W.subIn K (.ref cBadText) (.type "BaseException") = some true))
    (fct11 : (PySem.W.isClsIn K cBadText = true))
    (fct12 : (PySem.W.typeIn K (.ref cBadText) = some (.type "type")))
    (fct13 : (cBadText ≠ cArgosyError))
    (fct14 : (PySem.W.isClsIn K cArgosyError = true))
    (fct15 : (PySem.W.typeIn K (.ref cArgosyError) = some (.type "type")))
    (fct16 : (PySem.W.subIn K (.ref cBadText) (.ref cArgosyError) = some true))
    (fct17 : (cBadText ≠ cBadNumber))
    (fct18 : (PySem.W.isClsIn K cBadNumber = true))
    (fct19 : (PySem.W.typeIn K (.ref cBadNumber) = some (.type "type")))
    (fct20 : (PySem.W.subIn K (.ref cBadText) (.ref cBadNumber) = some false))
    (fct21 : (cBadText ≠ cBadFact))
    (fct22 : (PySem.W.isClsIn K cBadFact = true))
    (fct23 : (PySem.W.typeIn K (.ref cBadFact) = some (.type "type")))
    (fct24 : (PySem.W.subIn K (.ref cBadText) (.ref cBadFact) = some false))
    (fct25 : (TabI K cMANY tabM))
    (z0 : PySem.W.nsIn K mainGlobals "len" = some none) (z1 : PySem.W.nsIn K mainGlobals "abs" = some none) (z2 : PySem.W.nsIn K mainGlobals "all" = some none) (z3 : PySem.W.nsIn K mainGlobals "isinstance" = some none) (z4 : PySem.W.nsIn K mainGlobals "zip" = some none) (z5 : PySem.W.nsIn K mainGlobals "list" = some none) (z6 : PySem.W.nsIn K mainGlobals "tuple" = some none) (z7 : PySem.W.nsIn K mainGlobals "bool" = some none) (z8 : PySem.W.nsIn K mainGlobals "int" = some none) (z9 : PySem.W.nsIn K mainGlobals "str" = some none) (z10 : PySem.W.nsIn K mainGlobals "range" = some none) (z11 : PySem.W.nsIn K mainGlobals "sorted" = some none) (z12 : PySem.W.nsIn K mainGlobals "set" = some none) (z13 : PySem.W.nsIn K mainGlobals "min" = some none) (z14 : PySem.W.nsIn K mainGlobals "max" = some none) (z15 : PySem.W.nsIn K mainGlobals "sum" = some none) (z16 : PySem.W.nsIn K mainGlobals "enumerate" = some none) (z17 : PySem.W.nsIn K mainGlobals "any" = some none) :
    ∃ fd : FuncData, (∀ (s : Shared) (v : Value), BindsTo s fd ⟨[v], []⟩ [("_law_script", v)]) ∧ ∀ base : Heap, K.In base → base.Ns mainGlobals mg → FnOk l.prog w K mg base CX0 6 fa fd ["_law_script"] (spLaw K) := by
  have e := hfa.symm.trans (PySem.W.mg_of X G a23)
  cases e
  have T : BltM mg := { toBlt := ⟨PySem.W.mg_none_of X G z0, PySem.W.mg_none_of X G z1, PySem.W.mg_none_of X G z2, PySem.W.mg_none_of X G z3, PySem.W.mg_none_of X G z4, PySem.W.mg_none_of X G z5, PySem.W.mg_none_of X G z6, PySem.W.mg_none_of X G z7, PySem.W.mg_none_of X G z8, PySem.W.mg_none_of X G z9, PySem.W.mg_none_of X G z10, PySem.W.mg_none_of X G z11, PySem.W.mg_none_of X G z12⟩, z_min := PySem.W.mg_none_of X G z13, z_max := PySem.W.mg_none_of X G z14, z_sum := PySem.W.mg_none_of X G z15, z_enumerate := PySem.W.mg_none_of X G z16 }
  have hz_any := PySem.W.mg_none_of X G z17
  have C0 := PySem.W.mg_of X G g0
  have xBadText : ExcC K mg "BadText" cBadText := ⟨PySem.W.mg_of X G xcl3, fct0⟩
  have hArgosyError := PySem.W.mg_of X G xcl0
  have hBadNumber := PySem.W.mg_of X G xcl1
  have hBadFact := PySem.W.mg_of X G xcl2
  have hBadText := PySem.W.mg_of X G xcl3
  have hMANY := PySem.W.mg_of X G xcl4
  have ekBadText : ExcK K cBadText := ⟨fct1, fct2, fct3, fct4, fct5, fct6, fct7, fct8⟩
  have ctBadTextBadText : Catches K cBadText cBadText := ⟨fct9, fct10, fct11, fct12⟩
  have ktBadTextArgosyError := kit_of fct13 fct14 fct15 fct16
  have ktBadTextBadNumber := kit_of fct17 fct18 fct19 fct20
  have ktBadTextBadFact := kit_of fct21 fct22 fct23 fct24
  have tM := fct25
  have F0 := fun_mk (st := sNumber) l0 c0 k0
  have b0 := F0.binds (ps := ["text"]) fun _ _ _ _ _ _ us hl => len_1 (fun _ => rfl) us hl
  have m0 := PySem.W.mg_of X G a0
  have F1 := fun_mk (st := sReadNumbers) l1 c1 k1
  have b1 := F1.binds (ps := ["words"]) fun _ _ _ _ _ _ us hl => len_1 (fun _ => rfl) us hl
  have m1 := PySem.W.mg_of X G a1
  have F2 := fun_mk (st := sPartedAtStrokes) l2 c2 k2
  have b2 := F2.binds (ps := ["words"]) fun _ _ _ _ _ _ us hl => len_1 (fun _ => rfl) us hl
  have m2 := PySem.W.mg_of X G a2
  have F3 := fun_mk (st := sReadRefit) l3 c3 k3
  have b3 := F3.binds (ps := ["words"]) fun _ _ _ _ _ _ us hl => len_1 (fun _ => rfl) us hl
  have m3 := PySem.W.mg_of X G a3
  have F4 := fun_mk (st := sReadFact) l4 c4 k4
  have b4 := F4.binds (ps := ["text"]) fun _ _ _ _ _ _ us hl => len_1 (fun _ => rfl) us hl
  have m4 := PySem.W.mg_of X G a4
  have F5 := fun_mk (st := sLawBegin) l5 c5 k5
  have b5 := F5.binds (ps := ["_law_script"]) fun _ _ _ _ _ _ us hl => len_1 (fun _ => rfl) us hl
  have m5 := PySem.W.mg_of X G a5
  have F6 := fun_mk (st := sLawTake) l6 c6 k6
  have b6 := F6.binds (ps := ["_law_draw", "_law_many"]) fun _ _ _ _ _ _ us hl => len_2 (fun _ _ => rfl) us hl
  have m6 := PySem.W.mg_of X G a6
  have F7 := fun_mk (st := sLawSame) l7 c7 k7
  have b7 := F7.binds (ps := ["_law_found", "_law_due"]) fun _ _ _ _ _ _ us hl => len_2 (fun _ _ => rfl) us hl
  have m7 := PySem.W.mg_of X G a7
  have F8 := fun_mk (st := sLawSet) l8 c8 k8
  have b8 := F8.binds (ps := ["_law_timbers"]) fun _ _ _ _ _ _ us hl => len_1 (fun _ => rfl) us hl
  have m8 := PySem.W.mg_of X G a8
  have F9 := fun_mk (st := sLawSome) l9 c9 k9
  have b9 := F9.binds (ps := ["_law_draw", "_law_pool", "_law_many"]) fun _ _ _ _ _ _ us hl => len_3 (fun _ _ _ => rfl) us hl
  have m9 := PySem.W.mg_of X G a9
  have F10 := fun_mk (st := sLawSlip) l10 c10 k10
  have b10 := F10.binds (ps := ["_law_draw"]) fun _ _ _ _ _ _ us hl => len_1 (fun _ => rfl) us hl
  have m10 := PySem.W.mg_of X G a10
  have F11 := fun_mk (st := sLawAnyTimbers) l11 c11 k11
  have b11 := F11.binds (ps := ["_law_draw", "_law_many"]) fun _ _ _ _ _ _ us hl => len_2 (fun _ _ => rfl) us hl
  have m11 := PySem.W.mg_of X G a11
  have F12 := fun_mk (st := sLawSoundRefit) l12 c12 k12
  have b12 := F12.binds (ps := ["_law_draw", "_law_slip_here"]) fun _ _ _ _ _ _ us hl => len_2 (fun _ _ => rfl) us hl
  have m12 := PySem.W.mg_of X G a12
  have F13 := fun_mk (st := sLawSoundFact) l13 c13 k13
  have b13 := F13.binds (ps := ["_law_draw", "_law_slip_here"]) fun _ _ _ _ _ _ us hl => len_2 (fun _ _ => rfl) us hl
  have m13 := PySem.W.mg_of X G a13
  have F14 := fun_mk (st := sLawNumber) l14 c14 k14
  have b14 := F14.binds (ps := ["_law_word"]) fun _ _ _ _ _ _ us hl => len_1 (fun _ => rfl) us hl
  have m14 := PySem.W.mg_of X G a14
  have F15 := fun_mk (st := sLawNumbers) l15 c15 k15
  have b15 := F15.binds (ps := ["_law_words"]) fun _ _ _ _ _ _ us hl => len_1 (fun _ => rfl) us hl
  have m15 := PySem.W.mg_of X G a15
  have F16 := fun_mk (st := sLawWritten) l16 c16 k16
  have b16 := F16.binds (ps := ["_law_fact"]) fun _ _ _ _ _ _ us hl => len_1 (fun _ => rfl) us hl
  have m16 := PySem.W.mg_of X G a16
  have F17 := fun_mk (st := sLawReadRefit) l17 c17 k17
  have b17 := F17.binds (ps := ["_law_words"]) fun _ _ _ _ _ _ us hl => len_1 (fun _ => rfl) us hl
  have m17 := PySem.W.mg_of X G a17
  have F18 := fun_mk (st := sLawRead) l18 c18 k18
  have b18 := F18.binds (ps := ["_law_words"]) fun _ _ _ _ _ _ us hl => len_1 (fun _ => rfl) us hl
  have m18 := PySem.W.mg_of X G a18
  have F19 := fun_mk (st := sLawAnyNumber) l19 c19 k19
  have b19 := F19.binds (ps := ["_law_draw", "_law_great"]) fun _ _ _ _ _ _ us hl => len_2 (fun _ _ => rfl) us hl
  have m19 := PySem.W.mg_of X G a19
  have F20 := fun_mk (st := sLawLooseFact) l20 c20 k20
  have b20 := F20.binds (ps := ["_law_draw", "_law_great"]) fun _ _ _ _ _ _ us hl => len_2 (fun _ _ => rfl) us hl
  have m20 := PySem.W.mg_of X G a20
  have F21 := fun_mk (st := sLawBentText) l21 c21 k21
  have b21 := F21.binds (ps := ["_law_draw", "_law_text"]) fun _ _ _ _ _ _ us hl => len_2 (fun _ _ => rfl) us hl
  have m21 := PySem.W.mg_of X G a21
  have F22 := fun_mk (st := sLawTold) l22 c22 k22
  have b22 := F22.binds (ps := ["_law_text"]) fun _ _ _ _ _ _ us hl => len_1 (fun _ => rfl) us hl
  have m22 := PySem.W.mg_of X G a22
  have F23 := fun_mk (st := sLaw) l23 c23 k23
  refine ⟨PySem.W.fnOf "law" "law" (defArgs sLaw) (defBody sLaw) (defScope sLaw) .none kV23 dc23 pm23 an23 cd23 ct23, fun s v => .of_eq rfl, fun base _ _ => ?_⟩
  have c_number : Cal l.prog w K mg base "number" 1 ["text"] spNum := ⟨_, _, ok_number F0 T C0, m0, k0, b0⟩
  have c_read_numbers : CalX l.prog w K mg base "read_numbers" 2 ["words"] (spReadN cBadText) := ⟨_, _, ok_readn F1 T xBadText c_number, m1, k1, b1⟩
  have c_parted_at_strokes : Cal l.prog w K mg base "parted_at_strokes" 1 ["words"] spPart := ⟨_, _, ok_part F2 T, m2, k2, b2⟩
  have c_read_refit : CalX l.prog w K mg base "read_refit" 3 ["words"] (spReadR cBadText) := ⟨_, _, ok_readr F3 T xBadText c_read_numbers c_parted_at_strokes, m3, k3, b3⟩
  have c_read_fact : CalX l.prog w K mg base "read_fact" 4 ["text"] (spReadF cBadText) := ⟨_, _, ok_readf F4 T xBadText hMANY tM c_read_numbers c_read_refit, m4, k4, b4⟩
  have c_law_begin : Cal l.prog w K mg base "_law_begin" 1 ["_law_script"] (spBeginC K) := ⟨_, _, ok_begin F5 T.toBlt, m5, k5, b5⟩
  have c_law_take : Cal l.prog w K mg base "_law_take" 1 ["_law_draw", "_law_many"] spTakeC := ⟨_, _, ok_take F6 T.toBlt, m6, k6, b6⟩
  have c_law_same : Cal l.prog w K mg base "_law_same" 4 ["_law_found", "_law_due"] (spS 4) := ⟨_, _, ok_same F7 T.toBlt m7 b7 4, m7, k7, b7⟩
  have c_law_set : Cal l.prog w K mg base "_law_set" 1 ["_law_timbers"] (spRis K) := ⟨_, _, ok_set F8 T, m8, k8, b8⟩
  have c_law_some : Cal l.prog w K mg base "_law_some" 2 ["_law_draw", "_law_pool", "_law_many"] (spSomeC K) := ⟨_, _, ok_some F9 T c_law_take, m9, k9, b9⟩
  have c_law_slip : Cal l.prog w K mg base "_law_slip" 2 ["_law_draw"] spSlip := ⟨_, _, ok_slip F10 T c_law_take, m10, k10, b10⟩
  have c_law_any_timbers : Cal l.prog w K mg base "_law_any_timbers" 3 ["_law_draw", "_law_many"] spAny := ⟨_, _, ok_any F11 T c_law_some, m11, k11, b11⟩
  have c_law_sound_refit : Cal l.prog w K mg base "_law_sound_refit" 3 ["_law_draw", "_law_slip_here"] spFact := ⟨_, _, ok_sound_refit F12 T c_law_take c_law_set c_law_some, m12, k12, b12⟩
  have c_law_sound_fact : Cal l.prog w K mg base "_law_sound_fact" 4 ["_law_draw", "_law_slip_here"] spFact := ⟨_, _, ok_sound_fact F13 T c_law_take c_law_sound_refit c_law_any_timbers, m13, k13, b13⟩
  have c_law_number : Cal l.prog w K mg base "_law_number" 1 ["_law_word"] spNum := ⟨_, _, ok_lnumber F14 T, m14, k14, b14⟩
  have c_law_numbers : Cal l.prog w K mg base "_law_numbers" 2 ["_law_words"] spLNums := ⟨_, _, ok_lnums F15 T hz_any c_law_number, m15, k15, b15⟩
  have c_law_written : Cal l.prog w K mg base "_law_written" 1 ["_law_fact"] spWritten := ⟨_, _, ok_written F16 T, m16, k16, b16⟩
  have c_law_read_refit : Cal l.prog w K mg base "_law_read_refit" 3 ["_law_words"] spLRef := ⟨_, _, ok_lrefit F17 T hz_any c_law_numbers, m17, k17, b17⟩
  have c_law_read : Cal l.prog w K mg base "_law_read" 4 ["_law_words"] spLRead := ⟨_, _, ok_lread F18 T c_law_numbers c_law_read_refit, m18, k18, b18⟩
  have c_law_any_number : Cal l.prog w K mg base "_law_any_number" 2 ["_law_draw", "_law_great"] spAnyN := ⟨_, _, ok_anyn F19 T c_law_take, m19, k19, b19⟩
  have c_law_loose_fact : Cal l.prog w K mg base "_law_loose_fact" 3 ["_law_draw", "_law_great"] spLoose := ⟨_, _, ok_loose F20 T c_law_take c_law_any_number, m20, k20, b20⟩
  have c_law_bent_text : Cal l.prog w K mg base "_law_bent_text" 2 ["_law_draw", "_law_text"] spBent := ⟨_, _, ok_bent F21 T c_law_take, m21, k21, b21⟩
  have c_law_told : Cal l.prog w K mg base "_law_told" 5 ["_law_text"] spTold := ⟨_, _, ok_told F22 T hBadText hArgosyError hBadNumber hBadFact ekBadText ctBadTextBadText ktBadTextArgosyError ktBadTextBadNumber ktBadTextBadFact c_read_fact, m22, k22, b22⟩
  exact ok_law F23 T c_law_begin c_law_take c_law_slip c_law_sound_fact c_law_loose_fact c_law_written c_law_same c_law_bent_text c_law_told c_law_read
theorem walk {l : PySem.W.OpenLaw} {q : Program} {loose : List Str} {XP : (Str → Option Value) → Heap → Prop} {YP : World → Heap → Prop} {d : DefRec} {K : Params → PySem.W.Frag} (hn : l.most = some 63) (hdf : d.params.defaults = [])
    (hY : ∀ (w : World) (h : Heap), YP w h → (K w.params).In h)
    (F : ∀ (w : World) (mg : Str → Option Value) (fa : Addr) (h : Heap), (K w.params).In h → h.Ns mainGlobals mg → mg d.name = some (.ref fa) →
      ∃ fd : FuncData, (∀ (s : Shared) (u : Value), BindsTo s fd ⟨[u], []⟩ [("_law_script", u)]) ∧ ∀ base : Heap, (K w.params).In base → base.Ns mainGlobals mg → FnOk l.prog w (K w.params) mg base CX0 6 fa fd ["_law_script"] (spLaw (K w.params))) :
    PySem.W.WalkO q loose XP YP l.row.toRowW d [] (fun f vs => PySem.call f vs) :=
  L2.walk_of (n := 63) (k := 6) (x := "_law_script") (CX := fun _ => CX0) (sp := fun w => spLaw (K w.params)) hn (by decide) hdf ⟨rfl, by decide, by decide⟩ hY F (fun _ _ a ns hl _ hS => ⟨a, ns, rfl, hS, hl, fun _ => rfl⟩) fun _ _ _ _ _ z => z
end K10
open PySem PySem.W PyProof.Rows
set_option maxRecDepth 100000 in
set_option maxHeartbeats 0 in
theorem PySem.Challenge.cw_argosy_k10_facts_read_or_refused_holds : PySem.Challenge.rw_argosy_k10_facts_read_or_refused.Holds := by
  w_on; o_law; k_head; (case hw => w_witness2)
  k_fill
  refine K10.walk (l := PySem.Challenge.rw_argosy_k10_facts_read_or_refused) rfl rfl (fun w h Y => PySem.W.kIn_of Y) ?F
  case F =>
    intro w mg fa h KX G hmg
    refine' K10.all_mk KX G hmg ?a0 ?l0 ?c0 ?k0 ?a1 ?l1 ?c1 ?k1 ?a2 ?l2 ?c2 ?k2 ?a3 ?l3 ?c3 ?k3 ?a4 ?l4 ?c4 ?k4 ?a5 ?l5 ?c5 ?k5 ?a6 ?l6 ?c6 ?k6 ?a7 ?l7 ?c7 ?k7 ?a8 ?l8 ?c8 ?k8 ?a9 ?l9 ?c9 ?k9 ?a10 ?l10 ?c10 ?k10 ?a11 ?l11 ?c11 ?k11 ?a12 ?l12 ?c12 ?k12 ?a13 ?l13 ?c13 ?k13 ?a14 ?l14 ?c14 ?k14 ?a15 ?l15 ?c15 ?k15 ?a16 ?l16 ?c16 ?k16 ?a17 ?l17 ?c17 ?k17 ?a18 ?l18 ?c18 ?k18 ?a19 ?l19 ?c19 ?k19 ?a20 ?l20 ?c20 ?k20 ?a21 ?l21 ?c21 ?k21 ?a22 ?l22 ?c22 ?k22 ?a23 ?l23 ?c23 ?k23 ?gcst0 ?xcl0 ?xcl1 ?xcl2 ?xcl3 ?xcl4 ?fct0 ?fct1 ?fct2 ?fct3 ?fct4 ?fct5 ?fct6 ?fct7 ?fct8 ?fct9 ?fct10 ?fct11 ?fct12 ?fct13 ?fct14 ?fct15 ?fct16 ?fct17 ?fct18 ?fct19 ?fct20 ?fct21 ?fct22 ?fct23 ?fct24 ?fct25 ?z0 ?z1 ?z2 ?z3 ?z4 ?z5 ?z6 ?z7 ?z8 ?z9 ?z10 ?z11 ?z12 ?z13 ?z14 ?z15 ?z16 ?z17
    (case a0 => k_is); (case l0 => k_is); (case c0 => k_is); (case k0 => k_is); (case a1 => k_is); (case l1 => k_is); (case c1 => k_is); (case k1 => k_is)
    (case a2 => k_is); (case l2 => k_is); (case c2 => k_is); (case k2 => k_is); (case a3 => k_is); (case l3 => k_is); (case c3 => k_is); (case k3 => k_is)
    (case a4 => k_is); (case l4 => k_is); (case c4 => k_is); (case k4 => k_is); (case a5 => k_is); (case l5 => k_is); (case c5 => k_is); (case k5 => k_is)
    (case a6 => k_is); (case l6 => k_is); (case c6 => k_is); (case k6 => k_is); (case a7 => k_is); (case l7 => k_is); (case c7 => k_is); (case k7 => k_is)
    (case a8 => k_is); (case l8 => k_is); (case c8 => k_is); (case k8 => k_is); (case a9 => k_is); (case l9 => k_is); (case c9 => k_is); (case k9 => k_is)
    (case a10 => k_is); (case l10 => k_is); (case c10 => k_is); (case k10 => k_is); (case a11 => k_is); (case l11 => k_is); (case c11 => k_is); (case k11 => k_is)
    (case a12 => k_is); (case l12 => k_is); (case c12 => k_is); (case k12 => k_is); (case a13 => k_is); (case l13 => k_is); (case c13 => k_is); (case k13 => k_is)
    (case a14 => k_is); (case l14 => k_is); (case c14 => k_is); (case k14 => k_is); (case a15 => k_is); (case l15 => k_is); (case c15 => k_is); (case k15 => k_is)
    (case a16 => k_is); (case l16 => k_is); (case c16 => k_is); (case k16 => k_is); (case a17 => k_is); (case l17 => k_is); (case c17 => k_is); (case k17 => k_is)
    (case a18 => k_is); (case l18 => k_is); (case c18 => k_is); (case k18 => k_is); (case a19 => k_is); (case l19 => k_is); (case c19 => k_is); (case k19 => k_is)
    (case a20 => k_is); (case l20 => k_is); (case c20 => k_is); (case k20 => k_is); (case a21 => k_is); (case l21 => k_is); (case c21 => k_is); (case k21 => k_is)
    (case a22 => k_is); (case l22 => k_is); (case c22 => k_is); (case k22 => k_is); (case a23 => k_is); (case l23 => k_is); (case c23 => k_is); (case k23 => k_is)
    (case gcst0 => k_is); (case xcl0 => k_is); (case xcl1 => k_is); (case xcl2 => k_is); (case xcl3 => k_is); (case xcl4 => k_is); (case fct0 => k_exc); (case fct1 => k_is)
    (case fct2 => k_is); (case fct3 => k_is); (case fct4 => k_is); (case fct5 => k_is); (case fct6 => k_is); (case fct7 => k_is); (case fct8 => k_is); (case fct9 => k_is)
    (case fct10 => k_is); (case fct11 => k_is); (case fct12 => k_is); (case fct13 => decide); (case fct14 => k_is); (case fct15 => k_is); (case fct16 => k_is); (case fct17 => decide)
    (case fct18 => k_is); (case fct19 => k_is); (case fct20 => k_is); (case fct21 => decide); (case fct22 => k_is); (case fct23 => k_is); (case fct24 => k_is); (case fct25 => (show PyProof.Rows.KTD.tabLook _ _ _ _ = true; kernel_rfl))
    (case z0 => k_is); (case z1 => k_is); (case z2 => k_is); (case z3 => k_is); (case z4 => k_is); (case z5 => k_is); (case z6 => k_is); (case z7 => k_is)
    (case z8 => k_is); (case z9 => k_is); (case z10 => k_is); (case z11 => k_is); (case z12 => k_is); (case z13 => k_is); (case z14 => k_is); (case z15 => k_is)
    (case z16 => k_is); (case z17 => k_is)

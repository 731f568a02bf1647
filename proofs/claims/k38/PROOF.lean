import PyProof.Rows.All
import Wide.All
import OpenK.AllK
import Wide.FinOn
import Lean
import PyProof.EqAt
import PyProof.EqKinds
import PyProof.TupleCall
import PySem.Challenge.RW_argosy_k38_lots_by_all_dealings
import KE.KIntText
import PyProof.StrWalks
import PyProof.MeetsStr
import PyProof.SliceStr2
import PyProof.EnumFor
import PyProof.EnumMake
import PyProof.Rows.SortWalk
import PyProof.RulesFinally
import KE.KTupSum
import PyProof.Rows.SumAny
import PyProof.ExcBaseAll.ValueError
import PyProof.ExcArgsOwn
import PyProof.ExcAttrAll.ValueError
import KE.KIsAll
import PyProof.RulesDel
import PyProof.RulesAs
import PyProof.MaxThree
import PyProof.AutoSeq1
set_option Elab.async false
set_option linter.all false
set_option maxRecDepth 100000
/-! THE HAND LAYER, for ints, bools, texts, own classes, LISTS and tuples (index, slices, in, append, pop ..), calls, loops. Paste it whole ahead of your own text; what your proof does not reach may be deleted. -/
namespace L2
open PySem PySem.Spec PyProof.Rows

/-- a key: an int or a str -/
abbrev Key := Sum Int Str
def keyIs : Key → Value → Bool
  | .inl k, v => Value.isInt k v
  | .inr x, v => Value.isStrOf x v
def keyH (w : World) : Key → Int
  | .inl k => hashInt k
  | .inr x => hashStr w x
theorem keyIs_shape : ∀ {k : Key} {v : Value}, keyIs k v = true → (∃ i t, k = Sum.inl i ∧ v = Value.int i t) ∨ (∃ x t, k = Sum.inr x ∧ v = Value.str x t)
  | .inl i, v, h => by
    obtain ⟨t, e⟩ := Value.isInt_shape (k := i) (v := v) h
    exact .inl ⟨i, t, rfl, e⟩
  | .inr x, v, h => by
    obtain ⟨t, e⟩ := Value.isStrOf_shape (x := x) (v := v) h
    exact .inr ⟨x, t, rfl, e⟩
theorem key_ll (a b : Int) : decide ((Sum.inl a : Key) = Sum.inl b) = (a == b) := by
  by_cases e : a = b
  · subst e; simp
  · have h : ¬ (Sum.inl a : Key) = Sum.inl b := fun q => e (Sum.inl.inj q)
    rw [decide_eq_false h]
    exact (beq_eq_false_iff_ne.mpr e).symm
theorem key_rr (a b : Str) : decide ((Sum.inr a : Key) = Sum.inr b) = decide (a = b) := by
  by_cases e : a = b
  · subst e; simp
  · have h : ¬ (Sum.inr a : Key) = Sum.inr b := fun q => e (Sum.inr.inj q)
    rw [decide_eq_false h, decide_eq_false e]
theorem key_lr (a : Int) (b : Str) : decide ((Sum.inl a : Key) = Sum.inr b) = false := decide_eq_false (fun q => nomatch q)
theorem key_rl (a : Str) (b : Int) : decide ((Sum.inr a : Key) = Sum.inl b) = false := decide_eq_false (fun q => nomatch q)

def mixKind (prog : Program) (w : World) : PySem.KeyKind prog w Key where
  is := keyIs
  hash := keyH w
  inj := fun v a b ha hb => by
    rcases keyIs_shape ha with ⟨i, t, rfl, rfl⟩ | ⟨x, t, rfl, rfl⟩
    · rcases keyIs_shape hb with ⟨j, u, rfl, e⟩ | ⟨y, u, rfl, e⟩
      · injection e with e1 _; rw [e1]
      · exact nomatch e
    · rcases keyIs_shape hb with ⟨j, u, rfl, e⟩ | ⟨y, u, rfl, e⟩
      · exact nomatch e
      · injection e with e1 _; rw [e1]
  byValue := fun k v h => by
    rcases keyIs_shape h with ⟨i, t, rfl, rfl⟩ | ⟨x, t, rfl, rfl⟩ <;> rfl
  pyHash := fun hv h => by
    rcases keyIs_shape hv with ⟨i, t, rfl, rfl⟩ | ⟨x, t, rfl, rfl⟩
    · exact wpAny_pyHash_int h
    · exact wpAny_pyHash_str h
  eqBool := fun hu hv h => by
    rcases keyIs_shape hu with ⟨i, t, rfl, rfl⟩ | ⟨x, t, rfl, rfl⟩
    · rcases keyIs_shape hv with ⟨j, u, rfl, rfl⟩ | ⟨y, u, rfl, rfl⟩
      · rw [key_ll] at h; exact wpAny_eqBool_int h
      · rw [key_lr] at h; exact SeqAt.EqAt.int_str i t y u _ _ _ _ h
    · rcases keyIs_shape hv with ⟨j, u, rfl, rfl⟩ | ⟨y, u, rfl, rfl⟩
      · rw [key_rl] at h; exact SeqAt.EqAt.str_int x t j u _ _ _ _ h
      · rw [key_rr] at h; exact wpAny_eqBool_str h
  «strs» := fun k x t v h => by
    rcases keyIs_shape h with ⟨i, u, rfl, e⟩ | ⟨y, u, rfl, e⟩
    · exact nomatch e
    · injection e with e1 _
      subst e1
      cases v <;> rfl

end L2

namespace L2
open PySem PySem.Spec PyProof.Rows

/-- a value, without the heap -/
inductive V where
  | non | bl (b : Bool) | int (i : Int) | str (x : Str) | byt (b : Array UInt8) | flt (b : UInt64) | ref (a : Addr) | ty (n : String)
  deriving DecidableEq

def RelV : V → Value → Prop
  | .non, u => u = Value.none
  | .bl b, u => u = Value.bool b
  | .int i, u => ∃ t, u = Value.int i t
  | .str x, u => ∃ t, u = Value.str x t
  | .byt b, u => ∃ t, u = Value.bytes b t
  | .flt b, u => ∃ t, u = Value.float b t
  | .ref a, u => u = Value.ref a
  | .ty n, u => u = Value.type n

abbrev Vals : List V → List Value → Prop := Paired RelV
theorem Vals.length {xs : List V} {us : List Value} (r : Vals xs us) : xs.length = us.length := Paired.length r
theorem Vals.get : ∀ {xs : List V} {us : List Value} {i : Nat} {x : V}, Vals xs us → xs[i]? = some x → ∃ u, us[i]? = some u ∧ RelV x u
  | _, _, _, _, .nil, e => by simp at e
  | _, _, 0, _, .cons r _, e => by simp at e; subst e; exact ⟨_, rfl, r⟩
  | _, _, i + 1, x, .cons _ t, e => by
    obtain ⟨u, h1, h2⟩ := Vals.get (i := i) (x := x) t (by simpa using e)
    exact ⟨u, by simpa using h1, h2⟩
theorem Vals.set {x : V} {u : Value} (r : RelV x u) : ∀ {xs : List V} {us : List Value} (i : Nat), Vals xs us → Vals (xs.set i x) (us.set i u)
  | _, _, _, .nil => .nil
  | _, _, 0, .cons _ t => .cons r t
  | _, _, i + 1, .cons q t => .cons q (Vals.set r i t)
theorem Vals.append : ∀ {xs ys : List V} {us ws : List Value}, Vals xs us → Vals ys ws → Vals (xs ++ ys) (us ++ ws)
  | _, _, _, _, .nil, s => s
  | _, _, _, _, .cons r t, s => .cons r (Vals.append t s)
theorem Vals.take : ∀ {xs : List V} {us : List Value} (n : Nat), Vals xs us → Vals (xs.take n) (us.take n)
  | _, _, 0, _ => .nil
  | _, _, _ + 1, .nil => .nil
  | _, _, n + 1, .cons r t => .cons r (Vals.take n t)
theorem Vals.drop : ∀ {xs : List V} {us : List Value} (n : Nat), Vals xs us → Vals (xs.drop n) (us.drop n)
  | _, _, 0, r => r
  | _, _, _ + 1, .nil => .nil
  | _, _, n + 1, .cons _ t => Vals.drop n t
def RelO : Option V → Option Value → Prop
  | some v, some u => RelV v u
  | none, none => True
  | _, _ => False
def KV {κ : Type} : List (κ × V) → List (κ × Value) → Prop := Paired fun (p : κ × V) (q : κ × Value) => p.1 = q.1 ∧ RelV p.2 q.2

/-- a key of a dict (00_mix): an int or a text -/
def kV : Key → V
  | .inl i => .int i
  | .inr x => .str x

/-- what stands at a tracked address -/
inductive HO where
  /-- a list -/
  | lst (xs : List V)
  /-- a tuple (never changes) -/
  | tup (xs : List V)
  /-- a dict whose keys are ints and texts; one whose keys are tuples of ints and texts (the empty one is both) -/
  | dK (kvs : List (Key × V)) | dT (kvs : List (List Key × V))
  /-- a set of ints: its members, its size -/
  | set (S : Int → Bool) (n : Nat)
  /-- an instance of the class at C, its dict at dx, its attributes -/
  | ins (C dx : Addr) (fs : List (Str × V))
  /-- the dict of the instance at x -/
  | own (x : Addr)
  /-- the dict of an exception -/
  | xd (fs : List (Str × V))
  /-- a bound method, f of x -/
  | met (f x : Addr)
  /-- a range object lo, lo + 1, .. below hi -/
  | rng (lo hi : Int)
  /-- a thing that is known to the object (the script; a dict while a loop walks it): read, never written while it is so -/
  | frz (o : Obj) (u : HO)
  /-- a code object's table -/
  | tbl (ps : Array Value)
  /-- any other thing, by what is true of its one object (a def of one's own: SetO a S n := HO.ext fun h => ..) -/
  | ext (φ : Heap → Prop)

abbrev Hp := Addr → Option HO
def upd (H : Hp) (a : Addr) (o : HO) : Hp := fun b => if b = a then some o else H b
theorem upd_same {H : Hp} {a : Addr} {o : HO} : upd H a o a = some o := by unfold upd; rw [if_pos rfl]
theorem upd_ne {H : Hp} {a b : Addr} {o : HO} (h : b ≠ a) : upd H a o b = H b := by unfold upd; rw [if_neg h]
theorem ne_of_none {H : Hp} {a b : Addr} {o : HO} (h : H a = some o) (h' : H b = none) : a ≠ b := by
  intro e; subst e; rw [h] at h'; cases h'

section
variable (P : Program) (w : World)
def ObjOk (H : Hp) (h : Heap) (a : Addr) : HO → Prop
  | .lst xs => xs.length ≤ sizeLine ∧ ∃ (its : List Value) (n : Nat), Vals xs its ∧ h.get? a = some { cls := .type "list", data := .seq its.toArray n }
  | .tup xs => xs.length ≤ sizeLine ∧ ∃ its : List Value, Vals xs its ∧ IsTup h a its.toArray
  | .dK kvs => kvs.length ≤ sizeLine ∧ (a == sysModules) = false ∧ ∃ vs, KV kvs vs ∧ h.DictOf (mixKind P w) a vs
  | .dT kvs => kvs.length ≤ sizeLine ∧ (a == sysModules) = false ∧ ∃ xs : List (List Key × Addr × Value),
      Paired (fun (p : List Key × V) (q : List Key × Addr × Value) => p.1 = q.1 ∧ H q.2.1 = some (.tup (p.1.map kV)) ∧ RelV p.2 q.2.2) kvs xs ∧
      ∃ o es ep, h.get? a = some o ∧ o.ExactDict ∧ o.data = .dict es ep ∧ es.toList = xs.map (entryOfKey (tupleKind (mixKind P w))) ∧ (xs.map (·.1)).Nodup
  | .set S n => h.SetOf (intKind P w) a S n
  | .ins C dx fs => H dx = some (.own a) ∧ fs.length ≤ 1000 ∧ dx ≠ a ∧ h.get? a = some (PySem.W.instObj C dx) ∧
      ∃ mA, h.Ns1 dx mA ∧ (∀ f, RelO (fs.lookup f) (mA f)) ∧ PySem.Within mA (fs.map (·.1))
  | .own _ => ∃ o, h.get? a = some o
  | .xd fs => ∃ mA, h.Ns1 a mA ∧ ∀ f, RelO (fs.lookup f) (mA f)
  | .rng lo hi => ∃ t u v, h.get? a = some { cls := .type "range", data := .fields #[.int lo t, .int hi u, .int 1 v] }
  | .frz o u => h.get? a = some o ∧ ObjOk H h a u
  | .tbl ps => h.get? a = some { cls := .none, data := .fields ps }
  | .met f x => h.get? a = some (PySem.W.methodObj (.ref f) (.ref x))
  | .ext φ => φ h ∧ (∃ o, h.get? a = some o) ∧ ∀ h1 h2 : Heap, φ h1 → (∀ o, h1.get? a = some o → h2.get? a = some o) → φ h2
/-- the abstract heap is held -/
def HOk (H : Hp) (h : Heap) : Prop := ∀ a o, H a = some o → ObjOk P w H h a o
end

section
variable {P : Program} {w : World} {H H' : Hp} {h h' : Heap} {a : Addr} {o : HO}
theorem ObjOk.lt (x : ObjOk P w H h a o) : a < h.objs.size := by
  cases o with
  | lst xs => obtain ⟨_, _, _, _, e⟩ := x; exact Heap.lt_size e
  | tup xs => obtain ⟨_, _, _, p⟩ := x; exact p.lt
  | dK kvs => obtain ⟨_, _, _, _, o, _, _, e, _⟩ := x; exact Heap.lt_size e
  | dT kvs => obtain ⟨_, _, _, _, o, _, _, e, _⟩ := x; exact Heap.lt_size e
  | set S n => obtain ⟨o, _, _, _, e, _⟩ := x; exact Heap.lt_size e
  | ins C dx fs => obtain ⟨_, _, _, e, _⟩ := x; exact Heap.lt_size e
  | own y => obtain ⟨_, e⟩ := x; exact Heap.lt_size e
  | xd fs => obtain ⟨_, ⟨_, _, _, e, _⟩, _⟩ := x; exact Heap.lt_size e
  | rng lo hi => obtain ⟨_, _, _, e⟩ := x; exact Heap.lt_size e
  | frz ob u => obtain ⟨e, _⟩ := x; exact Heap.lt_size e
  | tbl ps => exact Heap.lt_size (show h.get? a = some _ from x)
  | met f y => exact Heap.lt_size (show h.get? a = some _ from x)
  | ext φ => obtain ⟨_, ⟨_, e⟩, _⟩ := x; exact Heap.lt_size e
theorem Paired.mapP {α β : Type} {F G : α → β → Prop} : ∀ {l₁ : List α} {l₂ : List β}, Paired F l₁ l₂ → (∀ a b, F a b → G a b) → Paired G l₁ l₂
  | _, _, .nil, _ => .nil
  | _, _, .cons r t, f => .cons (f _ _ r) (Paired.mapP t f)
/-- what an object's description leans on: its own object, its own dict, the tuples -/
theorem ObjOk.stay (x : ObjOk P w H h a o) (k : ∀ b u, (b = a ∨ H b = some (.own a)) → h.get? b = some u → h'.get? b = some u)
    (ho : ∀ b, H b = some (.own a) → H' b = some (.own a)) (ht : ∀ b xs, H b = some (.tup xs) → H' b = some (.tup xs)) : ObjOk P w H' h' a o := by
  induction o with
  | lst xs => obtain ⟨z, its, n, r, e⟩ := x; exact ⟨z, its, n, r, k _ _ (.inl rfl) e⟩
  | tup xs => obtain ⟨z, its, r, ob, e, c⟩ := x; exact ⟨z, its, r, ob, k _ _ (.inl rfl) e, c⟩
  | dK kvs => obtain ⟨z, y, vs, r, ob, es, ep, e, c⟩ := x; exact ⟨z, y, vs, r, ob, es, ep, k _ _ (.inl rfl) e, c⟩
  | dT kvs =>
    obtain ⟨z, y, xs, r, ob, es, ep, e, c⟩ := x
    exact ⟨z, y, xs, Paired.mapP r fun p q z => ⟨z.1, ht _ _ z.2.1, z.2.2⟩, ob, es, ep, k _ _ (.inl rfl) e, c⟩
  | set S n => obtain ⟨ob, es, ep, t, e, c⟩ := x; exact ⟨ob, es, ep, t, k _ _ (.inl rfl) e, c⟩
  | ins C dx fs =>
    obtain ⟨d, z, ne, e, mA, ⟨od, es, ep, e2, c⟩, r⟩ := x
    exact ⟨ho _ d, z, ne, k _ _ (.inl rfl) e, mA, ⟨od, es, ep, k _ _ (.inr d) e2, c⟩, r⟩
  | own y => obtain ⟨ob, e⟩ := x; exact ⟨ob, k _ _ (.inl rfl) e⟩
  | xd fs => obtain ⟨mA, ⟨od, es, ep, e, c⟩, r⟩ := x; exact ⟨mA, ⟨od, es, ep, k _ _ (.inl rfl) e, c⟩, r⟩
  | rng lo hi => obtain ⟨t, u, v, e⟩ := x; exact ⟨t, u, v, k _ _ (.inl rfl) e⟩
  | frz ob u ih => obtain ⟨e, q⟩ := x; exact ⟨k _ _ (.inl rfl) e, ih q⟩
  | tbl ps =>
    have e : h.get? a = some { cls := .none, data := .fields ps } := x
    show h'.get? a = some { cls := .none, data := .fields ps }
    exact k a _ (.inl rfl) e
  | met f y =>
    have e : h.get? a = some (PySem.W.methodObj (.ref f) (.ref y)) := x
    show h'.get? a = some (PySem.W.methodObj (.ref f) (.ref y))
    exact k a _ (.inl rfl) e
  | ext φ => obtain ⟨p, ⟨o, e⟩, st⟩ := x; exact ⟨st _ _ p fun o q => k _ _ (.inl rfl) q, ⟨o, k _ _ (.inl rfl) e⟩, st⟩
theorem HOk.lt (x : HOk P w H h) (e : H a = some o) : a < h.objs.size := (x a o e).lt
theorem HOk.fresh (x : HOk P w H h) (e : h.objs.size ≤ a) : H a = none := by
  cases q : H a with
  | none => rfl
  | some u => exact absurd (Nat.lt_of_lt_of_le (x.lt q) e) (Nat.lt_irrefl _)
/-- every object of the heap is kept -/
theorem HOk.kept (x : HOk P w H h) (k : ∀ b u, h.get? b = some u → h'.get? b = some u) : HOk P w H h' := fun a o e =>
  (x a o e).stay (fun b u _ q => k b u q) (fun _ q => q) fun _ _ q => q
/-- a new object is laid and tracked -/
theorem HOk.laid (x : HOk P w H h) (k : ∀ b u, h.get? b = some u → h'.get? b = some u) (hp : h.objs.size ≤ a) (new : ObjOk P w (upd H a o) h' a o) : HOk P w (upd H a o) h' := fun b u e => by
  have hn := x.fresh hp
  by_cases hb : b = a
  · subst hb; rw [upd_same] at e; cases e; exact new
  · rw [upd_ne hb] at e
    exact (x b u e).stay (fun c v _ q => k c v q) (fun c q => by rw [upd_ne (ne_of_none q hn)]; exact q) fun c xs q => by rw [upd_ne (ne_of_none q hn)]; exact q
end

/-- what may be read as u: it is u, or a known u -/
def Rd (H : Hp) (a : Addr) (u : HO) : Prop := H a = some u ∨ ∃ o, H a = some (.frz o u)
theorem Rd.of {H : Hp} {a : Addr} {u : HO} (h : H a = some u) : Rd H a u := .inl h
theorem Rd.ok {P : Program} {w : World} {H : Hp} {h : Heap} {a : Addr} {u : HO} (r : Rd H a u) (x : HOk P w H h) : ObjOk P w H h a u := by
  rcases r with r | ⟨o, r⟩
  · exact x a u r
  · obtain ⟨_, q⟩ := x a _ r
    exact q
/-- what may be written -/
def Mut : Option HO → Prop
  | some (.lst _) => True
  | some (.dK _) => True
  | some (.dT _) => True
  | some (.set _ _) => True
  | some (.ins _ _ _) => True
  | some (.ext _) => True
  | _ => False
section
variable {P : Program} {w : World} {H : Hp} {h h' : Heap} {x e : Addr} {o' : HO}
/-- the object at e is changed: x itself, or the dict of the instance x -/
theorem HOk.write (ok : HOk P w H h) (mu : Mut (H x)) (he : e = x ∨ H e = some (.own x)) (k : ∀ b u, b ≠ e → h.get? b = some u → h'.get? b = some u) (heo : ∃ u, h'.get? e = some u)
    (new : ObjOk P w (upd H x o') h' x o') : HOk P w (upd H x o') h' := fun b u q => by
  have nown : ∀ c y, H c = some (.own y) → c ≠ x := fun c y r z => by subst z; rw [r] at mu; exact mu
  have ntup : ∀ c xs, H c = some (.tup xs) → c ≠ x := fun c xs r z => by subst z; rw [r] at mu; exact mu
  by_cases hb : b = x
  · subst hb; rw [upd_same] at q; cases q; exact new
  · rw [upd_ne hb] at q
    by_cases hbe : b = e
    · have q' : H b = some (.own x) := by
        rcases he with z | z
        · exact absurd (hbe.trans z) hb
        · rw [hbe]; exact z
      rw [q] at q'; cases q'
      obtain ⟨v, hv⟩ := heo
      exact ⟨v, by rw [hbe]; exact hv⟩
    · refine (ok b u q).stay (fun c v hc r => k c v ?_ r) (fun c r => by rw [upd_ne (nown c b r)]; exact r) fun c xs r => by rw [upd_ne (ntup c xs r)]; exact r
      rcases hc with rfl | hc
      · exact hbe
      · rintro rfl
        rcases he with z | z
        · exact nown c b hc z
        · rw [hc] at z; cases z; exact hb rfl
end

/-! ### kept unless tracked; of the frames at fs (the callers') the slots may change (an exception that passes writes there); of the records at ex (iterators) nothing is said -/
structure Un (fs ex : List Addr) (H H' : Hp) (h h' : Heap) : Prop where
  keep : ∀ b o, h.get? b = some o → H b = none → b ∉ fs → b ∉ ex → h'.get? b = some o
  slot : ∀ b o, h.get? b = some o → H b = none → b ∈ fs → b ∉ ex → ∃ sl, h'.get? b = some { o with slots := sl }
  free : ∀ b o, h.get? b = some o → H b = none → b ∉ ex → H' b = none
  there : ∀ b o, h.get? b = some o → b ∉ ex → ∃ o', h'.get? b = some o'
  tups : ∀ b xs, H b = some (.tup xs) → H' b = some (.tup xs)
  frzs : ∀ b o u, H b = some (.frz o u) → H' b = some (.frz o u)
  tbls : ∀ b ps, H b = some (.tbl ps) → ∃ more, H' b = some (.tbl (ps ++ more))
section
variable {fs fs' ex ex' : List Addr} {H H1 H2 : Hp} {h h1 h2 h' : Heap} {a x e : Addr} {o : HO}
theorem Un.any (u : Un fs ex H H1 h h1) {b : Addr} {ob : Obj} (q : h.get? b = some ob) (n : H b = none) (hx : b ∉ ex) : ∃ sl, h1.get? b = some { ob with slots := sl } := by
  by_cases hb : b ∈ fs
  · exact u.slot b ob q n hb hx
  · exact ⟨ob.slots, u.keep b ob q n hb hx⟩
theorem Un.trans (a : Un fs ex H H1 h h1) (b : Un fs ex H1 H2 h1 h2) : Un fs ex H H2 h h2 where
  keep := fun c ob q n hc hx => b.keep c ob (a.keep c ob q n hc hx) (a.free c ob q n hx) hc hx
  slot := fun c ob q n hc hx => by
    obtain ⟨sl, e1⟩ := a.slot c ob q n hc hx
    obtain ⟨sl', e2⟩ := b.slot c _ e1 (a.free c ob q n hx) hc hx
    exact ⟨sl', e2⟩
  free := fun c ob q n hx => by
    obtain ⟨o', e1⟩ := a.there c ob q hx
    exact b.free c o' e1 (a.free c ob q n hx) hx
  there := fun c ob q hx => by
    obtain ⟨o', e1⟩ := a.there c ob q hx
    exact b.there c o' e1 hx
  tups := fun c xs q => b.tups c xs (a.tups c xs q)
  frzs := fun c ob xs q => b.frzs c ob xs (a.frzs c ob xs q)
  tbls := fun c ps q => by
    obtain ⟨m1, e1⟩ := a.tbls c ps q
    obtain ⟨m2, e2⟩ := b.tbls c _ e1
    exact ⟨m1 ++ m2, by rw [e2, Array.append_assoc]⟩
theorem Un.kept (k : ∀ b u, h.get? b = some u → h'.get? b = some u) : Un fs ex H H h h' :=
  ⟨fun b ob q _ _ _ => k b ob q, fun b ob q _ _ _ => ⟨ob.slots, k b ob q⟩, fun _ _ _ n _ => n, fun b ob q _ => ⟨ob, k b ob q⟩, fun _ _ q => q, fun _ _ _ q => q, fun _ ps q => ⟨#[], by rw [q]; simp⟩⟩
theorem Un.refl : Un fs ex H H h h := Un.kept fun _ _ q => q
theorem Un.laid (k : ∀ b u, h.get? b = some u → h'.get? b = some u) (hp : h.objs.size ≤ a) (hn : H a = none) : Un fs ex H (upd H a o) h h' where
  keep := fun b u q _ _ _ => k b u q
  slot := fun b u q _ _ _ => ⟨u.slots, k b u q⟩
  free := fun b u q n _ => by rw [upd_ne (Nat.ne_of_lt (Nat.lt_of_lt_of_le (Heap.lt_size q) hp))]; exact n
  there := fun b u q _ => ⟨u, k b u q⟩
  tups := fun b xs q => by rw [upd_ne (ne_of_none q hn)]; exact q
  frzs := fun b u xs q => by rw [upd_ne (ne_of_none q hn)]; exact q
  tbls := fun b ps q => ⟨#[], by rw [upd_ne (ne_of_none q hn), q]; simp⟩
theorem Un.write (mu : Mut (H x)) (he : e = x ∨ H e = some (.own x)) (k : ∀ b u, b ≠ e → h.get? b = some u → h'.get? b = some u) (heo : ∃ u, h'.get? e = some u) : Un fs ex H (upd H x o) h h' := by
  have hx : ∀ b, H b = none → b ≠ x := fun b n z => by subst z; rw [n] at mu; exact mu
  have hb : ∀ b, H b = none → b ≠ e := fun b n z => by
    subst z
    rcases he with r | r
    · exact hx b n r
    · rw [n] at r; cases r
  have hm : ∀ b u, H b = some u → ¬ Mut (some u) → b ≠ x := fun b u q nm z => by subst z; rw [q] at mu; exact nm mu
  refine ⟨fun b u q n _ _ => k b u (hb b n) q, fun b u q n _ _ => ⟨u.slots, k b u (hb b n) q⟩, fun b u q n _ => by rw [upd_ne (hx b n)]; exact n, fun b u q _ => ?_,
    fun b xs q => by rw [upd_ne (hm b _ q fun z => z)]; exact q, fun b u xs q => by rw [upd_ne (hm b _ q fun z => z)]; exact q, fun b ps q => ⟨#[], by rw [upd_ne (hm b _ q fun z => z), q]; simp⟩⟩
  by_cases hbe : b = e
  · subst hbe; exact heo
  · exact ⟨u, k b u hbe q⟩
theorem Un.mono (u : Un fs ex H H1 h h1) (hs : ∀ b ∈ fs, b ∈ fs') (hx : ∀ b ∈ ex, b ∈ ex') : Un fs' ex' H H1 h h1 :=
  ⟨fun b ob q n hb he => u.keep b ob q n (fun z => hb (hs b z)) fun z => he (hx b z), fun _ _ q n _ he => u.any q n fun z => he (hx _ z), fun b ob q n he => u.free b ob q n fun z => he (hx b z), fun b ob q he => u.there b ob q fun z => he (hx b z), u.tups, u.frzs, u.tbls⟩
end

/-! ### the heap without what is tracked -/
def trk (h : Heap) (H : Hp) : List Addr := (List.range h.objs.size).filter fun a => (H a).isSome
def hidT (h : Heap) (H : Hp) : Heap := PySem.W.hideAll h (trk h H)
theorem hidT_size (h : Heap) (H : Hp) : (hidT h H).objs.size = h.objs.size := PySem.W.hideAll_size _ _
theorem hidT_get {h : Heap} {H : Hp} {b : Addr} {o : Obj} (e : h.get? b = some o) (n : H b = none) : (hidT h H).get? b = some o :=
  PySem.W.hideAll_get _ e fun hm => by
    have q : (H b).isSome = true := (List.mem_filter.mp hm).2
    rw [n] at q; simp at q
theorem of_hidT {h : Heap} {H : Hp} {b : Addr} {o : Obj} (e : (hidT h H).get? b = some o) : h.get? b = some o ∧ H b = none := by
  have e' : h.get? b = some o := PySem.W.of_hideAll (trk h H) e
  refine ⟨e', ?_⟩
  cases q : H b with
  | none => rfl
  | some x =>
    have hm : b ∈ trk h H := List.mem_filter.mpr ⟨List.mem_range.mpr (Heap.lt_size e'), by simp [q]⟩
    have z : (hidT h H).get? b = none := PySem.W.hideAll_none (trk h H) hm
    rw [z] at e; cases e

/-! ### OpenK's ledger, filled with every new object but one -/
def allNews (g h : Heap) (L : Addr) : List (Addr × Obj) := (List.range h.objs.size).filterMap fun a => if a = L ∨ (g.get? a).isSome = true then none else (h.get? a).map fun o => (a, o)
def rest (g h : Heap) (L d : Addr) : List (Addr × Obj) := (allNews g h L).filter fun p => decide (p.1 ≠ d)
end L2

namespace L2
open PySem PySem.Spec PyProof.Rows

/-- the module's facts, over the base: the heap at the law's entry without what is tracked there -/
structure Mod (K : PySem.W.Frag) (mg : Str → Option Value) (base : Heap) : Prop where
  kin : K.In base
  glob : base.Ns mainGlobals mg
  blt : ∃ mb, base.Ns builtinsNs mb ∧ ∀ x : Str, x ≠ "__name__" → mb x = bootBuiltins x
  nolimit : base.NoLimit

/-- the context: a def's body (or a comprehension's block) running. base: fixed through the whole law; s₀, H₀: the entry; outer: the frames whose slots others may change (a def's callers); stack: all frames that run;
   ex: iterators that were made ahead of the entry and are walked here (a comprehension's); fn: the names whose cells were made at the entry (a def: all; a comprehension's block: its own); calm: not within an except suite; pn: pins that every state bears; xe: what is wanted of an exception that leaves the code -/
structure Cx where
  prog : Program
  w : World
  K : PySem.W.Frag
  mg : Str → Option Value
  base : Heap
  A : Around
  N : List Str
  s₀ : Shared
  H₀ : Hp
  env : Env
  outer : List Env
  stack : List Env
  ex : List Addr
  fn : Str → Bool
  calm : Bool
  pn : List (Addr × Obj)
  xe : Value → Shared → Prop
/-- the callers' frames -/
def frs (l : List Env) : List Addr := l.filterMap (·.frame)
abbrev Cx.fs (X : Cx) : List Addr := frs X.outer

def Vis (sc : Scope) (x : Str) : Prop := sc.names.lookup x = some .local ∨ sc.names.lookup x = some .cell ∨ sc.names.lookup x = some .free
def Loc (sc : Scope) (x : Str) : Prop := sc.names.lookup x = some .local ∨ sc.names.lookup x = some .cell
def Look (env : Env) (h : Heap) (m : Str → Option Value) (x : Str) (u : Value) : Prop :=
  (env.kindOf x = some .local ∧ m x = some u) ∨ ((env.kindOf x = some .cell ∨ env.kindOf x = some .free) ∧ ∃ c, env.cells.lookup x = some c ∧ h.IsCell c (some u))

structure Cx.Ok (X : Cx) : Prop where
  mod : Mod X.K X.mg X.base
  kind : X.env.scope.kind = .function
  glob : X.env.globals = mainGlobals
  blt : X.env.builtins = builtinsNs
  above : X.s₀.heap.objs.size ≤ X.env.locals
  inj : ∀ x y c, X.env.cells.lookup x = some c → X.env.cells.lookup y = some c → x = y
  has : ∀ x, (X.env.kindOf x = some .cell ∨ X.env.kindOf x = some .free) → ∃ c, X.env.cells.lookup x = some c
  cab : ∀ x c, X.fn x = true → X.env.cells.lookup x = some c → X.s₀.heap.objs.size ≤ c
  hd : X.calm = true → X.A.handled = none
  frames : X.A.frames = some X.stack
  stk : X.stack = X.outer ∨ (X.stack = X.env :: X.outer ∧ X.env.frame = some X.env.locals)
  exf : ∀ b ∈ X.ex, b ≠ X.env.locals ∧ ∀ x c, X.env.cells.lookup x = some c → c ≠ b
  bs : ∀ b o, X.base.get? b = some o → X.s₀.heap.get? b = some o ∧ X.H₀ b = none
  bsz : X.base.objs.size ≤ X.s₀.heap.objs.size
  noex : ∀ b o, X.base.get? b = some o → b ∉ X.ex
  exfs : ∀ b ∈ X.ex, b ∉ X.fs
  funs : X.s₀.heap.FunFrames X.base X.outer
  frf : ∀ b ∈ X.fs, X.H₀ b = none

structure Inv (X : Cx) (pins : List (Addr × Obj)) (σ : List (Option V)) (H : Hp) (s : Shared) : Prop where
  ok : X.Ok
  os : s.os = X.s₀.os
  bare : AllBare s.gens
  base : Un X.fs X.ex X.H₀ H X.s₀.heap s.heap
  loc : ∃ m, s.heap.Ns X.env.locals m ∧ ∀ (i : Nat) (x : Str) (v : V), X.N[i]? = some x → σ[i]? = some (some v) → Vis X.env.scope x → ∃ u, RelV v u ∧ Look X.env s.heap m x u
  cell : ∀ x c, X.env.cells.lookup x = some c → ∃ v, s.heap.IsCell c v
  free : H X.env.locals = none
  freeC : ∀ x c, X.env.cells.lookup x = some c → H c = none
  pin : ∀ p ∈ X.pn ++ pins, s.heap.get? p.1 = some p.2 ∧ H p.1 = none ∧ p.1 ≠ X.env.locals ∧ p.1 ∉ X.fs ∧ ∀ v, p.2.data ≠ .cell v
  hok : HOk X.prog X.w H s.heap
  len : σ.length = X.N.length

section
variable {X : Cx} {pins : List (Addr × Obj)} {σ : List (Option V)} {H H' : Hp} {s : Shared} {h' : Heap}

theorem Cx.Ok.nofr (ok : X.Ok) {b : Addr} {o : Obj} (e : X.base.get? b = some o) : b ∉ X.fs := fun hb => by
  have := (ok.funs.mem hb).1
  rw [e] at this; cases this
theorem Inv.bs (I : Inv X pins σ H s) : ∀ b o, X.base.get? b = some o → s.heap.get? b = some o ∧ H b = none := fun b o e =>
  ⟨I.base.keep b o (I.ok.bs b o e).1 (I.ok.bs b o e).2 (I.ok.nofr e) (I.ok.noex b o e), I.base.free b o (I.ok.bs b o e).1 (I.ok.bs b o e).2 (I.ok.noex b o e)⟩
theorem Inv.bk (I : Inv X pins σ H s) : ∀ b o, X.base.get? b = some o → s.heap.get? b = some o := fun b o e => (I.bs b o e).1
theorem Inv.mod (I : Inv X pins σ H s) : Mod X.K X.mg X.base := I.ok.mod
theorem Inv.kIn (I : Inv X pins σ H s) : X.K.In s.heap := I.ok.mod.kin.keeps I.bk
theorem Inv.nolimit (I : Inv X pins σ H s) : s.heap.NoLimit := I.ok.mod.nolimit.keeps I.bk
/-- the frame over the base: for OpenK's rules (K.In X.base is I.mod.kin) -/
theorem Inv.fr (I : Inv X pins σ H s) : ∃ m, Fr X.base X.env.locals s.heap m :=
  let ⟨m, hn, _⟩ := I.loc
  ⟨m, hn, I.bk, Nat.le_trans I.ok.bsz I.ok.above⟩
theorem Inv.lt (I : Inv X pins σ H s) : X.env.locals < s.heap.objs.size := let ⟨_, hn, _⟩ := I.loc; hn.lt
theorem Inv.sz (I : Inv X pins σ H s) : X.s₀.heap.objs.size ≤ s.heap.objs.size := Nat.le_trans I.ok.above (Nat.le_of_lt I.lt)
theorem Inv.nofs (I : Inv X pins σ H s) {a : Addr} (h : s.heap.objs.size ≤ a) : a ∉ X.fs := fun hb => by
  obtain ⟨_, o, ho, _⟩ := I.ok.funs.mem hb
  exact absurd (Nat.lt_of_lt_of_le (Heap.lt_size ho) (Nat.le_trans I.sz h)) (Nat.lt_irrefl _)
theorem Inv.cne (I : Inv X pins σ H s) : ∀ x c, X.env.cells.lookup x = some c → c ≠ X.env.locals := fun x c e z => by
  obtain ⟨v, o, ho, hd⟩ := I.cell x c e
  obtain ⟨m, ⟨o', es, ep, ho', hd', _⟩, _⟩ := I.loc
  rw [z, ho'] at ho; cases ho; rw [hd'] at hd; cases hd
theorem Inv.funs (I : Inv X pins σ H s) : s.heap.FunFrames X.base X.outer := by
  have all : ∀ (l : List Env), (∀ b ∈ frs l, b ∈ X.fs) → X.s₀.heap.FunFrames X.base l → s.heap.FunFrames X.base l := by
    intro l
    induction l with
    | nil => intro _ _; trivial
    | cons env r ih =>
      intro hs hl
      obtain ⟨hk, ⟨L, o, hf, hn, ho, hd⟩, hr⟩ := hl
      have hL : L ∈ X.fs := hs L (by unfold frs; rw [List.filterMap_cons, hf]; exact List.mem_cons_self)
      obtain ⟨sl, e⟩ := I.base.slot L o ho (I.ok.frf L hL) hL fun z => I.ok.exfs L z hL
      exact ⟨hk, ⟨L, _, hf, hn, e, hd⟩, ih (fun b hb => hs b (by unfold frs; rw [List.filterMap_cons, hf]; exact List.mem_cons_of_mem _ hb)) hr⟩
  exact all X.outer (fun _ hb => hb) I.ok.funs

/-- the frames that run, for a call -/
theorem Inv.stack (I : Inv X pins σ H s) : s.heap.FunFrames X.base X.stack := by
  rcases I.ok.stk with e | ⟨e, hf⟩
  · rw [e]; exact I.funs
  · rw [e]
    obtain ⟨m, hn, _⟩ := I.loc
    refine .cons (by rw [I.ok.kind]; decide) hf hn ?_ I.funs
    exact Heap.get?_none_of_le (Nat.le_trans I.ok.bsz I.ok.above)
theorem Inv.stkSub (I : Inv X pins σ H s) : ∀ b ∈ frs X.stack, b ∈ X.env.locals :: X.fs := fun b hb => by
  rcases I.ok.stk with e | ⟨e, hf⟩
  · rw [e] at hb; exact List.mem_cons_of_mem _ hb
  · rw [e] at hb
    unfold frs at hb
    rw [List.filterMap_cons, hf] at hb
    exact hb
theorem Inv.stkFree (I : Inv X pins σ H s) : ∀ b ∈ frs X.stack, H b = none := fun b hb => by
  rcases List.mem_cons.mp (I.stkSub b hb) with e | hb
  · rw [e]; exact I.free
  · obtain ⟨_, o, ho, _⟩ := I.ok.funs.mem hb
    exact I.base.free b o ho (I.ok.frf b hb) fun z => I.ok.exfs b z hb

/-- THE STEP: the untracked objects but the frame and the records at ch are kept (the callers' frames up to slots), the frame's map is kept, the new abstract heap is held -/
theorem Inv.step {g' : Array GenState} {t' : Nat} {d' : Drawn} {ch : List Addr} (I : Inv X pins σ H s)
    (hch : ∀ b ∈ ch, (b ∈ X.ex ∨ X.s₀.heap.objs.size ≤ b) ∧ b ≠ X.env.locals ∧ (∀ x c, X.env.cells.lookup x = some c → c ≠ b) ∧ ∀ p ∈ X.pn ++ pins, p.1 ≠ b)
    (keep : ∀ b o, b ≠ X.env.locals → b ∉ X.fs → b ∉ ch → s.heap.get? b = some o → H b = none → h'.get? b = some o)
    (slot : ∀ b o, b ≠ X.env.locals → b ∈ X.fs → b ∉ ch → s.heap.get? b = some o → H b = none → ∃ sl, h'.get? b = some { o with slots := sl }) (free : ∀ b o, b ∉ ch → s.heap.get? b = some o → H b = none → H' b = none)
    (there : ∀ b o, b ∉ ch → s.heap.get? b = some o → ∃ o', h'.get? b = some o')
    (tups : ∀ b xs, H b = some (.tup xs) → H' b = some (.tup xs)) (frzs : ∀ b o u, H b = some (.frz o u) → H' b = some (.frz o u)) (tbls : ∀ b ps, H b = some (.tbl ps) → ∃ more, H' b = some (.tbl (ps ++ more)))
    (ns : ∀ m, s.heap.Ns X.env.locals m → h'.Ns X.env.locals m) (hok : HOk X.prog X.w H' h') (hg : AllBare g') :
    Inv X pins σ H' { s with heap := h', gens := g', drawn := d', toks := t' } := by
  have neL : ∀ b o, X.s₀.heap.get? b = some o → b ≠ X.env.locals := fun b o e => Nat.ne_of_lt (Nat.lt_of_lt_of_le (Heap.lt_size e) I.ok.above)
  have neC : ∀ b o, X.s₀.heap.get? b = some o → b ∉ X.ex → b ∉ ch := fun b o e hx hb => by
    rcases (hch b hb).1 with z | z
    · exact hx z
    · exact absurd (Nat.lt_of_lt_of_le (Heap.lt_size e) z) (Nat.lt_irrefl _)
  have cellK : ∀ x c, X.env.cells.lookup x = some c → ∀ v, s.heap.IsCell c v → h'.IsCell c v := fun x c e v ⟨o, ho, hd⟩ => by
    have nch : c ∉ ch := fun z => (hch c z).2.2.1 x c e rfl
    by_cases hc : c ∈ X.fs
    · obtain ⟨sl, q⟩ := slot c o (I.cne x c e) hc nch ho (I.freeC x c e)
      exact ⟨_, q, hd⟩
    · exact ⟨o, keep c o (I.cne x c e) hc nch ho (I.freeC x c e), hd⟩
  refine ⟨I.ok, I.os, hg, ⟨fun b o e n hb hx => ?_, fun b o e n hb hx => ?_, fun b o e n hx => ?_, fun b o e hx => ?_, fun b xs e => tups b xs (I.base.tups b xs e), fun b o xs e => frzs b o xs (I.base.frzs b o xs e), fun b ps e => ?_⟩, ?_, fun x c e => ?_, ?_, fun x c e => ?_, fun p hp => ?_, hok, I.len⟩
  · exact keep b o (neL b o e) hb (neC b o e hx) (I.base.keep b o e n hb hx) (I.base.free b o e n hx)
  · obtain ⟨sl, e1⟩ := I.base.slot b o e n hb hx
    obtain ⟨sl', e2⟩ := slot b _ (neL b o e) hb (neC b o e hx) e1 (I.base.free b o e n hx)
    exact ⟨sl', e2⟩
  · obtain ⟨o', e1⟩ := I.base.there b o e hx
    exact free b o' (neC b o e hx) e1 (I.base.free b o e n hx)
  · obtain ⟨o', e1⟩ := I.base.there b o e hx
    exact there b o' (neC b o e hx) e1
  · obtain ⟨m1, e1⟩ := I.base.tbls b ps e
    obtain ⟨m2, e2⟩ := tbls b _ e1
    exact ⟨m1 ++ m2, by rw [e2, Array.append_assoc]⟩
  · obtain ⟨m, hn, hl⟩ := I.loc
    refine ⟨m, ns m hn, fun i x v e1 e2 e3 => ?_⟩
    obtain ⟨u, r, l⟩ := hl i x v e1 e2 e3
    refine ⟨u, r, ?_⟩
    rcases l with l | ⟨k, c, e, z⟩
    · exact .inl l
    · exact .inr ⟨k, c, e, cellK x c e _ z⟩
  · obtain ⟨v, z⟩ := I.cell x c e
    exact ⟨v, cellK x c e v z⟩
  · obtain ⟨m, ⟨o, _, _, ho, _⟩, _⟩ := I.loc
    exact free _ o (fun z => (hch _ z).2.1 rfl) ho I.free
  · obtain ⟨v, o, ho, hd⟩ := I.cell x c e
    exact free c o (fun z => (hch c z).2.2.1 x c e rfl) ho (I.freeC x c e)
  · obtain ⟨e, n, ne, nf, d⟩ := I.pin p hp
    have nch : p.1 ∉ ch := fun z => (hch p.1 z).2.2.2 p hp rfl
    exact ⟨keep p.1 p.2 ne nf nch e n, free p.1 p.2 nch e n, ne, nf, d⟩
/-- .. where the frame's own object is kept too -/
theorem Inv.un {t' : Nat} (I : Inv X pins σ H s) (u : Un X.fs [] H H' s.heap h') (hok : HOk X.prog X.w H' h') : Inv X pins σ H' { s with heap := h', toks := t' } := by
  obtain ⟨m, ⟨o, es, ep, ho, r⟩, _⟩ := id I.loc
  obtain ⟨sl, hL⟩ := u.any ho I.free (by simp)
  exact I.step (g' := s.gens) (d' := s.drawn) (ch := []) (fun _ z => nomatch z) (fun b o _ hb _ e n => u.keep b o e n hb (by simp)) (fun b o _ hb _ e n => u.slot b o e n hb (by simp)) (fun b o _ e n => u.free b o e n (by simp)) (fun b o _ e => u.there b o e (by simp)) u.tups u.frzs u.tbls (fun m' hm => by
    obtain ⟨o', es', ep', ho', r'⟩ := hm
    rw [ho] at ho'; cases ho'
    exact ⟨_, es', ep', hL, r'⟩) hok I.bare
/-- behind a call (or a comprehension's block): the slots of this frame may have changed too, the records at ch may have turned -/
theorem Inv.call {g' : Array GenState} {t' : Nat} {d' : Drawn} {ch : List Addr} (I : Inv X pins σ H s) (u : Un (frs X.stack) ch H H' s.heap h') (hok : HOk X.prog X.w H' h') (hg : AllBare g')
    (hch : ∀ b ∈ ch, (b ∈ X.ex ∨ X.s₀.heap.objs.size ≤ b) ∧ b ≠ X.env.locals ∧ (∀ x c, X.env.cells.lookup x = some c → c ≠ b) ∧ ∀ p ∈ X.pn ++ pins, p.1 ≠ b) :
    Inv X pins σ H' { s with heap := h', gens := g', drawn := d', toks := t' } := by
  obtain ⟨m, ⟨o, es, ep, ho, r⟩, _⟩ := id I.loc
  obtain ⟨sl, hL⟩ := u.any ho I.free fun z => (hch _ z).2.1 rfl
  exact I.step (ch := ch) hch (fun b o hL hb hc e n => u.keep b o e n (fun z => (List.mem_cons.mp (I.stkSub b z)).elim hL hb) hc) (fun b o _ _ hc e n => u.any e n hc) (fun b o hc e n => u.free b o e n hc) (fun b o hc e => u.there b o e hc) u.tups u.frzs u.tbls (fun m' hm => by
    obtain ⟨o', es', ep', ho', r'⟩ := hm
    rw [ho] at ho'; cases ho'
    exact ⟨_, es', ep', hL, r'⟩) hok hg
/-- an untracked record of ours (an iterator) has turned -/
theorem Inv.turned {t' : Nat} {it : Addr} (I : Inv X pins σ H s) (k : ∀ b o, b ≠ it → s.heap.get? b = some o → h'.get? b = some o) (hn : H it = none) (hL : it ≠ X.env.locals)
    (h1 : it ∈ X.ex ∨ X.s₀.heap.objs.size ≤ it) (h2 : ∀ x c, X.env.cells.lookup x = some c → c ≠ it) (h3 : ∀ p ∈ X.pn ++ pins, p.1 ≠ it) : Inv X pins σ H { s with heap := h', toks := t' } := by
  have nit : ∀ b u, H b = some u → b ≠ it := fun b u e z => by rw [z, hn] at e; cases e
  refine I.step (g' := s.gens) (d' := s.drawn) (ch := [it]) (fun b hb => ?_) (fun b o _ _ hc e _ => k b o (fun z => hc (by simp [z])) e) (fun b o _ _ hc e _ => ⟨o.slots, k b o (fun z => hc (by simp [z])) e⟩) (fun _ _ _ _ n => n)
    (fun b o hc e => ⟨o, k b o (fun z => hc (by simp [z])) e⟩) (fun _ _ e => e) (fun _ _ _ e => e) (fun b ps e => ⟨#[], by rw [e]; simp⟩) (fun m hm => ?_) (fun b u e => ?_) I.bare
  · have e : b = it := by simpa using hb
    subst e
    exact ⟨h1, hL, h2, h3⟩
  · obtain ⟨o, es, ep, ho, r⟩ := hm
    exact ⟨o, es, ep, k _ o (Ne.symm hL) ho, r⟩
  · refine (I.hok b u e).stay (fun c v hc q => k c v ?_ q) (fun _ q => q) fun _ _ q => q
    rcases hc with z | z
    · rw [z]; exact nit b u e
    · exact nit c _ z
theorem Inv.tok (I : Inv X pins σ H s) (t : Nat) : Inv X pins σ H { s with toks := t } := I.un (h' := s.heap) (t' := t) Un.refl I.hok
/-- all objects kept -/
theorem Inv.kept {t' : Nat} (I : Inv X pins σ H s) (k : ∀ b u, s.heap.get? b = some u → h'.get? b = some u) : Inv X pins σ H { s with heap := h', toks := t' } := I.un (Un.kept k) (I.hok.kept k)
/-- a new object laid and tracked -/
theorem Inv.laid {a : Addr} {o : HO} {t' : Nat} (I : Inv X pins σ H s) (k : ∀ b u, s.heap.get? b = some u → h'.get? b = some u) (hp : s.heap.objs.size ≤ a) (new : ObjOk X.prog X.w (upd H a o) h' a o) :
    Inv X pins σ (upd H a o) { s with heap := h', toks := t' } := I.un (Un.laid k hp (I.hok.fresh hp)) (I.hok.laid k hp new)
/-- an object written -/
theorem Inv.write {x e : Addr} {o : HO} {t' : Nat} (I : Inv X pins σ H s) (mu : Mut (H x)) (he : e = x ∨ H e = some (.own x)) (k : ∀ b u, b ≠ e → s.heap.get? b = some u → h'.get? b = some u) (heo : ∃ u, h'.get? e = some u)
    (new : ObjOk X.prog X.w (upd H x o) h' x o) : Inv X pins σ (upd H x o) { s with heap := h', toks := t' } := I.un (Un.write mu he k heo) (I.hok.write mu he k heo new)
theorem Inv.pins_of {pins' : List (Addr × Obj)} (I : Inv X pins σ H s) (h : ∀ p ∈ pins', s.heap.get? p.1 = some p.2 ∧ H p.1 = none ∧ p.1 ≠ X.env.locals ∧ p.1 ∉ X.fs ∧ ∀ v, p.2.data ≠ .cell v) : Inv X pins' σ H s :=
  ⟨I.ok, I.os, I.bare, I.base, I.loc, I.cell, I.free, I.freeC, fun p hp => (List.mem_append.mp hp).elim (fun z => I.pin p (List.mem_append_left _ z)) (h p), I.hok, I.len⟩

theorem nodup_ix {N : List Str} (hN : N.Nodup) {i j : Nat} {x : Str} (a : N[i]? = some x) (b : N[j]? = some x) : i = j := by
  obtain ⟨h1, e1⟩ := List.getElem?_eq_some_iff.mp a
  obtain ⟨h2, e2⟩ := List.getElem?_eq_some_iff.mp b
  exact (List.getElem_inj hN).mp (e1.trans e2.symm)

/-- a name is stored; what changed -/
theorem store_ok2 {M : Model} {A : Around} {E : Value → Shared → Prop} {i : Nat} {x : Str} {v : V} {u : Value} {Q : Unit → Shared → Prop} (I : Inv X pins σ H s) (hN : X.N.Nodup) (hi : X.N[i]? = some x) (hx : Loc X.env.scope x) (r : RelV v u)
    (h : ∀ s', Inv X pins (σ.set i (some v)) H s' → (∃ a, Heap.SameBut a s.heap s'.heap ∧ (a = X.env.locals ∨ X.env.cells.lookup x = some a)) → Q () s') (hf : X.fn x = true ∨ X.env.scope.names.lookup x = some .local := by first | exact .inl rfl | exact .inr rfl | assumption) : wpAny M A (storeName X.env x u) Q E s := by
  obtain ⟨m, hn, hl⟩ := id I.loc
  have hcls : (X.env.scope.kind == .class || (X.env.scope.kind == .module && X.env.locals != X.env.globals)) = false := by rw [I.ok.kind]; rfl
  have hiσ : i < σ.length := by rw [I.len]; exact (List.getElem?_eq_some_iff.mp hi).1
  have cne := I.cne
  have tracked : ∀ {a : Addr} {h' : Heap}, (∃ o, s.heap.get? a = some o ∧ H a = none) → Heap.SameBut a s.heap h' → HOk X.prog X.w H h' := fun {a h'} ha hs b ob e => by
    obtain ⟨_, _, hfree⟩ := ha
    refine (I.hok b ob e).stay (fun c w' hc q => (hs.2 c ?_).trans q) (fun _ q => q) fun _ _ q => q
    rintro rfl
    rcases hc with rfl | hc
    · rw [hfree] at e; cases e
    · rw [hfree] at hc; cases hc
  rcases hx with hk | hk
  · refine wpAny_storeName_local hk hn (fun h' hn' hs => ?_) hcls
    obtain ⟨oL, _, _, hoL, _⟩ := id hn
    refine h _ ⟨I.ok, I.os, I.bare, ⟨fun b o e n hb hx => ?_, fun b o e n hb hx => ?_, I.base.free, fun b o e hx => ?_, I.base.tups, I.base.frzs, I.base.tbls⟩, ⟨_, hn', fun j y v' e1 e2 e3 => ?_⟩, fun y c e => ?_, I.free, I.freeC, fun p hp => ?_, tracked ⟨oL, hoL, I.free⟩ hs, by simpa using I.len⟩ ⟨_, hs, .inl rfl⟩
    · exact (hs.2 b (Nat.ne_of_lt (Nat.lt_of_lt_of_le (Heap.lt_size e) I.ok.above))).trans (I.base.keep b o e n hb hx)
    · obtain ⟨sl, e1⟩ := I.base.slot b o e n hb hx
      exact ⟨sl, (hs.2 b (Nat.ne_of_lt (Nat.lt_of_lt_of_le (Heap.lt_size e) I.ok.above))).trans e1⟩
    · obtain ⟨o', e1⟩ := I.base.there b o e hx
      exact ⟨o', (hs.2 b (Nat.ne_of_lt (Nat.lt_of_lt_of_le (Heap.lt_size e) I.ok.above))).trans e1⟩
    · by_cases hj : j = i
      · subst hj
        rw [hi] at e1; cases e1
        rw [List.getElem?_set_self hiσ] at e2
        cases e2
        exact ⟨u, r, .inl ⟨hk, by simp⟩⟩
      · rw [List.getElem?_set_ne (Ne.symm hj)] at e2
        obtain ⟨u', r', q⟩ := hl j y v' e1 e2 e3
        refine ⟨u', r', ?_⟩
        rcases q with ⟨k, e⟩ | ⟨k, c, e, z⟩
        · refine .inl ⟨k, ?_⟩
          have : y ≠ x := fun e => hj (nodup_ix hN e1 (e ▸ hi))
          simp [this, e]
        · exact .inr ⟨k, c, e, z.sameBut hs (cne y c e)⟩
    · obtain ⟨w', z⟩ := I.cell y c e
      exact ⟨w', z.sameBut hs (cne y c e)⟩
    · obtain ⟨e, n, ne, nf, d⟩ := I.pin p hp
      exact ⟨(hs.2 p.1 ne).trans e, n, ne, nf, d⟩
  · have hfn : X.fn x = true := by
      rcases hf with z | z
      · exact z
      · rw [z] at hk; cases hk
    obtain ⟨c, hc⟩ := I.ok.has x (.inl hk)
    obtain ⟨w', z⟩ := I.cell x c hc
    refine wpAny_storeName_cell I.ok.kind hk hc z (fun h' hc' hs => ?_)
    obtain ⟨oc, hoc, hocd⟩ := id z
    refine h { s with heap := h' } ⟨I.ok, I.os, I.bare, ⟨fun b o e n hb hx => ?_, fun b o e n hb hx => ?_, I.base.free, fun b o e hx => ?_, I.base.tups, I.base.frzs, I.base.tbls⟩, ⟨m, hn.sameBut hs (Ne.symm (cne x c hc)), fun j y v' e1 e2 e3 => ?_⟩, fun y c' e => ?_, I.free, I.freeC, fun p hp => ?_, tracked ⟨oc, hoc, I.freeC x c hc⟩ hs, by simpa using I.len⟩ ⟨c, hs, .inr hc⟩
    · exact (hs.2 b (Nat.ne_of_lt (Nat.lt_of_lt_of_le (Heap.lt_size e) (I.ok.cab x c hfn hc)))).trans (I.base.keep b o e n hb hx)
    · obtain ⟨sl, e1⟩ := I.base.slot b o e n hb hx
      exact ⟨sl, (hs.2 b (Nat.ne_of_lt (Nat.lt_of_lt_of_le (Heap.lt_size e) (I.ok.cab x c hfn hc)))).trans e1⟩
    · obtain ⟨o', e1⟩ := I.base.there b o e hx
      exact ⟨o', (hs.2 b (Nat.ne_of_lt (Nat.lt_of_lt_of_le (Heap.lt_size e) (I.ok.cab x c hfn hc)))).trans e1⟩
    · by_cases hj : j = i
      · subst hj
        rw [hi] at e1; cases e1
        rw [List.getElem?_set_self hiσ] at e2
        cases e2
        exact ⟨u, r, .inr ⟨.inl hk, c, hc, hc'⟩⟩
      · rw [List.getElem?_set_ne (Ne.symm hj)] at e2
        obtain ⟨u', r', q⟩ := hl j y v' e1 e2 e3
        refine ⟨u', r', ?_⟩
        rcases q with q | ⟨k, c', e, z'⟩
        · exact .inl q
        · refine .inr ⟨k, c', e, z'.sameBut hs ?_⟩
          rintro rfl
          exact hj (nodup_ix hN e1 (I.ok.inj _ _ _ e hc ▸ hi))
    · by_cases hcc : c' = c
      · subst hcc; exact ⟨_, hc'⟩
      · obtain ⟨w2, z2⟩ := I.cell y c' e
        exact ⟨w2, z2.sameBut hs hcc⟩
    · obtain ⟨e, n, ne, nf, d⟩ := I.pin p hp
      refine ⟨(hs.2 p.1 ?_).trans e, n, ne, nf, d⟩
      intro q
      rw [q, hoc] at e
      have q' : oc = p.2 := Option.some.inj e
      exact d w' (by rw [← q']; exact hocd)
theorem store_ok {M : Model} {A : Around} {E : Value → Shared → Prop} {i : Nat} {x : Str} {v : V} {u : Value} {Q : Unit → Shared → Prop} (I : Inv X pins σ H s) (hN : X.N.Nodup) (hi : X.N[i]? = some x) (hx : Loc X.env.scope x) (r : RelV v u)
    (h : ∀ s', Inv X pins (σ.set i (some v)) H s' → Q () s') (hf : X.fn x = true ∨ X.env.scope.names.lookup x = some .local := by first | exact .inl rfl | exact .inr rfl | assumption) : wpAny M A (storeName X.env x u) Q E s :=
  store_ok2 I hN hi hx r (fun s' I' _ => h s' I') hf
/-- behind a call or a block, the state as it is -/
theorem Inv.call' {s' : Shared} {ch : List Addr} (I : Inv X pins σ H s) (ho : s'.os = s.os) (u : Un (frs X.stack) ch H H' s.heap s'.heap) (hok : HOk X.prog X.w H' s'.heap) (hg : AllBare s'.gens)
    (hch : ∀ b ∈ ch, (b ∈ X.ex ∨ X.s₀.heap.objs.size ≤ b) ∧ b ≠ X.env.locals ∧ (∀ x c, X.env.cells.lookup x = some c → c ≠ b) ∧ ∀ p ∈ X.pn ++ pins, p.1 ≠ b) : Inv X pins σ H' s' := by
  obtain ⟨h', g', d', t', o'⟩ := s'
  have e : o' = s.os := ho
  subst e
  exact I.call (g' := g') (t' := t') (d' := d') u hok hg hch
end

/-! ### the judgements -/
/-- an exception: its class, its own dict's address (where it has one), the abstract heap behind it -/
abbrev XK := Value → Option Addr → Hp → Prop
abbrev St := List (Option V)
abbrev VK := V → Hp → Prop
/-- an expression's reading; a test's; an argument list's -/
abbrev TE := St → Hp → VK → Prop
abbrev TT := St → Hp → (Bool → Hp → Prop) → Prop
abbrev TA := St → Hp → (List V → Hp → Prop) → Prop
/-- what is wanted behind a statement -/
structure Ends where
  nx : St → Hp → Prop
  rt : VK
  bk : St → Hp → Prop := fun _ _ => False
  ct : St → Hp → Prop := fun _ _ => False
abbrev TS := Ends → St → Hp → Prop

def EP (X : Cx) (pins : List (Addr × Obj)) (σ : St) (Q : VK) (u : Value) (s' : Shared) : Prop := ∃ v H', Inv X pins σ H' s' ∧ RelV v u ∧ Q v H'
def TP (X : Cx) (pins : List (Addr × Obj)) (σ : St) (Q : Bool → Hp → Prop) (b : Bool) (s' : Shared) : Prop := ∃ H', Inv X pins σ H' s' ∧ Q b H'
def AP (X : Cx) (pins : List (Addr × Obj)) (σ : St) (Q : List V → Hp → Prop) (us : List Value) (s' : Shared) : Prop := ∃ vs H', Inv X pins σ H' s' ∧ Vals vs us ∧ Q vs H'
def SP (X : Cx) (pins : List (Addr × Obj)) (D : Ends) (f : Flow) (s' : Shared) : Prop :=
  match f with
  | .next => ∃ σ' H', Inv X pins σ' H' s' ∧ D.nx σ' H'
  | .brk => ∃ σ' H', Inv X pins σ' H' s' ∧ D.bk σ' H'
  | .cont => ∃ σ' H', Inv X pins σ' H' s' ∧ D.ct σ' H'
  | .ret u => ∃ v σ' H', Inv X pins σ' H' s' ∧ RelV v u ∧ D.rt v H'

def PE (X : Cx) (e : Expr) (t : TE) : Prop :=
  ∀ (pins : List (Addr × Obj)) (s : Shared) (σ : St) (H : Hp) (Q : VK), Inv X pins σ H s → t σ H Q → wpAny (model X.prog X.w) X.A (eval e X.env) (EP X pins σ Q) X.xe s
def PT (X : Cx) (e : Expr) (t : TT) : Prop :=
  ∀ (pins : List (Addr × Obj)) (s : Shared) (σ : St) (H : Hp) (Q : Bool → Hp → Prop), Inv X pins σ H s → t σ H Q → wpAny (model X.prog X.w) X.A (isTrue e X.env (eval e X.env)) (TP X pins σ Q) X.xe s
/-- a test whatever its 'whole' is (and, or) -/
def PW (X : Cx) (e : Expr) (t : TT) : Prop :=
  ∀ (whole : Sem Value) (pins : List (Addr × Obj)) (s : Shared) (σ : St) (H : Hp) (Q : Bool → Hp → Prop), Inv X pins σ H s → t σ H Q → wpAny (model X.prog X.w) X.A (isTrue e X.env whole) (TP X pins σ Q) X.xe s
theorem PW.pt {X : Cx} {e : Expr} {t : TT} (h : PW X e t) : PT X e t := h _
/-- an argument list (no star), from the left -/
def PA (X : Cx) (es : List Expr) (t : TA) : Prop :=
  ∀ (pos : Pos) (pins : List (Addr × Obj)) (s : Shared) (σ : St) (H : Hp) (Q : List V → Hp → Prop), Inv X pins σ H s → t σ H Q → wpAny (model X.prog X.w) X.A (spliced (backTo pos (starEach es X.env))) (AP X pins σ Q) X.xe s
def PS (X : Cx) (st : Stmt) (t : TS) : Prop :=
  ∀ (pins : List (Addr × Obj)) (s : Shared) (σ : St) (H : Hp) (D : Ends), Inv X pins σ H s → t D σ H → wpAny (model X.prog X.w) X.A (exec st X.env) (SP X pins D) X.xe s
def PSs (X : Cx) (st : List Stmt) (t : TS) : Prop :=
  ∀ (pins : List (Addr × Obj)) (s : Shared) (σ : St) (H : Hp) (D : Ends), Inv X pins σ H s → t D σ H → wpAny (model X.prog X.w) X.A (execs st X.env) (SP X pins D) X.xe s
/-- weaken the end -/
theorem thn {α : Type} {t : Sem α} {Q Q' : α → Shared → Prop} {M : Model} {A : Around} {E : Value → Shared → Prop} {s : Shared} (h : wpAny M A t Q E s) (hQ : ∀ a s, Q a s → Q' a s) : wpAny M A t Q' E s := wpAny_mono h hQ fun _ _ x => x
end L2

namespace L2
open PySem PySem.Spec PyProof.Rows
section
variable {X : Cx}

/-- two expressions in a row -/
theorem bin {a b : Expr} {ta tb : TE} (ha : PE X a ta) (hb : PE X b tb) {pins : List (Addr × Obj)} {s : Shared} {σ : St} {H : Hp} {R : V → V → Hp → Prop} (I : Inv X pins σ H s) (h : ta σ H fun x H1 => tb σ H1 fun y H2 => R x y H2)
    {α : Type} {Q : α → Shared → Prop} {f : Value → Value → Sem α}
    (hf : ∀ v u s2 x y H2, Inv X pins σ H2 s2 → RelV x v → RelV y u → R x y H2 → wpAny (model X.prog X.w) X.A (f v u) Q X.xe s2) :
    wpAny (model X.prog X.w) X.A (eval a X.env) (fun v s₁ => wpAny (model X.prog X.w) X.A (eval b X.env) (fun u s₂ => wpAny (model X.prog X.w) X.A (f v u) Q X.xe s₂) X.xe s₁) X.xe s := by
  refine thn (ha pins s σ H _ I h) fun v s1 ⟨x, H1, I1, r1, q1⟩ => ?_
  refine thn (hb pins s1 σ H1 _ I1 q1) fun u s2 ⟨y, H2, I2, r2, q2⟩ => ?_
  exact hf v u s2 x y H2 I2 r1 r2 q2

/-! ### names and constants -/
def tVar (i : Nat) : TE := fun σ H Q => ∃ v, σ[i]? = some (some v) ∧ Q v H
def tC (v : V) : TE := fun _ H Q => Q v H
theorem pe_var {i : Nat} {x : Str} {pos : Pos} (hN : X.N[i]? = some x) (hv : Vis X.env.scope x) (hd : (x == ("__debug__" : Str)) = false := by decide) (hcd : (x == ("__classdict__" : Str)) = false := by decide) : PE X (.Name x pos) (tVar i) := by
  intro pins s σ H Q I h
  obtain ⟨v, e, h⟩ := h
  obtain ⟨m, hn, hl⟩ := I.loc
  obtain ⟨u, r, l⟩ := hl i x v hN e hv
  have fin : EP X pins σ Q u s := ⟨v, H, I, r, h⟩
  rcases l with ⟨hk, hm⟩ | ⟨hk, c, hc, hcell⟩
  · exact wpAny_Name (wpAny_loadName_local I.ok.kind hk hn hm fin) hd
  · rcases hk with hk | hk
    · exact wpAny_Name (wpAny_loadName_cell I.ok.kind hk hc hcell fin) hd
    · exact wpAny_Name (wpAny_loadName_free I.ok.kind hk hc hcell fin hcd) hd
theorem pe_int {i j pos} : PE X (.Constant (.int i) j pos) (tC (.int i)) := fun _ _ _ H _ I h => wpAny_Constant_int ⟨.int i, H, I.tok _, ⟨_, rfl⟩, h⟩
theorem pe_bl {b j pos} : PE X (.Constant (.bool b) j pos) (tC (.bl b)) := fun _ _ _ H _ I h => Constant_bool ⟨.bl b, H, I, rfl, h⟩
theorem pe_str {x j pos} : PE X (.Constant (.str x) j pos) (tC (.str x)) := fun _ _ _ H _ I h => Calls.Constant_str ⟨.str x, H, I.tok _, ⟨_, rfl⟩, h⟩

/-- a global name of the def -/
def Gl (X : Cx) (x : Str) : Prop := X.env.kindOf x = some .globalImplicit
theorem ld_glob {E : Value → Shared → Prop} {pins : List (Addr × Obj)} {s : Shared} {σ : St} {H : Hp} {x : Str} {u : Value} {pos : Pos} {Q : Value → Shared → Prop} (I : Inv X pins σ H s) (hg : Gl X x) (hm : X.mg x = some u) (h : Q u s)
    (hd : (x == ("__debug__" : Str)) = false := by decide) : wpAny (model X.prog X.w) X.A (eval (.Name x pos) X.env) Q E s :=
  Calls.Name_function_global I.ok.kind hg (Calls.loadGlobal_global (by rw [I.ok.glob]; exact I.mod.glob.keeps I.bk) hm h) hd
theorem ld_blt {E : Value → Shared → Prop} {pins : List (Addr × Obj)} {s : Shared} {σ : St} {H : Hp} {x : Str} {u : Value} {pos : Pos} {Q : Value → Shared → Prop} (I : Inv X pins σ H s) (hg : Gl X x) (hm : X.mg x = none) (hv : bootBuiltins x = some u) (h : Q u s)
    (hn : x ≠ "__name__" := by decide) (hd : (x == ("__debug__" : Str)) = false := by decide) : wpAny (model X.prog X.w) X.A (eval (.Name x pos) X.env) Q E s := by
  obtain ⟨mb, h1, h2⟩ := I.mod.blt
  exact Calls.Name_function_global I.ok.kind hg (Calls.loadGlobal_builtin (by rw [I.ok.glob]; exact I.mod.glob.keeps I.bk) hm (by rw [I.ok.blt]; exact h1.keeps I.bk) ((h2 x hn).trans hv) h) hd
/-- a module's constant, a class, a function, as a value -/
theorem pe_glob {x : Str} {v : V} {u : Value} {pos : Pos} (hg : Gl X x) (hm : X.mg x = some u) (r : RelV v u) (hd : (x == ("__debug__" : Str)) = false := by decide) : PE X (.Name x pos) (tC v) :=
  fun _ _ _ H _ I h => ld_glob I hg hm ⟨v, H, I, r, h⟩ hd
theorem pe_bltn {x : Str} {v : V} {u : Value} {pos : Pos} (hg : Gl X x) (hm : X.mg x = none) (hv : bootBuiltins x = some u) (r : RelV v u) (hn : x ≠ "__name__" := by decide) (hd : (x == ("__debug__" : Str)) = false := by decide) : PE X (.Name x pos) (tC v) :=
  fun _ _ _ H _ I h => ld_blt I hg hm hv ⟨v, H, I, r, h⟩ hn hd

/-! ### arithmetic -/
variable {a b : Expr} {ta tb : TE} {pos : Pos}
/-! ### comparisons -/
def PC (X : Cx) (op : CmpOp) (a b : Expr) (t : TE) : Prop :=
  ∀ (pins : List (Addr × Obj)) (s : Shared) (σ : St) (H : Hp) (Q : VK), Inv X pins σ H s → t σ H Q →
    wpAny (model X.prog X.w) X.A (eval a X.env) (fun v s₁ => wpAny (model X.prog X.w) X.A (eval b X.env) (fun u s₂ => wpAny (model X.prog X.w) X.A (compareOp op v u) (EP X pins σ Q) X.xe s₂) X.xe s₁) X.xe s
theorem nobehind (b : Expr) {op : CmpOp} (h : op ≠ .In) (h2 : op ≠ .NotIn) : behindInMarks op b = false := by
  have e1 : (op == CmpOp.In) = false := by cases op <;> first | rfl | exact absurd rfl h
  have e2 : (op == CmpOp.NotIn) = false := by cases op <;> first | rfl | exact absurd rfl h2
  cases b <;> simp [behindInMarks, e1, e2]
/-- is None -/
def tIsN (ta : TE) : TE := fun σ H Q => ta σ H fun x H1 => Q (.bl (decide (x = .non))) H1
def tNotN (ta : TE) : TE := fun σ H Q => ta σ H fun x H1 => Q (.bl (!decide (x = .non))) H1
theorem RelV.none_iff {x : V} {v : Value} (r : RelV x v) : (v == Value.none) = decide (x = .non) := by
  cases x with
  | non => cases r; rfl
  | bl _ => cases r; rfl
  | int _ => obtain ⟨t, rfl⟩ := r; rfl
  | str _ => obtain ⟨t, rfl⟩ := r; rfl
  | byt _ => obtain ⟨t, rfl⟩ := r; rfl
  | flt _ => obtain ⟨t, rfl⟩ := r; rfl
  | ref _ => cases r; rfl
  | ty _ => cases r; rfl
theorem pc_isN {j pos'} (ha : PE X a ta) : PC X .Is a (.Constant .none j pos') (tIsN ta) := by
  intro pins s σ H Q I h
  refine thn (ha pins s σ H _ I h) fun v s1 ⟨x, H1, I1, r1, q1⟩ => ?_
  exact Constant_none (is_none_gen ⟨.bl _, H1, I1, by rw [r1.none_iff]; rfl, q1⟩)
/-- a comparison as a value, as a test -/
def tB (t : TE) : TT := fun σ H Q => t σ H fun x H1 => ∃ c, x = .bl c ∧ Q c H1
theorem pe_cmp {op : CmpOp} {t : TE} (h : PC X op a b t) (h1 : behindInMarks op b = false := by first | exact nobehind _ (by decide) (by decide) | rfl) : PE X (.Compare a [op] [b] pos) t := fun pins s σ H Q I hw => wpAny_Compare1 (h pins s σ H Q I hw) h1
theorem pt_cmp {op : CmpOp} {t : TE} (h : PC X op a b t) (h1 : behindInMarks op b = false := by first | exact nobehind _ (by decide) (by decide) | rfl) : PT X (.Compare a [op] [b] pos) (tB t) := by
  intro pins s σ H Q I hw
  refine wpAny_isTrue_Compare1 (thn (h pins s σ H _ I hw) fun v s1 h1 => thn h1 fun u s2 h2 => thn h2 fun c s3 ⟨x, H1, I1, r1, q1⟩ => ?_) h1
  obtain ⟨d, rfl, q⟩ := q1
  cases r1
  exact wpAny_truthy_bool ⟨H1, I1, q⟩
/-- an expression whose value is a bool, as a test -/
theorem pt_val {e : Expr} {t : TE} (h : PE X e t) (he : ∀ whole, isTrue e X.env whole = (do let v ← whole; standAt e.pos; holding [v] (truthy v)) := by intro _; rfl) : PT X e (tB t) := by
  intro pins s σ H Q I hw
  refine isTrue_plain (thn (h pins s σ H _ I hw) fun v s1 ⟨x, H1, I1, r1, q1⟩ => ?_) (he _)
  obtain ⟨d, rfl, q⟩ := q1
  cases r1
  exact wpAny_truthy_bool ⟨H1, I1, q⟩

/-! ### and, or, not -/
variable {tA tB' : TT} {rest : List Expr}
def tAnd (t u : TT) : TT := fun σ H Q => t σ H fun c H1 => if c = true then u σ H1 Q else Q false H1
def tOr (t u : TT) : TT := fun σ H Q => t σ H fun c H1 => if c = true then Q true H1 else u σ H1 Q
def tNot (t : TT) : TT := fun σ H Q => t σ H fun c H1 => Q (!c) H1
theorem pw_and1 (ha : PT X a tA) : PW X (.BoolOp .And [a] pos) tA := by
  intro wh pins s σ H Q I h
  refine isTrue_and (thn (ha pins s σ H Q I h) fun c s1 e => ?_)
  cases c with
  | true => exact isTrue_and_nil e
  | false => exact e
theorem pw_or1 (ha : PT X a tA) : PW X (.BoolOp .Or [a] pos) tA := by
  intro wh pins s σ H Q I h
  refine isTrue_or (thn (ha pins s σ H Q I h) fun c s1 e => ?_)
  cases c with
  | false => exact isTrue_or_nil e
  | true => exact e
theorem pw_and (ha : PT X a tA) (hb : PW X (.BoolOp .And (b :: rest) pos) tB') : PW X (.BoolOp .And (a :: b :: rest) pos) (tAnd tA tB') := by
  intro wh pins s σ H Q I h
  refine isTrue_and (thn (ha pins s σ H _ I h) fun c s1 ⟨H1, I1, q1⟩ => ?_)
  cases c with
  | true => exact hb wh pins s1 σ H1 Q I1 q1
  | false => exact ⟨H1, I1, q1⟩
theorem pw_or (ha : PT X a tA) (hb : PW X (.BoolOp .Or (b :: rest) pos) tB') : PW X (.BoolOp .Or (a :: b :: rest) pos) (tOr tA tB') := by
  intro wh pins s σ H Q I h
  refine isTrue_or (thn (ha pins s σ H _ I h) fun c s1 ⟨H1, I1, q1⟩ => ?_)
  cases c with
  | true => exact ⟨H1, I1, q1⟩
  | false => exact hb wh pins s1 σ H1 Q I1 q1
theorem pt_not (ha : PT X a tA) : PT X (.UnaryOp .Not a pos) (tNot tA) := by
  intro pins s σ H Q I h
  exact isTrue_not (ha pins s σ H (fun c H1 => Q (!c) H1) I h)
/-- .. as values (bools) -/
def tAndV (ta tb : TE) : TE := fun σ H Q => ta σ H fun x H1 => ∃ c, x = .bl c ∧ if c = true then tb σ H1 Q else Q (.bl false) H1
def tOrV (ta tb : TE) : TE := fun σ H Q => ta σ H fun x H1 => ∃ c, x = .bl c ∧ if c = true then Q (.bl true) H1 else tb σ H1 Q
def tNotV (ta : TE) : TE := fun σ H Q => ta σ H fun x H1 => ∃ c, x = .bl c ∧ Q (.bl (!c)) H1
theorem pe_one {op} {t : TE} (h : PE X a t) : PE X (.BoolOp op [a] pos) t := fun pins s σ H Q I hw => BoolOp_one (h pins s σ H Q I hw)
theorem pe_and (ha : PE X a ta) (hb : PE X (.BoolOp .And (b :: rest) pos) tb) : PE X (.BoolOp .And (a :: b :: rest) pos) (tAndV ta tb) := by
  intro pins s σ H Q I h
  refine BoolOp_and (thn (ha pins s σ H _ I h) fun v s1 ⟨x, H1, I1, r1, q1⟩ => ?_)
  obtain ⟨c, rfl, q1⟩ := q1
  cases r1
  refine wpAny_truthy_bool ?_
  cases c with
  | true => exact hb pins s1 σ H1 Q I1 q1
  | false => exact ⟨.bl false, H1, I1, rfl, q1⟩
/-- a if t else b -/
def tIf (t : TT) (ta tb : TE) : TE := fun σ H Q => t σ H fun c H1 => if c = true then ta σ H1 Q else tb σ H1 Q
end
end L2

namespace L2
open PySem PySem.Spec PyProof.Rows

/-! ### a list, a tuple that is read: tracked, frozen, or an object of the module -/
def SqL (K : PySem.W.Frag) (H : Hp) (a : Addr) (xs : List V) : Prop :=
  Rd H a (.lst xs) ∨
    ∃ (o : Obj) (its : Array Value) (n : Nat), K.lookup a = some o ∧ o.cls = .type "list" ∧ o.dict = none ∧ o.data = .seq its n ∧ its.size ≤ sizeLine ∧ Vals xs its.toList
def SqT (K : PySem.W.Frag) (H : Hp) (a : Addr) (xs : List V) : Prop :=
  Rd H a (.tup xs) ∨
    ∃ (o : Obj) (its : Array Value) (n : Nat), K.lookup a = some o ∧ o.cls = .type "tuple" ∧ o.data = .seq its n ∧ its.size ≤ sizeLine ∧ Vals xs its.toList
def absV : Value → Option V
  | .none => some .non
  | .bool b => some (.bl b)
  | .int i _ => some (.int i)
  | .str x _ => some (.str x)
  | .bytes b _ => some (.byt b)
  | .float b _ => some (.flt b)
  | .ref a => some (.ref a)
  | .type n => some (.ty n)
  | _ => none
theorem RelV.abs {x : V} {u : Value} (r : RelV x u) : absV u = some x := by
  cases x with
  | non => cases r; rfl
  | bl _ => cases r; rfl
  | int _ => obtain ⟨t, rfl⟩ := r; rfl
  | str _ => obtain ⟨t, rfl⟩ := r; rfl
  | byt _ => obtain ⟨t, rfl⟩ := r; rfl
  | flt _ => obtain ⟨t, rfl⟩ := r; rfl
  | ref _ => cases r; rfl
  | ty _ => cases r; rfl
theorem RelV.inj {x y : V} {u : Value} (r : RelV x u) (q : RelV y u) : x = y := Option.some.inj (r.abs.symm.trans q.abs)
theorem Vals.inj : ∀ {xs ys : List V} {us : List Value}, Vals xs us → Vals ys us → xs = ys
  | _, _, _, .nil, .nil => rfl
  | _, _, _, .cons r t, .cons r' t' => by rw [r.inj r', Vals.inj t t']
section
variable {X : Cx} {pins : List (Addr × Obj)} {σ : St} {H : Hp} {s : Shared} {a : Addr} {xs ys : List V}
theorem SqL.of {K : PySem.W.Frag} (h : H a = some (.lst xs)) : SqL K H a xs := .inl (.inl h)
theorem SqT.of {K : PySem.W.Frag} (h : H a = some (.tup xs)) : SqT K H a xs := .inl (.inl h)
theorem Inv.list (I : Inv X pins σ H s) (h : SqL X.K H a xs) : ∃ its : List Value, Vals xs its ∧ PlainL s.heap a its.toArray ∧ xs.length ≤ sizeLine := by
  rcases h with h | ⟨o, its, n, hk, hc, hd, hs, hz, r⟩
  · obtain ⟨z, its, n, r, e⟩ := h.ok I.hok
    exact ⟨its, r, ⟨_, n, e, rfl, rfl, rfl⟩, z⟩
  · refine ⟨its.toList, r, ⟨o, n, I.kIn a o hk, hc, hd, by simpa using hs⟩, ?_⟩
    have e := r.length
    simp only [Array.length_toList] at e
    omega
theorem Inv.tuple (I : Inv X pins σ H s) (h : SqT X.K H a xs) : ∃ its : List Value, Vals xs its ∧ IsTup s.heap a its.toArray ∧ xs.length ≤ sizeLine := by
  rcases h with h | ⟨o, its, n, hk, hc, hs, hz, r⟩
  · obtain ⟨z, its, r, p⟩ := h.ok I.hok
    exact ⟨its, r, p, z⟩
  · refine ⟨its.toList, r, ⟨o, I.kIn a o hk, hc, n, by simpa using hs⟩, ?_⟩
    have e := r.length
    simp only [Array.length_toList] at e
    omega
theorem Inv.list_inj (I : Inv X pins σ H s) (h : SqL X.K H a xs) (h' : SqL X.K H a ys) : xs = ys := by
  obtain ⟨its, r, ⟨o, n, e, _, _, d⟩, _⟩ := I.list h
  obtain ⟨its', r', ⟨o', n', e', _, _, d'⟩, _⟩ := I.list h'
  rw [e] at e'; cases e'
  rw [d] at d'
  injection d' with d1 _
  have : its = its' := by simpa using congrArg Array.toList d1
  subst this
  exact r.inj r'
theorem Inv.tuple_inj (I : Inv X pins σ H s) (h : SqT X.K H a xs) (h' : SqT X.K H a ys) : xs = ys := by
  obtain ⟨its, r, ⟨o, e, _, n, d⟩, _⟩ := I.tuple h
  obtain ⟨its', r', ⟨o', e', _, n', d'⟩, _⟩ := I.tuple h'
  rw [e] at e'; cases e'
  rw [d] at d'
  injection d' with d1 _
  have : its = its' := by simpa using congrArg Array.toList d1
  subst this
  exact r.inj r'
end

/-! ### another wish about exceptions -/
abbrev Cx.wish (X : Cx) (E : Value → Shared → Prop) : Cx := { X with xe := E }
/-- no exception leaves -/
abbrev Cx.nox (X : Cx) : Cx := X.wish fun _ _ => False
theorem Cx.Ok.wish {X : Cx} (ok : X.Ok) (E : Value → Shared → Prop) : (X.wish E).Ok :=
  ⟨ok.mod, ok.kind, ok.glob, ok.blt, ok.above, ok.inj, ok.has, ok.cab, ok.hd, ok.frames, ok.stk, ok.exf, ok.bs, ok.bsz, ok.noex, ok.exfs, ok.funs, ok.frf⟩
theorem Cx.Ok.unwish {X : Cx} {E : Value → Shared → Prop} (ok : (X.wish E).Ok) : X.Ok :=
  ⟨ok.mod, ok.kind, ok.glob, ok.blt, ok.above, ok.inj, ok.has, ok.cab, ok.hd, ok.frames, ok.stk, ok.exf, ok.bs, ok.bsz, ok.noex, ok.exfs, ok.funs, ok.frf⟩
section
variable {X : Cx} {pins : List (Addr × Obj)} {σ : St} {H : Hp} {s : Shared} {E : Value → Shared → Prop}
theorem Inv.wish (I : Inv X pins σ H s) (E : Value → Shared → Prop) : Inv (X.wish E) pins σ H s := ⟨I.ok.wish E, I.os, I.bare, I.base, I.loc, I.cell, I.free, I.freeC, I.pin, I.hok, I.len⟩
theorem Inv.unwish (I : Inv (X.wish E) pins σ H s) : Inv X pins σ H s := ⟨I.ok.unwish, I.os, I.bare, I.base, I.loc, I.cell, I.free, I.freeC, I.pin, I.hok, I.len⟩
theorem SP.unwish {D : Ends} {f : Flow} {s' : Shared} (h : SP (X.wish E) pins D f s') : SP X pins D f s' := by
  cases f with
  | next => obtain ⟨σ', H', I, q⟩ := h; exact ⟨σ', H', I.unwish, q⟩
  | brk => obtain ⟨σ', H', I, q⟩ := h; exact ⟨σ', H', I.unwish, q⟩
  | cont => obtain ⟨σ', H', I, q⟩ := h; exact ⟨σ', H', I.unwish, q⟩
  | ret u => obtain ⟨v, σ', H', I, r, q⟩ := h; exact ⟨v, σ', H', I.unwish, r, q⟩
theorem PE.nox {e : Expr} {t : TE} (h : PE X.nox e t) : PE X e t := fun pins s σ H Q I hw =>
  wpAny_mono (h pins s σ H Q (I.wish _) hw) (fun _ _ ⟨v, H', I', r, q⟩ => ⟨v, H', I'.unwish, r, q⟩) fun _ _ z => False.elim z
theorem PT.nox {e : Expr} {t : TT} (h : PT X.nox e t) : PT X e t := fun pins s σ H Q I hw =>
  wpAny_mono (h pins s σ H Q (I.wish _) hw) (fun _ _ ⟨H', I', q⟩ => ⟨H', I'.unwish, q⟩) fun _ _ z => False.elim z
theorem PSs.nox {st : List Stmt} {t : TS} (h : PSs X.nox st t) : PSs X st t := fun pins s σ H D I hw =>
  wpAny_mono (h pins s σ H D (I.wish _) hw) (fun _ _ q => q.unwish) fun _ _ z => False.elim z
end

/-! ### blocks and small statements -/
section
variable {X : Cx} {st : Stmt} {rest : List Stmt} {t u : TS} {e : Expr} {te : TE} {pos : Pos}
def tNext : TS := fun D σ H => D.nx σ H
def tSeq (t u : TS) : TS := fun D σ H => t { D with nx := u D } σ H
theorem pss_nil : PSs X [] tNext := fun _ _ σ H _ I h => wpAny_execs_nil ⟨σ, H, I, h⟩
theorem pss_cons (h1 : PS X st t) (h2 : PSs X rest u) : PSs X (st :: rest) (tSeq t u) := by
  intro pins s σ H D I h
  refine wpAny_execs_cons (thn (h1 pins s σ H { D with nx := u D } I h) fun f s1 q => ?_)
  cases f with
  | next =>
    obtain ⟨σ', H', I', q⟩ := q
    exact h2 pins s1 σ' H' D I' q
  | ret v => exact q
  | brk => exact q
  | cont => exact q
theorem pss_one (h1 : PS X st t) : PSs X [st] t := by
  intro pins s σ H D I h
  refine wpAny_execs_cons (thn (h1 pins s σ H D I h) fun f s1 q => ?_)
  cases f with
  | next => exact wpAny_execs_nil q
  | ret v => exact q
  | brk => exact q
  | cont => exact q
/-- in a def's body nothing is shown -/
theorem Inv.quiet {pins : List (Addr × Obj)} {σ : St} {H : Hp} {s : Shared} (I : Inv X pins σ H s) : interactive X.env = false := by simp [interactive, I.ok.kind]
/-- an expression whose value is dropped -/
def tDrop (te : TE) : TS := fun D σ H => te σ H fun _ H1 => D.nx σ H1
theorem ps_expr (he : PE X e te) (hs : swapsWith e none pos.line X.env = pure false := by rfl) : PS X (.Expr e pos) (tDrop te) := by
  intro pins s σ H D I h
  exact wpAny_Expr_any (thn (he pins s σ H _ I h) fun v s1 ⟨x, H1, I1, r1, q1⟩ => ⟨σ, H1, I1, q1⟩) I.quiet hs
def tRet (te : TE) : TS := fun D σ H => te σ H D.rt
theorem ps_ret (he : PE X e te) : PS X (.Return (some e) pos) (tRet te) := by
  intro pins s σ H D I h
  exact wpAny_Return_some (thn (he pins s σ H _ I h) fun v s1 ⟨x, H1, I1, r1, q1⟩ => ⟨x, σ, H1, I1, r1, q1⟩)
def tIfS (c : TT) (t u : TS) : TS := fun D σ H => c σ H fun b H1 => if b = true then t D σ H1 else u D σ H1
theorem ps_if {c : Expr} {a b : List Stmt} {tc : TT} (hc : PT X c tc) (ha : PSs X a t) (hb : PSs X b u) : PS X (.If c a b pos) (tIfS tc t u) := by
  intro pins s σ H D I h
  refine wpAny_If (thn (hc pins s σ H _ I h) fun d s1 ⟨H1, I1, q1⟩ => ?_)
  cases d with
  | true => exact ha pins s1 σ H1 D I1 q1
  | false => exact hb pins s1 σ H1 D I1 q1
end

/-! ### targets -/
abbrev TG := V → St → Hp → (St → Hp → Prop) → Prop
abbrev TGs := List V → St → Hp → (St → Hp → Prop) → Prop
def PG (X : Cx) (target : Expr) (t : TG) : Prop :=
  ∀ (pins : List (Addr × Obj)) (s : Shared) (σ : St) (H : Hp) (v : V) (u : Value) (Q : St → Hp → Prop), Inv X pins σ H s → RelV v u → t v σ H Q →
    wpAny (model X.prog X.w) X.A (assign target X.env u) (fun _ s' => ∃ σ' H', Inv X pins σ' H' s' ∧ Q σ' H') X.xe s
/-- several targets, one after another -/
def PGs (X : Cx) (ts : List Expr) (t : TGs) : Prop :=
  ∀ (pins : List (Addr × Obj)) (s : Shared) (σ : St) (H : Hp) (vs : List V) (us : List Value) (Q : St → Hp → Prop), Inv X pins σ H s → Vals vs us → t vs σ H Q →
    wpAny (model X.prog X.w) X.A (assignInOrder ((assignEach ts X.env).map (·.2)) us) (fun _ s' => ∃ σ' H', Inv X pins σ' H' s' ∧ Q σ' H') X.xe s
/-- o[i] = v, by values -/
abbrev TSet := V → V → V → Hp → (Hp → Prop) → Prop
def PSet (X : Cx) (t : TSet) : Prop :=
  ∀ (pins : List (Addr × Obj)) (s : Shared) (σ : St) (H : Hp) (o i v : V) (ov iv u : Value) (Q : Hp → Prop), Inv X pins σ H s → RelV o ov → RelV i iv → RelV v u → t o i v H Q →
    wpAny (model X.prog X.w) X.A (setItem ov iv u) (fun _ s' => ∃ H', Inv X pins σ H' s' ∧ Q H') X.xe s
/-- a op= b, by values -/
abbrev TIp := V → V → Hp → VK → Prop
section
variable {X : Cx} {pos : Pos}
def gName (i : Nat) : TG := fun v σ H Q => Q (σ.set i (some v)) H
theorem pg_name {i : Nat} {x : Str} (hN : X.N.Nodup) (hi : X.N[i]? = some x) (hx : Loc X.env.scope x) (hf : X.fn x = true ∨ X.env.scope.names.lookup x = some .local := by first | exact .inl rfl | exact .inr rfl | assumption) : PG X (.Name x pos) (gName i) := by
  intro pins s σ H v u Q I r h
  exact wpAny_assign_Name (store_ok I hN hi hx r (fun s' I' => ⟨_, H, I', h⟩) hf)
def gNil : TGs := fun vs σ H Q => vs = [] ∧ Q σ H
def gCons (t : TG) (u : TGs) : TGs := fun vs σ H Q => ∃ v r, vs = v :: r ∧ t v σ H fun σ' H' => u r σ' H' Q
theorem pgs_nil : PGs X [] gNil := by
  intro pins s σ H vs us Q I r h
  obtain ⟨e, h⟩ := h
  subst e
  cases r
  exact assignInOrder_nil ⟨σ, H, I, h⟩
theorem pgs_cons {e : Expr} {es : List Expr} {t : TG} {u : TGs} (h1 : PG X e t) (h2 : PGs X es u)
    (hs : (assignEach (e :: es) X.env).map (·.2) = assign e X.env :: (assignEach es X.env).map (·.2) := by rfl) : PGs X (e :: es) (gCons t u) := by
  intro pins s σ H vs us Q I r h
  obtain ⟨v, vr, e1, h⟩ := h
  subst e1
  cases r with
  | cons r rr =>
    rw [hs]
    refine assignInOrder_cons (thn (h1 pins s σ H _ _ _ I r h) fun _ s1 ⟨σ1, H1, I1, q1⟩ => ?_)
    exact h2 pins s1 σ1 H1 _ _ Q I1 rr q1
/-- (a, b, ..) = a tuple of that length -/
def gTup (K : PySem.W.Frag) (n : Nat) (t : TGs) : TG := fun v σ H Q => ∃ a xs, v = .ref a ∧ SqT K H a xs ∧ xs.length = n ∧ t xs σ H Q
theorem pg_tup {es : List Expr} {k : Nat} {t : TGs} {n : Nat} (hc : X.calm = true) (h : PGs X es t)
    (hn : (assignEach es X.env).length = n := by rfl) (hst : (assignEach es X.env).findIdx? (·.1) = none := by rfl) : PG X (.Tuple es k pos) (gTup X.K n t) := by
  intro pins s σ H v u Q I r hw
  obtain ⟨a, xs, e1, hq, hl, hw⟩ := hw
  subst e1
  cases r
  obtain ⟨its, rv, ht, hz⟩ := I.tuple hq
  refine assign_Tuple_tuple (I.ok.hd hc) ht (by simp [hn, ← hl, rv.length]) hst fun h' hx => ?_
  have I1 : Inv X pins σ H { s with heap := h' } := I.kept (t' := s.toks) fun b o e => hx b o (Nat.ne_of_lt (Heap.lt_size e)) e
  exact h pins _ σ H xs _ Q I1 (by simpa using rv) hw
/-- o[i] = .. -/
def gSub (to ti : TE) (t : TSet) : TG := fun v σ H Q => to σ H fun o H1 => ti σ H1 fun i H2 => t o i v H2 fun H3 => Q σ H3
theorem pg_sub {o i : Expr} {to ti : TE} {t : TSet} (ho : PE X o to) (hi : PE X i ti) (hs : PSet X t)
    (ha : ∀ v, assign (.Subscript o i pos) X.env v = (do
      let ov ← holding [v] (eval o X.env)
      let iv ← holding [v, ov] (eval i X.env)
      standAt pos
      holding [v, ov, iv] (setItem ov iv v)
      release [v, ov, iv] []) := by intro _; rfl) : PG X (.Subscript o i pos) (gSub to ti t) := by
  intro pins s σ H v u Q I r h
  rw [ha]
  refine wpAny_bind (wpAny_holding (thn (ho pins s σ H _ I h) fun ov s1 ⟨x, H1, I1, r1, q1⟩ => ?_))
  refine wpAny_bind (wpAny_holding (thn (hi pins s1 σ H1 _ I1 q1) fun iv s2 ⟨y, H2, I2, r2, q2⟩ => ?_))
  refine wpAny_bind (wpAny_standAt (wpAny_bind (wpAny_holding (thn (hs pins s2 σ H2 x y v ov iv u _ I2 r1 r2 r q2) fun _ s3 ⟨H3, I3, q3⟩ => ?_))))
  exact wpAny_release ⟨σ, H3, I3, q3⟩
/-- target = value -/
def tAsg (te : TE) (g : TG) : TS := fun D σ H => te σ H fun x H1 => g x σ H1 D.nx
theorem ps_asg {tg e : Expr} {te : TE} {g : TG} (he : PE X e te) (hg : PG X tg g) (hs : swapsWithSole [tg] e pos.line X.env = pure false := by rfl) (hw : swappedStores [tg] e X.env = pure none := by rfl)
    (h1 : (assignEach [tg] X.env).map (·.2) = [assign tg X.env] := by rfl) : PS X (.Assign [tg] e pos) (tAsg te g) := by
  intro pins s σ H D I h
  refine wpAny_Assign_stores (thn (he pins s σ H _ I h) fun v s1 ⟨x, H1, I1, r1, q1⟩ => ?_) hs hw
  rw [h1]
  exact thn (hg pins s1 σ H1 x v _ I1 r1 q1) fun _ s2 q => q
/-- name = value -/
theorem ps_set {i : Nat} {x : Str} {e : Expr} {te : TE} {pos' : Pos} (hN : X.N.Nodup) (hi : X.N[i]? = some x) (hx : Loc X.env.scope x) (he : PE X e te) (hs : swapsWith e (some (.Name x pos')) pos.line X.env = pure false := by rfl) (hf : X.fn x = true ∨ X.env.scope.names.lookup x = some .local := by first | exact .inl rfl | exact .inr rfl | assumption) :
    PS X (.Assign [.Name x pos'] e pos) (tAsg te (gName i)) := by
  intro pins s σ H D I h
  refine wpAny_Assign_Name (thn (he pins s σ H _ I h) fun v s1 ⟨y, H1, I1, r1, q1⟩ => ?_) hs
  exact store_ok I1 hN hi hx r1 (fun s2 I2 => ⟨_, H1, I2, q1⟩) hf
/-- a, b = x, y with plain local names: stored from the right; the pair itself is not tracked (the opening rows as in PyProof/Rows/TupAssign.lean:23) -/
def tPar (i j : Nat) (ta : TA) : TS := fun D σ H => ta σ H fun vs H1 => ∃ v w, vs = [v, w] ∧ D.nx ((σ.set i (some v)).set j (some w)) H1
theorem ps_par {i j : Nat} {x y : Str} {a b : Expr} {ta : TA} {px py pt : Pos} {kt k2 pt2} (hc : X.calm = true) (hN : X.N.Nodup) (hi : X.N[i]? = some x) (hj : X.N[j]? = some y) (hij : i ≠ j)
    (hx : X.env.scope.names.lookup x = some .local) (hy : X.env.scope.names.lookup y = some .local) (ha : PA X [a, b] ta)
    (hw : swappedStores [.Tuple [.Name x px, .Name y py] kt pt] (.Tuple [a, b] k2 pt2) X.env = pure (some [x, y]))
    (hs : swapsWithSole [.Tuple [.Name x px, .Name y py] kt pt] (.Tuple [a, b] k2 pt2) pos.line X.env = pure false := by rfl) :
    PS X (.Assign [.Tuple [.Name x px, .Name y py] kt pt] (.Tuple [a, b] k2 pt2) pos) (tPar i j ta) := by
  intro pins s σ H D I h
  rw [exec_Assign_arm]
  refine wpAny_bind (wpAny_standAt ?_)
  rw [hs]
  refine wpAny_bind (wpAny_pure ?_)
  rw [if_neg (by decide)]
  refine wpAny_bind (Tuple_ (thn (ha _ pins s σ H _ I h) fun us s1 ⟨vs, H1, I1, r1, q1⟩ => ?_))
  obtain ⟨v, w, e1, q1⟩ := q1
  subst e1
  obtain ⟨u1, u2, rfl, rv, rw'⟩ : ∃ u1 u2, us = [u1, u2] ∧ RelV v u1 ∧ RelV w u2 := by
    cases r1 with
    | cons p q =>
      cases q with
      | cons p' q' =>
        cases q'
        exact ⟨_, _, rfl, p, p'⟩
  refine wpAny_newObj_type ?_ (by show 2 ≤ sizeLine; decide)
  have I2 : Inv X pins σ H1 { s1 with heap := s1.heap.push { cls := .type "tuple", data := .seq [u1, u2].toArray } } := I1.kept (t' := s1.toks) fun b o e => Heap.get?_push_of_some _ e
  rw [hw]
  refine wpAny_bind (wpAny_pure ?_)
  show wpAny (model X.prog X.w) X.A (do rule "assign.swapped-stores"; let items ← unpackItems (.ref s1.heap.objs.size) 2 none; assignInOrder [fun v => bindName X.env y v, fun v => bindName X.env x v] items.reverse; pure Flow.next) _ _ _
  refine wpAny_bind (wpAny_rule (wpAny_bind (unpackItems_tuple (items := #[u1, u2]) (I.ok.hd hc) (IsTup.new s1.heap _) fun h' hx' => ?_)))
  have I3 := I2.kept (h' := h') (t' := s1.toks) fun b o e => hx' b o (Nat.ne_of_lt (Heap.lt_size e)) e
  show wpAny _ _ (assignInOrder [fun v => bindName X.env y v, fun v => bindName X.env x v] [u2, u1] >>= fun _ => pure Flow.next) _ _ _
  refine wpAny_bind (assignInOrder_cons (wpAny_bindName (store_ok I3 hN hj (.inl hy) rw' (fun s2 I4 => ?_) (.inr hy))))
  refine assignInOrder_cons (wpAny_bindName (store_ok I4 hN hi (.inl hx) rv (fun s3 I5 => assignInOrder_nil (wpAny_pure ?_)) (.inr hx)))
  rw [List.set_comm _ _ (Ne.symm hij)] at I5
  exact ⟨_, H1, I5, q1⟩
/-- name op= e -/
def tAug (i : Nat) (te : TE) (ti : TIp) : TS := fun D σ H => ∃ x, σ[i]? = some (some x) ∧ te σ H fun y H1 => ti x y H1 fun z H2 => D.nx (σ.set i (some z)) H2
/-- ints -/
def ipI (f : Int → Int → Int) : TIp := fun x y H Q => ∃ i j, x = .int i ∧ y = .int j ∧ Q (.int (f i j)) H
end

/-! ### while -/
section
variable {X : Cx} {pos : Pos}
/-- the invariant W with its measure -/
def tWhile (c : TT) (tb : TS) : TS := fun D σ H => ∃ W : Nat → St → Hp → Prop, (∃ m, W m σ H) ∧ ∀ m σ H, W m σ H →
  c σ H fun b H1 => if b = true then ∃ N : St → Hp → Prop, (∀ σ' H', N σ' H' → ∃ m', m' < m ∧ W m' σ' H') ∧ tb { D with nx := N, ct := N, bk := D.nx } σ H1 else D.nx σ H1
theorem ps_while {c : Expr} {body : List Stmt} {tc : TT} {tb : TS} (hp : PassesOwn (model X.prog X.w) X.A X.env X.xe) (hc : PT X c tc) (hb : PSs X body tb) : PS X (.While c body [] pos) (tWhile tc tb) := by
  intro pins s σ H D I h
  obtain ⟨W, ⟨m0, w0⟩, turn⟩ := h
  refine wpAny_While (codeAny_whileLoop (fun n s' => ∃ σ' H', Inv X pins σ' H' s' ∧ W n σ' H') ?_ m0 ⟨σ, H, I, w0⟩)
  rintro n s1 ⟨σ1, H1, I1, w1⟩
  refine wpAny_passesOwn hp (thn (hc pins s1 σ1 H1 _ I1 (turn n σ1 H1 w1)) fun b s2 ⟨H2, I2, q2⟩ => ?_)
  cases b with
  | true =>
    obtain ⟨N, hN, q2⟩ := q2
    rw [if_pos rfl]
    refine wpAny_passesOwn hp (thn (hb pins s2 σ1 H2 _ I2 q2) fun f s3 q3 => ?_)
    cases f with
    | next =>
      obtain ⟨σ3, H3, I3, n3⟩ := q3
      obtain ⟨m', hm, w3⟩ := hN σ3 H3 n3
      exact ⟨m', hm, σ3, H3, I3, w3⟩
    | cont =>
      obtain ⟨σ3, H3, I3, n3⟩ := q3
      obtain ⟨m', hm, w3⟩ := hN σ3 H3 n3
      exact ⟨m', hm, σ3, H3, I3, w3⟩
    | brk => exact q3
    | ret v => exact q3
  | false =>
    rw [if_neg Bool.false_ne_true]
    exact wpAny_execs_nil ⟨σ1, H2, I2, q2⟩
end

/-! ### what a loop or a comprehension walks -/
/-- at turn i: it yields x (the heap may grow), or it stops -/
structure It where
  go : Nat → Hp → Prop
  yld : Nat → Hp → V → Hp → Prop
  stop : Nat → Hp → Prop
/-- the iterator's own objects may turn: they are not the frame's, not pinned, younger than the entry (or a comprehension's own) -/
def FpOk (X : Cx) (pins : List (Addr × Obj)) (H : Hp) (b : Addr) : Prop :=
  H b = none ∧ b ≠ X.env.locals ∧ b ∉ X.fs ∧ (b ∈ X.ex ∨ X.s₀.heap.objs.size ≤ b) ∧ (∀ x c, X.env.cells.lookup x = some c → c ≠ b) ∧ ∀ p ∈ X.pn ++ pins, p.1 ≠ b
theorem Inv.fpOk {X : Cx} {pins : List (Addr × Obj)} {σ : St} {H H' : Hp} {s : Shared} {b : Addr} (I : Inv X pins σ H s) (hb : s.heap.objs.size ≤ b) (hn : H' b = none) : FpOk X pins H' b := by
  refine ⟨hn, Nat.ne_of_gt (Nat.lt_of_lt_of_le I.lt hb), I.nofs hb, .inr (Nat.le_trans I.sz hb), fun x c e z => ?_, fun p hp z => ?_⟩
  · obtain ⟨v, q⟩ := I.cell x c e
    exact absurd (Nat.lt_of_lt_of_le q.lt (by rw [z]; exact hb)) (Nat.lt_irrefl _)
  · exact absurd (Nat.lt_of_lt_of_le (Heap.lt_size (I.pin p hp).1) (by rw [z]; exact hb)) (Nat.lt_irrefl _)
structure Turn (P : Program) (w : World) (K : PySem.W.Frag) (tg : Expr) (J : It) (fp : List Addr) (it : Addr) (tn : Nat → Heap → Prop) : Prop where
  mem : it ∈ fp
  obj : ∀ i h, tn i h → ∀ b ∈ fp, ∃ o, h.get? b = some o ∧ ∀ v, o.data ≠ .cell v
  keep : ∀ i h h', tn i h → (∀ b ∈ fp, ∀ o, h.get? b = some o → h'.get? b = some o) → tn i h'
  item : ∀ (X : Cx), X.prog = P → X.w = w → X.K = K → X.calm = true → ∀ (i : Nat) (pins : List (Addr × Obj)) (s : Shared) (σ : St) (H : Hp) (E : Value → Shared → Prop), Inv X pins σ H s → (∀ b ∈ fp, FpOk X pins H b) → tn i s.heap → J.go i H →
    wpAny (model P w) X.A (pyNext (.ref it)) (fun r s1 => ∃ u, r = some u ∧
      wpAny (model P w) X.A (letOwnedTupleGo tg (.ref it) u) (fun _ s2 => ∃ x H', Inv X pins σ H' s2 ∧ RelV x u ∧ J.yld i H x H' ∧ tn (i + 1) s2.heap ∧ ∀ b ∈ fp, H' b = none) E s1) E s
  done : ∀ (X : Cx), X.prog = P → X.w = w → X.K = K → X.calm = true → ∀ (i : Nat) (pins : List (Addr × Obj)) (s : Shared) (σ : St) (H : Hp) (E : Value → Shared → Prop), Inv X pins σ H s → (∀ b ∈ fp, FpOk X pins H b) → tn i s.heap → J.stop i H →
    wpAny (model P w) X.A (pyNext (.ref it)) (fun r s1 => r = none ∧ Inv X pins σ H s1) E s
  self : ∀ (A : Around) (i : Nat) (s : Shared) (Q : Value → Shared → Prop) (E : Value → Shared → Prop), tn i s.heap → Q (.ref it) s → wpAny (model P w) A (pyIter (.ref it)) Q E s
abbrev TI := St → Hp → (It → Hp → Prop) → Prop
/-- an iterator has come -/
def PIE (X : Cx) (pins : List (Addr × Obj)) (σ : St) (tg : Expr) (R : It → Hp → Prop) (itv : Value) (s2 : Shared) : Prop :=
  ∃ (it : Addr) (fp : List Addr) (tn : Nat → Heap → Prop) (J : It) (H' : Hp), itv = .ref it ∧ Inv X pins σ H' s2 ∧ Turn X.prog X.w X.K tg J fp it tn ∧ tn 0 s2.heap ∧ (∀ b ∈ fp, FpOk X pins H' b) ∧ R J H'
def PI (X : Cx) (tg iter : Expr) (wi : TI) : Prop :=
  ∀ (pins : List (Addr × Obj)) (s : Shared) (σ : St) (H : Hp) (R : It → Hp → Prop), Inv X pins σ H s → wi σ H R →
    wpAny (model X.prog X.w) X.A (eval iter X.env) (fun v s1 => wpAny (model X.prog X.w) X.A (pyIter v) (PIE X pins σ tg R) X.xe s1) X.xe s

/-- the step ahead of the store is nothing for an iterator that keeps no tuple -/
theorem go_of {M : Model} {A : Around} {E : Value → Shared → Prop} {s : Shared} {tg : Expr} {it : Addr} {u : Value} {o : Obj} {n : String} {vs : Array Value} {Q : Unit → Shared → Prop} (ho : s.heap.get? it = some o) (hc : o.cls = .type n) (hd : o.data = .fields vs)
    (hn : ["enumerate", "zip", "dict_itemiterator", "dict_reverseitemiterator", "odict_iterator", "itertools.zip_longest", "itertools.pairwise"].contains n = false) (hQ : Q () s) : wpAny M A (letOwnedTupleGo tg (.ref it) u) Q E s := by
  unfold letOwnedTupleGo
  cases tg <;> first
    | exact wpAny_pure hQ
    | (cases u <;> first
        | exact wpAny_pure hQ
        | (refine wpAny_bind (wpAny_load ho ?_)
           rw [hc, hd]
           show wpAny M A (if (["enumerate", "zip", "dict_itemiterator", "dict_reverseitemiterator", "odict_iterator", "itertools.zip_longest", "itertools.pairwise"].contains n && vs[0]? == some (rawInt _)) = true then _ else _) Q E s
           rw [if_neg (by intro h; rw [hn, Bool.false_and] at h; cases h)]
           exact wpAny_pure hQ))

/-- the list at a, as it stands at each turn (a loop may append to it) -/
def Itl (K : PySem.W.Frag) (a : Addr) : It :=
  ⟨fun i H => ∃ xs x, SqL K H a xs ∧ xs[i]? = some x, fun i H x H' => H' = H ∧ ∀ xs, SqL K H a xs → xs[i]? = some x, fun i H => ∃ xs, SqL K H a xs ∧ xs.length ≤ i⟩
def Itt (K : PySem.W.Frag) (a : Addr) : It :=
  ⟨fun i H => ∃ xs x, SqT K H a xs ∧ xs[i]? = some x, fun i H x H' => H' = H ∧ ∀ xs, SqT K H a xs → xs[i]? = some x, fun i H => ∃ xs, SqT K H a xs ∧ xs.length ≤ i⟩
/-- lo, lo + 1, .. (n of them) -/
def Itr (lo : Int) (n : Nat) : It := ⟨fun i _ => i < n, fun i H x H' => H' = H ∧ x = .int (lo + i), fun i _ => n ≤ i⟩
theorem turn_list {P : Program} {w : World} {K : PySem.W.Frag} {tg : Expr} (a it : Addr) : Turn P w K tg (Itl K a) [it] it (fun i h => h.IsListIter it a i) where
  mem := by simp
  obj := fun i h st b hb => by
    have e : b = it := by simpa using hb
    subst e
    obtain ⟨o, e, c, d⟩ := st
    exact ⟨o, e, fun v z => by rw [d] at z; cases z⟩
  keep := fun i h h' st k => st.at fun o e => k it (by simp) o e
  item := by
    intro X hP hw hK hc i pins s σ H E I hf st hg
    subst hP hw hK
    obtain ⟨xs, x, hq, hx⟩ := hg
    obtain ⟨its, rv, p, hz⟩ := I.list hq
    obtain ⟨u, hu, ru⟩ := rv.get hx
    obtain ⟨f0, f1, f2, f3, f4, f5⟩ := hf it (by simp)
    refine wpAny_pyNext_list_item st p.isList (x := u) (by simpa using hu) fun h' st' sb => ?_
    have I1 : Inv X pins σ H { s with heap := h' } := I.turned (t' := s.toks) (fun b o hb e => (sb.2 b hb).trans e) f0 f1 f3 f4 f5
    obtain ⟨o, e, c, d⟩ := id st'
    exact ⟨u, rfl, go_of (s := { s with heap := h' }) e c d (by decide) ⟨x, H, I1, ru, ⟨rfl, fun ys hy => by rw [I.list_inj hy hq]; exact hx⟩, st', fun b hb => (hf b hb).1⟩⟩
  done := by
    intro X hP hw hK hc i pins s σ H E I hf st hg
    subst hP hw hK
    obtain ⟨xs, hq, hx⟩ := hg
    obtain ⟨its, rv, p, hz⟩ := I.list hq
    obtain ⟨f0, f1, f2, f3, f4, f5⟩ := hf it (by simp)
    have hl := rv.length
    exact wpAny_pyNext_list_end (I.ok.hd hc) st p.isList (by simp; omega) fun h' eb => ⟨rfl, I.turned (t' := s.toks) (fun b o hb e => eb b o hb e) f0 f1 f3 f4 f5⟩
  self := fun _ _ _ _ _ st h => wpAny_pyIter_listiter st h
theorem turn_range {P : Program} {w : World} {K : PySem.W.Frag} {tg : Expr} (it : Addr) (lo : Int) (n : Nat) : Turn P w K tg (Itr lo n) [it] it (fun i h => IsRangeIter h it (lo + (i : Nat) * 1) ((n : Int) - (i : Nat)) 1) where
  mem := by simp
  obj := fun i h st b hb => by
    have e : b = it := by simpa using hb
    subst e
    exact ⟨_, st, fun v z => by
      have z' : Data.fields _ = Data.cell v := z
      cases z'⟩
  keep := fun i h h' st k => k it (by simp) _ st
  item := by
    intro X hP hw hK hc i pins s σ H E I hf st hg
    subst hP hw hK
    obtain ⟨f0, f1, f2, f3, f4, f5⟩ := hf it (by simp)
    have W := Walks.range (prog := X.prog) (w := X.w) (I.ok.hd hc) it lo 1 n
    refine W.item i s _ _ hg st fun v h' tk hv st' kk => ?_
    obtain ⟨t, rfl⟩ := hv
    have I1 : Inv X pins σ H { s with heap := h', toks := tk } := I.turned (fun b o hb e => kk b o (by simpa using hb) e) f0 f1 f3 f4 f5
    refine ⟨_, rfl, go_of (s := { s with heap := h', toks := tk }) (n := "range_iterator") st' rfl rfl (by decide) ⟨.int (lo + i), H, I1, ⟨t, ?_⟩, ⟨rfl, rfl⟩, st', fun b hb => (hf b hb).1⟩⟩
    rw [Int.mul_one]
  done := by
    intro X hP hw hK hc i pins s σ H E I hf st hg
    subst hP hw hK
    obtain ⟨f0, f1, f2, f3, f4, f5⟩ := hf it (by simp)
    exact wpAny_pyNext_range_end (I.ok.hd hc) st (by have : n ≤ i := hg; omega) fun h' eb => ⟨rfl, I.turned (t' := s.toks) (fun b o hb e => eb b o hb e) f0 f1 f3 f4 f5⟩
  self := fun _ _ _ _ _ st h => wpAny_pyIter_rangeiter st h
end L2

namespace L2
open PySem PySem.Spec PyProof.Rows
section
variable {X : Cx} {tg : Expr}
def iList (K : PySem.W.Frag) (tl : TE) : TI := fun σ H R => tl σ H fun x H1 => ∃ a, x = .ref a ∧ (∃ xs, SqL K H1 a xs) ∧ R (Itl K a) H1
def iTup (K : PySem.W.Frag) (tl : TE) : TI := fun σ H R => tl σ H fun x H1 => ∃ a, x = .ref a ∧ (∃ xs, SqT K H1 a xs) ∧ R (Itt K a) H1
theorem pi_list {l : Expr} {tl : TE} (hl : PE X l tl) : PI X tg l (iList X.K tl) := by
  intro pins s σ H R I h
  refine thn (hl pins s σ H _ I h) fun v s1 ⟨x, H1, I1, r1, q1⟩ => ?_
  obtain ⟨a, e, ⟨xs, hq⟩, q⟩ := q1
  subst e
  cases r1
  obtain ⟨its, rv, p, hz⟩ := I1.list hq
  refine wpAny_pyIter_list p.isList ?_
  refine ⟨s1.heap.objs.size, [s1.heap.objs.size], _, _, H1, rfl, I1.kept (t' := s1.toks) fun b o e => Heap.get?_push_of_some _ e, turn_list a _, ⟨_, Heap.get?_push_size _ rfl, rfl, rfl⟩, fun b hb => ?_, q⟩
  have e : b = s1.heap.objs.size := by simpa using hb
  subst e
  exact I1.fpOk (Nat.le_refl _) (I1.hok.fresh (Nat.le_refl _))
/-- a range object just made, walked -/
theorem range_it {pins : List (Addr × Obj)} {σ : St} {H : Hp} {s : Shared} {R : It → Hp → Prop} {E : Value → Shared → Prop} {lo hi : Int} {t u v : Tok} {tk : Nat} (I : Inv X pins σ H s) (h1 : -(2 ^ 62) ≤ lo) (h2 : lo < 2 ^ 62) (h3 : -(2 ^ 62) ≤ hi) (h4 : hi < 2 ^ 62)
    (q : R (Itr lo (hi - lo).toNat) H) : wpAny (model X.prog X.w) X.A (pyIter (.ref s.heap.objs.size)) (PIE X pins σ tg R) E { s with heap := s.heap.push { cls := .type "range", data := .fields #[.int lo t, .int hi u, .int 1 v] }, toks := tk } := by
  refine wpAny_pyIter_range (IsRange.new ..) (small_one h1 h2 h3 h4) ?_
  have I1 : Inv X pins σ H { s with heap := s.heap.push { cls := .type "range", data := .fields #[.int lo t, .int hi u, .int 1 v] }, toks := tk } := I.kept fun b o e => Heap.get?_push_of_some _ e
  refine ⟨(s.heap.push { cls := .type "range", data := .fields #[.int lo t, .int hi u, .int 1 v] }).objs.size, [(s.heap.push { cls := .type "range", data := .fields #[.int lo t, .int hi u, .int 1 v] }).objs.size], _, _, H, rfl,
    I1.kept (t' := tk) fun b o e => Heap.get?_push_of_some _ e, turn_range _ lo (hi - lo).toNat, ?_, fun b hb => ?_, q⟩
  · have e1 : lo + ((0 : Nat) : Int) * 1 = lo := by simp
    have e2 : (((hi - lo).toNat : Nat) : Int) - ((0 : Nat) : Int) = Builtin.Range.rangeSize lo hi 1 := by rw [rangeSize_one]; split <;> omega
    show IsRangeIter _ _ (lo + ((0 : Nat) : Int) * 1) ((((hi - lo).toNat : Nat) : Int) - ((0 : Nat) : Int)) 1
    rw [e1, e2]
    exact Heap.get?_push_size _ rfl
  · have e : b = (s.heap.push { cls := .type "range", data := .fields #[.int lo t, .int hi u, .int 1 v] }).objs.size := by simpa using hb
    subst e
    exact I1.fpOk (Nat.le_refl _) (I1.hok.fresh (Nat.le_refl _))
def iRng1 (ta : TA) : TI := fun σ H R => ta σ H fun vs H1 => ∃ j : Int, vs = [.int j] ∧ -(2 ^ 62) ≤ j ∧ j < 2 ^ 62 ∧ R (Itr 0 j.toNat) H1
def iRng2 (ta : TA) : TI := fun σ H R => ta σ H fun vs H1 => ∃ i j : Int, vs = [.int i, .int j] ∧ (-(2 ^ 62) ≤ i ∧ i < 2 ^ 62 ∧ -(2 ^ 62) ≤ j ∧ j < 2 ^ 62) ∧ R (Itr i (j - i).toNat) H1
theorem pi_range1 {a : Expr} {ta : TA} {p pos : Pos} (hg : Gl X "range") (hm : X.mg "range" = none) (ha : PA X [a] ta) (hs : starEach [a] X.env = [(false, eval a X.env)] := by rfl) : PI X tg (.Call (.Name "range" p) [a] [] pos) (iRng1 ta) := by
  intro pins s σ H R I h
  refine Call_ (ld_blt I hg hm boot_range (PyProof.Rows.callWith_type1 (thn (ha pos pins s σ H _ I h) fun us s1 ⟨vs, H1, I1, r1, q1⟩ => ?_) hs rfl))
  obtain ⟨j, e, q1, q2, q⟩ := q1
  subst e
  cases r1 with
  | cons r rr =>
    cases rr
    obtain ⟨t, rfl⟩ := r
    exact call_range_1 (range_it I1 (by omega) (by omega) q1 q2 (by simpa using q))
theorem pi_range2 {a b : Expr} {ta : TA} {p pos : Pos} (hg : Gl X "range") (hm : X.mg "range" = none) (ha : PA X [a, b] ta) (hs : starEach [a, b] X.env = [(false, eval a X.env), (false, eval b X.env)] := by rfl) (hs2 : starEach [b] X.env = [(false, eval b X.env)] := by rfl) :
    PI X tg (.Call (.Name "range" p) [a, b] [] pos) (iRng2 ta) := by
  intro pins s σ H R I h
  refine Call_ (ld_blt I hg hm boot_range (PyProof.Rows.callWith_type1 (thn (ha pos pins s σ H _ I h) fun us s1 ⟨vs, H1, I1, r1, q1⟩ => ?_) (by rw [hs, hs2]) (by rw [hs2]; rfl)))
  obtain ⟨i, j, e, ⟨q1, q2, q3, q4⟩, q⟩ := q1
  subst e
  cases r1 with
  | cons r rr =>
    cases rr with
    | cons r' rr =>
      cases rr
      obtain ⟨t, rfl⟩ := r
      obtain ⟨t', rfl⟩ := r'
      exact call_range_2 (range_it I1 q1 q2 q3 q4 q)

/-! ### for -/
/-- W: the invariant by the turn and a measure; N: what the body is to reach -/
def tFor (wi : TI) (g : TG) (tb : TS) : TS := fun D σ H => wi σ H fun J H1 => ∃ W : Nat → Nat → St → Hp → Prop, (∃ m, W 0 m σ H1) ∧ ∀ i m σ H, W i m σ H →
  (J.stop i H ∧ D.nx σ H) ∨ (J.go i H ∧ ∃ N : St → Hp → Prop, (∀ σ' H', N σ' H' → ∃ m', m' < m ∧ W (i + 1) m' σ' H') ∧ ∀ x H', J.yld i H x H' → g x σ H' fun σ2 H2 => tb { D with nx := N, ct := N, bk := D.nx } σ2 H2)
/-- the records at fp as they stand -/
def pinsAt (fp : List Addr) (h : Heap) : List (Addr × Obj) := fp.filterMap fun b => (h.get? b).map fun o => (b, o)
theorem mem_pinsAt {fp : List Addr} {h : Heap} {b : Addr} {o : Obj} (hb : b ∈ fp) (e : h.get? b = some o) : (b, o) ∈ pinsAt fp h := List.mem_filterMap.mpr ⟨b, hb, by rw [e]; rfl⟩
theorem of_pinsAt {fp : List Addr} {h : Heap} {p : Addr × Obj} (hp : p ∈ pinsAt fp h) : p.1 ∈ fp ∧ h.get? p.1 = some p.2 := by
  obtain ⟨b, hb, e⟩ := List.mem_filterMap.mp hp
  cases q : h.get? b with
  | none => rw [q] at e; cases e
  | some o =>
    rw [q] at e
    have e' : (b, o) = p := Option.some.inj e
    subst e'
    exact ⟨hb, q⟩
theorem Inv.pinned {pins : List (Addr × Obj)} {σ : St} {H : Hp} {s : Shared} {fp : List Addr} (I : Inv X pins σ H s) (hf : ∀ b ∈ fp, FpOk X pins H b) (ho : ∀ b ∈ fp, ∃ o, s.heap.get? b = some o ∧ ∀ v, o.data ≠ .cell v) : Inv X (pins ++ pinsAt fp s.heap) σ H s :=
  I.pins_of fun p hp => (List.mem_append.mp hp).elim (fun z => I.pin p (List.mem_append_right _ z)) fun z => by
    obtain ⟨hb, e⟩ := of_pinsAt z
    obtain ⟨f0, f1, f2, _⟩ := hf p.1 hb
    obtain ⟨o, e', d⟩ := ho p.1 hb
    rw [e] at e'; cases e'
    exact ⟨e, f0, f1, f2, d⟩
theorem Inv.unpinned {pins pl : List (Addr × Obj)} {σ : St} {H : Hp} {s : Shared} (I : Inv X (pins ++ pl) σ H s) : Inv X pins σ H s := I.pins_of fun p hp => I.pin p (List.mem_append_right _ (List.mem_append_left _ hp))
theorem ps_for {iter : Expr} {body : List Stmt} {wi : TI} {g : TG} {tb : TS} {pos : Pos} (hp : PassesOwn (model X.prog X.w) X.A X.env X.xe) (hc : X.calm = true) (hi : PI X tg iter wi) (hg : PG X tg g) (hb : PSs X body tb)
    (hs : ∀ x, foldedSetIterable iter X.env x = pure x := by intro _; rfl) : PS X (.For tg iter body [] pos) (tFor wi g tb) := by
  intro pins s σ H D I h
  refine wpAny_For (thn (hi pins s σ H _ I h) fun v s1 h1 => thn h1 fun itv s2 h2 => ?_) hs
  obtain ⟨it, fp, tn, J, H2, e, I2, T, st2, f2, W, ⟨m0, w0⟩, turn⟩ := h2
  subst e
  -- what stays true of the iterator's objects through the loop
  have stat : ∀ {H' : Hp}, (∀ b ∈ fp, H' b = none) → ∀ b ∈ fp, FpOk X pins H' b := fun hn b hb => ⟨hn b hb, (f2 b hb).2⟩
  refine codeAny_forLoop_any (fun n s' => ∃ i σ' H', Inv X pins σ' H' s' ∧ tn i s'.heap ∧ (∀ b ∈ fp, H' b = none) ∧ W i n σ' H') ?_ m0 ⟨0, σ, H2, I2, st2, fun b hb => (f2 b hb).1, w0⟩
  rintro n s3 ⟨i, σ3, H3, I3, st3, fr3, w3⟩
  rcases turn i n σ3 H3 w3 with ⟨stop, qn⟩ | ⟨go, N, hN, step⟩
  · refine wpAny_passesOwn hp (thn (T.done X rfl rfl rfl hc i pins s3 σ3 H3 X.xe I3 (stat fr3) st3 stop) fun r s4 ⟨hr, I4⟩ => ?_)
    subst hr
    exact wpAny_execs_nil ⟨σ3, H3, I4, qn⟩
  · refine wpAny_passesOwn hp (thn (T.item X rfl rfl rfl hc i pins s3 σ3 H3 X.xe I3 (stat fr3) st3 go) fun r s4 ⟨u, hr, h4⟩ => ?_)
    subst hr
    refine wpAny_passesOwn hp (thn h4 fun _ s5 ⟨x, H5, I5, r5, y5, st5, fr5⟩ => ?_)
    have I5' := I5.pinned (stat fr5) (T.obj _ _ st5)
    refine wpAny_passesOwn hp (thn (hg _ s5 σ3 H5 x u _ I5' r5 (step x H5 y5)) fun _ s6 ⟨σ6, H6, I6, q6⟩ => ?_)
    refine wpAny_passesOwn hp (thn (hb _ s6 σ6 H6 _ I6 q6) fun f s7 q7 => ?_)
    have again : ∀ {σ7 : St} {H7 : Hp}, Inv X (pins ++ pinsAt fp s5.heap) σ7 H7 s7 → N σ7 H7 → ∃ m, m < n ∧ ∃ i σ' H', Inv X pins σ' H' s7 ∧ tn i s7.heap ∧ (∀ b ∈ fp, H' b = none) ∧ W i m σ' H' := fun {σ7 H7} I7 n7 => by
      obtain ⟨m', hm, w7⟩ := hN σ7 H7 n7
      refine ⟨m', hm, i + 1, σ7, H7, I7.unpinned, T.keep _ _ _ st5 fun b hb o e => (I7.pin (b, o) (List.mem_append_right _ (List.mem_append_right _ (mem_pinsAt hb e)))).1, fun b hb => ?_, w7⟩
      obtain ⟨o, e, d⟩ := T.obj _ _ st5 b hb
      exact (I7.pin (b, o) (List.mem_append_right _ (List.mem_append_right _ (mem_pinsAt hb e)))).2.1
    cases f with
    | next => obtain ⟨σ7, H7, I7, n7⟩ := q7; exact again I7 n7
    | cont => obtain ⟨σ7, H7, I7, n7⟩ := q7; exact again I7 n7
    | brk => obtain ⟨σ7, H7, I7, q7⟩ := q7; exact ⟨σ7, H7, I7.unpinned, q7⟩
    | ret v => obtain ⟨x7, σ7, H7, I7, r7, q7⟩ := q7; exact ⟨x7, σ7, H7, I7.unpinned, r7, q7⟩
end

/-! ### the forms one uses -/
/-- while, by a word and a measure of the state -/
theorem while_by {c : TT} {tb : TS} {D : Ends} {σ : St} {H : Hp} (Pv : St → Hp → Prop) (μ : St → Hp → Nat) (h0 : Pv σ H)
    (hs : ∀ σ H, Pv σ H → c σ H fun b H1 => if b = true then tb { D with nx := fun σ' H' => Pv σ' H' ∧ μ σ' H' < μ σ H, ct := fun σ' H' => Pv σ' H' ∧ μ σ' H' < μ σ H, bk := D.nx } σ H1 else D.nx σ H1)
    (mono : ∀ σ H Q Q', (∀ b H1, Q b H1 → Q' b H1) → c σ H Q → c σ H Q') : tWhile c tb D σ H := by
  refine ⟨fun m σ H => m = μ σ H ∧ Pv σ H, ⟨_, rfl, h0⟩, ?_⟩
  rintro m σ H ⟨rfl, p⟩
  refine mono σ H _ _ (fun b H1 q => ?_) (hs σ H p)
  cases b with
  | true => exact ⟨_, fun σ' H' ⟨p', l⟩ => ⟨_, l, rfl, p'⟩, q⟩
  | false => exact q
end L2

namespace L2
open PySem PySem.Spec PyProof.Rows

abbrev R2 := V → V → Hp → VK → Prop
/-- a two-place operation on values: f is binaryOp op, inplaceOp op or compareOp op -/
def OpR (X : Cx) (f : Value → Value → Sem Value) (r : R2) : Prop :=
  ∀ (pins : List (Addr × Obj)) (s : Shared) (σ : St) (H : Hp) (x y : V) (v u : Value) (Q : VK), Inv X pins σ H s → RelV x v → RelV y u → r x y H Q →
    wpAny (model X.prog X.w) X.A (f v u) (EP X pins σ Q) X.xe s
/-- a one-place operation -/
def UnR (X : Cx) (f : Value → Sem Value) (r : V → Hp → VK → Prop) : Prop :=
  ∀ (pins : List (Addr × Obj)) (s : Shared) (σ : St) (H : Hp) (x : V) (v : Value) (Q : VK), Inv X pins σ H s → RelV x v → r x H Q →
    wpAny (model X.prog X.w) X.A (f v) (EP X pins σ Q) X.xe s
/-- a call of a value that is known (a builtin, a type) with values -/
def CallR (X : Cx) (f : Value) (r : List V → Hp → VK → Prop) : Prop :=
  ∀ (pins : List (Addr × Obj)) (s : Shared) (σ : St) (H : Hp) (xs : List V) (us : List Value) (Q : VK), Inv X pins σ H s → Vals xs us → r xs H Q →
    wpAny (model X.prog X.w) X.A (call f us) (EP X pins σ Q) X.xe s
def tOp (r : R2) (ta tb : TE) : TE := fun σ H Q => ta σ H fun x H1 => tb σ H1 fun y H2 => r x y H2 Q
def tUn (r : V → Hp → VK → Prop) (ta : TE) : TE := fun σ H Q => ta σ H fun x H1 => r x H1 Q
/-- ints in, under C, and a value out -/
def rI (C : Int → Int → Prop) (g : Int → Int → V) : R2 := fun x y H Q => ∃ i j, x = .int i ∧ y = .int j ∧ C i j ∧ Q (g i j) H
def rI0 (g : Int → Int → V) : R2 := fun x y H Q => ∃ i j, x = .int i ∧ y = .int j ∧ Q (g i j) H
def rU (g : Int → V) : V → Hp → VK → Prop := fun x H Q => ∃ i, x = .int i ∧ Q (g i) H

section
variable {X : Cx} {a b c : Expr} {ta tb tc : TE} {pos : Pos}

theorem binT (ha : PE X a ta) (hb : PE X b tb) {pins : List (Addr × Obj)} {s : Shared} {σ : St} {H : Hp} {R : V → V → Hp → Prop} (I : Inv X pins σ H s)
    (h : ta σ H fun x H1 => tb σ H1 fun y H2 => R x y H2) {Q : Value → Shared → Prop} {f : Value → Value → Sem Value}
    (hf : ∀ v u s2 x y H2, Inv X pins σ H2 s2 → RelV x v → RelV y u → R x y H2 → wpAny (model X.prog X.w) X.A (f v u) Q X.xe s2) :
    wpAny (model X.prog X.w) X.A (eval a X.env) (fun v s₁ => wpAny (model X.prog X.w) X.A (eval b X.env) (fun u s₂ => wpAny (model X.prog X.w) X.A (f v u) Q X.xe s₂) X.xe s₁) X.xe s := by
  refine thn (ha pins s σ H _ I h) fun v s1 ⟨x, H1, I1, r1, q1⟩ => ?_
  refine thn (hb pins s1 σ H1 _ I1 q1) fun u s2 ⟨y, H2, I2, r2, q2⟩ => ?_
  exact hf v u s2 x y H2 I2 r1 r2 q2

theorem pe_op {op : Operator} {r : R2} (ho : OpR X (binaryOp op) r) (ha : PE X a ta) (hb : PE X b tb) : PE X (.BinOp a op b pos) (tOp r ta tb) := by
  intro pins s σ H Q I h
  exact wpAny_BinOp (binT ha hb I h fun v u s2 x y H2 I2 rx ry q => ho pins s2 σ H2 x y v u Q I2 rx ry q)
theorem pe_un {op : UnaryOp} {r : V → Hp → VK → Prop} (ho : UnR X (unaryOp op) r) (ha : PE X a ta) : PE X (.UnaryOp op a pos) (tUn r ta) := by
  intro pins s σ H Q I h
  exact UnaryOp_ (thn (ha pins s σ H _ I h) fun v s1 ⟨x, H1, I1, r1, q1⟩ => ho pins s1 σ H1 x v Q I1 r1 q1)
/-! ### ints -/
theorem opI {f : Value → Value → Sem Value} {C : Int → Int → Prop} {g : Int → Int → Int}
    (rule : ∀ (i j : Int) (t u : Tok) (s : Shared) (Q : Value → Shared → Prop) (E : Value → Shared → Prop), C i j → Q (.int (g i j) s.toks) { s with toks := s.toks + 1 } → wpAny (model X.prog X.w) X.A (f (.int i t) (.int j u)) Q E s) :
    OpR X f (rI C fun i j => .int (g i j)) := by
  intro pins s σ H x y v u Q I rx ry h
  obtain ⟨i, j, rfl, rfl, hc, q⟩ := h
  obtain ⟨t, rfl⟩ := rx
  obtain ⟨t', rfl⟩ := ry
  exact rule i j t t' s _ _ hc ⟨.int (g i j), H, I.tok _, ⟨_, rfl⟩, q⟩
theorem opI0 {f : Value → Value → Sem Value} {g : Int → Int → Int}
    (rule : ∀ (i j : Int) (t u : Tok) (s : Shared) (Q : Value → Shared → Prop) (E : Value → Shared → Prop), Q (.int (g i j) s.toks) { s with toks := s.toks + 1 } → wpAny (model X.prog X.w) X.A (f (.int i t) (.int j u)) Q E s) :
    OpR X f (rI0 fun i j => .int (g i j)) := by
  intro pins s σ H x y v u Q I rx ry h
  obtain ⟨i, j, rfl, rfl, q⟩ := h
  obtain ⟨t, rfl⟩ := rx
  obtain ⟨t', rfl⟩ := ry
  exact rule i j t t' s _ _ ⟨.int (g i j), H, I.tok _, ⟨_, rfl⟩, q⟩
theorem opB0 {f : Value → Value → Sem Value} {g : Int → Int → Bool}
    (rule : ∀ (i j : Int) (t u : Tok) (s : Shared) (Q : Value → Shared → Prop) (E : Value → Shared → Prop), Q (.bool (g i j)) s → wpAny (model X.prog X.w) X.A (f (.int i t) (.int j u)) Q E s) :
    OpR X f (rI0 fun i j => .bl (g i j)) := by
  intro pins s σ H x y v u Q I rx ry h
  obtain ⟨i, j, rfl, rfl, q⟩ := h
  obtain ⟨t, rfl⟩ := rx
  obtain ⟨t', rfl⟩ := ry
  exact rule i j t t' s _ _ ⟨.bl (g i j), H, I, rfl, q⟩

def CDiv (i j : Int) : Prop := 0 < j ∧ j < 1073741824
def CPow (i j : Int) : Prop := 0 ≤ j ∧ j ≤ 1000000 ∧ i.natAbs < 2 ^ 64
def CMul (i j : Int) : Prop := (-(2 ^ 64) < i ∧ i < 2 ^ 64) ∨ (-(2 ^ 64) < j ∧ j < 2 ^ 64)
theorem CMul.ok {i j : Int} (h : CMul i j) : IntMulOk i j := by
  rcases h with ⟨h1, h2⟩ | ⟨h1, h2⟩
  · exact .of_left (intBits_le_64 h1 h2)
  · exact .of_right (intBits_le_64 h1 h2)
theorem op_add : OpR X (binaryOp .Add) (rI0 fun i j => .int (i + j)) := opI0 fun _ _ _ _ _ _ _ q => add_int q
theorem op_sub : OpR X (binaryOp .Sub) (rI0 fun i j => .int (i - j)) := opI0 fun _ _ _ _ _ _ _ q => sub_int q
theorem op_mul : OpR X (binaryOp .Mult) (rI CMul fun i j => .int (i * j)) := opI fun _ _ _ _ _ _ _ hc q => mul_int q hc.ok
/-- // by a positive divisor -/
theorem op_fdiv : OpR X (binaryOp .FloorDiv) (rI CDiv fun i j => .int (i / j)) := opI fun i j _ _ _ _ _ hc q => by
  have h1 : (0 : Int) < j := hc.1
  have h2 : j < 1073741824 := hc.2
  exact floordiv_int (by omega) (by rw [Int.fdiv_eq_ediv_of_nonneg i (by omega)]; exact q) (.inl (PyProof.noPylong_small (by omega)))
/-- % by a positive divisor of any size -/
theorem op_mod : OpR X (binaryOp .Mod) (rI (fun _ j => 0 < j) fun i j => .int (i % j)) := opI fun i j _ _ _ _ _ hc q => by
  have h1 : (0 : Int) < j := hc
  exact mod_int' (by omega) (by rw [Int.fmod_eq_emod_of_nonneg i (by omega)]; exact q)
theorem op_pow : OpR X (binaryOp .Pow) (rI CPow fun i j => .int (i ^ j.toNat)) := opI fun _ _ _ _ _ _ _ hc q => pow_int_small hc.1 hc.2.1 hc.2.2 q
theorem unI {f : Value → Sem Value} {g : Int → Int}
    (rule : ∀ (i : Int) (t : Tok) (s : Shared) (Q : Value → Shared → Prop) (E : Value → Shared → Prop), Q (.int (g i) s.toks) { s with toks := s.toks + 1 } → wpAny (model X.prog X.w) X.A (f (.int i t)) Q E s) :
    UnR X f (rU fun i => .int (g i)) := by
  intro pins s σ H x v Q I rx h
  obtain ⟨i, rfl, q⟩ := h
  obtain ⟨t, rfl⟩ := rx
  exact rule i t s _ _ ⟨.int (g i), H, I.tok _, ⟨_, rfl⟩, q⟩
theorem un_neg : UnR X (unaryOp .USub) (rU fun i => .int (-i)) := unI fun _ _ _ _ _ q => neg_int q
/-! ### bools among ints: n += (a < b) -/
end

/-! ### comparisons -/
/-- the scalars that == tells apart as data does -/
def scal : V → V → Bool
  | .non, .non => true | .non, .int _ => true | .int _, .non => true | .non, .bl _ => true | .bl _, .non => true | .non, .str _ => true | .str _, .non => true
  | .int _, .int _ => true | .bl _, .bl _ => true | .str _, .str _ => true | .byt _, .byt _ => true
  | .int _, .str _ => true | .str _, .int _ => true | .bl _, .str _ => true | .str _, .bl _ => true
  | _, _ => false
def rEq : R2 := fun x y H Q => scal x y = true ∧ Q (.bl (decide (x = y))) H
def rNe : R2 := fun x y H Q => scal x y = true ∧ Q (.bl (!decide (x = y))) H

theorem dec_int {i j : Int} : decide (V.int i = V.int j) = (i == j) := by
  rw [Bool.eq_iff_iff]
  simp
theorem dec_bl {i j : Bool} : decide (V.bl i = V.bl j) = (i == j) := by
  rw [Bool.eq_iff_iff]
  simp
theorem dec_str {i j : Str} : decide (V.str i = V.str j) = (i == j) := by
  rw [Bool.eq_iff_iff]
  simp
theorem dec_byt {i j : Array UInt8} : decide (V.byt i = V.byt j) = (i.toList == j.toList) := by
  rw [Bool.eq_iff_iff]
  cases i
  cases j
  simp

section
variable {X : Cx} {a b c : Expr} {ta tb tc : TE} {pos : Pos}
theorem fin_bl {pins : List (Addr × Obj)} {σ : St} {H : Hp} {s : Shared} {Q : VK} {k k' : Bool} (I : Inv X pins σ H s) (q : Q (.bl k) H) (e : k = k') : EP X pins σ Q (.bool k') s := by
  subst e
  exact ⟨.bl k, H, I, rfl, q⟩
theorem op_eq : OpR X (compareOp .Eq) rEq := by
  intro pins s σ H x y v u Q I rx ry h
  obtain ⟨hs, q⟩ := h
  cases x with
  | non =>
    cases rx
    cases y with
    | non => cases ry; exact PySem.EqNone.eq_none_none (fin_bl I q (by simp))
    | bl j => cases ry; exact PySem.EqNone.eq_none_bool (fin_bl I q (by simp))
    | int j => obtain ⟨t', rfl⟩ := ry; exact PySem.EqNone.eq_none_int (fin_bl I q (by simp))
    | str j => obtain ⟨t', rfl⟩ := ry; exact PySem.EqNone.eq_none_str (fin_bl I q (by simp))
    | _ => exact absurd (show false = true from hs) Bool.false_ne_true
  | bl i =>
    cases rx
    cases y with
    | non => cases ry; exact PySem.EqNone.eq_bool_none (fin_bl I q (by simp))
    | bl j => cases ry; exact eq_bool (fin_bl I q dec_bl)
    | str j => obtain ⟨t', rfl⟩ := ry; exact PySem.EqMixed.eq_bool_str (fin_bl I q (by simp))
    | _ => exact absurd (show false = true from hs) Bool.false_ne_true
  | int i =>
    obtain ⟨t, rfl⟩ := rx
    cases y with
    | non => cases ry; exact PySem.EqNone.eq_int_none (fin_bl I q (by simp))
    | int j => obtain ⟨t', rfl⟩ := ry; exact eq_int (fin_bl I q dec_int)
    | str j => obtain ⟨t', rfl⟩ := ry; exact PySem.EqMixed.eq_int_str (fin_bl I q (by simp))
    | _ => exact absurd (show false = true from hs) Bool.false_ne_true
  | str i =>
    obtain ⟨t, rfl⟩ := rx
    cases y with
    | non => cases ry; exact PySem.EqNone.eq_str_none (fin_bl I q (by simp))
    | bl j => cases ry; exact PySem.EqMixed.eq_str_bool (fin_bl I q (by simp))
    | int j => obtain ⟨t', rfl⟩ := ry; exact PySem.EqMixed.eq_str_int (fin_bl I q (by simp))
    | str j => obtain ⟨t', rfl⟩ := ry; exact eq_str (fin_bl I q dec_str)
    | _ => exact absurd (show false = true from hs) Bool.false_ne_true
  | byt i =>
    obtain ⟨t, rfl⟩ := rx
    cases y with
    | byt j => obtain ⟨t', rfl⟩ := ry; exact PySem.W.eq_bytes (fin_bl I q dec_byt)
    | _ => exact absurd (show false = true from hs) Bool.false_ne_true
  | _ => cases y <;> exact absurd (show false = true from hs) Bool.false_ne_true
theorem op_ne : OpR X (compareOp .NotEq) rNe := by
  intro pins s σ H x y v u Q I rx ry h
  obtain ⟨hs, q⟩ := h
  cases x with
  | non =>
    cases rx
    cases y with
    | non => cases ry; exact PySem.EqNone.ne_none_none (fin_bl I q (by simp))
    | bl j => cases ry; exact PySem.EqNone.ne_none_bool (fin_bl I q (by simp))
    | int j => obtain ⟨t', rfl⟩ := ry; exact PySem.EqNone.ne_none_int (fin_bl I q (by simp))
    | str j => obtain ⟨t', rfl⟩ := ry; exact PySem.EqNone.ne_none_str (fin_bl I q (by simp))
    | _ => exact absurd (show false = true from hs) Bool.false_ne_true
  | bl i =>
    cases rx
    cases y with
    | non => cases ry; exact PySem.EqNone.ne_bool_none (fin_bl I q (by simp))
    | bl j => cases ry; exact ne_bool (fin_bl I q (congrArg not dec_bl))
    | str j => obtain ⟨t', rfl⟩ := ry; exact PySem.EqMixed.ne_bool_str (fin_bl I q (by simp))
    | _ => exact absurd (show false = true from hs) Bool.false_ne_true
  | int i =>
    obtain ⟨t, rfl⟩ := rx
    cases y with
    | non => cases ry; exact PySem.EqNone.ne_int_none (fin_bl I q (by simp))
    | int j => obtain ⟨t', rfl⟩ := ry; exact ne_int (fin_bl I q (congrArg not dec_int))
    | str j => obtain ⟨t', rfl⟩ := ry; exact PySem.EqMixed.ne_int_str (fin_bl I q (by simp))
    | _ => exact absurd (show false = true from hs) Bool.false_ne_true
  | str i =>
    obtain ⟨t, rfl⟩ := rx
    cases y with
    | non => cases ry; exact PySem.EqNone.ne_str_none (fin_bl I q (by simp))
    | bl j => cases ry; exact PySem.EqMixed.ne_str_bool (fin_bl I q (by simp))
    | int j => obtain ⟨t', rfl⟩ := ry; exact PySem.EqMixed.ne_str_int (fin_bl I q (by simp))
    | str j => obtain ⟨t', rfl⟩ := ry; exact ne_str (fin_bl I q (congrArg not dec_str))
    | _ => exact absurd (show false = true from hs) Bool.false_ne_true
  | byt i =>
    obtain ⟨t, rfl⟩ := rx
    cases y with
    | byt j => obtain ⟨t', rfl⟩ := ry; exact PySem.W.ne_bytes (fin_bl I q (congrArg not dec_byt))
    | _ => exact absurd (show false = true from hs) Bool.false_ne_true
  | _ => cases y <;> exact absurd (show false = true from hs) Bool.false_ne_true

theorem op_lt : OpR X (compareOp .Lt) (rI0 fun i j => .bl (decide (i < j))) := opB0 fun _ _ _ _ _ _ _ q => lt_int q
theorem op_le : OpR X (compareOp .LtE) (rI0 fun i j => .bl (decide (i ≤ j))) := opB0 fun _ _ _ _ _ _ _ q => le_int q
theorem op_gt : OpR X (compareOp .Gt) (rI0 fun i j => .bl (decide (j < i))) := opB0 fun _ _ _ _ _ _ _ q => gt_int q
theorem op_ge : OpR X (compareOp .GtE) (rI0 fun i j => .bl (decide (j ≤ i))) := opB0 fun _ _ _ _ _ _ _ q => ge_int q
/-- two rules for one operation: by cases -/
theorem OpR.or {f : Value → Value → Sem Value} {r r' : R2} (h : OpR X f r) (h' : OpR X f r') : OpR X f (fun x y H Q => r x y H Q ∨ r' x y H Q) := by
  intro pins s σ H x y v u Q I rx ry q
  rcases q with q | q
  · exact h pins s σ H x y v u Q I rx ry q
  · exact h' pins s σ H x y v u Q I rx ry q

theorem nomark (b : Expr) {op : CmpOp} (h : op ≠ .In := by decide) (h2 : op ≠ .NotIn := by decide) : behindInMarks op b = false := by
  have e1 : (op == CmpOp.In) = false := by cases op <;> first | rfl | exact absurd rfl h
  have e2 : (op == CmpOp.NotIn) = false := by cases op <;> first | rfl | exact absurd rfl h2
  cases b <;> simp [behindInMarks, e1, e2]
/-- a comparison as a value; hm: nomark b, or (for in, not in) by with_unfolding_all rfl -/
theorem pe_cmpR {op : CmpOp} {r : R2} (ho : OpR X (compareOp op) r) (ha : PE X a ta) (hb : PE X b tb) (hm : behindInMarks op b = false) : PE X (.Compare a [op] [b] pos) (tOp r ta tb) := by
  intro pins s σ H Q I h
  exact wpAny_Compare1 (binT ha hb I h fun v u s2 x y H2 I2 rx ry q => ho pins s2 σ H2 x y v u Q I2 rx ry q) hm
/-- a reading of a value as a test -/
def tTest (t : TE) : TT := fun σ H Q => t σ H fun x H' => ∃ k, x = .bl k ∧ Q k H'
theorem pt_cmpR {op : CmpOp} {r : R2} (ho : OpR X (compareOp op) r) (ha : PE X a ta) (hb : PE X b tb) (hm : behindInMarks op b = false) : PT X (.Compare a [op] [b] pos) (tTest (tOp r ta tb)) := by
  intro pins s σ H Q I h
  refine wpAny_isTrue_Compare1 (thn (ha pins s σ H _ I h) fun v s1 ⟨x, H1, I1, r1, q1⟩ => thn (hb pins s1 σ H1 _ I1 q1) fun u s2 ⟨y, H2, I2, r2, q2⟩ =>
    thn (ho pins s2 σ H2 x y v u _ I2 r1 r2 q2) fun c s3 ⟨z, H3, I3, r3, k, e, q3⟩ => ?_) hm
  subst e
  cases r3
  exact wpAny_truthy_bool ⟨H3, I3, q3⟩
/-- a op1 b op2 c -/
def tChain (r r' : R2) (ta tb tc : TE) : TE := fun σ H Q => ta σ H fun x H1 => tb σ H1 fun y H2 => r x y H2 fun z H3 => ∃ k, z = .bl k ∧
  (if k = true then tc σ H3 fun w' H4 => r' y w' H4 Q else Q (.bl false) H3)
theorem pe_chain {op op' : CmpOp} {r r' : R2} (ho : OpR X (compareOp op) r) (ho' : OpR X (compareOp op') r') (ha : PE X a ta) (hb : PE X b tb) (hc : PE X c tc)
    (hm : lastMarks [op, op'] [b, c] = false := by with_unfolding_all rfl) : PE X (.Compare a [op, op'] [b, c] pos) (tChain r r' ta tb tc) := by
  intro pins s σ H Q I h
  refine Compare_chain (thn (ha pins s σ H _ I h) fun v s1 ⟨x, H1, I1, r1, q1⟩ => chain_link (thn (hb pins s1 σ H1 _ I1 q1) fun u s2 ⟨y, H2, I2, r2, q2⟩ =>
    thn (ho pins s2 σ H2 x y v u _ I2 r1 r2 q2) fun d s3 ⟨z, H3, I3, r3, k, e, q3⟩ => ?_)) hm
  subst e
  cases r3
  refine wpAny_truthy_bool ?_
  cases k with
  | false => exact ite_ff ⟨.bl false, H3, I3, rfl, q3⟩
  | true => exact ite_tt (chain_last (thn (hc pins s3 σ H3 _ I3 q3) fun w' s4 ⟨z', H4, I4, r4, q4⟩ => ho' pins s4 σ H4 y z' u w' Q I4 r2 r4 q4))
theorem pt_chain {op op' : CmpOp} {r r' : R2} (ho : OpR X (compareOp op) r) (ho' : OpR X (compareOp op') r') (ha : PE X a ta) (hb : PE X b tb) (hc : PE X c tc)
    (hm : lastMarks [op, op'] [b, c] = false := by with_unfolding_all rfl) : PT X (.Compare a [op, op'] [b, c] pos) (tTest (tChain r r' ta tb tc)) := by
  intro pins s σ H Q I h
  refine isTrue_chain (thn (ha pins s σ H _ I h) fun v s1 ⟨x, H1, I1, r1, q1⟩ => test_link (thn (hb pins s1 σ H1 _ I1 q1) fun u s2 ⟨y, H2, I2, r2, q2⟩ =>
    thn (ho pins s2 σ H2 x y v u _ I2 r1 r2 q2) fun d s3 ⟨z, H3, I3, r3, k, e, q3⟩ => ?_)) hm
  subst e
  cases r3
  refine wpAny_truthy_bool ?_
  cases k with
  | false =>
    obtain ⟨k', e', q'⟩ := q3
    cases e'
    exact ite_ff ⟨H3, I3, q'⟩
  | true =>
    refine ite_tt (test_last (thn (hc pins s3 σ H3 _ I3 q3) fun w' s4 ⟨z', H4, I4, r4, q4⟩ => thn (ho' pins s4 σ H4 y z' u w' _ I4 r2 r4 q4) fun d' s5 ⟨z2, H5, I5, r5, k2, e2, q5⟩ => ?_))
    subst e2
    cases r5
    exact wpAny_truthy_bool ⟨H5, I5, q5⟩

/-! ### truth -/
theorem line63 : (sizeLine : Nat) < 2 ^ 63 := by rw [sizeLine_eq]; decide
/-! ### strs and bytes -/
/-! ### scalar builtins, by CallR -/
theorem vals1 {x : V} {us : List Value} (r : Vals [x] us) : ∃ u, us = [u] ∧ RelV x u := by
  cases r with
  | cons r1 r2 => cases r2; exact ⟨_, rfl, r1⟩
theorem vals2 {x y : V} {us : List Value} (r : Vals [x, y] us) : ∃ u w', us = [u, w'] ∧ RelV x u ∧ RelV y w' := by
  cases r with
  | cons r1 r2 =>
    cases r2 with
    | cons r3 r4 => cases r4; exact ⟨_, _, rfl, r1, r3⟩
theorem call_abs : CallR X (.builtin "abs") (fun xs H Q => ∃ i, xs = [.int i] ∧ Q (.int (if i < 0 then -i else i)) H) := by
  intro pins s σ H xs us Q I r h
  obtain ⟨i, rfl, q⟩ := h
  obtain ⟨u, rfl, t, rfl⟩ := vals1 r
  exact call_abs_int fun u tk => ⟨.int (if i < 0 then -i else i), H, I.tok _, ⟨_, rfl⟩, q⟩
theorem call_max2 (hc : X.calm = true) : CallR X (.builtin "max") (fun xs H Q => ∃ i j, xs = [.int i, .int j] ∧ Q (.int (if j > i then j else i)) H) := by
  intro pins s σ H xs us Q I r h
  obtain ⟨i, j, rfl, q⟩ := h
  obtain ⟨u, w', rfl, ⟨t, rfl⟩, ⟨t', rfl⟩⟩ := vals2 r
  refine max_two_ints (I.ok.hd hc) fun h' tk k => ⟨_, H, I.kept k, ?_, q⟩
  by_cases hj : j > i
  · rw [if_pos hj, if_pos hj]; exact ⟨_, rfl⟩
  · rw [if_neg hj, if_neg hj]; exact ⟨_, rfl⟩
theorem call_min2 (hc : X.calm = true) : CallR X (.builtin "min") (fun xs H Q => ∃ i j, xs = [.int i, .int j] ∧ Q (.int (if j < i then j else i)) H) := by
  intro pins s σ H xs us Q I r h
  obtain ⟨i, j, rfl, q⟩ := h
  obtain ⟨u, w', rfl, ⟨t, rfl⟩, ⟨t', rfl⟩⟩ := vals2 r
  refine min_two_ints (I.ok.hd hc) fun h' tk k => ⟨_, H, I.kept k, ?_, q⟩
  by_cases hj : j < i
  · rw [if_pos hj, if_pos hj]; exact ⟨_, rfl⟩
  · rw [if_neg hj, if_neg hj]; exact ⟨_, rfl⟩
end
end L2

namespace L2
open PySem PySem.Spec PyProof.Rows

/-! ### an instance, its attributes a map -/
structure ObjM (h : Heap) (x dx C : Addr) (mA : Str → Option Value) : Prop where
  obj : h.get? x = some (PySem.W.instObj C dx)
  ns : h.Ns1 dx mA
  ne : dx ≠ x

theorem lookIn_ns {h : Heap} {dx : Addr} {mA : Str → Option Value} (n : h.Ns1 dx mA) : ∃ od, h.get? dx = some od ∧ ∀ name, PySem.W.lookIn name od = some (mA name) := by
  obtain ⟨o, es, ep, ho, hd, hk, _, hm⟩ := n
  refine ⟨o, ho, fun name => ?_⟩
  have e := hm name
  unfold nsFind findBy at e
  rw [← Array.find?_toList] at e
  unfold PySem.W.lookIn
  rw [hd]
  dsimp only
  split
  · rename_i y q
    rw [q] at e
    exact congrArg some e
  · rename_i q
    rw [q] at e
    have a : es.toList.any (·.refKey) = false := by
      rw [List.any_eq_false]
      intro y hy
      obtain ⟨z, t, hkey⟩ := hk y (Array.mem_toList_iff.mp hy)
      simp [DictEntry.refKey, hkey]
    have a' : ¬ es.toList.any (·.refKey) = true := by rw [a]; exact Bool.false_ne_true
    rw [if_neg a']
    exact congrArg some e

theorem ObjM.look {h : Heap} {x dx C : Addr} {mA : Str → Option Value} (I : ObjM h x dx C mA) : ∃ od, PySem.W.InstAt h x (PySem.W.instObj C dx) C (some od) ∧ ∀ name, PySem.W.lookIn name od = some (mA name) :=
  let ⟨od, ho, hl⟩ := lookIn_ns I.ns
  ⟨od, ⟨I.obj, rfl, rfl, ho⟩, hl⟩

section
variable {prog : Program} {w : World} {A : Around} {E : Value → Shared → Prop} {s : Shared} {K : PySem.W.Frag} {x dx C f : Addr} {mA : Str → Option Value} {name : Str} {v : Value}

end

/-! ### the attributes as a list of pairs -/
section
variable {P : Program} {w : World} {H H' : Hp} {h h' : Heap} {a C dx : Addr} {fs fs' : List (Str × V)}
theorem ins_get (hok : HOk P w H h) (e : H a = some (.ins C dx fs)) : ∃ mA, ObjM h a dx C mA ∧ (∀ f, RelO (fs.lookup f) (mA f)) ∧ PySem.Within mA (fs.map (·.1)) ∧ fs.length ≤ 1000 ∧ H dx = some (.own a) := by
  obtain ⟨d, z, ne, ob, mA, n, r, q⟩ := (show ObjOk P w H h a (.ins C dx fs) from hok a _ e)
  exact ⟨mA, ⟨ob, n, ne⟩, r, q, z, d⟩
end

/-! ### what of the text a class must have -/
structure Cls (K : PySem.W.Frag) (C : Addr) : Prop where
  pg : PySem.W.plainGet K C Str.empty = true
  hd : PySem.W.hasDictIn K C = true
  po : PySem.W.plainOver K C = true
  sa : PySem.W.findIn K (.ref C) "__setattr__" = some (some (.builtin "object.__setattr__"))
theorem Cls.get {K : PySem.W.Frag} {C : Addr} (c : Cls K C) (f : Str) : PySem.W.plainGet K C f = true := c.pg
/-- a constant of the class -/
structure Con (K : PySem.W.Frag) (C : Addr) (f : Str) (v : V) (u : Value) : Prop where
  at_ : PySem.W.findIn K (.ref C) f = some (some u)
  rel : RelV v u
  get : PySem.W.specialIn K u "__get__" = some none
  cp : PySem.W.copiedNames.contains f = false
/-- a method: a plain def of the class or of one above it -/
structure Meth (K : PySem.W.Frag) (C : Addr) (m : Str) (f : Addr) : Prop where
  at_ : PySem.W.findIn K (.ref C) m = some (some (.ref f))
  fn : PySem.W.isFn K (.ref f) = true
  kp : PySem.W.keepIn K (.ref f) = true

section
variable {X : Cx} {pins : List (Addr × Obj)} {σ : St} {H : Hp} {s : Shared} {a C dx : Addr} {fs : List (Str × V)} {f : Str} {v : V} {A : Around} {E : Value → Shared → Prop}

/-- a new instance, tracked, without attributes -/
theorem Inv.made (I : Inv X pins σ H s) : Inv X pins σ (upd (upd H s.heap.objs.size (.own (s.heap.objs.size + 1))) (s.heap.objs.size + 1) (.ins C s.heap.objs.size []))
    { s with heap := (s.heap.push PySem.W.emptyDict).push (PySem.W.instObj C s.heap.objs.size) } := by
  have e1 : (s.heap.push PySem.W.emptyDict).get? s.heap.objs.size = some PySem.W.emptyDict := Heap.get?_push_size s.heap rfl
  have e2 : ((s.heap.push PySem.W.emptyDict).push (PySem.W.instObj C s.heap.objs.size)).get? (s.heap.objs.size + 1) = some (PySem.W.instObj C s.heap.objs.size) := by
    have := Heap.get?_push_size (s.heap.push PySem.W.emptyDict) (o := PySem.W.instObj C s.heap.objs.size) rfl
    rwa [Heap.size_push] at this
  have e3 : (s.heap.push PySem.W.emptyDict).Ns s.heap.objs.size (fun _ => none) := ⟨PySem.W.emptyDict, #[], _, e1, rfl, (fun e he => absurd he (by simp)), fun _ => rfl⟩
  have I1 := I.laid (a := s.heap.objs.size) (o := .own (s.heap.objs.size + 1)) (h' := s.heap.push PySem.W.emptyDict) (t' := s.toks) (fun b u q => Heap.get?_push_of_some _ q) (Nat.le_refl _) ⟨_, e1⟩
  refine I1.laid (a := s.heap.objs.size + 1) (o := .ins C s.heap.objs.size []) (t' := s.toks) (fun b u q => Heap.get?_push_of_some _ q) (Nat.le_of_eq (Heap.size_push _ _)) ?_
  have ne : s.heap.objs.size ≠ s.heap.objs.size + 1 := Nat.ne_of_lt (Nat.lt_succ_self _)
  refine ⟨by rw [upd_ne ne, upd_same], Nat.zero_le _, ne, e2, fun _ => none, (Heap.Ns1.of_empty e3).at fun o q => Heap.get?_push_of_some _ q, fun _ => True.intro, fun y hy => absurd rfl hy⟩

end

/-! ### readings and rules -/
section
variable {X : Cx} {o e value : Expr} {f : Str} {pos pos' tpos : Pos} {ta tv : TE}
end

/-! ### isinstance -/
section
variable {X : Cx} {pins : List (Addr × Obj)} {σ : St} {H : Hp} {s : Shared} {A : Around} {E : Value → Shared → Prop} {Q : Value → Shared → Prop} {c : Value} {b : Bool}
/-- the type of a value, as the fragment's deciders take it; for an instance its class -/
inductive TyOf (K : PySem.W.Frag) (H : Hp) : V → Value → Prop where
  | non : TyOf K H .non (.type "NoneType")
  | bl (x : Bool) : TyOf K H (.bl x) (.type "bool")
  | int (i : Int) : TyOf K H (.int i) (.type "int")
  | str (x : Str) : TyOf K H (.str x) (.type "str")
  | flt (x : UInt64) : TyOf K H (.flt x) (.type "float")
  | lst {a : Addr} {xs : List V} (e : H a = some (.lst xs)) : TyOf K H (.ref a) (.type "list")
  | frz {a : Addr} {o : Obj} {xs : List V} (e : H a = some (.frz o (.lst xs))) : TyOf K H (.ref a) (.type "list")
  | tup {a : Addr} {xs : List V} (e : H a = some (.tup xs)) : TyOf K H (.ref a) (.type "tuple")
  | dK {a : Addr} {kvs : List (Key × V)} (e : H a = some (.dK kvs)) : TyOf K H (.ref a) (.type "dict")
  | dT {a : Addr} {kvs : List (List Key × V)} (e : H a = some (.dT kvs)) : TyOf K H (.ref a) (.type "dict")
  | ins {a C dx : Addr} {fs : List (Str × V)} (e : H a = some (.ins C dx fs)) (cl : Cls K C) (ha : PySem.W.findIn K (.ref C) "__class__" = some (some (.builtin "object.__class__")))
      (hn : PySem.W.specialIn K (.builtin "object.__class__") "__get__" = some (some (.builtin "getset_descriptor.__get__"))) (htk : PySem.W.takesIn K (.builtin "object.__class__") = some true)
      (hm : PySem.W.mroIn K C (.type "object") = some true) : TyOf K H (.ref a) (.ref C)
/-- isinstance(x, c) for one class c, a built-in or an own one: kitOne's answer -/
theorem isinst_ok {x : V} {u t : Value} (I : Inv X pins σ H s) (rx : RelV x u) (ty : TyOf X.K H x t) (e : PySem.W.kitOne X.K t c = some b) (h : ∀ tk, Q (.bool b) { s with toks := tk }) :
    wpAny (model X.prog X.w) A (call (.builtin "isinstance") [u, c]) Q E s := by
  cases ty with
  | non => cases (show u = Value.none from rx); exact PySem.W.kia_one PySem.W.kitx_none I.kIn True.intro e (fun z => nomatch z) h
  | bl y => cases (show u = Value.bool y from rx); exact PySem.W.kia_one PySem.W.kitx_bool I.kIn True.intro e (fun z => nomatch z) h
  | int i => obtain ⟨t, q⟩ := (show ∃ t, u = Value.int i t from rx); cases q; exact PySem.W.kia_one PySem.W.kitx_int I.kIn True.intro e (fun z => nomatch z) h
  | str y => obtain ⟨t, q⟩ := (show ∃ t, u = Value.str y t from rx); cases q; exact PySem.W.kia_one PySem.W.kitx_str I.kIn True.intro e (fun z => nomatch z) h
  | flt y => obtain ⟨t, q⟩ := (show ∃ t, u = Value.float y t from rx); cases q; exact PySem.W.kia_one PySem.W.kitx_float I.kIn True.intro e (fun z => nomatch z) h
  | @lst a xs ea =>
    cases (show u = Value.ref a from rx)
    obtain ⟨_, _, n, _, h1⟩ := (show ObjOk X.prog X.w H s.heap a (.lst xs) from I.hok a _ ea)
    exact PySem.W.kia_one PySem.W.kitx_list I.kIn ⟨_, h1, rfl⟩ e (fun z => nomatch z) h
  | @frz a ob xs ea =>
    cases (show u = Value.ref a from rx)
    obtain ⟨_, _, _, n, _, h1⟩ := (show ObjOk X.prog X.w H s.heap a (.frz ob (.lst xs)) from I.hok a _ ea)
    exact PySem.W.kia_one PySem.W.kitx_list I.kIn ⟨_, h1, rfl⟩ e (fun z => nomatch z) h
  | @tup a xs ea =>
    cases (show u = Value.ref a from rx)
    obtain ⟨_, _, _, p⟩ := (show ObjOk X.prog X.w H s.heap a (.tup xs) from I.hok a _ ea)
    obtain ⟨o, h1, h2, _⟩ := p
    exact PySem.W.kia_one PySem.W.kitx_tuple I.kIn ⟨o, h1, h2⟩ e (fun z => nomatch z) h
  | @dK a kvs ea =>
    cases (show u = Value.ref a from rx)
    obtain ⟨_, _, vs, _, p⟩ := (show ObjOk X.prog X.w H s.heap a (.dK kvs) from I.hok a _ ea)
    obtain ⟨o, es, ep, h1, h2, _⟩ := p
    exact PySem.W.kia_one PySem.W.kitx_dict I.kIn ⟨o, h1, h2.1⟩ e (fun z => nomatch z) h
  | @dT a kvs ea =>
    cases (show u = Value.ref a from rx)
    obtain ⟨_, _, xs, _, o, es, ep, h1, h2, _⟩ := (show ObjOk X.prog X.w H s.heap a (.dT kvs) from I.hok a _ ea)
    exact PySem.W.kia_one PySem.W.kitx_dict I.kIn ⟨o, h1, h2.1⟩ e (fun z => nomatch z) h
  | @ins a C dx fs ea cl ha hn htk hm =>
    cases (show u = Value.ref a from rx)
    obtain ⟨mA, O, _⟩ := ins_get I.hok ea
    obtain ⟨od, J, _⟩ := O.look
    exact PySem.W.kia_one (PySem.W.kitx_own (cl.get _) cl.hd ha hn htk hm) I.kIn J e (fun z => nomatch z) h
end
end L2

namespace L2
open PySem PySem.Spec PyProof.Rows

/-! ### room -/
structure Room (k : Nat) (A : Around) : Prop where
  hd : A.handled = none
  dp : A.depth + 3 * k + 5 < recursionLimit
  un : A.units + 16 * k + 200 < cLine
theorem Room.mono {j k : Nat} {A : Around} (r : Room k A) (h : j ≤ k) : Room j A := ⟨r.hd, by have := r.dp; omega, by have := r.un; omega⟩
theorem Room.deeper {k : Nat} {A : Around} (r : Room (k + 1) A) (env : Env) : Room k (A.deeper env) :=
  ⟨r.hd, by have := r.dp; show A.depth + 1 + 3 * k + 5 < _; omega, by have := r.un; show A.units + 3 + 16 * k + 200 < _; omega⟩
theorem Room.in1 {k : Nat} {A : Around} (r : Room (k + 1) A) : Room k A.in1 :=
  ⟨r.hd, by have := r.dp; show A.depth + 3 * k + 5 < _; omega, by have := r.un; show A.units + 1 + 16 * k + 200 < _; omega⟩
theorem Room.depth {k : Nat} {A : Around} (r : Room k A) : A.depth < recursionLimit := by have := r.dp; omega
theorem Room.units {k : Nat} {A : Around} (r : Room k A) : A.units + 64 < cLine := by have := r.un; omega
/-! ### argument lists and displays -/
def tNil : TA := fun _ H Q => Q [] H
def tCons (ta : TE) (tr : TA) : TA := fun σ H Q => ta σ H fun x H1 => tr σ H1 fun xs H2 => Q (x :: xs) H2
section
variable {X : Cx} {e : Expr} {es : List Expr} {te : TE} {t : TA} {pos : Pos}
theorem pa_nil : PA X [] tNil := fun _ _ _ _ H Q I h => Calls.spliced_nil ⟨[], H, I, .nil, h⟩
theorem pa_cons (ha : PE X e te) (hr : PA X es t) (hs : starEach (e :: es) X.env = (false, eval e X.env) :: starEach es X.env := by rfl) : PA X (e :: es) (tCons te t) := by
  intro pos pins s σ H Q I h
  rw [hs]
  show wpAny _ _ (spliced ((false, eval e X.env) :: backTo pos (starEach es X.env))) _ _ s
  refine Calls.spliced_cons (thn (ha pins s σ H _ I h) fun u s1 ⟨x, H1, I1, r1, q1⟩ => ?_)
  exact thn (hr pos pins s1 σ H1 _ I1 q1) fun us s2 ⟨xs, H2, I2, r2, q2⟩ => ⟨x :: xs, H2, I2, .cons r1 r2, q2⟩

/-- a tuple, a list of written items -/
def tTup (t : TA) : TE := fun σ H Q => t σ H fun xs H1 => xs.length ≤ sizeLine ∧ ∀ p, H1 p = none → Q (.ref p) (upd H1 p (.tup xs))
def tLst (t : TA) : TE := fun σ H Q => t σ H fun xs H1 => xs.length ≤ sizeLine ∧ ∀ p, H1 p = none → Q (.ref p) (upd H1 p (.lst xs))
theorem pe_tup {x1} (h : PA X es t) : PE X (.Tuple es x1 pos) (tTup t) := by
  intro pins s σ H Q I hq
  refine wpAny_Tuple_spliced (thn (h pos pins s σ H _ I hq) fun us s1 ⟨xs, H1, I1, r, z, q⟩ => ⟨by rw [← r.length]; exact z, ?_⟩)
  have hf : H1 s1.heap.objs.size = none := I1.hok.fresh (Nat.le_refl _)
  refine ⟨.ref s1.heap.objs.size, upd H1 s1.heap.objs.size (.tup xs), I1.laid (t' := s1.toks) (fun b u e => Heap.get?_push_of_some _ e) (Nat.le_refl _) ?_, rfl, q _ hf⟩
  exact ⟨z, us, r, ⟨_, Heap.get?_push_size _ rfl, rfl, _, rfl⟩⟩
theorem pe_lst (h : PA X es t) : PE X (.List es pos) (tLst t) := by
  intro pins s σ H Q I hq
  refine wpAny_List_spliced (thn (h pos pins s σ H _ I hq) fun us s1 ⟨xs, H1, I1, r, z, q⟩ => ⟨by rw [← r.length]; exact z, ?_⟩)
  have hf : H1 s1.heap.objs.size = none := I1.hok.fresh (Nat.le_refl _)
  refine ⟨.ref s1.heap.objs.size, upd H1 s1.heap.objs.size (.lst xs), I1.laid (t' := s1.toks) (fun b u e => Heap.get?_push_of_some _ e) (Nat.le_refl _) ?_, rfl, q _ hf⟩
  exact ⟨z, us, 0, r, Heap.get?_push_size _ rfl⟩
end

/-! ### what a def promises -/
/-- a def's promise: the bound arguments in the parameters' order, the heap, the wanted end, the wanted exception -/
abbrev Sp := List V → Hp → VK → XK → Prop
/-- how an exception lies behind a call (file 08 gives it): the callers' frames, abstract heap and state ahead of the call, the wish, the exception, the state -/
abbrev CXT := List Env → Hp → Shared → XK → Value → Shared → Prop

/-- the state at a call -/
structure Env0 (P : Program) (w : World) (K : PySem.W.Frag) (mg : Str → Option Value) (base : Heap) (A : Around) (outer : List Env) (s : Shared) (H : Hp) : Prop where
  frames : A.frames = some outer
  mod : Mod K mg base
  bs : ∀ b o, base.get? b = some o → s.heap.get? b = some o ∧ H b = none
  bsz : base.objs.size ≤ s.heap.objs.size
  funs : s.heap.FunFrames base outer
  frf : ∀ b ∈ frs outer, H b = none
  hok : HOk P w H s.heap
  bare : AllBare s.gens
/-- a call's end -/
def CE (outer : List Env) (P : Program) (w : World) (H : Hp) (s : Shared) (Q : VK) (u : Value) (s' : Shared) : Prop :=
  ∃ v H', s'.os = s.os ∧ AllBare s'.gens ∧ Un (frs outer) [] H H' s.heap s'.heap ∧ HOk P w H' s'.heap ∧ RelV v u ∧ Q v H'
def CR (CX : CXT) (outer : List Env) (P : Program) (w : World) (H : Hp) (s : Shared) (Q : VK) (E : XK) (r : Result) (s' : Shared) : Prop :=
  match r with
  | .ok (.ret u) => CE outer P w H s Q u s'
  | .ok _ => False
  | .error e => CX outer H s E e s'
structure FnOk (P : Program) (w : World) (K : PySem.W.Frag) (mg : Str → Option Value) (base : Heap) (CX : CXT) (k : Nat) (f : Addr) (fd : FuncData) (ps : List Str) (sp : Sp) : Prop where
  len : ∀ vs H Q E, sp vs H Q E → vs.length = ps.length
  run : ∀ (A : Around) (outer : List Env) (s : Shared) (H : Hp) (args : Args) (us : List Value) (vs : List V) (Q : VK) (E : XK), Room k A → Env0 P w K mg base A outer s H → BindsTo s fd args (ps.zip us) → Vals vs us → sp vs H Q E →
    codeAny (model P w) A (.call (.ref f) args) (CR CX outer P w H s Q E) s
theorem FnOk.mono {P : Program} {w : World} {K : PySem.W.Frag} {mg : Str → Option Value} {base : Heap} {CX : CXT} {j k : Nat} {f : Addr} {fd : FuncData} {ps : List Str} {sp : Sp} (F : FnOk P w K mg base CX j f fd ps sp) (h : j ≤ k) :
    FnOk P w K mg base CX k f fd ps sp := ⟨F.len, fun A outer s H args us vs Q E hr => F.run A outer s H args us vs Q E (hr.mono h)⟩
/-- a weaker promise -/
theorem FnOk.imp {P : Program} {w : World} {K : PySem.W.Frag} {mg : Str → Option Value} {base : Heap} {CX : CXT} {k : Nat} {f : Addr} {fd : FuncData} {ps : List Str} {sp sp' : Sp} (F : FnOk P w K mg base CX k f fd ps sp)
    (h : ∀ vs H Q E, sp' vs H Q E → sp vs H Q E) : FnOk P w K mg base CX k f fd ps sp' :=
  ⟨fun vs H Q E q => F.len vs H Q E (h _ _ _ _ q), fun A outer s H args us vs Q E hr he hb hv hs => F.run A outer s H args us vs Q E hr he hb hv (h _ _ _ _ hs)⟩

theorem Env0.in1 {P : Program} {w : World} {K : PySem.W.Frag} {mg : Str → Option Value} {base : Heap} {A : Around} {outer : List Env} {s : Shared} {H : Hp} (e : Env0 P w K mg base A outer s H) :
    Env0 P w K mg base A.in1 outer s H := ⟨e.frames, e.mod, e.bs, e.bsz, e.funs, e.frf, e.hok, e.bare⟩

section
variable {X : Cx} {pins : List (Addr × Obj)} {σ : St} {H : Hp} {s s' : Shared}
/-- from a body: what a callee wants -/
theorem Inv.env0 (I : Inv X pins σ H s) : Env0 X.prog X.w X.K X.mg X.base X.A X.stack s H :=
  ⟨I.ok.frames, I.ok.mod, I.bs, Nat.le_trans I.ok.bsz I.sz, I.stack, I.stkFree, I.hok, I.bare⟩
/-- behind a call -/
theorem Inv.after {Q : VK} {u : Value} (I : Inv X pins σ H s) (h : CE X.stack X.prog X.w H s Q u s') : EP X pins σ Q u s' := by
  obtain ⟨v, H', os, bare, un, hok, r, q⟩ := h
  obtain ⟨hh, g, d, t, os'⟩ := s'
  obtain rfl : os' = s.os := os
  exact ⟨v, H', I.call (h' := hh) (g' := g) (d' := d) (t' := t) (ch := []) un hok bare (fun b z => absurd z (by simp)), r, q⟩
end

/-! ### calls -/
/-- f(..): the written arguments, then the defaults dvs; E: what is wanted of an exception -/
def tCall (sp : Sp) (dvs : List V) (E : XK) (t : TA) : TE := fun σ H Q => t σ H fun vs H1 => sp (vs ++ dvs) H1 Q E
/-- how the parameters are bound: us the positional arguments, kw the keywords' values by name, ds the defaults that fill up -/
def Binds (K : PySem.W.Frag) (fd : FuncData) (ps : List Str) (ds : List Value) : Prop :=
  ∀ (s : Shared) (us : List Value), K.In s.heap → (us ++ ds).length = ps.length → BindsTo s fd ⟨us, []⟩ (ps.zip (us ++ ds))
/-- every parameter is given -/
theorem Binds.all {K : PySem.W.Frag} {fd : FuncData} {ps : List Str} (h : ∀ us : List Value, us.length = ps.length → bindArgs fd ⟨us, []⟩ = pure (ps.zip us)) : Binds K fd ps [] := fun s us _ hl => by
  rw [List.append_nil] at hl ⊢
  exact .of_eq (h us hl)

/-- an exception of a callee reaches what this body wants of exceptions -/
def Passes (CX : CXT) (X : Cx) (E : XK) : Prop := ∀ (pins : List (Addr × Obj)) (σ : St) (H : Hp) (s : Shared) (e : Value) (s' : Shared), Inv X pins σ H s → CX X.stack H s E e s' → X.xe e s'

section
variable {X : Cx} {CX : CXT} {k : Nat} {f C : Addr} {fd : FuncData} {ps : List Str} {sp : Sp} {dvs : List V} {ds : List Value} {E : XK} {x m : Str} {p pos apos : Pos} {e o : Expr} {es : List Expr} {ta : TE} {t : TA}

/-- the callee runs -/
theorem run_fn {pins : List (Addr × Obj)} {σ : St} {H : Hp} {s : Shared} {Q : VK} {us : List Value} {vs : List V} (F : FnOk X.prog X.w X.K X.mg X.base CX k f fd ps sp) (hr : Room k X.A) (hb : Binds X.K fd ps ds) (hd : Vals dvs ds) (hx : Passes CX X E)
    (I : Inv X pins σ H s) (r : Vals vs us) (h : sp (vs ++ dvs) H Q E) : wpAny (model X.prog X.w) X.A (call (.ref f) us) (EP X pins σ Q) X.xe s := by
  have r2 : Vals (vs ++ dvs) (us ++ ds) := r.append hd
  have hl : (us ++ ds).length = ps.length := by rw [← r2.length]; exact F.len _ _ _ _ h
  refine wpAny_call (codeAny_mono (F.run X.A X.stack s H ⟨us, []⟩ (us ++ ds) (vs ++ dvs) Q E hr I.env0 (hb s us I.kIn hl) r2 h) fun r s' hq => ?_)
  cases r with
  | error e => exact hx pins σ H s e s' I hq
  | ok fl =>
    cases fl with
    | ret u => exact I.after hq
    | next => exact False.elim hq
    | brk => exact False.elim hq
    | cont => exact False.elim hq

theorem pe_call (F : FnOk X.prog X.w X.K X.mg X.base CX k f fd ps sp) (hr : Room k X.A) (hg : Gl X x) (hm : X.mg x = some (.ref f)) (hk : PySem.W.keepIn X.K (.ref f) = true) (hb : Binds X.K fd ps ds) (hd : Vals dvs ds) (hx : Passes CX X E)
    (ha : PA X (e :: es) t) (hdb : (x == ("__debug__" : Str)) = false := by decide) (he : starEach (e :: es) X.env = (false, eval e X.env) :: starEach es X.env := by rfl) (hpl : (backTo pos (starEach es X.env)).any (·.1) = false := by rfl) :
    PE X (.Call (.Name x p) (e :: es) [] pos) (tCall sp dvs E t) := by
  intro pins s σ H Q I h
  refine wpAny_Call_Name_kw (ld_glob I hg hm ?_ hdb)
  refine PySem.W.callWith_K (h₀ := X.base) I.ok.mod.kin hk (thn (ha pos pins s σ H _ I h) fun us s1 ⟨vs, H1, I1, r, q⟩ => ⟨I1.kIn, ?_⟩) he hpl
  exact run_fn F hr hb hd hx I1 r q
/-- what a class must have to be made -/
structure Mk (K : PySem.W.Frag) (C f : Addr) : Prop where
  makes : PySem.W.makesIn K C = true
  init : PySem.W.findIn K (.ref C) "__init__" = some (some (.ref f))
  fn : PySem.W.isFn K (.ref f) = true
  kp : PySem.W.keepIn K (.ref C) = true

end

/-! ### keywords -/
section
variable {X : Cx} {CX : CXT} {k : Nat} {f C : Addr} {fd : FuncData} {ps ks : List Str} {sp : Sp} {E : XK} {x m : Str} {p pos apos kpos : Pos} {e o : Expr} {es : List Expr} {kws : List Keyword} {te ta : TE} {t tk : TA} {nm : Option Str}
/-- how a call with keywords binds: g puts the positional values us and the keywords' values ws (names ks) in the parameters' order, defaults among them -/
structure KBinds (K : PySem.W.Frag) (fd : FuncData) (ps ks : List Str) (g : List Value → List Value → List Value) (gV : List V → List V → List V) : Prop where
  to : ∀ (s : Shared) (us ws : List Value), K.In s.heap → (g us ws).length = ps.length → BindsTo s fd ⟨us, ks.zip ws⟩ (ps.zip (g us ws))
  rel : ∀ {vs : List V} {us : List Value} {zs : List V} {ws : List Value}, Vals vs us → Vals zs ws → Vals (gV vs zs) (g us ws)
variable {g : List Value → List Value → List Value} {gV : List V → List V → List V}
end

/-! ### a def's body keeps its promise -/
/-- names: the parameters first -/
structure FnScope (N P : List Str) (sc : Scope) : Prop where
  kind : sc.kind = .function
  co : sc.isCoroutine = false
  gen : sc.isGenerator = false
  nd : N.Nodup
  pre : N.take P.length = P
  par : ∀ x ∈ P, sc.names.lookup x = some .local ∨ sc.names.lookup x = some .cell
  nofree : ∀ y ∈ sc.names, y.2 ≠ .free

theorem bindL_out {kindOf : Str → Option NameKind} {x : Str} : ∀ {binds : List (Str × Value)} {m : Str → Option Value}, (∀ v, (x, v) ∉ binds) → bindL kindOf binds m x = m x
  | [], _, _ => rfl
  | (n, v) :: r, m, h => by
    unfold bindL
    rw [bindL_out fun w hw => h w (List.mem_cons_of_mem _ hw)]
    split
    · have : x ≠ n := by rintro rfl; exact h v List.mem_cons_self
      simp [this]
    · rfl
theorem bindC_out {kindOf : Str → Option NameKind} {x : Str} : ∀ {binds : List (Str × Value)} {m : Str → Option Value}, (∀ v, (x, v) ∉ binds) → bindC kindOf binds m x = m x
  | [], _, _ => rfl
  | (n, v) :: r, m, h => by
    unfold bindC
    rw [bindC_out fun w hw => h w (List.mem_cons_of_mem _ hw)]
    split
    · rfl
    · have : x ≠ n := by rintro rfl; exact h v List.mem_cons_self
      simp [this]
theorem bindL_get {kindOf : Str → Option NameKind} {x : Str} {v : Value} : ∀ {P : List Str} {vs : List Value} {i : Nat} {m : Str → Option Value}, P.Nodup → P[i]? = some x → vs[i]? = some v → kindOf x = some .local →
    bindL kindOf (P.zip vs) m x = some v
  | [], _, _, _, _, h, _, _ => by simp at h
  | _ :: _, [], _, _, _, _, h, _ => by simp at h
  | p :: P, w :: vs, 0, m, nd, h1, h2, hk => by
    simp at h1 h2; subst h1; subst h2
    show bindL kindOf ((p, w) :: P.zip vs) m p = _
    unfold bindL
    rw [bindL_out fun v hv => (List.nodup_cons.mp nd).1 (List.of_mem_zip hv).1, if_pos hk]
    simp
  | p :: P, w :: vs, i + 1, m, nd, h1, h2, hk => by
    show bindL kindOf ((p, w) :: P.zip vs) m x = _
    unfold bindL
    exact bindL_get (i := i) (List.nodup_cons.mp nd).2 (by simpa using h1) (by simpa using h2) hk
theorem bindC_get {kindOf : Str → Option NameKind} {x : Str} {v : Value} : ∀ {P : List Str} {vs : List Value} {i : Nat} {m : Str → Option Value}, P.Nodup → P[i]? = some x → vs[i]? = some v → kindOf x ≠ some .local →
    bindC kindOf (P.zip vs) m x = some v
  | [], _, _, _, _, h, _, _ => by simp at h
  | _ :: _, [], _, _, _, _, h, _ => by simp at h
  | p :: P, w :: vs, 0, m, nd, h1, h2, hk => by
    simp at h1 h2; subst h1; subst h2
    show bindC kindOf ((p, w) :: P.zip vs) m p = _
    unfold bindC
    rw [bindC_out fun v hv => (List.nodup_cons.mp nd).1 (List.of_mem_zip hv).1, if_neg hk]
    simp
  | p :: P, w :: vs, i + 1, m, nd, h1, h2, hk => by
    show bindC kindOf ((p, w) :: P.zip vs) m x = _
    unfold bindC
    exact bindC_get (i := i) (List.nodup_cons.mp nd).2 (by simpa using h1) (by simpa using h2) hk

/-- the names' values at the entry -/
def start (N : List Str) (vs : List V) : St := vs.map some ++ List.replicate (N.length - vs.length) none

/-- the context of a def's body, at its entry; an exception leaves the frame, then lies as CX says -/
def cxOf (CX : CXT) (P : Program) (w : World) (K : PySem.W.Frag) (mg : Str → Option Value) (base : Heap) (N : List Str) (qual : Str) (scope : Scope) (f : Addr) (cd : Value) (A : Around) (outer : List Env) (s : Shared) (H : Hp) (E : XK) : Cx where
  prog := P
  w := w
  K := K
  mg := mg
  base := base
  A := A.deeper (envOfC qual scope s.heap.objs.size f cd)
  N := N
  s₀ := s
  H₀ := H
  env := envOfC qual scope s.heap.objs.size f cd
  outer := outer
  stack := envOfC qual scope s.heap.objs.size f cd :: outer
  ex := []
  calm := true
  fn := fun _ => true
  pn := []
  xe := fun e s' => wpAny (model P w) (A.deeper (envOfC qual scope s.heap.objs.size f cd)) (leaving (envOfC qual scope s.heap.objs.size f cd) e) (fun _ s'' => CX outer H s E e s'') (fun e' s'' => CX outer H s E e' s'') s'

theorem cell_has {sc : Scope} {n : Nat} {x : Str} (h : sc.names.lookup x = some .cell) : ∃ c, (cellsFrom n sc.names []).lookup x = some c := by
  have q := PySem.W.cellsFrom_some sc.names n [] (.inl h)
  exact Option.isSome_iff_exists.mp q

theorem inv_start {CX : CXT} {P : Program} {w : World} {K : PySem.W.Frag} {mg : Str → Option Value} {base : Heap} {N ps : List Str} {qual : Str} {scope : Scope} {f : Addr} {cd : Value} {A : Around} {outer : List Env} {s s1 : Shared} {H : Hp} {E : XK} {us : List Value} {vs : List V}
    (S : FnScope N ps scope) (hd : A.handled = none) (e0 : Env0 P w K mg base A outer s H) (hl : vs.length = ps.length) (r : Vals vs us)
    (x : InCallC s s.heap.objs.size (bindL (envOfC qual scope s.heap.objs.size f cd).kindOf (ps.zip us) fun _ => none) (cellsFrom (s.heap.objs.size + 1) scope.names []) (bindC (envOfC qual scope s.heap.objs.size f cd).kindOf (ps.zip us) fun _ => none) s1) :
    Inv (cxOf CX P w K mg base N qual scope f cd A outer s H E) [] (start N vs) H s1 := by
  have hpl : ps.length ≤ N.length := by have := congrArg List.length S.pre; rw [List.length_take] at this; omega
  obtain ⟨h1, tk, rfl, hk⟩ := x.done
  have noA : ∀ b : Addr, b ∉ (cxOf CX P w K mg base N qual scope f cd A outer s H E).ex := fun b z => absurd (show b ∈ ([] : List Addr) from z) (by simp)
  refine ⟨⟨e0.mod, S.kind, rfl, rfl, Nat.le_refl _, fun y z c h1 h2 => ?_, fun y hy => ?_, fun y c _ h => ?_, fun _ => hd, Around.frames_deeper e0.frames, .inr ⟨rfl, rfl⟩, fun b z => absurd z (noA b), e0.bs, e0.bsz, fun b _ _ => noA b, fun b z => absurd z (noA b), e0.funs, e0.frf⟩,
    rfl, e0.bare, Un.kept hk, ⟨_, x.toInCall.ns, fun i y v h1 h2 h3 => ?_⟩, fun y c h => ⟨_, x.cell y c h⟩, e0.hok.fresh (Nat.le_refl _), fun y c h => ?_, fun p hp => absurd (show p ∈ ([] : List (Addr × Obj)) from hp) (by simp), e0.hok.kept hk, ?_⟩
  · exact name_of_addr x.apart (PySem.mem_of_lookup h1) (PySem.mem_of_lookup h2)
  · have hy : scope.names.lookup y = some .cell ∨ scope.names.lookup y = some .free := hy
    rcases hy with hy | hy
    · exact cell_has hy
    · exact absurd rfl (S.nofree _ (PySem.mem_of_lookup hy))
  · exact Nat.le_of_lt (x.above y c (PySem.mem_of_lookup h))
  · have hi : i < vs.length := by
      unfold start at h2
      by_cases hi : i < vs.length
      · exact hi
      · rw [List.getElem?_append_right (by simpa using hi)] at h2
        rw [List.getElem?_replicate] at h2
        split at h2 <;> cases h2
    have ha : vs[i]? = some v := by
      unfold start at h2
      rw [List.getElem?_append_left (by simpa using hi), List.getElem?_map] at h2
      cases e : vs[i]? with
      | none => rw [e] at h2; cases h2
      | some a => rw [e] at h2; cases h2; rfl
    obtain ⟨u, hu, rv⟩ := r.get ha
    have hp : ps[i]? = some y := by
      rw [← S.pre, List.getElem?_take_of_lt (by omega)]; exact h1
    have ndP : ps.Nodup := by rw [← S.pre]; exact S.nd.sublist (List.take_sublist _ _)
    refine ⟨u, rv, ?_⟩
    rcases S.par y (List.mem_of_getElem? hp) with k | k
    · exact .inl ⟨k, bindL_get ndP hp hu k⟩
    · obtain ⟨c, e⟩ := cell_has (n := s.heap.objs.size + 1) k
      refine .inr ⟨.inl k, c, e, ?_⟩
      have q := x.cell y c e
      rw [bindC_get ndP hp hu (by show scope.names.lookup y ≠ _; rw [k]; decide)] at q
      exact q
  · exact e0.hok.fresh (Nat.le_of_lt (x.above y c (PySem.mem_of_lookup h)))
  · unfold start
    show _ = N.length
    rw [List.length_append, List.length_map, List.length_replicate]
    omega

/-- THE RULE: a def (or a method) of the text, by its body. The body's reading t is chosen for each entry; it is run at the parameters' values -/
theorem fn_of {CX : CXT} {P : Program} {w : World} {K : PySem.W.Frag} {mg : Str → Option Value} {base : Heap} {k : Nat} {f : Addr} {name qual : Str} {params : Arguments} {body : List Stmt} {scope : Scope} {dV kV doc pm cdv ct oc : Value} {an od : Option Addr}
    {osl : Array (Option Value)} {N ps : List Str} {sp : Sp} (lk : K.lookup f = some ⟨oc, od, .func (PySem.W.fnOf name qual params body scope dV kV doc pm an cdv ct), osl⟩) (hcd : PySem.W.codeIn K cdv qual = true) (S : FnScope N ps scope)
    (len : ∀ vs H Q E, sp vs H Q E → vs.length = ps.length)
    (hbody : ∀ (A : Around) (outer : List Env) (s : Shared) (H : Hp) (vs : List V) (Q : VK) (E : XK), Room k (A.deeper (envOfC qual scope s.heap.objs.size f cdv)) → sp vs H Q E →
      ∃ t, PSs (cxOf CX P w K mg base N qual scope f cdv A outer s H E) body t ∧ t { nx := fun _ H' => Q .non H', rt := Q } (start N vs) H) :
    FnOk P w K mg base CX (k + 1) f (PySem.W.fnOf name qual params body scope dV kV doc pm an cdv ct) ps sp := by
  refine ⟨len, fun A outer s H args us vs Q E hr e0 hb r hsp => ?_⟩
  have hl := len _ _ _ _ hsp
  have KX : K.In s.heap := e0.mod.kin.keeps fun b o e => (e0.bs b o e).1
  have lim : s.heap.NoLimit := e0.mod.nolimit.keeps fun b o e => (e0.bs b o e).1
  have hkind : ∀ y ∈ ps.zip us, scope.names.lookup y.1 = some .local ∨ (scope.names.lookup y.1 = some .cell ∧ ((cellsFrom (s.heap.objs.size + 1) scope.names []).lookup y.1).isSome = true) := fun ⟨n, v⟩ hy => by
    rcases S.par n (List.of_mem_zip hy).1 with q | q
    · exact .inl q
    · exact .inr ⟨q, PySem.W.cellsFrom_some _ _ _ (.inl q)⟩
  refine codeAny_call_function hr.depth (KX _ _ lk) rfl S.co S.gen rfl (PySem.W.codeRec_of KX hcd) (hb _ _ _ _ ?_)
  refine wpAny_newFunctionEnv_cells S.kind hkind fun env he s1 x => ?_
  subst he
  refine ⟨lim.keeps x.toInCall.keep, codeAny_func ?_⟩
  obtain ⟨t, ht, hq⟩ := hbody A outer s H vs Q E (hr.deeper _) hsp
  have I : Inv (cxOf CX P w K mg base N qual scope f cdv A outer s H E) [] (start N vs) H s1 := inv_start S hr.hd e0 hl r x
  refine wpAny_mono (ht [] s1 (start N vs) H _ I hq) (fun fl s' hs => ?_) fun e s' hs => hs
  have fin : ∀ {σ' : St} {H' : Hp} {v : V} {u : Value}, Inv (cxOf CX P w K mg base N qual scope f cdv A outer s H E) [] σ' H' s' → RelV v u → Q v H' → CE outer P w H s Q u s' :=
    fun {σ' H' v u} J rv q => ⟨v, H', J.os, J.bare, J.base, J.hok, rv, q⟩
  cases fl with
  | ret u =>
    obtain ⟨v, σ', H', J, rv, q⟩ := hs
    exact fin J rv q
  | next =>
    obtain ⟨σ', H', J, q⟩ := hs
    exact fin (v := V.non) (u := Value.none) J rfl q
  | brk =>
    obtain ⟨_, _, _, q⟩ := hs
    exact False.elim q
  | cont =>
    obtain ⟨_, _, _, q⟩ := hs
    exact False.elim q
end L2

namespace L2
open PySem PySem.Spec PyProof.Rows
section
variable {X : Cx} {x : Str} {p pos : Pos} {e : Expr} {es : List Expr} {t : TA} {id T : String} {r : List V → Hp → VK → Prop}

def tCB (r : List V → Hp → VK → Prop) (t : TA) : TE := fun σ H Q => t σ H fun vs H1 => r vs H1 Q
/-- f(e, ..), f a built-in function -/
theorem pe_callB (hc : CallR X (.builtin id) r) (hg : Gl X x) (hm : X.mg x = none) (hv : bootBuiltins x = some (.builtin id)) (ha : PA X (e :: es) t) (hn : x ≠ "__name__" := by decide) (hdb : (x == ("__debug__" : Str)) = false := by decide)
    (he : starEach (e :: es) X.env = (false, eval e X.env) :: starEach es X.env := by rfl) (hpl : (backTo pos (starEach es X.env)).any (·.1) = false := by rfl) : PE X (.Call (.Name x p) (e :: es) [] pos) (tCB r t) := by
  intro pins s σ H Q I h
  refine wpAny_Call_Name_kw (ld_blt I hg hm hv ?_ hn hdb)
  exact PyProof.Rows.callWith_builtin1 (thn (ha pos pins s σ H _ I h) fun us s1 ⟨vs, H1, I1, r1, q1⟩ => hc pins s1 σ H1 vs us Q I1 r1 q1) he hpl
/-- T(e, ..), T a built-in type -/
theorem pe_callTy (hc : CallR X (.type T) r) (hg : Gl X x) (hm : X.mg x = none) (hv : bootBuiltins x = some (.type T)) (ha : PA X (e :: es) t) (hn : x ≠ "__name__" := by decide) (hdb : (x == ("__debug__" : Str)) = false := by decide)
    (he : starEach (e :: es) X.env = (false, eval e X.env) :: starEach es X.env := by rfl) (hpl : (backTo pos (starEach es X.env)).any (·.1) = false := by rfl) : PE X (.Call (.Name x p) (e :: es) [] pos) (tCB r t) := by
  intro pins s σ H Q I h
  refine wpAny_Call_Name_kw (ld_blt I hg hm hv ?_ hn hdb)
  exact PyProof.Rows.callWith_type1 (thn (ha pos pins s σ H _ I h) fun us s1 ⟨vs, H1, I1, r1, q1⟩ => hc pins s1 σ H1 vs us Q I1 r1 q1) he hpl
end
end L2

namespace HT
open PySem PyProof.Rows

section
open PySem.SeqAt
open PySem.AutoSeq1 (wpAny_loadPart')
open PySem.MeetsSeq PySem.MeetsSeq2 PySem.MeetsSeq3

end

section
variable {prog : Program} {w : World} {A : Around} {E : Value → Shared → Prop} {s : Shared}

/-! ### t[a:b], not the whole -/
/-- a slice's bound as a place among n (d where it is left out) -/
def sIx (n d : Nat) : Option Int → Nat
  | none => d
  | some v => if v < 0 then (v + (n : Int)).toNat else min v.toNat n
theorem sIx_none (n d : Nat) : sIx n d none = d := rfl
theorem sIx_nat (n d k : Nat) : sIx n d (some (k : Int)) = min k n := by
  show (if (k : Int) < 0 then ((k : Int) + (n : Int)).toNat else min (k : Int).toNat n) = min k n
  rw [if_neg (by omega), Int.toNat_natCast]
end
end HT

namespace L2
open PySem PySem.Spec PyProof.Rows

/-! ### the parts of a slice -/
abbrev TO := St → Hp → (Option Int → Hp → Prop) → Prop
/-- a slice's part (left out, or an int) -/
def PO (X : Cx) (e : Option Expr) (t : TO) : Prop :=
  ∀ (pins : List (Addr × Obj)) (s : Shared) (σ : St) (H : Hp) (Q : Option Int → Hp → Prop), Inv X pins σ H s → t σ H Q →
    wpAny (model X.prog X.w) X.A (evalPart e X.env) (fun u s' => ∃ o H', Inv X pins σ H' s' ∧ IsPart u o ∧ Q o H') X.xe s
def tNoPart : TO := fun _ H Q => Q none H
def tPart (t : TE) : TO := fun σ H Q => t σ H fun x H1 => ∃ i, x = .int i ∧ Q (some i) H1

section
variable {X : Cx} {e : Expr} {te : TE} {lo hi : Option Expr} {tl th : TO} {pos p2 : Pos}

theorem po_none : PO X none tNoPart := by
  intro pins s σ H Q I h
  rw [evalPart_none]
  exact wpAny_pure ⟨none, H, I, .none, h⟩
theorem po_some (h : PE X e te) : PO X (some e) (tPart te) := by
  intro pins s σ H Q I hw
  rw [evalPart_some]
  refine thn (h pins s σ H _ I hw) fun u s1 ⟨x, H1, I1, r1, q1⟩ => ?_
  obtain ⟨i, rfl, q⟩ := q1
  obtain ⟨t, rfl⟩ := r1
  exact ⟨some i, H1, I1, .int i t, q⟩

/-- what a slice of a value is, by values: the slice object stands at sl -/
def SlR (X : Cx) (r : V → Option Int → Option Int → Hp → VK → Prop) : Prop :=
  ∀ (pins : List (Addr × Obj)) (s : Shared) (σ : St) (H : Hp) (x : V) (v vl vu : Value) (lo hi : Option Int) (sl : Addr) (Q : VK), Inv X pins σ H s → RelV x v → s.heap.IsSliceOf sl vl vu .none → IsPart vl lo → IsPart vu hi → r x lo hi H Q →
    ∃ T id, typeLookup (.type T) "__getitem__" = pure (some (.builtin id)) ∧ s.TypeIs v T ∧ wpAny (model X.prog X.w) X.A (getItem v (.ref sl)) (EP X pins σ Q) X.xe s
theorem SlR.or {r r' : V → Option Int → Option Int → Hp → VK → Prop} (h : SlR X r) (h' : SlR X r') : SlR X (fun x lo hi H Q => r x lo hi H Q ∨ r' x lo hi H Q) := by
  intro pins s σ H x v vl vu lo hi sl Q I rx hs pl pu q
  rcases q with q | q
  · exact h pins s σ H x v vl vu lo hi sl Q I rx hs pl pu q
  · exact h' pins s σ H x v vl vu lo hi sl Q I rx hs pl pu q
def tSl (r : V → Option Int → Option Int → Hp → VK → Prop) (te : TE) (tl th : TO) : TE := fun σ H Q => te σ H fun x H1 => tl σ H1 fun l H2 => th σ H2 fun u H3 => r x l u H3 Q
/-- a[lo:hi], any a -/
theorem pe_slice {r : V → Option Int → Option Int → Hp → VK → Prop} (hr : SlR X r) (he : PE X e te) (hl : PO X lo tl) (hu : PO X hi th) : PE X (.Subscript e (.Slice lo hi none p2) pos) (tSl r te tl th) := by
  intro pins s σ H Q I h
  refine Subscript_ (thn (he pins s σ H _ I h) fun v s1 ⟨x, H1, I1, r1, q1⟩ => ?_)
  refine wpAny_Slice (thn (hl pins s1 σ H1 _ I1 q1) fun vl s2 ⟨l, H2, I2, pl, q2⟩ => thn (hu pins s2 σ H2 _ I2 q2) fun vu s3 ⟨u, H3, I3, pu, q3⟩ => ?_)
  rw [evalPart_none]
  refine wpAny_pure ?_
  have I4 : Inv X pins σ H3 { s3 with heap := s3.heap.push { cls := .type "slice", data := .fields #[vl, vu, .none] } } := I3.kept (t' := s3.toks) fun b ob q => Heap.get?_push_of_some _ q
  obtain ⟨T, id, hT, ht, hg⟩ := hr pins { s3 with heap := s3.heap.push { cls := .type "slice", data := .fields #[vl, vu, .none] } } σ H3 x v vl vu l u s3.heap.objs.size Q I4 r1 (Heap.IsSliceOf.new ..) pl pu q3
  show wpAny (model X.prog X.w) X.A (subscriptTail e (.Slice lo hi none p2) v (.ref s3.heap.objs.size)) (EP X pins σ Q) X.xe { s3 with heap := s3.heap.push { cls := .type "slice", data := .fields #[vl, vu, .none] } }
  exact tail_any (ops := [.ref s3.heap.objs.size, v]) ht hT hg (by with_unfolding_all rfl)

/-- the items of xs[lo:hi] -/
def cutV (xs : List V) (lo hi : Option Int) : List V := (xs.drop (HT.sIx xs.length 0 lo)).take (HT.sIx xs.length xs.length hi - HT.sIx xs.length 0 lo)
theorem cutV_length (xs : List V) (lo hi : Option Int) : (cutV xs lo hi).length ≤ xs.length := by
  unfold cutV
  rw [List.length_take, List.length_drop]
  omega
/-! ### t < u, t + u -/
end
end L2

namespace L2
open PySem PySem.Spec PyProof.Rows

/-! ### places -/
/-- the place that an index of any sign means -/
def ixN (n : Nat) (i : Int) : Option Nat := if 0 ≤ i then (if i < n then some i.toNat else none) else if -(n : Int) ≤ i then some (i + n).toNat else none
def atI {α : Type} (xs : List α) (i : Int) : Option α := (ixN xs.length i).bind fun j => xs[j]?
theorem ixN_seq {n : Nat} {i : Int} {j : Nat} (h : ixN n i = some j) : seqIndex? i n = some j ∧ j < n ∧ -(n : Int) ≤ i ∧ i < n := by
  unfold ixN at h
  by_cases h0 : 0 ≤ i
  · rw [if_pos h0] at h
    by_cases h1 : i < n
    · rw [if_pos h1] at h
      have e : i.toNat = j := Option.some.inj h
      exact ⟨by rw [seqIndex_of h0 h1, e], by omega, by omega, h1⟩
    · rw [if_neg h1] at h; cases h
  · rw [if_neg h0] at h
    by_cases h1 : -(n : Int) ≤ i
    · rw [if_pos h1] at h
      have e : (i + n).toNat = j := Option.some.inj h
      exact ⟨by rw [seqIndex_neg (by omega) h1, e], by omega, h1, by omega⟩
    · rw [if_neg h1] at h; cases h
theorem atI_get {α : Type} {xs : List α} {i : Int} {v : α} (h : atI xs i = some v) : ∃ j, seqIndex? i xs.length = some j ∧ xs[j]? = some v ∧ j < xs.length ∧ -(xs.length : Int) ≤ i ∧ i < xs.length := by
  unfold atI at h
  cases e : ixN xs.length i with
  | none => rw [e] at h; cases h
  | some j =>
    rw [e] at h
    obtain ⟨h1, h2, h3, h4⟩ := ixN_seq e
    exact ⟨j, h1, h, h2, h3, h4⟩
theorem atI_nat {α : Type} {xs : List α} {j : Nat} {v : α} (h : xs[j]? = some v) : atI xs (j : Int) = some v := by
  have hj : j < xs.length := (List.getElem?_eq_some_iff.mp h).1
  have e : ixN xs.length (j : Int) = some j := by
    unfold ixN
    rw [if_pos (by omega), if_pos (by omega)]; simp
  unfold atI; rw [e]; exact h
theorem atI_last {α : Type} (xs : List α) (v : α) : atI (xs ++ [v]) (-1) = some v := by
  have hl : (xs ++ [v]).length = xs.length + 1 := by simp
  have e : ixN (xs ++ [v]).length (-1) = some xs.length := by
    unfold ixN
    rw [hl, if_neg (by decide), if_pos (by omega)]
    congr 1
    omega
  unfold atI
  rw [e]
  show (xs ++ [v])[xs.length]? = some v
  simp

/-! ### what may be subscripted -/
/-- what stands as an index of a plain subscript -/
def PlainIx (b : Expr) : Prop := ∀ o i, subscripted b false o i = operate [o, i] (getItem o i)
/-- a subscript by values -/
def IxR (X : Cx) (r : R2) : Prop :=
  ∀ (value slice : Expr) (pins : List (Addr × Obj)) (s : Shared) (σ : St) (H : Hp) (x y : V) (v u : Value) (Q : VK), Inv X pins σ H s → RelV x v → RelV y u → r x y H Q →
    subscripted slice false v u = operate [v, u] (getItem v u) → wpAny (model X.prog X.w) X.A (subscriptTail value slice v u) (EP X pins σ Q) X.xe s
/-- a call of a builtin's method by values: the receiver, the arguments -/
def MtR (X : Cx) (id : String) (r : V → List V → Hp → VK → Prop) : Prop :=
  ∀ (pins : List (Addr × Obj)) (s : Shared) (σ : St) (H : Hp) (x : V) (xs : List V) (v : Value) (us : List Value) (Q : VK), Inv X pins σ H s → RelV x v → Vals xs us → r x xs H Q →
    wpAny (model X.prog X.w) X.A (call (.builtin id) (v :: us)) (EP X pins σ Q) X.xe s
section
variable {X : Cx} {a b : Expr} {ta tb : TE} {pos : Pos}
theorem IxR.or {r r' : R2} (h : IxR X r) (h' : IxR X r') : IxR X (fun x y H Q => r x y H Q ∨ r' x y H Q) := by
  intro value slice pins s σ H x y v u Q I rx ry q hs
  rcases q with q | q
  · exact h value slice pins s σ H x y v u Q I rx ry q hs
  · exact h' value slice pins s σ H x y v u Q I rx ry q hs
theorem MtR.or {id : String} {r r' : V → List V → Hp → VK → Prop} (h : MtR X id r) (h' : MtR X id r') : MtR X id (fun x xs H Q => r x xs H Q ∨ r' x xs H Q) := by
  intro pins s σ H x xs v us Q I rx rs q
  rcases q with q | q
  · exact h pins s σ H x xs v us Q I rx rs q
  · exact h' pins s σ H x xs v us Q I rx rs q
/-- a[b] -/
theorem pe_ix {r : R2} (hr : IxR X r) (ha : PE X a ta) (hb : PE X b tb) (hs : PlainIx b) : PE X (.Subscript a b pos) (tOp r ta tb) := by
  intro pins s σ H Q I h
  exact Subscript_ (binT ha hb I h fun v u s2 x y H2 I2 rx ry q => hr a b pins s2 σ H2 x y v u Q I2 rx ry q (hs _ _))

def rIxL (K : PySem.W.Frag) : R2 := fun x y H Q => ∃ p xs i v, x = .ref p ∧ y = .int i ∧ SqL K H p xs ∧ atI xs i = some v ∧ Q v H
def rIxT (K : PySem.W.Frag) : R2 := fun x y H Q => ∃ p xs i v, x = .ref p ∧ y = .int i ∧ SqT K H p xs ∧ atI xs i = some v ∧ Q v H
theorem ix_list : IxR X (rIxL X.K) := by
  intro value slice pins s σ H x y v u Q I rx ry h hs
  obtain ⟨p, xs, i, z, rfl, rfl, hq, he, q⟩ := h
  cases rx
  obtain ⟨t, rfl⟩ := ry
  obtain ⟨its, r, pl, hz⟩ := I.list hq
  obtain ⟨j, h1, h2, h3, h4, h5⟩ := atI_get he
  obtain ⟨w, ew, rw'⟩ := r.get h2
  have hl := r.length
  have hn := line63
  have fin : EP X pins σ Q w s := ⟨z, H, I, rw', q⟩
  by_cases h0 : 0 ≤ i
  · have hj : i.toNat = j := by
      rw [seqIndex_of h0 h5] at h1
      exact Option.some.inj h1
    exact item_listR pl.isList h0 (by omega) (by rw [hj]; simpa using ew) fin hs
  · have hj : (i + (its.toArray.size : Int)).toNat = j := by
      rw [seqIndex_neg (by omega) h4] at h1
      rw [List.size_toArray, ← hl]
      exact Option.some.inj h1
    exact subscriptTail_builtinR (x := w) pl.isList.typeIs slot_list_getitem.lookup
      (wpAny_getItem_list_neg (Q := fun r s' => r = w ∧ EP X pins σ Q r s') pl.isList (by omega) (by rw [List.size_toArray] <;> omega) (by omega) (by rw [hj]; simpa using ew) ⟨rfl, fin⟩) hs
theorem ix_tup : IxR X (rIxT X.K) := by
  intro value slice pins s σ H x y v u Q I rx ry h hs
  obtain ⟨p, xs, i, z, rfl, rfl, hq, he, q⟩ := h
  cases rx
  obtain ⟨t, rfl⟩ := ry
  obtain ⟨its, r, pl, hz⟩ := I.tuple hq
  obtain ⟨j, h1, h2, h3, h4, h5⟩ := atI_get he
  obtain ⟨w, ew, rw'⟩ := r.get h2
  have hl := r.length
  have hn := line63
  have fin : EP X pins σ Q w s := ⟨z, H, I, rw', q⟩
  exact subscriptTail_builtinR (x := w) pl.typeIs slot_tuple_getitem.lookup
    (getItem_tuple (j := j) (Q := fun r s' => r = w ∧ EP X pins σ Q r s') pl (by omega) (by omega) (by rw [List.size_toArray, ← hl]; exact h1) (by simpa using ew) ⟨rfl, fin⟩) hs
/-! ### xs[i] = v, any sign -/
/-- the list's object behind a store -/
theorem mapSeq_set (its : List Value) (n j : Nat) (u : Value) : Obj.mapSeq (·.setIfInBounds j u) { cls := .type "list", data := .seq its.toArray n } = { cls := .type "list", data := .seq (its.set j u).toArray n } := by
  simp [Obj.mapSeq]
theorem Inv.lst {pins : List (Addr × Obj)} {σ : St} {H : Hp} {s : Shared} {p : Addr} {xs : List V} (I : Inv X pins σ H s) (h : H p = some (.lst xs)) :
    ∃ (its : List Value) (n : Nat), Vals xs its ∧ s.heap.get? p = some { cls := .type "list", data := .seq its.toArray n } ∧ xs.length ≤ sizeLine := by
  obtain ⟨z, its, n, r, e⟩ := I.hok p _ h
  exact ⟨its, n, r, e, z⟩
/-- the list at p is written by an update of its object -/
theorem Inv.lstUpd {pins : List (Addr × Obj)} {σ : St} {H : Hp} {s : Shared} {p : Addr} {xs ys : List V} {its its' : List Value} {n n' : Nat} {f : Obj → Obj} (I : Inv X pins σ H s) (h : H p = some (.lst xs))
    (ho : s.heap.get? p = some { cls := .type "list", data := .seq its.toArray n }) (hf : f { cls := .type "list", data := .seq its.toArray n } = { cls := .type "list", data := .seq its'.toArray n' }) (r : Vals ys its') (hz : ys.length ≤ sizeLine) (t : Nat) :
    Inv X pins σ (upd H p (.lst ys)) { s with heap := s.heap.update p f, toks := t } := by
  have e : (s.heap.update p f).get? p = some { cls := .type "list", data := .seq its'.toArray n' } := by
    rw [Heap.get?_update_self f ho (by rw [hf] <;> rfl), hf]
  refine I.write (x := p) (e := p) (by rw [h]; trivial) (.inl rfl) (fun b u hb q => (Heap.get?_update_other _ _ (Ne.symm hb)).trans q) ⟨_, e⟩ ?_
  exact ⟨hz, its', n', r, e⟩
def rSetL : V → V → V → Hp → (Hp → Prop) → Prop := fun o i v H Q => ∃ p xs k j, o = .ref p ∧ i = .int k ∧ H p = some (.lst xs) ∧ ixN xs.length k = some j ∧ Q (upd H p (.lst (xs.set j v)))
theorem set_list : PSet X rSetL := by
  intro pins s σ H o i v ov iv u Q I ro ri rv h
  obtain ⟨p, xs, k, j, rfl, rfl, hp, hj, q⟩ := h
  cases ro
  obtain ⟨t, rfl⟩ := ri
  obtain ⟨its, n, r, ho, hz⟩ := I.lst hp
  obtain ⟨h1, h2, h3, h4⟩ := ixN_seq hj
  have hl := r.length
  have hn := line63
  have I' : Inv X pins σ (upd H p (.lst (xs.set j v))) { s with heap := s.heap.update p (Obj.mapSeq (·.setIfInBounds j u)) } :=
    I.lstUpd hp ho (mapSeq_set its n j u) (r.set rv j) (by rw [List.length_set]; exact hz) s.toks
  by_cases h0 : 0 ≤ k
  · have hk : k.toNat = j := by
      rw [seqIndex_of h0 h4] at h1
      exact Option.some.inj h1
    exact PySem.W.ki_setAt ho h0 (by omega) (by rw [List.size_toArray, ← hl]; exact h4) (by rw [hk]; exact ⟨_, I', q⟩)
  · have hk : (k + (its.toArray.size : Int)).toNat = j := by
      rw [seqIndex_neg (by omega) h3] at h1
      rw [List.size_toArray, ← hl]
      exact Option.some.inj h1
    exact PySem.W.ki_setBack ho (by omega) (by rw [List.size_toArray, ← hl]; exact h3) (by omega) (by rw [hk]; exact ⟨_, I', q⟩)

/-! ### slices -/
theorem slice_bounds (lo hi : Option Int) (n : Nat) : (sliceBounds lo hi none n).1 = ((HT.sIx n 0 lo : Nat) : Int) ∧ (sliceBounds lo hi none n).2.1 = ((HT.sIx n n hi : Nat) : Int) ∧ (sliceBounds lo hi none n).2.2 = 1 := by
  refine ⟨?_, ?_, rfl⟩
  · cases lo with
    | none => simp [sliceBounds, HT.sIx]
    | some i =>
      simp only [sliceBounds, HT.sIx, Option.getD_none, show (1 : Int) > 0 by decide, if_true]
      by_cases h : i < 0
      · simp only [h, if_true] <;> omega
      · simp only [h, if_false] <;> omega
  · cases hi with
    | none => simp [sliceBounds, HT.sIx]
    | some i =>
      simp only [sliceBounds, HT.sIx, Option.getD_none, show (1 : Int) > 0 by decide, if_true]
      by_cases h : i < 0
      · simp only [h, if_true] <;> omega
      · simp only [h, if_false] <;> omega
theorem slicePick_cut (its : List Value) (lo hi : Option Int) : slicePick its.toArray lo hi none = ((its.drop (HT.sIx its.length 0 lo)).take (HT.sIx its.length its.length hi - HT.sIx its.length 0 lo)).toArray := by
  obtain ⟨h1, h2, h3⟩ := slice_bounds lo hi its.toArray.size
  unfold slicePick
  rw [h1, h2, h3]
  simp only [sliceRange_one, pick_run, List.size_toArray] <;> rfl
/-- xs[lo:hi] of a list: a new list -/
def rSlL (K : PySem.W.Frag) : V → Option Int → Option Int → Hp → VK → Prop := fun x lo hi H Q => ∃ a xs, x = .ref a ∧ SqL K H a xs ∧ ∀ p, H p = none → Q (.ref p) (upd H p (.lst (cutV xs lo hi)))
theorem sl_list : SlR X (rSlL X.K) := by
  intro pins s σ H x v vl vu lo hi sl Q I rx hs pl pu h
  obtain ⟨a, xs, rfl, hx, q⟩ := h
  cases rx
  obtain ⟨its, r, ht, hz⟩ := I.list hx
  have hlen := r.length
  refine ⟨"list", _, slot_list_getitem.lookup, ht.isList.typeIs, ?_⟩
  refine wpAny_getItem_list_slice ht.isList hs pl pu .none (by simp) ?_ (by rw [List.size_toArray] <;> omega)
  rw [slicePick_cut, ← hlen]
  refine ⟨.ref s.heap.objs.size, _, I.laid (t' := s.toks) (o := .lst (cutV xs lo hi)) (fun b ob q => Heap.get?_push_of_some _ q) (Nat.le_refl _) ?_, rfl, q _ (I.hok.fresh (Nat.le_refl _))⟩
  exact ⟨Nat.le_trans (cutV_length xs lo hi) hz, _, 0, (r.drop (HT.sIx xs.length 0 lo)).take (HT.sIx xs.length xs.length hi - HT.sIx xs.length 0 lo), Heap.get?_push_size _ rfl⟩

/-! ### in, not in: flat items -/
def flatV : V → Bool
  | .non => true
  | .bl _ => true
  | .int _ => true
  | .str _ => true
  | _ => false
/-- == of flat values -/
def eqV : V → V → Bool
  | .non, .non => true
  | .bl a, .bl b => a == b
  | .bl a, .int b => (if a then 1 else 0) == b
  | .int a, .bl b => a == (if b then 1 else 0)
  | .int a, .int b => a == b
  | .str a, .str b => a == b
  | _, _ => false
theorem eqAt_V {A : Around} {s : Shared} {y x : V} {u v : Value} (ry : RelV y u) (rx : RelV x v) (fy : flatV y = true) (fx : flatV x = true) : SeqAt.EqAt A s u v (eqV y x) := by
  cases y with
  | non =>
    cases ry
    cases x with
    | non => cases rx; exact SeqAt.EqAt.same _
    | bl b => cases rx; exact SeqAt.EqAt.none_bool b
    | int b => obtain ⟨t, rfl⟩ := rx; exact SeqAt.EqAt.none_int b t
    | str b => obtain ⟨t, rfl⟩ := rx; exact SeqAt.EqAt.none_str b t
    | _ => exact absurd (show false = true from fx) Bool.false_ne_true
  | bl a =>
    cases ry
    cases x with
    | non => cases rx; exact SeqAt.EqAt.bool_none a
    | bl b => cases rx; exact SeqAt.EqAt.bool_bool a b
    | int b => obtain ⟨t, rfl⟩ := rx; exact SeqAt.EqAt.bool_int a b t
    | str b => obtain ⟨t, rfl⟩ := rx; exact SeqAt.EqAt.bool_str a b t
    | _ => exact absurd (show false = true from fx) Bool.false_ne_true
  | int a =>
    obtain ⟨t', rfl⟩ := ry
    cases x with
    | non => cases rx; exact SeqAt.EqAt.int_none a t'
    | bl b => cases rx; exact SeqAt.EqAt.int_bool a t' b
    | int b => obtain ⟨t, rfl⟩ := rx; exact SeqAt.EqAt.int_int a t' b t
    | str b => obtain ⟨t, rfl⟩ := rx; exact SeqAt.EqAt.int_str a t' b t
    | _ => exact absurd (show false = true from fx) Bool.false_ne_true
  | str a =>
    obtain ⟨t', rfl⟩ := ry
    cases x with
    | non => cases rx; exact SeqAt.EqAt.str_none a t'
    | bl b => cases rx; exact SeqAt.EqAt.str_bool a t' b
    | int b => obtain ⟨t, rfl⟩ := rx; exact SeqAt.EqAt.str_int a t' b t
    | str b => obtain ⟨t, rfl⟩ := rx; exact SeqAt.EqAt.str_str a t' b t
    | _ => exact absurd (show false = true from fx) Bool.false_ne_true
  | _ => exact absurd (show false = true from fy) Bool.false_ne_true
/-- the items' answers, read off the values (a value's own answer does not lean on its token) -/
def eqU (x : V) (u : Value) : Bool := match u with
  | .none => eqV .non x
  | .bool b => eqV (.bl b) x
  | .int i _ => eqV (.int i) x
  | .str z _ => eqV (.str z) x
  | _ => false
theorem eqU_of {x y : V} {u : Value} (r : RelV y u) (f : flatV y = true) : eqU x u = eqV y x := by
  cases y with
  | non => cases r; rfl
  | bl b => cases r; rfl
  | int i => obtain ⟨t, rfl⟩ := r; rfl
  | str z => obtain ⟨t, rfl⟩ := r; rfl
  | _ => exact absurd (show false = true from f) Bool.false_ne_true
theorem any_eqU {x : V} : ∀ {xs : List V} {us : List Value}, Vals xs us → xs.all flatV = true → us.any (eqU x) = xs.any fun y => eqV y x
  | _, _, .nil, _ => rfl
  | y :: xs, u :: us, .cons r t, f => by
    rw [List.all_cons, Bool.and_eq_true] at f
    rw [List.any_cons, List.any_cons, eqU_of r f.1, any_eqU t f.2]
theorem mem_eqAt {A : Around} {s : Shared} {x : V} {v : Value} (rx : RelV x v) (fx : flatV x = true) : ∀ {xs : List V} {us : List Value}, Vals xs us → xs.all flatV = true → ∀ u ∈ us, SeqAt.EqAt A s u v (eqU x u)
  | _, _, .nil, _ => fun u hu => by cases hu
  | y :: xs, u :: us, .cons r t, f => fun u' hu => by
    rw [List.all_cons, Bool.and_eq_true] at f
    rcases List.mem_cons.mp hu with rfl | hu
    · rw [eqU_of r f.1]; exact eqAt_V r rx f.1 fx
    · exact mem_eqAt rx fx t f.2 u' hu
def inV (x : V) (xs : List V) : Bool := xs.any fun y => eqV y x
/-- x in a list or tuple of flat items -/
def rIn (K : PySem.W.Frag) (neg : Bool) : R2 := fun x y H Q => ∃ p xs, y = .ref p ∧ (SqL K H p xs ∨ SqT K H p xs) ∧ flatV x = true ∧ xs.all flatV = true ∧ Q (.bl (if neg then !inV x xs else inV x xs)) H
theorem op_in_seq : OpR X (compareOp .In) (rIn X.K false) := by
  intro pins s σ H x y v u Q I rx ry h
  obtain ⟨p, xs, rfl, hq, fx, fs, q⟩ := h
  cases ry
  rcases hq with hq | hq
  · obtain ⟨its, r, pl, hz⟩ := I.list hq
    refine SeqAt.in_listAt (eqU x) pl.isList (fun w hw => mem_eqAt rx fx r fs w (by simpa using hw)) ⟨.bl _, H, I, rfl, ?_⟩
    rw [show its.toArray.any (eqU x) = its.any (eqU x) by simp, any_eqU r fs]
    exact q
  · obtain ⟨its, r, pl, hz⟩ := I.tuple hq
    refine SeqAt.in_tupleAt (eqU x) pl (fun w hw => mem_eqAt rx fx r fs w (by simpa using hw)) ⟨.bl _, H, I, rfl, ?_⟩
    rw [show its.toArray.any (eqU x) = its.any (eqU x) by simp, any_eqU r fs]
    exact q
theorem op_notIn_seq : OpR X (compareOp .NotIn) (rIn X.K true) := by
  intro pins s σ H x y v u Q I rx ry h
  obtain ⟨p, xs, rfl, hq, fx, fs, q⟩ := h
  cases ry
  rcases hq with hq | hq
  · obtain ⟨its, r, pl, hz⟩ := I.list hq
    refine SeqAt.notIn_listAt (eqU x) pl.isList (fun w hw => mem_eqAt rx fx r fs w (by simpa using hw)) ⟨.bl _, H, I, rfl, ?_⟩
    rw [show its.toArray.any (eqU x) = its.any (eqU x) by simp, any_eqU r fs]
    exact q
  · obtain ⟨its, r, pl, hz⟩ := I.tuple hq
    refine SeqAt.notIn_tupleAt (eqU x) pl (fun w hw => mem_eqAt rx fx r fs w (by simpa using hw)) ⟨.bl _, H, I, rfl, ?_⟩
    rw [show its.toArray.any (eqU x) = its.any (eqU x) by simp, any_eqU r fs]
    exact q
/-! ### len, list(x), tuple(x) of any list or tuple that is read -/
theorem call_len_seq : CallR X (.builtin "len") (fun xs H Q => ∃ p ys, xs = [.ref p] ∧ (SqL X.K H p ys ∨ SqT X.K H p ys) ∧ Q (.int ys.length) H) := by
  intro pins s σ H xs us Q I r h
  obtain ⟨p, ys, rfl, hq, q⟩ := h
  obtain ⟨u, rfl, rx⟩ := vals1 r
  cases rx
  have hn := line63
  rcases hq with hq | hq
  · obtain ⟨its, r', pl, hz⟩ := I.list hq
    have hlen := r'.length
    exact Calls.call_len_list pl.isList (by simp only [List.size_toArray] <;> omega) ⟨.int ys.length, H, I.tok _, ⟨s.toks + 1, by rw [List.size_toArray, hlen]⟩, q⟩
  · obtain ⟨its, r', pl, hz⟩ := I.tuple hq
    have hlen := r'.length
    exact len_tuple pl (by simp only [List.size_toArray] <;> omega) ⟨.int ys.length, H, I.tok _, ⟨s.toks + 1, by rw [List.size_toArray, hlen]⟩, q⟩
theorem CallR.or {f : Value} {r r' : List V → Hp → VK → Prop} (h : CallR X f r) (h' : CallR X f r') : CallR X f (fun xs H Q => r xs H Q ∨ r' xs H Q) := by
  intro pins s σ H xs us Q I rs q
  rcases q with q | q
  · exact h pins s σ H xs us Q I rs q
  · exact h' pins s σ H xs us Q I rs q
theorem call_list_of : CallR X (.type "list") (fun xs H Q => ∃ p ys, xs = [.ref p] ∧ (SqL X.K H p ys ∨ SqT X.K H p ys) ∧ ∀ l, H l = none → Q (.ref l) (upd H l (.lst ys))) := by
  intro pins s σ H xs us Q I r h
  obtain ⟨p, ys, rfl, hq, q⟩ := h
  obtain ⟨u, rfl, rx⟩ := vals1 r
  cases rx
  have fin : ∀ (its : List Value), Vals ys its → ys.length ≤ sizeLine → ∀ (h' : Heap) (c' : Nat), (∀ b o', s.heap.get? b = some o' → h'.get? b = some o') →
      h'.get? s.heap.objs.size = some { cls := .type "list", dict := none, data := .seq its.toArray c', slots := #[] } → EP X pins σ Q (.ref s.heap.objs.size) { s with heap := h' } := fun its r' hz h' c' kp e =>
    ⟨.ref s.heap.objs.size, _, I.laid (t' := s.toks) kp (Nat.le_refl _) (show ObjOk X.prog X.w _ h' _ (.lst ys) from ⟨hz, its, c', r', e⟩), rfl, q _ (I.hok.fresh (Nat.le_refl _))⟩
  rcases hq with hq | hq
  · obtain ⟨its, r', pl, hz⟩ := I.list hq
    have hlen := r'.length
    obtain ⟨o, ho, hc, n, hd⟩ := pl.isList
    exact call_list_seq p (.inl rfl) ho hc hd (fun h' c' kp e => fin its r' hz h' c' kp e) (by simp only [List.size_toArray] <;> omega)
  · obtain ⟨its, r', pl, hz⟩ := I.tuple hq
    have hlen := r'.length
    obtain ⟨o, ho, hc, n, hd⟩ := pl
    exact call_list_seq p (.inr rfl) ho hc hd (fun h' c' kp e => fin its r' hz h' c' kp e) (by simp only [List.size_toArray] <;> omega)
/-! ### the call of a builtin's method: o.m(..) -/
/-- the value is of that builtin type -/
def tyV (K : PySem.W.Frag) (T : String) (x : V) (H : Hp) : Prop := match x with
  | .str _ => T = "str"
  | .int _ => T = "int"
  | .ref p => (T = "list" ∧ ∃ xs, SqL K H p xs) ∨ (T = "tuple" ∧ ∃ o, K.lookup p = some o ∧ o.cls = .type "tuple" ∧ o.dict = none) ∨
      (T = "dict" ∧ ((∃ kvs, H p = some (.dK kvs)) ∨ ∃ kvs, H p = some (.dT kvs))) ∨ (T = "set" ∧ ∃ S n, H p = some (.set S n))
  | _ => False
theorem tyV_is {pins : List (Addr × Obj)} {σ : St} {H : Hp} {s : Shared} {T : String} {x : V} {v : Value} (I : Inv X pins σ H s) (r : RelV x v) (ty : tyV X.K T x H) :
    s.TypeIs v T ∧ ∀ a, v = .ref a → ∃ ob, s.heap.get? a = some ob ∧ ob.dict = none := by
  cases x with
  | str z =>
    obtain ⟨t, rfl⟩ := r
    cases (show T = "str" from ty)
    exact ⟨typeIs_str s z t, fun _ e => nomatch e⟩
  | int i =>
    obtain ⟨t, rfl⟩ := r
    cases (show T = "int" from ty)
    exact ⟨typeIs_int s i t, fun _ e => nomatch e⟩
  | ref p =>
    cases r
    rcases ty with ⟨rfl, xs, hq⟩ | ⟨rfl, o, hk, hc, hd⟩ | ⟨rfl, hk⟩ | ⟨rfl, S, n, hk⟩
    · obtain ⟨its, _, pl, _⟩ := I.list hq
      refine ⟨pl.isList.typeIs, fun a e => ?_⟩
      cases e
      obtain ⟨o, n, e, c, hd, _⟩ := pl
      exact ⟨o, e, hd⟩
    · refine ⟨⟨o, I.kIn p o hk, hc⟩, fun a e => ?_⟩
      cases e
      exact ⟨o, I.kIn _ o hk, hd⟩
    · have z : ∃ o, s.heap.get? p = some o ∧ o.ExactDict := by
        rcases hk with ⟨kvs, hk⟩ | ⟨kvs, hk⟩
        · obtain ⟨_, _, _, _, o, _, _, e, ex, _⟩ := I.hok p _ hk
          exact ⟨o, e, ex⟩
        · obtain ⟨_, _, _, _, o, _, _, e, ex, _⟩ := I.hok p _ hk
          exact ⟨o, e, ex⟩
      obtain ⟨o, e, ex⟩ := z
      refine ⟨⟨o, e, ex.1⟩, fun a e2 => ?_⟩
      cases e2
      exact ⟨o, e, ex.2.1⟩
    · obtain ⟨o, _, _, _, e, ex, _⟩ := I.hok p _ hk
      refine ⟨⟨o, e, ex.1⟩, fun a e2 => ?_⟩
      cases e2
      exact ⟨o, e, ex.2.1⟩
  | _ => exact False.elim ty
def tBM0 (K : PySem.W.Frag) (T : String) (r : V → List V → Hp → VK → Prop) (to : TE) : TE := fun σ H Q => to σ H fun x H1 => tyV K T x H1 ∧ r x [] H1 Q
def tBM (K : PySem.W.Frag) (T : String) (r : V → List V → Hp → VK → Prop) (to : TE) (t : TA) : TE := fun σ H Q => to σ H fun x H1 => tyV K T x H1 ∧ t σ H1 fun xs H2 => r x xs H2 Q
variable {o e : Expr} {es : List Expr} {to : TE} {t : TA} {name : Str} {apos cpos : Pos} {T id : String} {r : V → List V → Hp → VK → Prop}
theorem pe_bm (pa : PlainAttrs T) (slot : Slot T name id) (hty : typeOf (.builtin id) = pure (.type "method_descriptor")) (hm : MtR X id r) (ho : PE X o to) (ha : PA X (e :: es) t)
    (hbase : attributeBase o name X.env (eval o X.env) = eval o X.env := by rfl)
    (hfew : ((backTo cpos (starEach (e :: es) X.env)).all (fun x => !x.1) && (backToKw cpos (keywordEach [] X.env)).all (fun x => x.1.isSome)
      && decide ((e :: es).length + ([] : List Keyword).length + (if ([] : List Keyword).isEmpty then 0 else 1) < 30)) = true := by rfl)
    (hline : (apos.endLine == cpos.line) = true := by rfl) (hs : starEach (e :: es) X.env = (false, eval e X.env) :: starEach es X.env := by rfl) (hplain : (backTo cpos (starEach es X.env)).any (·.1) = false := by rfl) :
    PE X (.Call (.Attribute o name apos) (e :: es) [] cpos) (tBM X.K T r to t) := by
  intro pins s σ H Q I h
  refine wpAny_Call_method_late hbase hfew hline rfl (thn (ho pins s σ H _ I h) fun v s1 ⟨x, H1, I1, r1, ty, q1⟩ => ?_)
  obtain ⟨h1, h2⟩ := tyV_is I1 r1 ty
  refine ⟨T, id, pa, slot, hty, h1, h2, ?_⟩
  have hA := ha cpos pins s1 σ H1 _ I1 q1
  rw [hs] at hA ⊢
  refine Calls.callWith_builtin (by show (false || (backTo cpos (starEach es X.env)).any (·.1)) = false; rw [hplain] <;> rfl) (Calls.evalArgs_plain ?_)
  exact thn hA fun us s2 ⟨vs, H2, I2, r2, q2⟩ => hm pins s2 σ H2 x vs v us Q I2 r1 r2 q2
/- xs.append(e), list.index on a module's tuple .. are MtR facts of 06m -/
end
end L2

namespace L2
open PySem PySem.Spec PyProof.Rows

def MtM (X : Cx) (id : String) (r : V → List V → Hp → VK → Prop) : Prop :=
  ∀ (pins : List (Addr × Obj)) (s : Shared) (σ : St) (H : Hp) (x : V) (xs : List V) (v : Value) (us : List Value) (Q : VK), Inv X pins σ H s → RelV x v → Vals xs us → r x xs H Q →
    wpAny (model X.prog X.w) X.A (call (.builtin id) (v :: us)) (EP X pins σ Q) X.xe s

/-! ### lists of values -/
theorem Vals.one : ∀ {x : V} {us : List Value}, Vals [x] us → ∃ u, us = [u] ∧ RelV x u
  | _, _, .cons r .nil => ⟨_, rfl, r⟩
theorem Vals.two : ∀ {x y : V} {us : List Value}, Vals [x, y] us → ∃ u v, us = [u, v] ∧ RelV x u ∧ RelV y v
  | _, _, _, .cons r (.cons q .nil) => ⟨_, _, rfl, r, q⟩
theorem Vals.zero : ∀ {us : List Value}, Vals [] us → us = []
  | _, .nil => rfl
theorem Vals.dropLast {xs : List V} {us : List Value} (h : Vals xs us) : Vals xs.dropLast us.dropLast := by
  induction h with
  | nil => exact .nil
  | cons r t ih =>
    cases t with
    | nil => exact .nil
    | cons q t' => exact .cons r ih
theorem Vals.eraseIdx : ∀ {xs : List V} {us : List Value} (i : Nat), Vals xs us → Vals (xs.eraseIdx i) (us.eraseIdx i)
  | _, _, _, .nil => .nil
  | _, _, 0, .cons _ t => t
  | _, _, i + 1, .cons r t => .cons r (Vals.eraseIdx i t)
theorem Vals.reverse {xs : List V} {us : List Value} (h : Vals xs us) : Vals xs.reverse us.reverse := by
  induction h with
  | nil => exact .nil
  | cons r t ih => rw [List.reverse_cons, List.reverse_cons]; exact Vals.append ih (.cons r .nil)
section
variable {X : Cx} {pins : List (Addr × Obj)} {σ : St} {H : Hp} {s : Shared} {l b : Addr} {xs ys zs : List V}

/-! ### the two steps: a tracked list is rewritten, a new list is laid -/
theorem Inv.lset {its its' : List Value} {n : Nat} {f : Array Value → Array Value} {t' : Nat} (I : Inv X pins σ H s) (hH : H l = some (.lst xs))
    (e : s.heap.get? l = some { cls := .type "list", data := .seq its.toArray n }) (hf : f its.toArray = its'.toArray) (hv : Vals ys its') (hz : ys.length ≤ sizeLine) :
    Inv X pins σ (upd H l (.lst ys)) { s with heap := s.heap.update l (Obj.mapSeq f), toks := t' } := by
  have q := PySem.IsL.update e f
  rw [hf] at q
  refine I.write (x := l) (e := l) (by rw [hH]; exact trivial) (.inl rfl) (fun b' u hb hu => (Heap.get?_update_other s.heap (Obj.mapSeq f) (Ne.symm hb)).trans hu) ⟨_, q⟩ ?_
  exact ⟨hz, its', _, hv, q⟩
theorem Inv.lnew {its : List Value} {t' : Nat} (I : Inv X pins σ H s) (hv : Vals ys its) (hz : ys.length ≤ sizeLine) :
    Inv X pins σ (upd H s.heap.objs.size (.lst ys)) { s with heap := s.heap.push { cls := .type "list", data := .seq its.toArray }, toks := t' } :=
  I.laid (fun _ _ q => Heap.get?_push_of_some _ q) (Nat.le_refl _) ⟨hz, its, 0, hv, Heap.get?_push_size _ rfl⟩
theorem Inv.fresh (I : Inv X pins σ H s) : H s.heap.objs.size = none := I.hok.fresh (Nat.le_refl _)
theorem Inv.lstM (I : Inv X pins σ H s) (hH : H l = some (.lst xs)) : xs.length ≤ sizeLine ∧ ∃ (its : List Value) (n : Nat), Vals xs its ∧ xs.length = its.length ∧ s.heap.get? l = some { cls := .type "list", data := .seq its.toArray n } := by
  obtain ⟨z, its, n, r, e⟩ := I.hok l _ hH
  exact ⟨z, its, n, r, r.length, e⟩

end

section
variable {X : Cx}

/-! ### methods -/
def rAppend : V → List V → Hp → VK → Prop := fun x vs H Q => ∃ l xs y, x = .ref l ∧ vs = [y] ∧ H l = some (.lst xs) ∧ xs.length < sizeLine ∧ Q .non (upd H l (.lst (xs ++ [y])))
theorem mt_append : MtM X "list.append" rAppend := by
  intro pins s σ H x vs v us Q I rx rv h
  obtain ⟨l, xs, y, rfl, rfl, hH, hz, q⟩ := h
  cases rx
  obtain ⟨u, rfl, ru⟩ := rv.one
  obtain ⟨z, its, n, r, hl, e⟩ := I.lstM hH
  refine call_meets F.slot_list_append ⟨_, e, rfl⟩ F.entry_list_append (F.args_list_append_2 _ _) (PySem.list_append l its.toArray n u (by rw [List.size_toArray]; omega)) ⟨e, ?_⟩
  refine ⟨.non, _, I.lset (its' := its ++ [u]) hH e (by simp) (r.append (.cons ru .nil)) ?_, rfl, q⟩
  rw [List.length_append, List.length_singleton]
  omega

/-! ### list + list, list += list, list * int -/
def rCat : R2 := fun x y H Q => ∃ l b xs zs, x = .ref l ∧ y = .ref b ∧ H l = some (.lst xs) ∧ H b = some (.lst zs) ∧ xs.length + zs.length ≤ sizeLine ∧ ∀ p, H p = none → Q (.ref p) (upd H p (.lst (xs ++ zs)))
theorem op_cat : OpR X (binaryOp .Add) rCat := by
  intro pins s σ H x y v u Q I rx ry h
  obtain ⟨l, b, xs, zs, rfl, rfl, hH, hB, hz, q⟩ := h
  cases rx
  cases ry
  obtain ⟨z, its, n, r, hl, e⟩ := I.lstM hH
  obtain ⟨z2, its2, n2, r2, hl2, e2⟩ := I.lstM hB
  refine PySem.P.add_list e e2 ?_ (by rw [List.size_toArray, List.size_toArray]; omega)
  have ea : its.toArray ++ its2.toArray = (its ++ its2).toArray := by simp
  rw [ea]
  exact ⟨.ref _, _, I.lnew (t' := s.toks) (r.append r2) (by rw [List.length_append]; omega), rfl, q _ I.fresh⟩
/-! ### del xs[i] -/
end

/-! ### xs[a:b] = ys -/
section
variable {prog : Program} {w : World} {A : Around} {E : Value → Shared → Prop} {s : Shared}
end

section
variable {X : Cx}
end
end L2

namespace Att
open PySem PySem.W PySem.Calls PyProof.Rows

/-! ### the script -/
theorem ints_of_wellAll {P : Params} {h : Heap} : ∀ (ns : List Int) (vs : List Value), WellAll P h vs (ns.map WData.int) → IntsAre vs ns := by
  intro ns
  induction ns with
  | nil =>
    intro vs w
    rw [List.map_nil] at w
    cases w
    exact .nil
  | cons n ns ih =>
    intro vs w
    rw [List.map_cons] at w
    cases w with
    | cons a b =>
      cases a
      exact .cons _ _ (ih _ b)

theorem script_of {l : OpenLaw} {n : Nat} (hn : l.most = some n) {P : Params} {h : Heap} {args : List WData} {vals : List Value}
    (hpre : l.row.toRowW.claim.pre args = true) (hwl : WellAll P h vals args) :
    ∃ a vs ns, vals = [Value.ref a] ∧ args = [WData.list (ns.map WData.int)] ∧ h.get? a = some { cls := .type "list", data := .seq vs.toArray } ∧ IntsAre vs ns ∧ ns.length ≤ n := by
  have hsh : WShape.hasAll [] args [.list .int] = true := (pre_splitW hpre).1
  have hc : l.pre.holds [] { args := args } = true := (pre_splitW hpre).2
  obtain ⟨d, r, rfl, h1, h2⟩ := hasAllW_cons hsh
  obtain rfl := hasAllW_nil h2
  obtain ⟨xs, rfl, h3⟩ := hasW_list h1
  obtain ⟨ns, rfl⟩ := items_int h3
  have hlen : ns.length ≤ n := by
    unfold OpenLaw.pre at hc
    have h4 : (WTm.not (.lt (.lit (.int (n : Int))) (.len (.arg 0)))).holds [] { args := [.list (ns.map .int)] } = true := by
      have h4 := (holds_andW hc).1
      rw [hn] at h4
      exact h4
    have h5 := condW_of h4 (w_not (w_lt w_lit (w_len_list (w_arg rfl))))
    rw [List.length_map] at h5
    refine Nat.le_of_not_lt fun q => ?_
    have q' : (n : Int) < ((ns.length : Nat) : Int) := by omega
    first
      | (rw [decide_eq_true q'] at h5; exact absurd h5 (by decide))
      | (simp at h5; omega)
  cases hwl with
  | cons w1 w2 =>
    cases w2
    cases w1 with
    | list ho hall => exact ⟨_, _, ns, rfl, rfl, ho, ints_of_wellAll ns _ hall, hlen⟩

theorem post_true (l : OpenLaw) (args : List WData) : l.row.toRowW.claim.post args (.bool true) args = true :=
  postW_of (r := l.row.toRowW) (X := (true == true))
    (show WShape.has [] (.bool true) .bool = true by first | rfl | decide | simp [WShape.has, WShape.arms, WShape.armsAll])
    (show (WTm.eq .res (.lit (.bool true))).value [] { args := args, res := some (.bool true), after := args } = some (.bool (true == true)) from w_eq_bool (w_res rfl) w_lit) rfl

/-! ### the attachment: holds_open's last premise (the goal 'hc' behind k_head) from a wpAny of the law's body -/
/-- the same from a codeAny of the CALL (for a layer whose function contracts speak of calls) -/
theorem attach_call {l : OpenLaw} {n : Nat} {q : Program} {loose : List Str} {XP : (Str → Option Value) → Heap → Prop} {YP : World → Heap → Prop} {d : DefRec}
    (hn : l.most = some n) (hdf : d.params.defaults = [])
    (call : ∀ (w : World) (s₀ s₁ : Shared) (mg mb : Str → Option Value) (fa : Addr) (o : Obj) (pm cd doc : Value) (a : Addr) (vs : List Value) (ns : List Int),
      Ground q loose [] XP w s₀ mg mb s₁.heap → YP w s₁.heap →
      s₁.heap.get? fa = some o → o.data = .func (docDef d.name d.params d.body d.scope pm cd doc) → s₁.heap.CodeRec cd d.name → mg d.name = some (.ref fa) →
      s₁.heap.get? a = some { cls := .type "list", data := .seq vs.toArray } → IntsAre vs ns → ns.length ≤ n → s₁.gens = #[] →
      codeAny (model l.prog w) callerA (.call (.ref fa) ⟨[.ref a], []⟩) (fun r s' => r = .ok (.ret (.bool true)) ∧ OldK s₁.heap s'.heap ∧ s'.os = s₁.os ∧ AllBare s'.gens) s₁) :
    WalkO q loose XP YP l.row.toRowW d [] (fun f vs => PySem.call f vs) := by
  intro w s₀ s₁ mg mb G Y fa o pm cd doc dV kV ho hd hcd hD hmg hg args vals as hpre hlay hrd hwl hlo
  obtain rfl : dV = .none := Dflts.none hD hdf
  obtain rfl : kV = .none := Dflts.noKw hD
  obtain ⟨a, vs, ns, rfl, rfl, hobj, hints, hlen⟩ := script_of hn hpre hwl
  refine enter_call (codeAny_mono (call w s₀ s₁ mg mb fa o pm cd doc a vs ns G Y ho (fd_plain hd) hcd hmg hobj hints hlen hg) fun r s' hq => ?_)
  obtain ⟨rfl, h2, h3, h4⟩ := hq
  exact ⟨.inl ⟨.bool true, .bool true, [], rfl, fun _ => rfl, .bool true, post_true l _, fun _ => ⟨List.Pairwise.nil, fun _ hm => (nomatch hm)⟩⟩, h2, h3, h4⟩

/-! ### rules over ANY heap (no ledger) from facts about the written part K: the library's own take a ledger (News) for what they write -/
section
variable {prog : Program} {w : World} {A : Around} {E : Value → Shared → Prop} {s : Shared} {K : Frag}

/-! the whole heap as the ledger: makes every rule that writes through a ledger a rule over any heap -/
def ledger (h : Heap) (L d : Addr) : List (Addr × Obj) := (List.range h.objs.size).filterMap fun a => if a = L ∨ a = d then none else (h.get? a).map fun o => (a, o)
end
end Att

namespace L2
open PySem PySem.Spec PyProof.Rows

theorem vals_ints : ∀ {vs : List Value} {ns : List Int}, IntsAre vs ns → Vals (ns.map V.int) vs
  | _, _, .nil => .nil
  | _, _, .cons n t h => .cons ⟨t, rfl⟩ (vals_ints h)

/-- nothing is tracked but the script, known to the object (or it is an object of the module) -/
def Only (H : Hp) : Prop := ∀ b, H b = none ∨ ∃ o xs, H b = some (.frz o (.lst xs))

/-- THE HEAD: the law's promise, at the heap behind the top. F, the promise of the law's def, may use that base is part of the heap (so K.In base, base.Ns mainGlobals mg stand in Mod) -/
theorem law_call {P : Program} {w : World} {K : PySem.W.Frag} {mg mb : Str → Option Value} {CX : CXT} {k : Nat} {fa a : Addr} {fd : FuncData} {x : Str} {sp : Sp} {s₁ : Shared} {vs : List Value} {ns : List Int}
    (KX : K.In s₁.heap) (hns : s₁.heap.Ns mainGlobals mg) (hb : s₁.heap.Ns builtinsNs mb) (hbb : ∀ x : Str, x ≠ "__name__" → mb x = bootBuiltins x) (hlim : s₁.heap.NoLimit) (hg : s₁.gens = #[])
    (ha : s₁.heap.get? a = some { cls := .type "list", data := .seq vs.toArray }) (hi : IntsAre vs ns) (hl : ns.length ≤ sizeLine) (hr : Room k callerA)
    (F : ∀ base : Heap, K.In base → base.Ns mainGlobals mg → FnOk P w K mg base CX k fa fd [x] sp) (hbind : ∀ (s : Shared) (u : Value), BindsTo s fd ⟨[u], []⟩ [(x, u)])
    (hsp : ∀ H : Hp, Only H → SqL K H a (ns.map V.int) → sp [.ref a] H (fun v _ => v = .bl true) fun _ _ _ => False)
    (hCX : ∀ H e s', CX [] H s₁ (fun _ _ _ => False) e s' → False) :
    codeAny (model P w) callerA (.call (.ref fa) ⟨[.ref a], []⟩) (fun r s' => r = .ok (.ret (.bool true)) ∧ OldK s₁.heap s'.heap ∧ s'.os = s₁.os ∧ AllBare s'.gens) s₁ := by
  have rv := vals_ints hi
  have lenV := hi.length
  -- from an abstract heap in which nothing but the script may be tracked
  have core : ∀ H : Hp, Only H → SqL K H a (ns.map V.int) → HOk P w H s₁.heap → (∀ b, H b ≠ none → b = a) → (H a ≠ none → K.lookup a = none) →
      codeAny (model P w) callerA (.call (.ref fa) ⟨[.ref a], []⟩) (fun r s' => r = .ok (.ret (.bool true)) ∧ OldK s₁.heap s'.heap ∧ s'.os = s₁.os ∧ AllBare s'.gens) s₁ := by
    intro H hO hS hok hA hK
    have base_of : ∀ {b : Addr} {o : Obj}, s₁.heap.get? b = some o → H b = none → (hidT s₁.heap H).get? b = some o := fun e n => hidT_get e n
    have noA : ∀ {b : Addr} {o : Obj} {es : Array DictEntry} {ep : Nat}, s₁.heap.get? b = some o → o.data = .dict es ep → H b = none := fun {b o es ep} e d => by
      cases q : H b with
      | none => rfl
      | some u =>
        have e' : b = a := hA b (by rw [q]; simp)
        subst e'
        rw [ha] at e; cases e
        have d' : Data.seq vs.toArray _ = Data.dict es ep := d
        cases d'
    have nsK : ∀ {b : Addr} {m : Str → Option Value}, s₁.heap.Ns b m → (hidT s₁.heap H).Ns b m := fun {b m} ⟨o, es, ep, e, d, r⟩ => ⟨o, es, ep, base_of e (noA e d), d, r⟩
    have hKb : K.In (hidT s₁.heap H) := fun b o e => base_of (KX b o e) (by
      cases q : H b with
      | none => rfl
      | some u =>
        have e' : b = a := hA b (by rw [q]; simp)
        subst e'
        rw [hK (by rw [q]; simp)] at e; cases e)
    have hM : Mod K mg (hidT s₁.heap H) := ⟨hKb, nsK hns, ⟨mb, nsK hb, hbb⟩, let ⟨mc, h1, h2⟩ := hlim; ⟨mc, nsK h1, h2⟩⟩
    have e0 : Env0 P w K mg (hidT s₁.heap H) callerA [] s₁ H := ⟨rfl, hM, fun b o e => of_hidT e, Nat.le_of_eq (hidT_size _ _), trivial, fun b hb => absurd (show b ∈ ([] : List Addr) from hb) (by simp), hok, .of_eq hg⟩
    refine codeAny_mono ((F _ hKb (nsK hns)).run callerA [] s₁ H ⟨[.ref a], []⟩ [.ref a] [.ref a] _ _ hr e0 (hbind s₁ (.ref a)) (.cons rfl .nil) (hsp H hO hS)) fun r s' h => ?_
    cases r with
    | error e => exact (hCX H e s' h).elim
    | ok fl =>
      cases fl with
      | next => exact False.elim h
      | brk => exact False.elim h
      | cont => exact False.elim h
      | ret u =>
        obtain ⟨v, H', os, bare, un, hok', r', q⟩ := h
        have q' : v = .bl true := q
        subst q'
        obtain rfl : u = Value.bool true := r'
        refine ⟨rfl, OldK.of_keep fun b o e => ?_, os, bare⟩
        cases q : H b with
        | none => exact un.keep b o e q (by intro z; exact absurd (show b ∈ ([] : List Addr) from z) (by simp)) (by simp)
        | some u =>
          rcases hO b with z | ⟨ob, xs, z⟩
          · rw [q] at z; cases z
          · have z2 := un.frzs b ob _ z
            obtain ⟨e1, _⟩ := hok b _ z
            obtain ⟨e2, _⟩ := hok' b _ z2
            rw [e] at e1; cases e1
            exact e2
  cases hk : K.lookup a with
  | some o =>
    -- the script is one of the module's own objects
    have e := KX a o hk
    rw [ha] at e
    cases e
    refine core (fun _ => none) (fun _ => .inl rfl) (.inr ⟨_, vs.toArray, _, hk, rfl, rfl, rfl, by rw [List.size_toArray, lenV]; exact hl, by simpa using rv⟩) (fun b u z => by have z' : (none : Option HO) = some u := z; cases z') (fun b z => absurd rfl z) fun z => absurd rfl z
  | none =>
    refine core (fun b => if b = a then some (.frz { cls := .type "list", data := .seq vs.toArray } (.lst (ns.map V.int))) else none) (fun b => ?_) (.inl (.inr ⟨{ cls := .type "list", data := .seq vs.toArray }, if_pos rfl⟩)) (fun b u z => ?_) (fun b z => ?_) fun _ => hk
    · by_cases hb : b = a
      · exact .inr ⟨_, _, if_pos hb⟩
      · exact .inl (if_neg hb)
    · by_cases hb : b = a
      · have z' := (if_pos hb).symm.trans z
        cases z'
        subst hb
        exact ⟨ha, by rw [List.length_map]; exact hl, vs, _, rv, ha⟩
      · have z' := (if_neg hb).symm.trans z
        cases z'
    · by_cases hb : b = a
      · exact hb
      · exact absurd (if_neg hb) z
end L2

namespace L2
open PySem PySem.Spec PyProof.Rows

abbrev KOf {K : PySem.W.Frag} {h : Heap} (_ : K.In h) : PySem.W.Frag := K

/-- the goal that k_head leaves (case hc), from the law's promise. F gives the function object fd (K's own) once, then the promise over every base -/
theorem walk_of {l : PySem.W.OpenLaw} {n k : Nat} {q : Program} {loose : List Str} {XP : (Str → Option Value) → Heap → Prop} {YP : World → Heap → Prop} {d : DefRec} {K : Params → PySem.W.Frag} {CX : World → CXT} {sp : World → Sp} {x : Str}
    (hn : l.most = some n) (hn2 : n ≤ sizeLine) (hdf : d.params.defaults = []) (hr : Room k callerA)
    (hY : ∀ (w : World) (h : Heap), YP w h → (K w.params).In h)
    (F : ∀ (w : World) (mg : Str → Option Value) (fa : Addr) (h : Heap), (K w.params).In h → h.Ns mainGlobals mg → mg d.name = some (.ref fa) →
      ∃ fd : FuncData, (∀ (s : Shared) (u : Value), BindsTo s fd ⟨[u], []⟩ [(x, u)]) ∧
        ∀ base : Heap, (K w.params).In base → base.Ns mainGlobals mg → FnOk l.prog w (K w.params) mg base (CX w) k fa fd [x] (sp w))
    (hsp : ∀ (w : World) (H : Hp) (a : Addr) (ns : List Int), ns.length ≤ n → Only H → SqL (K w.params) H a (ns.map V.int) → sp w [.ref a] H (fun v _ => v = .bl true) fun _ _ _ => False)
    (hCX : ∀ (w : World) (H : Hp) (s : Shared) (e : Value) (s' : Shared), CX w [] H s (fun _ _ _ => False) e s' → False) :
    PySem.W.WalkO q loose XP YP l.row.toRowW d [] (fun f vs => PySem.call f vs) := by
  refine Att.attach_call hn hdf fun w s₀ s₁ mg mb fa o pm cd doc a vs ns G Y ho hd hcd hmg hobj hints hlen hg => ?_
  have KX := hY w _ Y
  obtain ⟨fd, hb, hF⟩ := F w mg fa _ KX G.T.g hmg
  exact law_call KX G.T.g G.T.b G.T.builtins G.T.nolimit hg hobj hints (Nat.le_trans hlen hn2) hr hF hb (fun H hO hS => hsp w H a ns hlen hO hS) fun H e s' => hCX w H s₁ e s'
end L2

/- THE LAST THEOREM (shape; LID, My.* are yours):
   My.Adr: a structure of the addresses that your layer names (classes, functions); My.Txt K t: a structure (Prop) of the equations over K;
   My.txt_mk : {K} {implicit addresses ..} (e1 : nsIn K mainGlobals "law" = some (some (.ref f))) (e2 : K.lookup f = some ⟨oc, od, .func (fnOf "law" "law" params body scope dV kV doc pm an cdv ct), sl⟩) (e3 : codeIn K cdv "law" = true) .. : ∃ t, My.Txt K t

set_option maxRecDepth 100000 in
set_option maxHeartbeats 0 in
theorem PySem.Challenge.cw_LID_holds : PySem.Challenge.rw_LID.Holds := by
  w_on; o_law; k_head; (case hw => w_witness2)
  k_fill
  refine L2.walk_of (l := PySem.Challenge.rw_LID) (n := 63) (k := 40) (x := "script") (CX := fun w => ..) (sp := fun _ => My.sp_law) rfl (by decide) rfl ⟨rfl, by decide, by decide⟩ (fun w h Y => PySem.W.kIn_of Y) ?F ?S ?C
  case F =>
    intro w mg fa h KX G hmg
    have T : ∃ t, My.Txt (L2.KOf KX) t := by
      dsimp only [L2.KOf]                          -- K must stand as «<heap const> w.params» for k_is
      refine' My.txt_mk ?e1 ?e2 ?e3 ..
      (case e1 => PySem.W.k_is)                    -- in the order: a name -> its address -> its object -> its parts
      (case e2 => PySem.W.k_is)
      ..
    obtain ⟨t, T⟩ := T
    have e0 := hmg.symm.trans (PySem.W.mg_of KX G T.law)
    cases e0                                       -- fa is the law's own address
    exact ⟨_, fun s u => .of_eq rfl, fun base kb nb => My.law_fn T kb nb⟩     -- if «.of_eq rfl» comes too early: refine' ⟨_, ?b, fun base kb nb => My.law_fn T kb nb⟩; exact fun s u => .of_eq rfl
  case S => exact fun w H a ns hl hO hS => ..
  case C => exact ..
(the tactic k_is has no namespace: write k_is) -/

/-! SHORT WORDS over the layer: a def of the text, its body, what a loop and a test want. -/
namespace L2
open PySem PySem.Spec PyProof.Rows

/-! ### the text by places -/
def defArgs (s : Stmt) : Arguments := match s with
  | .FunctionDef _ a _ _ _ _ _ _ _ _ => a
  | _ => { posonlyargs := [], args := [], vararg := none, kwonlyargs := [], kw_defaults := [], kwarg := none, defaults := [] }
def defBody (s : Stmt) : List Stmt := match s with
  | .FunctionDef _ _ b _ _ _ _ _ _ _ => b
  | _ => []
def defScope (s : Stmt) : Scope := match s with
  | .FunctionDef _ _ _ _ _ _ sc _ _ _ => sc
  | _ => { kind := .function, names := [], isGenerator := false, isCoroutine := false }

/-! ### no exception leaves a def -/
abbrev CX0 : CXT := fun _ _ _ _ _ _ => False
abbrev E0 : XK := fun _ _ _ => False
theorem pass0 {X : Cx} : Passes CX0 X E0 := fun _ _ _ _ _ _ _ h => h.elim

/-! ### a def (or method) of the text as it stands behind the top -/
structure Fun (K : PySem.W.Frag) (x qual : Str) (st : Stmt) (f : Addr) (fd : FuncData) : Prop where
  ex : ∃ (oc : Value) (od : Option Addr) (kV doc pm : Value) (an : Option Addr) (cdv ct : Value) (osl : Array (Option Value)),
    fd = PySem.W.fnOf x qual (defArgs st) (defBody st) (defScope st) .none kV doc pm an cdv ct ∧ K.lookup f = some ⟨oc, od, .func fd, osl⟩ ∧ PySem.W.codeIn K cdv qual = true
  kp : PySem.W.keepIn K (.ref f) = true
section
variable {P : Program} {w : World} {K : PySem.W.Frag} {mg : Str → Option Value} {base : Heap}
/-- THE RULE for a def: its body as a term of rules, and the reading of that term -/
theorem Fun.ok {x qual : Str} {st : Stmt} {f : Addr} {fd : FuncData} {N ps : List Str} {k : Nat} {sp : Sp} (F : Fun K x qual st f fd) (S : FnScope N ps (defScope st)) (len : ∀ vs H Q E, sp vs H Q E → vs.length = ps.length)
    (hbody : ∀ (cdv : Value) (A : Around) (outer : List Env) (s : Shared) (H : Hp) (vs : List V) (Q : VK) (E : XK), Room k (A.deeper (envOfC qual (defScope st) s.heap.objs.size f cdv)) → sp vs H Q E →
      ∃ t, PSs (cxOf CX0 P w K mg base N qual (defScope st) f cdv A outer s H E).nox (defBody st) t ∧ t { nx := fun _ H' => Q .non H', rt := Q } (start N vs) H) : FnOk P w K mg base CX0 (k + 1) f fd ps sp := by
  obtain ⟨oc, od, kV, doc, pm, an, cdv, ct, osl, rfl, lk, hcd⟩ := F.ex
  refine fn_of lk hcd S len fun A outer s H vs Q E hr hsp => ?_
  obtain ⟨t, h, q⟩ := hbody cdv A outer s H vs Q E hr hsp
  exact ⟨t, h.nox, q⟩
/-- how its arguments bind (no defaults): h is «fun _ _ _ _ _ _ us hl => match us, hl with | [_, _], _ => rfl», one _ a parameter -/
theorem Fun.binds {x qual : Str} {st : Stmt} {f : Addr} {fd : FuncData} {ps : List Str} (F : Fun K x qual st f fd)
    (h : ∀ (kV doc pm : Value) (an : Option Addr) (cdv ct : Value) (us : List Value), us.length = ps.length → bindArgs (PySem.W.fnOf x qual (defArgs st) (defBody st) (defScope st) .none kV doc pm an cdv ct) ⟨us, []⟩ = pure (ps.zip us)) : Binds K fd ps [] := by
  obtain ⟨oc, od, kV, doc, pm, an, cdv, ct, osl, rfl, lk, hcd⟩ := F.ex
  exact .all (h kV doc pm an cdv ct)
theorem fun_mk {x qual : Str} {st : Stmt} {f : Addr} {oc : Value} {od an : Option Addr} {osl : Array (Option Value)} {kV doc pm cdv ct : Value} (l : K.lookup f = some ⟨oc, od, .func (PySem.W.fnOf x qual (defArgs st) (defBody st) (defScope st) .none kV doc pm an cdv ct), osl⟩)
    (c : PySem.W.codeIn K cdv qual = true) (k : PySem.W.keepIn K (.ref f) = true) : Fun K x qual st f (PySem.W.fnOf x qual (defArgs st) (defBody st) (defScope st) .none kV doc pm an cdv ct) := ⟨⟨oc, od, kV, doc, pm, an, cdv, ct, osl, rfl, l, c⟩, k⟩
end
theorem small1000 {n : Nat} (h : n ≤ 1000) : n < sizeLine := Nat.lt_of_le_of_lt h (by decide)

/-! ### expressions in short: the name that stands in the i-th slot -/
section
variable {X : Cx}
theorem pv (i : Nat) {x : Str} {pos : Pos} (hN : X.N[i]? = some x := by rfl) (hv : Vis X.env.scope x := by first | exact Or.inl rfl | exact Or.inr (Or.inl rfl) | exact Or.inr (Or.inr rfl)) (hd : (x == ("__debug__" : Str)) = false := by decide)
    (hcd : (x == ("__classdict__" : Str)) = false := by decide) : PE X (.Name x pos) (tVar i) := pe_var hN hv hd hcd
end

/-! ### tests -/
theorem iteF {A B : Prop} (h : B) : if false = true then A else B := by
  rw [if_neg Bool.false_ne_true]
  exact h
theorem iteT {A B : Prop} (h : A) : if true = true then A else B := by
  rw [if_pos rfl]
  exact h
theorem ite2 {c A B : Prop} [Decidable c] (h1 : c → A) (h2 : ¬ c → B) : if c then A else B := by
  by_cases h : c
  · rw [if_pos h]
    exact h1 h
  · rw [if_neg h]
    exact h2 h
theorem iteNS {c A B : Prop} [Decidable c] (hc : c) (h : B) : if (!decide c) = true then A else B := by
  rw [decide_eq_true hc]
  exact iteF h

/-! ### heaps -/
/-- all that was tracked is as it was -/
def Same (H H' : Hp) : Prop := ∀ b o, H b = some o → H' b = some o
theorem Same.refl (H : Hp) : Same H H := fun _ _ h => h
theorem Same.trans {H H1 H2 : Hp} (a : Same H H1) (b : Same H1 H2) : Same H H2 := fun c o h => b c o (a c o h)
theorem Same.free {H H' : Hp} (e : Same H H') {l : Addr} (h : H' l = Option.none) : H l = Option.none := by
  cases q : H l with
  | none => rfl
  | some o =>
    rw [e l o q] at h
    cases h
theorem Same.seq {K : PySem.W.Frag} {H H' : Hp} {a : Addr} {xs : List V} (e : Same H H') (h : SqL K H a xs) : SqL K H' a xs := by
  rcases h with (h | ⟨o, h⟩) | h
  · exact .inl (.inl (e _ _ h))
  · exact .inl (.inr ⟨o, e _ _ h⟩)
  · exact .inr h

end L2

set_option maxHeartbeats 4000000
namespace L2
open PySem PySem.Spec PyProof.Rows

/-! ### A. big numbers -/
def CDivB (_ j : Int) : Prop := 0 < j ∧ j.natAbs.log2 < 9000
def CMulB (i j : Int) : Prop := i.natAbs.log2 < 1000000 ∧ j.natAbs.log2 < 1000000
theorem bits_of_log {i : Int} (h : i.natAbs.log2 < 1000000) : Builtin.Int.intBits i ≤ 2 ^ 20 := by
  have e : (2 : Nat) ^ 20 = 1048576 := by decide
  rw [e]
  unfold Builtin.Int.intBits
  split <;> omega
section
variable {X : Cx}
theorem op_fdivB : OpR X (binaryOp .FloorDiv) (rI CDivB fun i j => .int (i / j)) := opI fun i j _ _ _ _ _ hc q => by
  have h1 : (0 : Int) < j := hc.1
  exact floordiv_int (by omega) (by rw [Int.fdiv_eq_ediv_of_nonneg i (by omega)]; exact q) (.inl (PyProof.noPylong_of_log2 hc.2))
theorem op_mulB : OpR X (binaryOp .Mult) (rI CMulB fun i j => .int (i * j)) := opI fun _ _ _ _ _ _ _ hc q => mul_int q (.of_bits (bits_of_log hc.1) (bits_of_log hc.2))
end
theorem log2_lt_of {n k : Nat} (h : n < 2 ^ k) (hk : 0 < k) : n.log2 < k := by
  rcases Nat.eq_zero_or_pos n with h0 | hp
  · rw [h0]; exact hk
  · exact (Nat.log2_lt (Nat.ne_of_gt hp)).mpr h

/-! ### B. records that turn, a new object laid, an object taken over -/
section
variable {X : Cx} {pins : List (Addr × Obj)} {σ : St} {H : Hp} {s : Shared} {h' : Heap} {ch : List Addr} {a : Addr} {o : HO}
theorem Inv.chg {t' : Nat} (I : Inv X pins σ H s) (hch : ∀ b ∈ ch, FpOk X pins H b) (k : ∀ b u, b ∉ ch → s.heap.get? b = some u → h'.get? b = some u) : Inv X pins σ H { s with heap := h', toks := t' } := by
  have nch : ∀ b u, H b = some u → b ∉ ch := fun b u e z => by rw [(hch b z).1] at e; cases e
  refine I.step (g' := s.gens) (d' := s.drawn) (ch := ch) (fun b hb => ?_) (fun b u _ _ hc e _ => k b u hc e) (fun b u _ _ hc e _ => ⟨u.slots, k b u hc e⟩) (fun _ _ _ _ n => n)
    (fun b u hc e => ⟨u, k b u hc e⟩) (fun _ _ e => e) (fun _ _ _ e => e) (fun b ps e => ⟨#[], by rw [e]; simp⟩) (fun m hm => ?_) (fun b u e => ?_) I.bare
  · obtain ⟨_, f1, _, f3, f4, f5⟩ := hch b hb
    exact ⟨f3, f1, f4, f5⟩
  · obtain ⟨u, es, ep, ho, r⟩ := hm
    exact ⟨u, es, ep, k _ u (fun z => (hch _ z).2.1 rfl) ho, r⟩
  · refine (I.hok b u e).stay (fun c v hc q => k c v ?_ q) (fun _ q => q) fun _ _ q => q
    rcases hc with z | z
    · rw [z]; exact nch b u e
    · exact nch c _ z
theorem Inv.chgLaid {t' : Nat} (I : Inv X pins σ H s) (hch : ∀ b ∈ ch, FpOk X pins H b) (k : ∀ b u, b ∉ ch → s.heap.get? b = some u → h'.get? b = some u) (hp : s.heap.objs.size ≤ a)
    (new : ObjOk X.prog X.w (upd H a o) h' a o) : Inv X pins σ (upd H a o) { s with heap := h', toks := t' } := by
  have nch : ∀ b u, H b = some u → b ∉ ch := fun b u e z => by rw [(hch b z).1] at e; cases e
  have hn : H a = none := I.hok.fresh hp
  refine I.step (g' := s.gens) (d' := s.drawn) (ch := ch) (fun b hb => ?_) (fun b u _ _ hc e _ => k b u hc e) (fun b u _ _ hc e _ => ⟨u.slots, k b u hc e⟩)
    (fun b u _ e n => by rw [upd_ne (Nat.ne_of_lt (Nat.lt_of_lt_of_le (Heap.lt_size e) hp))]; exact n)
    (fun b u hc e => ⟨u, k b u hc e⟩) (fun b xs e => by rw [upd_ne (ne_of_none e hn)]; exact e) (fun b u v e => by rw [upd_ne (ne_of_none e hn)]; exact e) (fun b ps e => ⟨#[], by rw [upd_ne (ne_of_none e hn), e]; simp⟩) (fun m hm => ?_) (fun b u e => ?_) I.bare
  · obtain ⟨_, f1, _, f3, f4, f5⟩ := hch b hb
    exact ⟨f3, f1, f4, f5⟩
  · obtain ⟨u, es, ep, ho, r⟩ := hm
    exact ⟨u, es, ep, k _ u (fun z => (hch _ z).2.1 rfl) ho, r⟩
  · by_cases hb : b = a
    · subst hb; rw [upd_same] at e; cases e; exact new
    · rw [upd_ne hb] at e
      refine (I.hok b u e).stay (fun c v hc q => k c v ?_ q) (fun c q => by rw [upd_ne (ne_of_none q hn)]; exact q) fun c xs q => by rw [upd_ne (ne_of_none q hn)]; exact q
      rcases hc with z | z
      · rw [z]; exact nch b u e
      · exact nch c _ z
/-- an object that is there untracked is tracked from now on -/
theorem Inv.track (I : Inv X pins σ H s) (f : FpOk X pins H a) (new : ObjOk X.prog X.w (upd H a o) s.heap a o) : Inv X pins σ (upd H a o) s := by
  obtain ⟨hn, f1, _, f3, f4, f5⟩ := f
  have z : Inv X pins σ (upd H a o) { s with heap := s.heap, gens := s.gens, drawn := s.drawn, toks := s.toks } := by
    refine I.step (g' := s.gens) (d' := s.drawn) (ch := [a]) (fun b hb => ?_) (fun b u _ _ _ e _ => e) (fun b u _ _ _ e _ => ⟨u.slots, e⟩)
      (fun b u hc e n => by rw [upd_ne (fun z => hc (by simp [z]))]; exact n)
      (fun b u _ e => ⟨u, e⟩) (fun b xs e => by rw [upd_ne (ne_of_none e hn)]; exact e) (fun b u v e => by rw [upd_ne (ne_of_none e hn)]; exact e) (fun b ps e => ⟨#[], by rw [upd_ne (ne_of_none e hn), e]; simp⟩) (fun m hm => hm) (fun b u e => ?_) I.bare
    · have e : b = a := by simpa using hb
      subst e
      exact ⟨f3, f1, f4, f5⟩
    · by_cases hb : b = a
      · subst hb; rw [upd_same] at e; cases e; exact new
      · rw [upd_ne hb] at e
        exact (I.hok b u e).stay (fun c v hc q => q) (fun c q => by rw [upd_ne (ne_of_none q hn)]; exact q) fun c xs q => by rw [upd_ne (ne_of_none q hn)]; exact q
  exact z
end
end L2

namespace L2
open PySem PySem.Spec PyProof.Rows
section
variable {prog : Program} {w : World} {A : Around} {E : Value → Shared → Prop} {s : Shared}
theorem nextOf_tuple_item {it l : Addr} {i : Nat} {items} {x : Value} {Q : Value → Shared → Prop} (hit : s.heap.IsTupleIter it l i)
    (hl : s.heap.IsTuple l items) (hx : items[i]? = some x)
    (hQ : ∀ h', h'.IsTupleIter it l (i + 1) → Heap.SameBut it s.heap h' → Q x { s with heap := h' }) :
    wpAny (model prog w) A (Builtin.SmallTypes.nextOf (.ref it)) Q E s := by
  obtain ⟨o, ho, hc, hd⟩ := id hit
  obtain ⟨ol, hol, _, nl, hdl⟩ := hl
  unfold Builtin.SmallTypes.nextOf
  refine wpAny_bind (wpAny_callSpecial?_slot (name := Str.ofString "__next__") hit.typeIs F.slot_tuple_iterator_next
    (wpAny_call_entry F.slot_tuple_iterator_next hit.typeIs F.entry_tuple_iterator_next ?_ (F.args_tuple_iterator_next_1 _)))
  show wpAny _ _ (field (.ref it) 0 >>= _) _ _ s
  refine wpAny_bind (wpAny_field ho hd (x := .ref l) rfl ?_)
  show wpAny _ _ (if (Value.ref l == Value.none) = true then _ else _) _ _ s
  rw [if_neg (show ¬ ((Value.ref l == Value.none) = true) from Bool.false_ne_true)]
  show wpAny _ _ (field (.ref it) 1 >>= _) _ _ s
  refine wpAny_bind (wpAny_field ho hd (x := .int i 0) rfl ?_)
  show wpAny _ _ (seqItems? (.ref l) >>= _) _ _ s
  refine wpAny_bind (wpAny_seqItems hol hdl ?_)
  simp only [Int.toNat_natCast, hx]
  refine wpAny_bind (wpAny_setField ho hd (by simp) (wpAny_pure ⟨x, rfl, wpAny_pure (hQ _ ?_ (Heap.SameBut.update ..))⟩))
  exact ⟨_, Heap.get?_update_self _ ho (Obj.isFreed_of_fields (Obj.data_mapFields hd _)), (Obj.cls_mapFields ..).trans hc, by
    rw [Obj.data_mapFields hd]; simp [rawInt]⟩
theorem nextOf_tuple_end {it l : Addr} {i : Nat} {items} {Q : Value → Shared → Prop} (hh : A.handled = none)
    (hit : s.heap.IsTupleIter it l i) (hl : s.heap.IsTuple l items) (hx : items[i]? = none)
    (hE : ∀ h' e, Heap.ExtBut it s.heap h' → (∃ o, h'.get? e = some o ∧ o.cls = .type "StopIteration") → E (.ref e) { s with heap := h' }) :
    wpAny (model prog w) A (Builtin.SmallTypes.nextOf (.ref it)) Q E s := by
  obtain ⟨o, ho, hc, hd⟩ := id hit
  obtain ⟨ol, hol, _, nl, hdl⟩ := hl
  unfold Builtin.SmallTypes.nextOf
  refine wpAny_bind (wpAny_callSpecial?_slot (name := Str.ofString "__next__") hit.typeIs F.slot_tuple_iterator_next
    (wpAny_call_entry F.slot_tuple_iterator_next hit.typeIs F.entry_tuple_iterator_next ?_ (F.args_tuple_iterator_next_1 _)))
  show wpAny _ _ (field (.ref it) 0 >>= _) _ _ s
  refine wpAny_bind (wpAny_field ho hd (x := .ref l) rfl ?_)
  show wpAny _ _ (if (Value.ref l == Value.none) = true then _ else _) _ _ s
  rw [if_neg (show ¬ ((Value.ref l == Value.none) = true) from Bool.false_ne_true)]
  show wpAny _ _ (field (.ref it) 1 >>= _) _ _ s
  refine wpAny_bind (wpAny_field ho hd (x := .int i 0) rfl ?_)
  show wpAny _ _ (seqItems? (.ref l) >>= _) _ _ s
  refine wpAny_bind (wpAny_seqItems hol hdl ?_)
  simp only [Int.toNat_natCast, hx]
  refine wpAny_bind (wpAny_rule (wpAny_bind (wpAny_setField ho hd (by simp) ?_)))
  show wpAny _ _ (newExc (.type "StopIteration") [] >>= _) _ _ _
  refine wpAny_bind ?_
  simp only [newExc, newTuple]
  refine wpAny_bind (wpAny_newObj_type ?_ (by size_fits))
  refine wpAny_bind (m := firstArgMember _ _) (wpAny_of_eq (a := Value.none) (by first | rfl | (simp only [firstArgMember]; rfl)) ?_)
  refine wpAny_newObj_type ?_ (by size_fits)
  simp only [raiseNew]
  refine wpAny_bind (wpAny_handled ?_)
  first | rw [show A.in1.handled = none from hh] | rw [hh]
  refine wpAny_bind (wpAny_pure (wpAny_throw ?_))
  exact hE _ _ (((Heap.SameBut.update ..).extBut.push _).push _) ⟨_, Heap.get?_push_size _ rfl, rfl⟩
end

/-- one source of a zip: the iterator at it over the sequence at l -/
structure Src (it l : Addr) (IT : Nat → Heap → Prop) (SL : Array Value → Heap → Prop) : Prop where
  obj : ∀ i h, IT i h → ∃ o, h.get? it = some o ∧ ∀ v, o.data ≠ .cell v
  fr : ∀ i (h h' : Heap), IT i h → (∀ o, h.get? it = some o → h'.get? it = some o) → IT i h'
  frS : ∀ xs (h h' : Heap), SL xs h → (∀ o, h.get? l = some o → h'.get? l = some o) → SL xs h'
  item : ∀ (prog : Program) (w : World) (A : Around) (i : Nat) (s : Shared) (xs : Array Value) (x : Value) (Q : Value → Shared → Prop) (E : Value → Shared → Prop), IT i s.heap → SL xs s.heap → xs[i]? = some x →
    (∀ h', IT (i + 1) h' → Heap.SameBut it s.heap h' → Q x { s with heap := h' }) → wpAny (model prog w) A (Builtin.SmallTypes.nextOf (.ref it)) Q E s
  done : ∀ (prog : Program) (w : World) (A : Around) (i : Nat) (s : Shared) (xs : Array Value) (Q : Value → Shared → Prop) (E : Value → Shared → Prop), A.handled = none → IT i s.heap → SL xs s.heap → xs[i]? = none →
    (∀ h' e, Heap.ExtBut it s.heap h' → (∃ o, h'.get? e = some o ∧ o.cls = .type "StopIteration") → E (.ref e) { s with heap := h' }) → wpAny (model prog w) A (Builtin.SmallTypes.nextOf (.ref it)) Q E s
theorem Src.list (it l : Addr) : Src it l (fun i h => h.IsListIter it l i) (fun xs h => h.IsList l xs) where
  obj := fun i h st => by
    obtain ⟨o, e, c, d⟩ := st
    exact ⟨o, e, fun v z => by rw [d] at z; cases z⟩
  fr := fun i h h' st k => st.at fun o e => k o e
  frS := fun xs h h' st k => st.at fun o e => k o e
  item := fun prog w A i s xs x Q E st hl hx hQ => wpAny_nextOf_list_item st hl hx hQ
  done := fun prog w A i s xs Q E hh st hl hx hE => wpAny_nextOf_list_end hh st hl hx hE
theorem Src.tuple (it l : Addr) : Src it l (fun i h => h.IsTupleIter it l i) (fun xs h => h.IsTuple l xs) where
  obj := fun i h st => by
    obtain ⟨o, e, c, d⟩ := st
    exact ⟨o, e, fun v z => by rw [d] at z; cases z⟩
  fr := fun i h h' ⟨o, e, r⟩ k => ⟨o, k o e, r⟩
  frS := fun xs h h' ⟨o, e, r⟩ k => ⟨o, k o e, r⟩
  item := fun prog w A i s xs x Q E st hl hx hQ => nextOf_tuple_item st hl hx hQ
  done := fun prog w A i s xs Q E hh st hl hx hE => nextOf_tuple_end hh st hl hx hE

section
variable {prog : Program} {w : World} {A : Around} {E : Value → Shared → Prop} {s : Shared} {z TI TO i1 i2 l1 l2 : Addr} {IT1 IT2 : Nat → Heap → Prop} {SL1 SL2 : Array Value → Heap → Prop} {k : Nat} {xs ys : Array Value} {x y a b : Value}

theorem Src.bt {it l c : Addr} {IT : Nat → Heap → Prop} {SL : Array Value → Heap → Prop} (S : Src it l IT SL) {i : Nat} {h h' : Heap} (st : IT i h) (hs : Heap.SameBut c h h') (n : it ≠ c) : IT i h' := S.fr i h h' st fun o e => hs.extBut _ _ n e
theorem Src.bs {it l c : Addr} {IT : Nat → Heap → Prop} {SL : Array Value → Heap → Prop} (S : Src it l IT SL) {xs : Array Value} {h h' : Heap} (st : SL xs h) (hs : Heap.SameBut c h h') (n : l ≠ c) : SL xs h' := S.frS xs h h' st fun o e => hs.extBut _ _ n e

theorem zipS_item {Q : Value → Shared → Prop} (D : ZipApart z TI TO i1 i2 l1 l2) (S1 : Src i1 l1 IT1 SL1) (S2 : Src i2 l2 IT2 SL2)
    (hz : IsZip s.heap z TI TO .none) (hTI : IsPair s.heap TI (.ref i1) (.ref i2)) (hTO : IsPair s.heap TO a b)
    (h1 : IT1 k s.heap) (h2 : IT2 k s.heap) (hl1 : SL1 xs s.heap) (hl2 : SL2 ys s.heap) (hx : xs[k]? = some x) (hy : ys[k]? = some y)
    (hQ : ∀ h', IsZip h' z TI TO (rawInt s.heap.objs.size) → IsPair h' TO x y → IT1 (k + 1) h' → IT2 (k + 1) h' → IsPair h' s.heap.objs.size x y → h'.objs.size = s.heap.objs.size + 1 →
      (∀ c o, c ≠ z → c ≠ TO → c ≠ i1 → c ≠ i2 → s.heap.get? c = some o → h'.get? c = some o) → Q (.ref s.heap.objs.size) { s with heap := h' }) :
    wpAny (model prog w) A (Builtin.«zip.__next__» ⟨[.ref z], []⟩) (fun fin s' => ∃ v, fin = .done (.ret v) ∧ Q v s') E s := by
  show wpAny _ _ (field (.ref z) 2 >>= _) _ _ _
  refine wpAny_bind (wpAny_field hz rfl (x := .bool false) rfl ?_)
  show wpAny _ _ (field (.ref z) 3 >>= _) _ _ _
  refine wpAny_bind (wpAny_field hz rfl (x := .ref TI) rfl ?_)
  refine wpAny_bind (wpAny_seqItems hTI rfl ?_)
  show wpAny _ _ (Builtin.SmallTypes.ownedTupleIsFree (.ref z) >>= _) _ _ _
  refine wpAny_bind ?_
  unfold Builtin.SmallTypes.ownedTupleIsFree
  refine wpAny_bind (wpAny_field hz rfl (x := .none) rfl (wpAny_pure ?_))
  simp only [if_true]
  refine wpAny_bind (wpAny_rule ?_)
  refine wpAny_bind (wpAny_field hz rfl (x := .ref TO) rfl ?_)
  refine wpAny_bind (wpAny_setField_rec hz (by simp) fun h₁ hz₁ hs₁ => ?_)
  replace hz₁ : IsZip h₁ z TI TO .ellipsis := hz₁
  refine wpAny_bind ?_
  simp only [List.zipIdx_cons, List.zipIdx_nil, List.forIn_cons, List.forIn_nil]
  refine wpAny_bind (wpAny_bind (wpAny_onRaise ?_))
  show wpAny _ _ (Builtin.SmallTypes.nextOf (.ref i1) >>= _) _ _ _
  refine wpAny_bind (S1.item _ _ _ k _ xs x _ _ (S1.bt h1 hs₁ D.i1z) (S1.bs hl1 hs₁ D.l1z) hx fun h₂ h1₂ hs₂ => wpAny_pure ?_)
  have hTO₂ : IsPair h₂ TO a b := hs₂.extBut _ _ D.TOi1 (hs₁.extBut _ _ D.TOz hTO)
  refine wpAny_bind (wpAny_seqItems hTO₂ rfl ?_)
  refine wpAny_bind (wpAny_updateSeq_pair hTO₂ fun h₃ hTO₃ hs₃ => ?_)
  replace hTO₃ : IsPair h₃ TO x b := hTO₃
  refine wpAny_bind (wpAny_letGo (wpAny_pure ?_))
  refine wpAny_bind (wpAny_bind (wpAny_onRaise ?_))
  show wpAny _ _ (Builtin.SmallTypes.nextOf (.ref i2) >>= _) _ _ _
  refine wpAny_bind (S2.item _ _ _ k _ ys y _ _ (S2.bt (S2.bt (S2.bt h2 hs₁ D.i2z) hs₂ D.i12.symm) hs₃ D.TOi2.symm)
    (S2.bs (S2.bs (S2.bs hl2 hs₁ D.l2z) hs₂ D.l2i1) hs₃ D.l2TO) hy fun h₄ h2₄ hs₄ => wpAny_pure ?_)
  have hTO₄ : IsPair h₄ TO x b := hs₄.extBut _ _ D.TOi2 hTO₃
  refine wpAny_bind (wpAny_seqItems hTO₄ rfl ?_)
  refine wpAny_bind (wpAny_updateSeq_pair hTO₄ fun h₅ hTO₅ hs₅ => ?_)
  replace hTO₅ : IsPair h₅ TO x y := hTO₅
  refine wpAny_bind (wpAny_letGo (wpAny_pure (wpAny_pure ?_)))
  refine wpAny_bind (wpAny_seqItems hTO₅ rfl ?_)
  refine wpAny_bind (wpAny_newTuple ?_)
  have hsz : h₅.objs.size = s.heap.objs.size := by rw [hs₅.1, hs₄.1, hs₃.1, hs₂.1, hs₁.1]
  have hz₅ : IsZip h₅ z TI TO .ellipsis := hs₅.extBut _ _ D.TOz.symm (hs₄.extBut _ _ D.i2z.symm (hs₃.extBut _ _ D.TOz.symm (hs₂.extBut _ _ D.i1z.symm hz₁)))
  have hk₅ : ∀ c o, c ≠ z → c ≠ TO → c ≠ i1 → c ≠ i2 → s.heap.get? c = some o → h₅.get? c = some o := fun c o c1 c2 c3 c4 e =>
    hs₅.extBut _ _ c2 (hs₄.extBut _ _ c4 (hs₃.extBut _ _ c2 (hs₂.extBut _ _ c3 (hs₁.extBut _ _ c1 e))))
  have h1₅ : IT1 (k + 1) h₅ := S1.bt (S1.bt (S1.bt h1₂ hs₃ D.TOi1.symm) hs₄ D.i12) hs₅ D.TOi1.symm
  have h2₅ : IT2 (k + 1) h₅ := S2.bt h2₄ hs₅ D.TOi2.symm
  have hzlt : z < h₅.objs.size := Heap.lt_size hz₅
  have hTOlt : TO < h₅.objs.size := Heap.lt_size hTO₅
  show wpAny _ _ (Builtin.SmallTypes.ownedTupleHandOut (.ref z) (.ref h₅.objs.size) >>= _) _ _ _
  refine wpAny_bind ?_
  unfold Builtin.SmallTypes.ownedTupleHandOut
  have hz₆ : IsZip (h₅.push { cls := .type "tuple", data := .seq #[x, y] }) z TI TO .ellipsis := Heap.get?_push_of_some _ hz₅
  refine wpAny_bind (wpAny_setField_rec hz₆ (by simp) fun h₇ hz₇ hs₇ => ?_)
  replace hz₇ : IsZip h₇ z TI TO (rawInt h₅.objs.size) := hz₇
  refine wpAny_setField_rec hz₇ (by simp) fun h₈ hz₈ hs₈ => ?_
  replace hz₈ : IsZip h₈ z TI TO (rawInt h₅.objs.size) := hz₈
  have up : ∀ c o, c ≠ z → h₅.get? c = some o → h₈.get? c = some o := fun c o c1 e => hs₈.extBut _ _ c1 (hs₇.extBut _ _ c1 (Heap.get?_push_of_some _ e))
  have hT₈ : IsPair h₈ h₅.objs.size x y := hs₈.extBut _ _ (Nat.ne_of_gt hzlt) (hs₇.extBut _ _ (Nat.ne_of_gt hzlt) (Heap.get?_push_size _ rfl))
  have hz8 : h₈.objs.size = h₅.objs.size + 1 := by rw [hs₈.1, hs₇.1, Heap.size_push]
  rw [hsz] at hz₈ hT₈ hz8
  refine wpAny_pure ⟨_, rfl, ?_⟩
  show Q (.ref h₅.objs.size) _
  rw [hsz]
  exact hQ h₈ hz₈ (up _ _ D.TOz hTO₅) (S1.fr _ _ _ h1₅ fun o e => up _ o D.i1z e) (S2.fr _ _ _ h2₅ fun o e => up _ o D.i2z e) hT₈ hz8 fun c o c1 c2 c3 c4 e => up c o c1 (hk₅ c o c1 c2 c3 c4 e)

theorem zipS_end {Q : Fin → Shared → Prop} (hh : A.handled = none) (D : ZipApart z TI TO i1 i2 l1 l2) (S1 : Src i1 l1 IT1 SL1) (S2 : Src i2 l2 IT2 SL2)
    (hz : IsZip s.heap z TI TO .none) (hTI : IsPair s.heap TI (.ref i1) (.ref i2)) (hTO : IsPair s.heap TO a b)
    (h1 : IT1 k s.heap) (h2 : IT2 k s.heap) (hl1 : SL1 xs s.heap) (hl2 : SL2 ys s.heap) (hend : xs[k]? = none ∨ ys[k]? = none)
    (hE : ∀ h' e, (∀ c o, c ≠ z → c ≠ TO → c ≠ i1 → c ≠ i2 → s.heap.get? c = some o → h'.get? c = some o) → (∃ o, h'.get? e = some o ∧ o.cls = .type "StopIteration") → E (.ref e) { s with heap := h' }) :
    wpAny (model prog w) A (Builtin.«zip.__next__» ⟨[.ref z], []⟩) Q E s := by
  show wpAny _ _ (field (.ref z) 2 >>= _) _ _ _
  refine wpAny_bind (wpAny_field hz rfl (x := .bool false) rfl ?_)
  show wpAny _ _ (field (.ref z) 3 >>= _) _ _ _
  refine wpAny_bind (wpAny_field hz rfl (x := .ref TI) rfl ?_)
  refine wpAny_bind (wpAny_seqItems hTI rfl ?_)
  show wpAny _ _ (Builtin.SmallTypes.ownedTupleIsFree (.ref z) >>= _) _ _ _
  refine wpAny_bind ?_
  unfold Builtin.SmallTypes.ownedTupleIsFree
  refine wpAny_bind (wpAny_field hz rfl (x := .none) rfl (wpAny_pure ?_))
  simp only [if_true]
  refine wpAny_bind (wpAny_rule ?_)
  refine wpAny_bind (wpAny_field hz rfl (x := .ref TO) rfl ?_)
  refine wpAny_bind (wpAny_setField_rec hz (by simp) fun h₁ hz₁ hs₁ => ?_)
  replace hz₁ : IsZip h₁ z TI TO .ellipsis := hz₁
  refine wpAny_bind ?_
  simp only [List.zipIdx_cons, List.zipIdx_nil, List.forIn_cons, List.forIn_nil]
  refine wpAny_bind (wpAny_bind (wpAny_onRaise ?_))
  show wpAny _ _ (Builtin.SmallTypes.nextOf (.ref i1) >>= _) _ _ _
  cases hx : xs[k]? with
  | none =>
    refine wpAny_bind (S1.done _ _ _ k _ xs _ _ hh (S1.bt h1 hs₁ D.i1z) (S1.bs hl1 hs₁ D.l1z) hx fun h₂ e hs₂ he => ?_)
    obtain ⟨oe, hoe, hce⟩ := he
    have hz₂ : IsZip h₂ z TI TO .ellipsis := hs₂ _ _ D.i1z.symm hz₁
    have hez : e ≠ z := fun x => by subst x; rw [hz₂] at hoe; cases hoe; simp at hce
    refine wpAny_setField_rec hz₂ (by simp) fun h₃ _ hs₃ => hE h₃ e (fun c o c1 _ c3 _ x => hs₃.extBut _ _ c1 (hs₂ _ _ c3 (hs₁.extBut _ _ c1 x))) ⟨oe, hs₃.extBut _ _ hez hoe, hce⟩
  | some x =>
    have hy : ys[k]? = none := by rcases hend with h | h; rw [hx] at h; cases h; exact h
    refine wpAny_bind (S1.item _ _ _ k _ xs x _ _ (S1.bt h1 hs₁ D.i1z) (S1.bs hl1 hs₁ D.l1z) hx fun h₂ h1₂ hs₂ => wpAny_pure ?_)
    have hTO₂ : IsPair h₂ TO a b := hs₂.extBut _ _ D.TOi1 (hs₁.extBut _ _ D.TOz hTO)
    refine wpAny_bind (wpAny_seqItems hTO₂ rfl ?_)
    refine wpAny_bind (wpAny_updateSeq_pair hTO₂ fun h₃ hTO₃ hs₃ => ?_)
    refine wpAny_bind (wpAny_letGo (wpAny_pure ?_))
    refine wpAny_bind (wpAny_bind (wpAny_onRaise ?_))
    show wpAny _ _ (Builtin.SmallTypes.nextOf (.ref i2) >>= _) _ _ _
    refine wpAny_bind (S2.done _ _ _ k _ ys _ _ hh (S2.bt (S2.bt (S2.bt h2 hs₁ D.i2z) hs₂ D.i12.symm) hs₃ D.TOi2.symm)
      (S2.bs (S2.bs (S2.bs hl2 hs₁ D.l2z) hs₂ D.l2i1) hs₃ D.l2TO) hy fun h₄ e hs₄ he => ?_)
    obtain ⟨oe, hoe, hce⟩ := he
    have hz₄ : IsZip h₄ z TI TO .ellipsis := hs₄ _ _ D.i2z.symm (hs₃.extBut _ _ D.TOz.symm (hs₂.extBut _ _ D.i1z.symm hz₁))
    have hez : e ≠ z := fun x => by subst x; rw [hz₄] at hoe; cases hoe; simp at hce
    refine wpAny_setField_rec hz₄ (by simp) fun h₅ _ hs₅ => hE h₅ e (fun c o c1 c2 c3 c4 x => hs₅.extBut _ _ c1 (hs₄ _ _ c4 (hs₃.extBut _ _ c2 (hs₂.extBut _ _ c3 (hs₁.extBut _ _ c1 x))))) ⟨oe, hs₅.extBut _ _ hez hoe, hce⟩

theorem pyNext_zipS_item {Q : Option Value → Shared → Prop} (D : ZipApart z TI TO i1 i2 l1 l2) (S1 : Src i1 l1 IT1 SL1) (S2 : Src i2 l2 IT2 SL2)
    (hz : IsZip s.heap z TI TO .none) (hTI : IsPair s.heap TI (.ref i1) (.ref i2)) (hTO : IsPair s.heap TO a b)
    (h1 : IT1 k s.heap) (h2 : IT2 k s.heap) (hl1 : SL1 xs s.heap) (hl2 : SL2 ys s.heap) (hx : xs[k]? = some x) (hy : ys[k]? = some y)
    (hQ : ∀ h', IsZip h' z TI TO (rawInt s.heap.objs.size) → IsPair h' TO x y → IT1 (k + 1) h' → IT2 (k + 1) h' → IsPair h' s.heap.objs.size x y → h'.objs.size = s.heap.objs.size + 1 →
      (∀ c o, c ≠ z → c ≠ TO → c ≠ i1 → c ≠ i2 → s.heap.get? c = some o → h'.get? c = some o) → Q (some (.ref s.heap.objs.size)) { s with heap := h' }) :
    wpAny (model prog w) A (pyNext (.ref z)) Q E s := by
  have hT : s.TypeIs (.ref z) "zip" := ⟨_, hz, rfl⟩
  unfold pyNext
  exact wpAny_bind (wpAny_attempt (wpAny_callSpecial?_slot (name := Str.ofString "__next__") hT F.slot_zip_next
    (wpAny_call_entry F.slot_zip_next hT F.entry_zip_next
      (zipS_item D S1 S2 hz hTI hTO h1 h2 hl1 hl2 hx hy fun h' a1 a2 a3 a4 a5 a6 a7 => wpAny_pure (hQ h' a1 a2 a3 a4 a5 a6 a7)) (F.args_zip_next_1 _))))
theorem pyNext_zipS_end {Q : Option Value → Shared → Prop} (hh : A.handled = none) (D : ZipApart z TI TO i1 i2 l1 l2) (S1 : Src i1 l1 IT1 SL1) (S2 : Src i2 l2 IT2 SL2)
    (hz : IsZip s.heap z TI TO .none) (hTI : IsPair s.heap TI (.ref i1) (.ref i2)) (hTO : IsPair s.heap TO a b)
    (h1 : IT1 k s.heap) (h2 : IT2 k s.heap) (hl1 : SL1 xs s.heap) (hl2 : SL2 ys s.heap) (hend : xs[k]? = none ∨ ys[k]? = none)
    (hQ : ∀ h', (∀ c o, c ≠ z → c ≠ TO → c ≠ i1 → c ≠ i2 → s.heap.get? c = some o → h'.get? c = some o) → Q none { s with heap := h' }) : wpAny (model prog w) A (pyNext (.ref z)) Q E s := by
  have hT : s.TypeIs (.ref z) "zip" := ⟨_, hz, rfl⟩
  unfold pyNext
  refine wpAny_bind (wpAny_attempt (wpAny_callSpecial?_slot (name := Str.ofString "__next__") hT F.slot_zip_next
    (wpAny_call_entry F.slot_zip_next hT F.entry_zip_next (zipS_end hh D S1 S2 hz hTI hTO h1 h2 hl1 hl2 hend fun h' e hk he => ?_) (F.args_zip_next_1 _))))
  obtain ⟨o, ho, hc⟩ := he
  refine wpAny_bind (wpAny_isInstance (T := "StopIteration") (b := true) ⟨o, ho, hc⟩ isSubtype_stop ?_)
  exact wpAny_pure (hQ _ hk)
end

/-! ### zip over two lists, or two tuples -/
def Itz (S1 S2 : Hp → List V → Prop) : It :=
  ⟨fun i H => ∃ xs ys u v, S1 H xs ∧ S2 H ys ∧ xs[i]? = some u ∧ ys[i]? = some v,
   fun i H x H' => ∃ T u v, x = .ref T ∧ H T = none ∧ H' = upd H T (.tup [u, v]) ∧ ∀ xs ys, S1 H xs → S2 H ys → xs[i]? = some u ∧ ys[i]? = some v,
   fun i H => ∃ xs ys, S1 H xs ∧ S2 H ys ∧ (xs.length ≤ i ∨ ys.length ≤ i)⟩
/-- what the source is, by the abstract heap -/
structure SrcV (K : PySem.W.Frag) (SL : Array Value → Heap → Prop) (SV : Hp → List V → Prop) : Prop where
  val : ∀ (X : Cx), X.K = K → ∀ (pins : List (Addr × Obj)) (σ : St) (H : Hp) (s : Shared) (xs : List V), Inv X pins σ H s → SV H xs → ∃ its : List Value, Vals xs its ∧ SL its.toArray s.heap
  inj : ∀ (X : Cx), X.K = K → ∀ (pins : List (Addr × Obj)) (σ : St) (H : Hp) (s : Shared) (xs ys : List V), Inv X pins σ H s → SV H xs → SV H ys → xs = ys
theorem SrcV.list (K : PySem.W.Frag) (l : Addr) : SrcV K (fun xs h => h.IsList l xs) (fun H xs => SqL K H l xs) where
  val := fun X hK pins σ H s xs I h => by
    subst hK
    obtain ⟨its, rv, p, _⟩ := I.list h
    exact ⟨its, rv, p.isList⟩
  inj := fun X hK pins σ H s xs ys I h h' => by
    subst hK
    exact I.list_inj h h'
theorem SrcV.tuple (K : PySem.W.Frag) (l : Addr) : SrcV K (fun xs h => h.IsTuple l xs) (fun H xs => SqT K H l xs) where
  val := fun X hK pins σ H s xs I h => by
    subst hK
    obtain ⟨its, rv, p, _⟩ := I.tuple h
    exact ⟨its, rv, p⟩
  inj := fun X hK pins σ H s xs ys I h h' => by
    subst hK
    exact I.tuple_inj h h'
theorem turn_zip {P : Program} {w : World} {K : PySem.W.Frag} {es : List Expr} {kk : Nat} {pos : Pos} {z TI TO i1 i2 l1 l2 : Addr} {IT1 IT2 : Nat → Heap → Prop} {SL1 SL2 : Array Value → Heap → Prop} {SV1 SV2 : Hp → List V → Prop}
    (D : ZipApart z TI TO i1 i2 l1 l2) (S1 : Src i1 l1 IT1 SL1) (S2 : Src i2 l2 IT2 SL2) (V1 : SrcV K SL1 SV1) (V2 : SrcV K SL2 SV2) :
    Turn P w K (.Tuple es kk pos) (Itz SV1 SV2) [z, TI, TO, i1, i2] z (fun i h => IsZip h z TI TO .none ∧ IsPair h TI (.ref i1) (.ref i2) ∧ (∃ a b, IsPair h TO a b) ∧ IT1 i h ∧ IT2 i h) where
  mem := by simp
  obj := fun i h st b hb => by
    obtain ⟨hz, hTI, ⟨a, c, hTO⟩, h1, h2⟩ := st
    simp only [List.mem_cons, List.not_mem_nil, or_false] at hb
    rcases hb with rfl | rfl | rfl | rfl | rfl
    · exact ⟨_, hz, fun v e => by cases e⟩
    · exact ⟨_, hTI, fun v e => by cases e⟩
    · exact ⟨_, hTO, fun v e => by cases e⟩
    · exact S1.obj _ _ h1
    · exact S2.obj _ _ h2
  keep := fun i h h' st k => by
    obtain ⟨hz, hTI, ⟨a, c, hTO⟩, h1, h2⟩ := st
    exact ⟨k z (by simp) _ hz, k TI (by simp) _ hTI, ⟨a, c, k TO (by simp) _ hTO⟩, S1.fr _ _ _ h1 fun o e => k i1 (by simp) o e, S2.fr _ _ _ h2 fun o e => k i2 (by simp) o e⟩
  item := by
    intro X hP hw hK hc i pins s σ H E I hf st hg
    obtain ⟨xs, ys, u, v, q1, q2, e1, e2⟩ := hg
    obtain ⟨its, rv, p1⟩ := V1.val X hK pins σ H s xs I q1
    obtain ⟨jts, rw', p2⟩ := V2.val X hK pins σ H s ys I q2
    obtain ⟨a1, b1, r1⟩ := rv.get e1
    obtain ⟨a2, b2, r2⟩ := rw'.get e2
    obtain ⟨hz, hTI, ⟨a, c, hTO⟩, h1, h2⟩ := id st
    subst hP hw
    refine pyNext_zipS_item D S1 S2 hz hTI hTO h1 h2 p1 p2 (x := a1) (y := a2) (by simpa using b1) (by simpa using b2) fun h' g1 g2 g3 g4 g5 g6 g7 => ?_
    refine ⟨_, rfl, wpAny_letOwnedTupleGo_zip g1 fun h'' g1' hs' => ?_⟩
    have ne : ∀ {b : Addr} {o : Obj}, s.heap.get? b = some o → s.heap.objs.size ≠ b := fun e => Nat.ne_of_gt (Heap.lt_size e)
    have kk : ∀ b o, b ∉ [z, TO, i1, i2] → s.heap.get? b = some o → h''.get? b = some o := fun b o hb e => by
      simp only [List.mem_cons, List.not_mem_nil, or_false, not_or] at hb
      exact hs'.extBut _ _ hb.1 (g7 b o hb.1 hb.2.1 hb.2.2.1 hb.2.2.2 e)
    have hT : h''.get? s.heap.objs.size = some { cls := .type "tuple", data := .seq #[a1, a2] } := hs'.extBut _ _ (ne hz) g5
    have hch : ∀ b ∈ [z, TO, i1, i2], FpOk X pins H b := fun b hb => hf b (by
      simp only [List.mem_cons, List.not_mem_nil, or_false] at hb ⊢
      rcases hb with rfl | rfl | rfl | rfl <;> simp)
    have new : ObjOk X.prog X.w (upd H s.heap.objs.size (.tup [u, v])) h'' s.heap.objs.size (.tup [u, v]) :=
      ⟨by show 2 ≤ sizeLine; decide, [a1, a2], .cons r1 (.cons r2 .nil), _, hT, rfl, _, rfl⟩
    have I1 : Inv X pins σ (upd H s.heap.objs.size (.tup [u, v])) { s with heap := h'', toks := s.toks } := I.chgLaid hch kk (Nat.le_refl _) new
    have hn : H s.heap.objs.size = none := I.hok.fresh (Nat.le_refl _)
    refine ⟨.ref s.heap.objs.size, _, I1, rfl, ⟨_, u, v, rfl, hn, rfl, fun xs' ys' w1 w2 => ?_⟩, ⟨g1', ?_, ⟨a1, a2, hs'.extBut _ _ D.TOz g2⟩, S1.bt g3 hs' D.i1z, S2.bt g4 hs' D.i2z⟩, fun b hb => ?_⟩
    · rw [V1.inj X hK pins σ H s xs' xs I w1 q1, V2.inj X hK pins σ H s ys' ys I w2 q2]
      exact ⟨e1, e2⟩
    · exact kk TI _ (by simp only [List.mem_cons, List.not_mem_nil, or_false, not_or]; exact ⟨D.TIz, D.TITO, D.TIi1, D.TIi2⟩) hTI
    · obtain ⟨o, ho, _⟩ := (show ∃ o, s.heap.get? b = some o ∧ ∀ v, o.data ≠ .cell v from by
        simp only [List.mem_cons, List.not_mem_nil, or_false] at hb
        rcases hb with rfl | rfl | rfl | rfl | rfl
        · exact ⟨_, hz, fun v e => by cases e⟩
        · exact ⟨_, hTI, fun v e => by cases e⟩
        · exact ⟨_, hTO, fun v e => by cases e⟩
        · exact S1.obj _ _ h1
        · exact S2.obj _ _ h2)
      rw [upd_ne (Ne.symm (ne ho))]
      exact (hf b hb).1
  done := by
    intro X hP hw hK hc i pins s σ H E I hf st hg
    obtain ⟨xs, ys, q1, q2, e⟩ := hg
    obtain ⟨its, rv, p1⟩ := V1.val X hK pins σ H s xs I q1
    obtain ⟨jts, rw', p2⟩ := V2.val X hK pins σ H s ys I q2
    have l1 := rv.length
    have l2 := rw'.length
    obtain ⟨hz, hTI, ⟨a, c, hTO⟩, h1, h2⟩ := id st
    subst hP hw
    refine pyNext_zipS_end (I.ok.hd hc) D S1 S2 hz hTI hTO h1 h2 p1 p2 (by simp; omega) fun h' g7 => ⟨rfl, ?_⟩
    have hch : ∀ b ∈ [z, TO, i1, i2], FpOk X pins H b := fun b hb => hf b (by
      simp only [List.mem_cons, List.not_mem_nil, or_false] at hb ⊢
      rcases hb with rfl | rfl | rfl | rfl <;> simp)
    exact I.chg (t' := s.toks) hch fun b o hb e => by
      simp only [List.mem_cons, List.not_mem_nil, or_false, not_or] at hb
      exact g7 b o hb.1 hb.2.1 hb.2.2.1 hb.2.2.2 e
  self := fun _ _ _ _ _ st h => wpAny_pyIter_zip st.1 h

/-! ### the call zip(a, b) -/
abbrev zipT1 (h : Heap) (l1 : Addr) : Heap := h.push { cls := .type "tuple_iterator", data := .fields #[.ref l1, .int 0 0] }
abbrev zipT2 (h : Heap) (l1 l2 : Addr) : Heap := (zipT1 h l1).push { cls := .type "tuple_iterator", data := .fields #[.ref l2, .int 0 0] }
abbrev zipT3 (h : Heap) (l1 l2 : Addr) : Heap := (zipT2 h l1 l2).push { cls := .type "tuple", data := .seq #[.ref h.objs.size, .ref (zipT1 h l1).objs.size] }
abbrev zipT4 (h : Heap) (l1 l2 : Addr) : Heap := (zipT3 h l1 l2).push { cls := .type "tuple", data := .seq #[.none, .none] }
abbrev zipT5 (h : Heap) (l1 l2 : Addr) : Heap := (zipT4 h l1 l2).push { cls := .type "zip", data := .fields #[.none, .bool false, .bool false, .ref (zipT2 h l1 l2).objs.size, .ref (zipT3 h l1 l2).objs.size] }
theorem meets_zipT (l1 l2 : Addr) (xs ys : Array Value) :
    Meets (Builtin.«zip.__new__» ⟨[.type "zip", .ref l1, .ref l2], []⟩) (fun _ R s => s.heap.IsTuple l1 xs ∧ s.heap.IsTuple l2 ys ∧
      R (.ok (.ret (.ref (zipT4 s.heap l1 l2).objs.size))) { s with heap := zipT5 s.heap l1 l2 }) :=
  .of_wp fun prog w A R s h => by
    obtain ⟨hp, g, d, tk, os⟩ := s; obtain ⟨hl1, hl2, h⟩ := h
    have hsub := sub_zip
    have hL1 : Heap.IsTuple (Shared.heap ⟨hp, g, d, tk, os⟩) l1 xs := hl1
    have hL2 : Heap.IsTuple (Shared.heap ⟨hp.push { cls := .type "tuple_iterator", data := .fields #[.ref l1, .int 0 0] }, g, d, tk, os⟩) l2 ys := Heap.IsTuple.push hl2 _
    wp_walk using wpAny_pyIter_tuple hL1, wpAny_pyIter_tuple hL2
    exact ⟨_, rfl, h⟩
theorem call_zipT {prog : Program} {w : World} {A : Around} {E : Value → Shared → Prop} {s : Shared} {l1 l2 : Addr} {xs ys : Array Value} {Q : Value → Shared → Prop} (hl1 : s.heap.IsTuple l1 xs) (hl2 : s.heap.IsTuple l2 ys)
    (h : ∀ h', IsZip h' (s.heap.objs.size + 4) (s.heap.objs.size + 2) (s.heap.objs.size + 3) .none → IsPair h' (s.heap.objs.size + 2) (.ref s.heap.objs.size) (.ref (s.heap.objs.size + 1)) →
      IsPair h' (s.heap.objs.size + 3) .none .none → h'.IsTupleIter s.heap.objs.size l1 0 → h'.IsTupleIter (s.heap.objs.size + 1) l2 0 → h'.objs.size = s.heap.objs.size + 5 →
      (∀ c o, s.heap.get? c = some o → h'.get? c = some o) → Q (.ref (s.heap.objs.size + 4)) { s with heap := h' }) :
    wpAny (model prog w) A (call (.type "zip") [.ref l1, .ref l2]) Q E s := by
  refine callType_new F.called_zip (by decide) (F.typeCall_zip_2 _ _) (F.newCall_zip_2 _ _) (fun obj => F.args_object_init_3 obj _ _) F.entry_zip_new
    (meets_zipT l1 l2 xs ys) ⟨hl1, hl2, ?_⟩
  have z1 : (zipT1 s.heap l1).objs.size = s.heap.objs.size + 1 := Heap.size_push ..
  have z2 : (zipT2 s.heap l1 l2).objs.size = s.heap.objs.size + 2 := by rw [Heap.size_push, z1]
  have z3 : (zipT3 s.heap l1 l2).objs.size = s.heap.objs.size + 3 := by rw [Heap.size_push, z2]
  have z4 : (zipT4 s.heap l1 l2).objs.size = s.heap.objs.size + 4 := by rw [Heap.size_push, z3]
  have z5 : (zipT5 s.heap l1 l2).objs.size = s.heap.objs.size + 5 := by rw [Heap.size_push, z4]
  have g5 : (zipT5 s.heap l1 l2).get? (zipT4 s.heap l1 l2).objs.size = some _ := Heap.get?_push_size _ rfl
  have g4 : (zipT5 s.heap l1 l2).get? (zipT3 s.heap l1 l2).objs.size = some _ := Heap.get?_push_of_some _ (Heap.get?_push_size _ rfl)
  have g3 : (zipT5 s.heap l1 l2).get? (zipT2 s.heap l1 l2).objs.size = some _ := Heap.get?_push_of_some _ (Heap.get?_push_of_some _ (Heap.get?_push_size _ rfl))
  have g2 : (zipT5 s.heap l1 l2).get? (zipT1 s.heap l1).objs.size = some _ := Heap.get?_push_of_some _ (Heap.get?_push_of_some _ (Heap.get?_push_of_some _ (Heap.get?_push_size _ rfl)))
  have g1 : (zipT5 s.heap l1 l2).get? s.heap.objs.size = some _ := Heap.get?_push_of_some _ (Heap.get?_push_of_some _ (Heap.get?_push_of_some _ (Heap.get?_push_of_some _ (Heap.get?_push_size _ rfl))))
  show _ ∧ _
  rw [z2, z3, z4] at g5
  rw [z1, z2] at g3
  rw [z3] at g4
  rw [z1] at g2
  rw [z4]
  exact ⟨⟨_, g5, rfl⟩, h _ g5 g3 g4 ⟨_, g1, rfl, rfl⟩ ⟨_, g2, rfl, rfl⟩ z5 fun c o x =>
    Heap.get?_push_of_some _ (Heap.get?_push_of_some _ (Heap.get?_push_of_some _ (Heap.get?_push_of_some _ (Heap.get?_push_of_some _ x))))⟩

section
variable {X : Cx} {es : List Expr} {kk : Nat} {tpos : Pos}
theorem zip_apart {n l1 l2 : Nat} (h1 : l1 < n) (h2 : l2 < n) : ZipApart (n + 4) (n + 2) (n + 3) n (n + 1) l1 l2 := by
  refine ⟨?_, ?_, ?_, ?_, ?_, ?_, ?_, ?_, ?_, ?_, ?_, ?_, ?_, ?_, ?_, ?_, ?_, ?_⟩
  all_goals intro e
  · have e' : (n + 2 : Nat) = n + 4 := e; omega
  · have e' : (n + 3 : Nat) = n + 4 := e; omega
  · have e' : (n : Nat) = n + 4 := e; omega
  · have e' : (n + 1 : Nat) = n + 4 := e; omega
  · have e' : (n + 2 : Nat) = n + 3 := e; omega
  · have e' : (n + 2 : Nat) = n := e; omega
  · have e' : (n + 2 : Nat) = n + 1 := e; omega
  · have e' : (n + 3 : Nat) = n := e; omega
  · have e' : (n + 3 : Nat) = n + 1 := e; omega
  · have e' : (n : Nat) = n + 1 := e; omega
  · have e' : (l1 : Nat) = n + 4 := e; omega
  · have e' : (l1 : Nat) = n + 3 := e; omega
  · have e' : (l1 : Nat) = n := e; omega
  · have e' : (l1 : Nat) = n + 1 := e; omega
  · have e' : (l2 : Nat) = n + 4 := e; omega
  · have e' : (l2 : Nat) = n + 3 := e; omega
  · have e' : (l2 : Nat) = n := e; omega
  · have e' : (l2 : Nat) = n + 1 := e; omega
/-- zip of two lists, of two tuples -/
def iZip (K : PySem.W.Frag) (ta : TA) : TI := fun σ H R => ta σ H fun vs H1 => ∃ a b, vs = [.ref a, .ref b] ∧
  ((∃ xs ys, SqL K H1 a xs ∧ SqL K H1 b ys ∧ R (Itz (fun H xs => SqL K H a xs) (fun H ys => SqL K H b ys)) H1) ∨
   (∃ xs ys, SqT K H1 a xs ∧ SqT K H1 b ys ∧ R (Itz (fun H xs => SqT K H a xs) (fun H ys => SqT K H b ys)) H1))
theorem pi_zip {a b : Expr} {ta : TA} {p pos : Pos} (hg : Gl X "zip") (hm : X.mg "zip" = none) (ha : PA X [a, b] ta) (hs : starEach [a, b] X.env = [(false, eval a X.env), (false, eval b X.env)] := by rfl) (hs2 : starEach [b] X.env = [(false, eval b X.env)] := by rfl)
    (hv : bootBuiltins "zip" = some (.type "zip") := by first | rfl | decide +kernel) :
    PI X (.Tuple es kk tpos) (.Call (.Name "zip" p) [a, b] [] pos) (iZip X.K ta) := by
  intro pins s σ H R I h
  refine Call_ (ld_blt I hg hm hv (PyProof.Rows.callWith_type1 (thn (ha pos pins s σ H _ I h) fun us s1 ⟨vs, H1, I1, r1, q1⟩ => ?_) (by rw [hs, hs2]) (by rw [hs2]; rfl)))
  obtain ⟨l1, l2, e, q⟩ := q1
  subst e
  obtain ⟨u1, u2, rfl, e1, e2⟩ := vals2 r1
  cases e1
  cases e2
  have fp : ∀ (h' : Heap) (H' : Hp), (∀ b, s1.heap.objs.size ≤ b → H' b = none) → ∀ b ∈ [s1.heap.objs.size + 4, s1.heap.objs.size + 2, s1.heap.objs.size + 3, s1.heap.objs.size, s1.heap.objs.size + 1], FpOk X pins H' b := fun h' H' hn b hb => by
    simp only [List.mem_cons, List.not_mem_nil, or_false] at hb
    have hle : s1.heap.objs.size ≤ b := by omega
    exact I1.fpOk hle (hn b hle)
  rcases q with ⟨xs, ys, q1, q2, q⟩ | ⟨xs, ys, q1, q2, q⟩
  · obtain ⟨its, rv, p1, _⟩ := I1.list q1
    obtain ⟨jts, rw', p2, _⟩ := I1.list q2
    have lt1 : l1 < s1.heap.objs.size := by obtain ⟨_, e, _⟩ := p1.isList; exact Heap.lt_size e
    have lt2 : l2 < s1.heap.objs.size := by obtain ⟨_, e, _⟩ := p2.isList; exact Heap.lt_size e
    refine call_zip_2 p1.isList p2.isList fun h' g1 g2 g3 g4 g5 g6 g7 => ?_
    refine wpAny_pyIter_zip g1 ?_
    exact ⟨_, _, _, _, H1, rfl, I1.kept (t' := s1.toks) g7, turn_zip (zip_apart lt1 lt2) (Src.list _ l1) (Src.list _ l2) (SrcV.list X.K l1) (SrcV.list X.K l2), ⟨g1, g2, ⟨_, _, g3⟩, g4, g5⟩, fp h' H1 fun b hb => I1.hok.fresh hb, q⟩
  · obtain ⟨its, rv, p1, _⟩ := I1.tuple q1
    obtain ⟨jts, rw', p2, _⟩ := I1.tuple q2
    have lt1 : l1 < s1.heap.objs.size := by obtain ⟨_, e, _⟩ := p1; exact Heap.lt_size e
    have lt2 : l2 < s1.heap.objs.size := by obtain ⟨_, e, _⟩ := p2; exact Heap.lt_size e
    refine call_zipT (show s1.heap.IsTuple l1 its.toArray from p1) (show s1.heap.IsTuple l2 jts.toArray from p2) fun h' g1 g2 g3 g4 g5 g6 g7 => ?_
    refine wpAny_pyIter_zip g1 ?_
    exact ⟨_, _, _, _, H1, rfl, I1.kept (t' := s1.toks) g7, turn_zip (zip_apart lt1 lt2) (Src.tuple _ l1) (Src.tuple _ l2) (SrcV.tuple X.K l1) (SrcV.tuple X.K l2), ⟨g1, g2, ⟨_, _, g3⟩, g4, g5⟩, fp h' H1 fun b hb => I1.hok.fresh hb, q⟩
end
end L2

namespace L2
open PySem PySem.Spec PyProof.Rows

/-! ### D. comprehensions: the block's scope -/
theorem relabel_free {env : Env} : ∀ {names : List (Str × NameKind)} {x : Str}, names.lookup x = some .free →
    (names.map fun (n, k) => if (k == NameKind.free && env.scope.kind == .function && env.kindOf n == some .cell) then (n, NameKind.cell) else (n, k)).lookup x = some .cell ∨
    (names.map fun (n, k) => if (k == NameKind.free && env.scope.kind == .function && env.kindOf n == some .cell) then (n, NameKind.cell) else (n, k)).lookup x = some .free
  | [], _, h => by simp at h
  | (n, k) :: r, x, h => by
    have ih := @relabel_free env r x
    show List.lookup x ((if (k == NameKind.free && env.scope.kind == .function && env.kindOf n == some .cell) = true then (n, NameKind.cell) else (n, k)) :: _) = _ ∨ List.lookup x ((if (k == NameKind.free && env.scope.kind == .function && env.kindOf n == some .cell) = true then (n, NameKind.cell) else (n, k)) :: _) = _
    cases hx : x == n with
    | true =>
      simp only [List.lookup_cons, hx] at h
      by_cases hc : (k == NameKind.free && env.scope.kind == .function && env.kindOf n == some .cell) = true
      · rw [if_pos hc]; left; simp only [List.lookup_cons, hx]
      · rw [if_neg hc]; right; simp only [List.lookup_cons, hx]; exact h
    | false =>
      simp only [List.lookup_cons, hx] at h
      by_cases hc : (k == NameKind.free && env.scope.kind == .function && env.kindOf n == some .cell) = true
      · rw [if_pos hc]; simp only [List.lookup_cons, hx]; exact ih h
      · rw [if_neg hc]; simp only [List.lookup_cons, hx]; exact ih h
theorem relabel_inv {env : Env} : ∀ {names : List (Str × NameKind)} {x : Str} {j : NameKind}, (j = .cell ∨ j = .free) →
    (names.map fun (n, k) => if (k == NameKind.free && env.scope.kind == .function && env.kindOf n == some .cell) then (n, NameKind.cell) else (n, k)).lookup x = some j → names.lookup x = some .cell ∨ names.lookup x = some .free
  | [], _, _, _, h => by simp at h
  | (n, k) :: r, x, j, hj, h => by
    have ih := @relabel_inv env r x j hj
    replace h : List.lookup x ((if (k == NameKind.free && env.scope.kind == .function && env.kindOf n == some .cell) = true then (n, NameKind.cell) else (n, k)) :: (r.map fun (n, k) => if (k == NameKind.free && env.scope.kind == .function && env.kindOf n == some .cell) then (n, NameKind.cell) else (n, k))) = some j := h
    cases hx : x == n with
    | true =>
      simp only [List.lookup_cons, hx]
      by_cases hc : (k == NameKind.free && env.scope.kind == .function && env.kindOf n == some .cell) = true
      · right
        simp only [Bool.and_eq_true] at hc
        exact congrArg some (beq_iff_eq.mp hc.1.1)
      · rw [if_neg hc] at h
        simp only [List.lookup_cons, hx] at h
        cases h
        rcases hj with rfl | rfl
        · exact .inl rfl
        · exact .inr rfl
    | false =>
      simp only [List.lookup_cons, hx]
      by_cases hc : (k == NameKind.free && env.scope.kind == .function && env.kindOf n == some .cell) = true
      · rw [if_pos hc] at h; simp only [List.lookup_cons, hx] at h; exact ih h
      · rw [if_neg hc] at h; simp only [List.lookup_cons, hx] at h; exact ih h

def clos (cells : List (Str × Addr)) : List (Str × NameKind) → List (Str × Addr) → List (Str × Addr)
  | [], acc => acc
  | (n, k) :: r, acc => clos cells r (if (k == NameKind.free) = true then (n, (cells.lookup n).getD 0) :: acc else acc)
theorem clos_loop {env : Env} : ∀ (names : List (Str × NameKind)) (acc : List (Str × Addr)), (∀ y ∈ names, y.2 = .free → ∃ c, env.cells.lookup y.1 = some c) →
    (forIn names acc (fun (x : Str × NameKind) (cs : List (Str × Addr)) => match x with | (name, kind) => if (kind == NameKind.free) = true then (do let a ← cellOf env name; pure (ForInStep.yield ((name, a) :: cs))) else pure (ForInStep.yield cs)) : Sem (List (Str × Addr))) = pure (clos env.cells names acc)
  | [], acc, _ => rfl
  | (n, k) :: r, acc, h => by
    rw [List.forIn_cons]
    have hr := fun acc => clos_loop r acc fun y hy => h y (List.mem_cons_of_mem _ hy)
    by_cases hk : (k == NameKind.free) = true
    · obtain ⟨c, hc⟩ := h (n, k) List.mem_cons_self (beq_iff_eq.mp hk)
      have e : cellOf env n = pure c := by unfold cellOf; rw [hc]
      simp only [hk, if_true, e, pure_bind, clos, hc, Option.getD_some]
      exact hr _
    · simp only [hk, if_false, pure_bind, clos]
      exact hr _
theorem closureFor_clos {scope : Scope} {env : Env} (h : ∀ y ∈ scope.names, y.2 = .free → ∃ c, env.cells.lookup y.1 = some c) : closureFor scope env = pure (clos env.cells scope.names []) := by
  have e := clos_loop scope.names [] h
  unfold closureFor
  simp only [e]
  first | rfl | simp
theorem clos_get {cells : List (Str × Addr)} {x : Str} : ∀ (names : List (Str × NameKind)) (acc : List (Str × Addr)), ((x, NameKind.free) ∈ names ∨ acc.lookup x = some ((cells.lookup x).getD 0)) →
    (clos cells names acc).lookup x = some ((cells.lookup x).getD 0)
  | [], acc, h => by
    rcases h with h | h
    · cases h
    · exact h
  | (n, k) :: r, acc, h => by
    unfold clos
    refine clos_get r _ ?_
    by_cases hk : (k == NameKind.free) = true
    · rw [if_pos hk]
      by_cases hx : x = n
      · right; subst hx; simp
      · rcases h with h | h
        · rcases List.mem_cons.mp h with e | e
          · cases e; exact absurd rfl hx
          · exact .inl e
        · right
          have hx' : (x == n) = false := by simpa using hx
          simp only [List.lookup_cons, hx']
          exact h
    · rw [if_neg hk]
      rcases h with h | h
      · rcases List.mem_cons.mp h with e | e
        · cases e; exact absurd rfl hk
        · exact .inl e
      · exact .inr h
theorem clos_inv {cells : List (Str × Addr)} {x : Str} {c : Addr} : ∀ (names : List (Str × NameKind)) (acc : List (Str × Addr)), (clos cells names acc).lookup x = some c →
    acc.lookup x = some c ∨ ((x, NameKind.free) ∈ names ∧ c = (cells.lookup x).getD 0)
  | [], acc, h => .inl h
  | (n, k) :: r, acc, h => by
    unfold clos at h
    rcases clos_inv r _ h with q | ⟨q, e⟩
    · by_cases hk : (k == NameKind.free) = true
      · rw [if_pos hk] at q
        cases hx : x == n with
        | true =>
          simp only [List.lookup_cons, hx] at q
          have hx' : x = n := by simpa using hx
          subst hx'
          have hk' : k = .free := beq_iff_eq.mp hk
          subst hk'
          exact .inr ⟨List.mem_cons_self, (Option.some.inj q).symm⟩
        | false =>
          simp only [List.lookup_cons, hx] at q
          exact .inl q
      · rw [if_neg hk] at q
        exact .inl q
    · exact .inr ⟨List.mem_cons_of_mem _ q, e⟩

/-- the scope of a block: its own names, and the names from around by their slots there -/
structure CompScope (N : List Str) (osc scope : Scope) (own : List Str) (fre : List (Nat × Str)) : Prop where
  kind : scope.kind = .function
  ocell : ∀ y ∈ scope.names, y.2 ≠ .cell
  locs : ∀ y ∈ scope.names, y.2 = .local → scope.names.lookup y.1 = some .local
  frees : ∀ y ∈ scope.names, y.2 = .free → osc.names.lookup y.1 = some .cell ∨ osc.names.lookup y.1 = some .free
  fres : ∀ p ∈ fre, N[p.1]? = some p.2 ∧ scope.names.lookup p.2 = some .free
def startC (n : Nat) (fre : List (Nat × Str)) (σ : St) : St := List.replicate n none ++ fre.map fun p => (σ[p.1]?).join
def cxC (X : Cx) (N' : List Str) (scope : Scope) (cl : List (Str × Addr)) (C : Addr) (s₂ : Shared) (H₂ : Hp) (fp : List Addr) : Cx where
  prog := X.prog
  w := X.w
  K := X.K
  mg := X.mg
  base := X.base
  A := X.A
  N := N'
  s₀ := s₂
  H₀ := H₂
  env := compEnvC scope cl C X.env
  outer := X.stack
  stack := X.stack
  ex := fp
  fn := fun _ => false
  calm := X.calm
  pn := []
  xe := fun _ _ => False

section
variable {X : Cx} {pins : List (Addr × Obj)} {σ : St} {H : Hp} {s : Shared} {scope : Scope} {own : List Str} {fre : List (Nat × Str)} {fp : List Addr} {C D : Addr} {h1 : Heap} {m : Str → Option Value}
theorem Inv.clos_cells (I : Inv X pins σ H s) (S : CompScope X.N X.env.scope scope own fre) : ∀ y ∈ scope.names, y.2 = .free → ∃ c, X.env.cells.lookup y.1 = some c := fun y hy e => I.ok.has y.1 (S.frees y hy e)
theorem Inv.clos_sub (I : Inv X pins σ H s) (S : CompScope X.N X.env.scope scope own fre) {x : Str} {c : Addr} (h : (clos X.env.cells scope.names []).lookup x = some c) : X.env.cells.lookup x = some c := by
  rcases clos_inv _ _ h with q | ⟨q, e⟩
  · cases q
  · obtain ⟨c', hc⟩ := I.clos_cells S _ q rfl
    rw [hc] at e ⊢
    exact congrArg some e.symm
theorem inv_comp {tk : Nat} (I : Inv X pins σ H s) (S : CompScope X.N X.env.scope scope own fre) (hfp : ∀ b ∈ fp, FpOk X pins H b) (hfo : ∀ b ∈ fp, ∃ o, s.heap.get? b = some o)
    (old : ∀ b o, s.heap.get? b = some o → h1.get? b = some o) (hC : s.heap.objs.size ≤ C) (hns : h1.Ns C m) (hD : s.heap.objs.size ≤ D) (hDC : D ≠ C) (hDo : h1.get? D = some (LCg.lst [])) :
    Inv (cxC X (own ++ fre.map (·.2)) scope (clos X.env.cells scope.names []) C s H fp) [(D, LCg.lst [])] (startC own.length fre σ) H { s with heap := h1, toks := tk } := by
  have sub := fun {x : Str} {c : Addr} => I.clos_sub (x := x) (c := c) S
  have lt : ∀ b ∈ fp, b < s.heap.objs.size := fun b hb => by obtain ⟨o, e⟩ := hfo b hb; exact Heap.lt_size e
  have clt : ∀ x c, X.env.cells.lookup x = some c → c < s.heap.objs.size := fun x c e => by obtain ⟨v, q⟩ := I.cell x c e; exact q.lt
  refine ⟨⟨I.ok.mod, S.kind, I.ok.glob, I.ok.blt, hC, fun x y c e1 e2 => I.ok.inj x y c (sub e1) (sub e2), fun x hx => ?_, fun x c z => absurd z (by show ¬ (false = true); decide), I.ok.hd, I.ok.frames, .inl rfl, fun b hb => ?_, I.bs, Nat.le_trans I.ok.bsz I.sz, fun b o e hb => ?_, fun b hb => ?_, I.stack, I.stkFree⟩,
    rfl, I.bare, Un.kept old, ⟨m, hns, fun i x v e1 e2 e3 => ?_⟩, fun x c e => ?_, I.hok.fresh hC, fun x c e => I.freeC x c (sub e), fun p hp => ?_, I.hok.kept old, ?_⟩
  · have hx' : scope.names.lookup x = some .cell ∨ scope.names.lookup x = some .free := by
      rcases hx with z | z
      · exact relabel_inv (.inl rfl) z
      · exact relabel_inv (.inr rfl) z
    rcases hx' with z | z
    · exact absurd rfl (S.ocell _ (PySem.mem_of_lookup z))
    · exact ⟨_, clos_get _ _ (.inl (PySem.mem_of_lookup z))⟩
  · exact ⟨Nat.ne_of_lt (Nat.lt_of_lt_of_le (lt b hb) hC), fun x c e => (hfp b hb).2.2.2.2.1 x c (sub e)⟩
  · obtain ⟨_, _, _, f3, _⟩ := hfp b hb
    rcases f3 with z | z
    · exact I.ok.noex b o e z
    · exact absurd (Nat.lt_of_lt_of_le (Heap.lt_size e) (Nat.le_trans I.ok.bsz z)) (Nat.lt_irrefl _)
  · intro z
    rcases List.mem_cons.mp (I.stkSub b z) with q | q
    · exact (hfp b hb).2.1 q
    · exact (hfp b hb).2.2.1 q
  · have hi : own.length ≤ i := by
      rcases Nat.lt_or_ge i own.length with z | z
      · unfold startC at e2
        rw [List.getElem?_append_left (by simpa using z), List.getElem?_replicate] at e2
        split at e2 <;> cases e2
      · exact z
    unfold startC at e2
    rw [List.getElem?_append_right (by simpa using hi), List.getElem?_map, List.length_replicate] at e2
    replace e1 : (own ++ fre.map (·.2))[i]? = some x := e1
    rw [List.getElem?_append_right hi, List.getElem?_map] at e1
    cases q : fre[i - own.length]? with
    | none => rw [q] at e1; cases e1
    | some p =>
      rw [q] at e1 e2
      have e1' : p.2 = x := Option.some.inj e1
      have e2' : (σ[p.1]?).join = some v := Option.some.inj e2
      subst e1'
      have e4 : σ[p.1]? = some (some v) := by
        cases r : σ[p.1]? with
        | none => rw [r] at e2'; cases e2'
        | some w => rw [r] at e2'; exact congrArg some e2'
      obtain ⟨n1, n2⟩ := S.fres p (List.mem_of_getElem? q)
      have hm := PySem.mem_of_lookup n2
      have kd := S.frees _ hm rfl
      obtain ⟨m2, hn2, hl2⟩ := I.loc
      obtain ⟨u, ru, lk⟩ := hl2 p.1 p.2 v n1 e4 (.inr kd)
      refine ⟨u, ru, ?_⟩
      rcases lk with ⟨z, _⟩ | ⟨_, c, hc, hcell⟩
      · have z' : X.env.scope.names.lookup p.2 = some .local := z
        rcases kd with k | k
        · have k' : X.env.scope.names.lookup p.2 = some .cell := k
          rw [z'] at k'; cases k'
        · have k' : X.env.scope.names.lookup p.2 = some .free := k
          rw [z'] at k'; cases k'
      · refine .inr ⟨relabel_free n2, c, ?_, ?_⟩
        · have := clos_get (cells := X.env.cells) (x := p.2) scope.names [] (.inl hm)
          rw [hc] at this
          exact this
        · obtain ⟨o, ho, hd⟩ := hcell
          exact ⟨o, old _ _ ho, hd⟩
  · obtain ⟨v, o, ho, hd⟩ := I.cell x c (sub e)
    exact ⟨v, o, old _ _ ho, hd⟩
  · have e : p = (D, LCg.lst []) := by
      have hp' : p ∈ [(D, LCg.lst [])] := hp
      simpa using hp'
    subst e
    refine ⟨hDo, I.hok.fresh hD, hDC, fun z => ?_, fun v z => by cases z⟩
    rcases List.mem_cons.mp (I.stkSub D z) with q | q
    · exact absurd I.lt (Nat.not_lt.mpr (by rw [← q]; exact hD))
    · exact I.nofs hD q
  · unfold startC
    show _ = (own ++ fre.map (·.2)).length
    simp
end

theorem compLoop_gen {prog : Program} {w : World} {A : Around} {R : Result → Shared → Prop} {s : Shared} {elt target iter : Expr} {ifs : List Expr} {scope : Scope} {pos : Pos} {it acc : Value} {env : Env} (I : Nat → Shared → Prop)
    (turn : ∀ n s, I n s → wpAny (model prog w) A (pyNext it) (fun r s₁ => match r with
      | none => R (.ok .next) s₁
      | some v => wpAny (model prog w) A (letOwnedTupleGo target it v) (fun _ s₁' => wpAny (model prog w) A (assign target env v) (fun _ s₂ =>
          wpAny (model prog w) A (forIn ifs true fun c r => if r = true then do let ok ← isTrue c env (eval c env); pure (ForInStep.yield ok) else pure (ForInStep.yield r)) (fun ok s₃ =>
            if ok = true then wpAny (model prog w) A (eval elt env) (fun x s₄ =>
              wpAny (model prog w) A (call (.builtin "list.append") [acc, x]) (fun _ s₅ => ∃ m, m < n ∧ I m s₅) (notedBy (model prog w) A env fun e s' => R (.error e) s') s₄) (notedBy (model prog w) A env fun e s' => R (.error e) s') s₃
            else ∃ m, m < n ∧ I m s₃) (notedBy (model prog w) A env fun e s' => R (.error e) s') s₂) (notedBy (model prog w) A env fun e s' => R (.error e) s') s₁') (notedBy (model prog w) A env fun e s' => R (.error e) s') s₁) (notedBy (model prog w) A env fun e s' => R (.error e) s') s)
    (n : Nat) (h : I n s) :
    codeAny (model prog w) A (.compLoop (.ListComp elt [⟨target, iter, ifs, 0⟩] scope pos) 0 it acc env) R s := by
  refine codeAny_loop rfl I (fun n s hI => ?_) n h
  show wpAny _ A ((compTurn (.ListComp elt [⟨target, iter, ifs, 0⟩] scope pos) 0 it acc env).onRaise (fun x => do noteFrame x env; theTreesLotGoes x)) _ _ s
  refine wpAny_noted ?_
  rw [compTurn_list]
  refine wpAny_bind (wpAny_standAt (wpAny_bind (wpAny_mono (turn n s hI) (fun r s₁ h₁ => ?_) fun _ _ h' => h')))
  cases r with
  | none => exact wpAny_pure h₁
  | some v =>
    refine wpAny_bind (wpAny_mono h₁ (fun _ s₁' h₁' => ?_) fun _ _ h' => h')
    refine wpAny_bind (wpAny_mono h₁' (fun _ s₂ h₂ => wpAny_bind (wpAny_mono h₂ (fun ok s₃ h₃ => ?_) fun _ _ h' => h')) fun _ _ h' => h')
    cases ok with
    | false => exact wpAny_pure ⟨rfl, h₃⟩
    | true =>
      exact wpAny_bind (wpAny_bind (wpAny_mono h₃ (fun x s₄ h₄ => wpAny_bind (wpAny_mono h₄ (fun _ s₅ h₅ => wpAny_pure (wpAny_pure ⟨rfl, h₅⟩)) fun _ _ h' => h')) fun _ _ h' => h'))

/-! ### the tests of a block -/
def PTs (X : Cx) (ifs : List Expr) (t : TT) : Prop :=
  ∀ (pins : List (Addr × Obj)) (s : Shared) (σ : St) (H : Hp) (Q : Bool → Hp → Prop), Inv X pins σ H s → t σ H Q →
    wpAny (model X.prog X.w) X.A (forIn ifs true fun c r => if r = true then do let ok ← isTrue c X.env (eval c X.env); pure (ForInStep.yield ok) else pure (ForInStep.yield r)) (TP X pins σ Q) X.xe s
def tYes : TT := fun _ H Q => Q true H
theorem pts_nil {X : Cx} : PTs X [] tYes := fun _ _ _ H _ I h => wpAny_tests_nil ⟨H, I, h⟩
theorem pts_one {X : Cx} {c : Expr} {t : TT} (h : PT X c t) : PTs X [c] t := fun pins s σ H Q I hw => wpAny_tests_one (h pins s σ H Q I hw)

/-- what is wanted of a comprehension's turns; Fin: of the list and the heap at the end -/
def CompT (J : It) (g : TG) (tt : TT) (te : TE) (Fin : List V → Hp → Prop) (σ₀ : St) (H1 : Hp) : Prop :=
  ∃ W : Nat → Nat → List V → St → Hp → Prop, (∃ m, W 0 m [] σ₀ H1) ∧ ∀ i m ys σ' H', W i m ys σ' H' → (J.stop i H' ∧ Fin ys H') ∨
    (J.go i H' ∧ ys.length < sizeLine ∧ ∀ x H2, J.yld i H' x H2 → g x σ' H2 fun σ3 H3 => tt σ3 H3 fun b H4 => if b = true then te σ3 H4 fun y H5 => ∃ m', m' < m ∧ W (i + 1) m' (ys ++ [y]) σ3 H5 else ∃ m', m' < m ∧ W (i + 1) m' ys σ3 H4)
def tComp (n : Nat) (fre : List (Nat × Str)) (wi : TI) (g : TG) (tt : TT) (te : TE) : TE := fun σ H Q => wi σ H fun J H1 => CompT J g tt te (fun ys H' => ∀ D, H' D = none → Q (.ref D) (upd H' D (.lst ys))) (startC n fre σ) H1

section
variable {X : Cx} {pins : List (Addr × Obj)} {σ : St} {scope : Scope} {own : List Str} {fre : List (Nat × Str)} {elt tg iter : Expr} {ifs : List Expr} {pos : Pos} {wi : TI} {g : TG} {tt : TT} {te : TE}

theorem comp_block {s2 : Shared} {H2 : Hp} {it : Addr} {fp : List Addr} {tn : Nat → Heap → Prop} {J : It} {Fin : List V → Hp → Prop} {RR : Value → Addr → Result → Shared → Prop} {E : Value → Shared → Prop}
    (hc : X.calm = true) (S : CompScope X.N X.env.scope scope own fre) (I2 : Inv X pins σ H2 s2) (T : Turn X.prog X.w X.K tg J fp it tn) (st2 : tn 0 s2.heap) (f2 : ∀ b ∈ fp, FpOk X pins H2 b)
    (hg : ∀ cl C s₂ H₂ fp, PG (cxC X (own ++ fre.map (·.2)) scope cl C s₂ H₂ fp) tg g) (ht : ∀ cl C s₂ H₂ fp, PTs (cxC X (own ++ fre.map (·.2)) scope cl C s₂ H₂ fp) ifs tt) (he : ∀ cl C s₂ H₂ fp, PE (cxC X (own ++ fre.map (·.2)) scope cl C s₂ H₂ fp) elt te)
    (turns : CompT J g tt te Fin (startC own.length fre σ) H2)
    (hend : ∀ (D C : Addr) (s' : Shared) (H' : Hp) (ys : List V) (its : List Value) (m : Str → Option Value), s2.heap.objs.size ≤ D → s2.heap.objs.size ≤ C → D ≠ C → Inv X pins σ H' s' → H' D = none → H' C = none → s'.heap.get? D = some (LCg.lst its) → s'.heap.Ns C m → Vals ys its → ys.length ≤ sizeLine → Fin ys H' → RR (.ref D) C (.ok .next) s') :
    wpAny (model X.prog X.w) X.A (newList []) (fun acc s₃ => wpAny (model X.prog X.w) X.A (newFunctionEnv scope X.env.globals (clos X.env.cells scope.names []) [] X.env.qual none .none (some X.env)) (fun cenv s₄ =>
      codeAny (model X.prog X.w) X.A (.compStart (.ListComp elt [⟨tg, iter, ifs, 0⟩] scope pos) 0 (.ref it) acc { cenv with scope := relabel scope X.env }) (RR acc cenv.locals) s₄) E s₃) E s2 := by
  obtain ⟨W, ⟨m0, w0⟩, turn⟩ := turns
  refine wpAny_newObj_type (wpAny_newFunctionEnv S.ocell (by intro y hy; simp at hy) (fun h₁ hns₁ hsb₁ => ?_) S.kind)
  dsimp only at hns₁ hsb₁ ⊢
  generalize hH2 : s2.heap.push { cls := .type "list", dict := none, data := .seq ([] : List Value).toArray } = HH at hns₁ hsb₁ ⊢
  have hC : HH.objs.size = s2.heap.objs.size + 1 := by rw [← hH2, Heap.size_push]
  have hDC : s2.heap.objs.size ≠ HH.objs.size := by rw [hC]; exact Nat.ne_of_lt (Nat.lt_succ_self _)
  have hCle : s2.heap.objs.size ≤ HH.objs.size := by rw [hC]; exact Nat.le_succ _
  have old : ∀ b o, s2.heap.get? b = some o → h₁.get? b = some o := fun b o e =>
    hsb₁.extBut b o (by rw [hC]; exact Nat.ne_of_lt (Nat.lt_succ_of_lt (Heap.lt_size e))) (Heap.get?_push_of_some _ (hH2 ▸ Heap.get?_push_of_some _ e))
  have hacc : h₁.get? s2.heap.objs.size = some (LCg.lst []) := hsb₁.extBut _ _ hDC (Heap.get?_push_of_some _ (hH2 ▸ Heap.get?_push_size _ rfl))
  have hfo : ∀ b ∈ fp, ∃ o, s2.heap.get? b = some o := fun b hb => by obtain ⟨o, e, _⟩ := T.obj _ _ st2 b hb; exact ⟨o, e⟩
  have flt : ∀ b ∈ fp, b < s2.heap.objs.size := fun b hb => by obtain ⟨o, e⟩ := hfo b hb; exact Heap.lt_size e
  have I1 := inv_comp (tk := s2.toks + ([] : List (Str × Value)).length) I2 S f2 hfo old hCle hns₁ (Nat.le_refl _) hDC hacc
  generalize hX' : cxC X (own ++ fre.map (·.2)) scope (clos X.env.cells scope.names []) HH.objs.size s2 H2 fp = X' at I1
  have eP : X'.prog = X.prog := by rw [← hX']; rfl
  have eW : X'.w = X.w := by rw [← hX']; rfl
  have eK : X'.K = X.K := by rw [← hX']; rfl
  have eA : X'.A = X.A := by rw [← hX']; rfl
  have eE : X'.env = compEnvC scope (clos X.env.cells scope.names []) HH.objs.size X.env := by rw [← hX']; rfl
  have eX : X'.xe = fun _ _ => False := by rw [← hX']; rfl
  have ePn : X'.pn = [] := by rw [← hX']; rfl
  have eC : X'.calm = true := by rw [← hX']; exact hc
  have eS : X'.s₀ = s2 := by rw [← hX']; rfl
  have eH : X'.H₀ = H2 := by rw [← hX']; rfl
  have eF : X'.fs = frs X.stack := by rw [← hX']; rfl
  have eEx : X'.ex = fp := by rw [← hX']; rfl
  have hg' : PG X' tg g := by rw [← hX']; exact hg _ _ _ _ _
  have ht' : PTs X' ifs tt := by rw [← hX']; exact ht _ _ _ _ _
  have he' : PE X' elt te := by rw [← hX']; exact he _ _ _ _ _
  have ccell : ∀ x c, X'.env.cells.lookup x = some c → c < s2.heap.objs.size := fun x c e => by
    rw [eE] at e
    obtain ⟨v, q⟩ := I2.cell x c (I2.clos_sub S e)
    exact q.lt
  have stat : ∀ {H' : Hp} {o : Obj}, (∀ b ∈ fp, H' b = none) → ∀ b ∈ fp, FpOk X' [(s2.heap.objs.size, o)] H' b := fun {H' o} hn b hb => by
    refine ⟨hn b hb, ?_, ?_, .inl (by rw [eEx]; exact hb), fun x c e => ?_, fun p hp => ?_⟩
    · rw [eE]; exact Nat.ne_of_lt (Nat.lt_of_lt_of_le (flt b hb) hCle)
    · rw [eF]; intro z
      rcases List.mem_cons.mp (I2.stkSub b z) with q | q
      · exact (f2 b hb).2.1 q
      · exact (f2 b hb).2.2.1 q
    · rw [eE] at e
      exact (f2 b hb).2.2.2.2.1 x c (I2.clos_sub S e)
    · rw [ePn] at hp
      have e : p = (s2.heap.objs.size, o) := by simpa using hp
      rw [e]
      exact Nat.ne_of_gt (flt b hb)
  have statD : ∀ {H' : Hp}, H' s2.heap.objs.size = none → FpOk X' [] H' s2.heap.objs.size := fun {H'} hn => by
    refine ⟨hn, ?_, ?_, .inr (by rw [eS]; exact Nat.le_refl _), fun x c e => Nat.ne_of_lt (ccell x c e), fun p hp => ?_⟩
    · rw [eE]; exact hDC
    · rw [eF]; intro z
      rcases List.mem_cons.mp (I2.stkSub _ z) with q | q
      · exact absurd I2.lt (by rw [← q]; exact Nat.lt_irrefl _)
      · exact I2.nofs (Nat.le_refl _) q
    · rw [ePn] at hp; cases hp
  have loop : ∀ s₃ : Shared, s₃ = { s2 with heap := h₁, toks := s2.toks + ([] : List (Str × Value)).length } →
      codeAny (model X.prog X.w) X.A (.compLoop (.ListComp elt [⟨tg, iter, ifs, 0⟩] scope pos) 0 (.ref it) (.ref s2.heap.objs.size) (compEnvC scope (clos X.env.cells scope.names []) HH.objs.size X.env))
        (RR (.ref s2.heap.objs.size) HH.objs.size) s₃ := by
    rintro s₃ rfl
    rw [← eE]
    refine compLoop_gen (fun n s' => ∃ i ys its σ' H', Inv X' [(s2.heap.objs.size, LCg.lst its)] σ' H' s' ∧ Vals ys its ∧ ys.length ≤ sizeLine ∧ tn i s'.heap ∧ (∀ b ∈ fp, H' b = none) ∧ W i n ys σ' H') ?_ m0
      ⟨0, [], [], _, H2, I1, .nil, Nat.zero_le _, T.keep _ _ _ st2 fun b _ o e => old b o e, fun b hb => (f2 b hb).1, w0⟩
    rintro n s3 ⟨i, ys, its, σ3, H3, I3, rv, hlen, st3, fr3, w3⟩
    have pD := I3.pin (s2.heap.objs.size, LCg.lst its) (by rw [ePn]; simp)
    rcases turn i n ys σ3 H3 w3 with ⟨stop, fin⟩ | ⟨go, hz, step⟩
    · have dn := T.done X' eP eW eK eC i _ s3 σ3 H3 (notedBy (model X.prog X.w) X.A X'.env fun e s' => RR (.ref s2.heap.objs.size) HH.objs.size (.error e) s') I3 (stat fr3) st3 stop
      rw [eA] at dn
      refine wpAny_mono dn (fun r s4 ⟨hr, I4⟩ => ?_) fun _ _ z => z
      subst hr
      have pD4 := I4.pin (s2.heap.objs.size, LCg.lst its) (by rw [ePn]; simp)
      obtain ⟨m4, hn4, _⟩ := I4.loc
      have b4 : Un (frs X.stack) fp H2 H3 s2.heap s4.heap := by
        have z := I4.base
        rw [eF, eEx, eH, eS] at z
        exact z
      have o4 : s4.os = s2.os := by have z := I4.os; rw [eS] at z; exact z
      have k4 : HOk X.prog X.w H3 s4.heap := by have z := I4.hok; rw [eP, eW] at z; exact z
      have Io : Inv X pins σ H3 s4 := I2.call' o4 b4 k4 I4.bare fun b hb => by
        obtain ⟨_, f1, _, f3, f4, f5⟩ := f2 b hb
        exact ⟨f3, f1, f4, f5⟩
      refine hend _ _ s4 H3 ys its m4 (Nat.le_refl _) hCle hDC Io pD4.2.1 ?_ pD4.1 ?_ rv hlen fin
      · have z := I4.free; rw [eE] at z; exact z
      · rw [eE] at hn4; exact hn4
    · have itm := T.item X' eP eW eK eC i _ s3 σ3 H3 (notedBy (model X.prog X.w) X.A X'.env fun e s' => RR (.ref s2.heap.objs.size) HH.objs.size (.error e) s') I3 (stat fr3) st3 go
      rw [eA] at itm
      refine wpAny_mono itm (fun r s4 ⟨u, hr, h4⟩ => ?_) fun _ _ z => z
      subst hr
      refine wpAny_mono h4 (fun _ s5 ⟨x, H5, I5, r5, y5, st5, fr5⟩ => ?_) fun _ _ z => z
      have I5' := I5.pinned (stat fr5) (T.obj _ _ st5)
      have as := hg' _ s5 σ3 H5 x u _ I5' r5 (step x H5 y5)
      rw [eP, eW, eA] at as
      refine wpAny_mono as (fun _ s6 ⟨σ6, H6, I6, q6⟩ => ?_) (fun _ _ z => by rw [eX] at z; exact z.elim)
      have ts := ht' _ s6 σ6 H6 _ I6 q6
      rw [eP, eW, eA] at ts
      refine wpAny_mono ts (fun b s7 ⟨H7, I7, q7⟩ => ?_) (fun _ _ z => by rw [eX] at z; exact z.elim)
      have back : ∀ {σ8 : St} {H8 : Hp} {s8 : Shared}, Inv X' ([(s2.heap.objs.size, LCg.lst its)] ++ pinsAt fp s5.heap) σ8 H8 s8 → tn (i + 1) s8.heap ∧ (∀ b ∈ fp, H8 b = none) ∧ s8.heap.get? s2.heap.objs.size = some (LCg.lst its) ∧ H8 s2.heap.objs.size = none := fun {σ8 H8 s8} I8 => by
        refine ⟨T.keep _ _ _ st5 fun b hb o e => (I8.pin (b, o) (List.mem_append_right _ (List.mem_append_right _ (mem_pinsAt hb e)))).1, fun b hb => ?_, ?_⟩
        · obtain ⟨o, e, d⟩ := T.obj _ _ st5 b hb
          exact (I8.pin (b, o) (List.mem_append_right _ (List.mem_append_right _ (mem_pinsAt hb e)))).2.1
        · have z := I8.pin (s2.heap.objs.size, LCg.lst its) (List.mem_append_right _ (List.mem_append_left _ (by simp)))
          exact ⟨z.1, z.2.1⟩
      cases b with
      | false =>
        rw [if_neg Bool.false_ne_true]
        rw [if_neg Bool.false_ne_true] at q7
        obtain ⟨m', hm', w7⟩ := q7
        obtain ⟨b1, b2, b3, b4⟩ := back I7
        exact ⟨m', hm', i + 1, ys, its, σ6, H7, I7.unpinned, rv, hlen, b1, b2, w7⟩
      | true =>
        rw [if_pos rfl]
        rw [if_pos rfl] at q7
        have el := he' _ s7 σ6 H7 _ I7 q7
        rw [eP, eW, eA] at el
        refine wpAny_mono el (fun yv s8 ⟨y, H8, I8, r8, q8⟩ => ?_) (fun _ _ z => by rw [eX] at z; exact z.elim)
        obtain ⟨m', hm', w8⟩ := q8
        obtain ⟨b1, b2, b3, b4⟩ := back I8
        have hl := rv.length
        refine append_at (hsz := by show its.toArray.size ≤ sizeLine; rw [List.size_toArray, ← hl]; exact hlen) b3 fun h9 hs9 hD9 => ?_
        have J0 : Inv X' [] σ6 H8 s8 := I8.pins_of fun p hp => absurd hp (by simp)
        have J1 : Inv X' [] σ6 H8 { s8 with heap := h9, toks := s8.toks } := J0.chg (ch := [s2.heap.objs.size]) (fun b hb => by
          have e : b = s2.heap.objs.size := by simpa using hb
          rw [e]; exact statD b4) fun b o hb e => hs9.extBut _ _ (by simpa using hb) e
        have hD9' : h9.get? s2.heap.objs.size = some (LCg.lst (its ++ [yv])) := hD9.trans (congrArg some (LCg.lst_snoc its yv))
        have J2 : Inv X' [(s2.heap.objs.size, LCg.lst (its ++ [yv]))] σ6 H8 { s8 with heap := h9, toks := s8.toks } := J1.pins_of fun p hp => by
          have e : p = (s2.heap.objs.size, LCg.lst (its ++ [yv])) := by simpa using hp
          rw [e]
          have z := statD b4
          exact ⟨hD9', b4, z.2.1, z.2.2.1, fun v q => by cases q⟩
        refine ⟨m', hm', i + 1, ys ++ [y], its ++ [yv], σ6, H8, J2, rv.append (.cons r8 .nil), by rw [List.length_append, List.length_singleton]; exact hz, ?_, b2, w8⟩
        exact T.keep _ _ _ b1 fun b hb o e => hs9.extBut _ _ (Nat.ne_of_lt (flt b hb)) e
  exact codeAny_compStart_list (loop _ rfl) (T.self X.A 0 _ _ _ (T.keep _ _ _ st2 fun b _ o e => old b o e) (loop _ rfl))

/-- [elt for tg in iter if ..] -/
theorem pe_lcomp (hc : X.calm = true) (S : CompScope X.N X.env.scope scope own fre) (hi : PI X tg iter wi)
    (hg : ∀ cl C s₂ H₂ fp, PG (cxC X (own ++ fre.map (·.2)) scope cl C s₂ H₂ fp) tg g) (ht : ∀ cl C s₂ H₂ fp, PTs (cxC X (own ++ fre.map (·.2)) scope cl C s₂ H₂ fp) ifs tt) (he : ∀ cl C s₂ H₂ fp, PE (cxC X (own ++ fre.map (·.2)) scope cl C s₂ H₂ fp) elt te)
    (hs : ∀ x, foldedSetIterable iter X.env x = pure x := by intro _; rfl) : PE X (.ListComp elt [⟨tg, iter, ifs, 0⟩] scope pos) (tComp own.length fre wi g tt te) := by
  intro pins s σ H Q I h
  rw [eval_ListComp]
  refine wpAny_comprehension_free (use := none) rfl hs (closureFor_clos (I.clos_cells S)) S.kind S.locs (thn (hi pins s σ H _ I h) fun v s1 h1 => thn h1 fun itv s2 h2 => ?_)
  obtain ⟨it, fp, tn, J, H2, e, I2, T, st2, f2, turns⟩ := h2
  subst e
  refine comp_block (RR := fun acc C => compPost (model X.prog X.w) X.A X.xe none (EP X pins σ Q) acc C) hc S I2 T st2 f2 hg ht he turns ?_
  intro D C s' H' ys its m hD hC hDC Io nD nC oD nsC rv hlen fin
  refine ⟨m, nsC, fun h' hs' => ?_⟩
  have J1 : Inv X pins σ H' { s' with heap := h', toks := s'.toks } := Io.chg (ch := [C]) (fun b hb => by
    have e : b = C := by simpa using hb
    rw [e]; exact I2.fpOk hC nC) fun b o hb e => hs'.extBut _ _ (by simpa using hb) e
  have J2 := J1.track (o := .lst ys) (I2.fpOk hD nD) ⟨hlen, its, _, rv, hs'.extBut _ _ hDC oD⟩
  exact ⟨.ref D, _, J2, rfl, fin D nD⟩
/-- name = [..], stored ahead of the block's end -/
theorem ps_lcomp {iy : Nat} {y : Str} {py spos : Pos} (hc : X.calm = true) (hN : X.N.Nodup) (hi' : X.N[iy]? = some y) (hy : X.env.scope.names.lookup y = some .local) (S : CompScope X.N X.env.scope scope own fre) (hi : PI X tg iter wi)
    (hg : ∀ cl C s₂ H₂ fp, PG (cxC X (own ++ fre.map (·.2)) scope cl C s₂ H₂ fp) tg g) (ht : ∀ cl C s₂ H₂ fp, PTs (cxC X (own ++ fre.map (·.2)) scope cl C s₂ H₂ fp) ifs tt) (he : ∀ cl C s₂ H₂ fp, PE (cxC X (own ++ fre.map (·.2)) scope cl C s₂ H₂ fp) elt te)
    (hsw : swapsWith (.ListComp elt [⟨tg, iter, ifs, 0⟩] scope pos) (some (.Name y py)) spos.line X.env = pure true)
    (hs : ∀ x, foldedSetIterable iter X.env x = pure x := by intro _; rfl) : PS X (.Assign [.Name y py] (.ListComp elt [⟨tg, iter, ifs, 0⟩] scope pos) spos) (tAsg (tComp own.length fre wi g tt te) (gName iy)) := by
  intro pins s σ H D I h
  rw [exec_Assign_Name_used _ _ _ _ hsw]
  refine wpAny_bind (wpAny_standAt (wpAny_bind ?_))
  show wpAny _ _ (do let _ ← comprehension (.ListComp elt [⟨tg, iter, ifs, 0⟩] scope pos) scope X.env _ (newList []) false (eval iter X.env) (some (assign (.Name y py) X.env))) _ _ s
  refine wpAny_bind (wpAny_mono (wpAny_comprehension_free (use := some (assign (.Name y py) X.env)) (Q := fun _ s' => SP X pins D .next s') rfl hs (closureFor_clos (I.clos_cells S)) S.kind S.locs
    (thn (hi pins s σ H _ I h) fun v s1 h1 => thn h1 fun itv s2 h2 => ?_)) (fun _ s' hq => wpAny_pure (wpAny_pure hq)) fun _ _ e => e)
  obtain ⟨it, fp, tn, J, H2, e, I2, T, st2, f2, turns⟩ := h2
  subst e
  refine comp_block (RR := fun acc C => compPost (model X.prog X.w) X.A X.xe (some (assign (.Name y py) X.env)) (fun _ s' => SP X pins D .next s') acc C) hc S I2 T st2 f2 hg ht he turns ?_
  intro D' C s' H' ys its m hD hC hDC Io nD nC oD nsC rv hlen fin
  have J2 := Io.track (o := .lst ys) (I2.fpOk hD nD) ⟨hlen, its, _, rv, oD⟩
  have fC : FpOk X pins (upd H' D' (.lst ys)) C := I2.fpOk hC (by rw [upd_ne (Ne.symm hDC)]; exact nC)
  show wpAny _ _ (assign (.Name y py) X.env (.ref D')) _ _ _
  refine wpAny_assign_Name (store_ok2 (v := .ref D') J2 hN hi' (.inl hy) rfl (fun s5 I5 ⟨a, sb, ha⟩ => ?_) (.inr hy))
  have hCa : C ≠ a := by
    rcases ha with z | z
    · rw [z]; exact fC.2.1
    · exact Ne.symm (fC.2.2.2.2.1 _ _ z)
  refine ⟨m, nsC.sameBut sb hCa, fun h' hs' => ?_⟩
  have J3 : Inv X pins (σ.set iy (some (.ref D'))) (upd H' D' (.lst ys)) { s5 with heap := h', toks := s5.toks } := I5.chg (ch := [C]) (fun b hb => by
    have e : b = C := by simpa using hb
    rw [e]; exact fC) fun b o hb e => hs'.extBut _ _ (by simpa using hb) e
  exact ⟨_, _, J3, fin D' nD⟩
end
end L2

namespace L2
open PySem PySem.Spec PyProof.Rows

/-! ### E. isinstance over the built-in kinds -/
/-- kind t is kind T, or below it -/
def isTy (t T : String) : Bool := t == T || (t == "bool" && T == "int")
def kinds : List String := ["NoneType", "bool", "int", "str", "list", "tuple", "dict"]
theorem kit_kinds (K : PySem.W.Frag) : ∀ t ∈ kinds, ∀ T ∈ ["bool", "int", "str", "list", "tuple", "dict"], PySem.W.kitOne K (.type t) (.type T) = some (isTy t T) := by
  intro t ht T hT
  simp only [kinds, List.mem_cons, List.not_mem_nil, or_false] at ht hT
  rcases ht with rfl | rfl | rfl | rfl | rfl | rfl | rfl <;> rcases hT with rfl | rfl | rfl | rfl | rfl | rfl <;> first | rfl | kernel_rfl
/-- the kind of a value -/
def Knd (K : PySem.W.Frag) (H : Hp) (x : V) (t : String) : Prop := TyOf K H x (.type t) ∧ t ∈ kinds
section
variable {X : Cx} {pins : List (Addr × Obj)} {σ : St} {H : Hp} {s : Shared} {A : Around} {E : Value → Shared → Prop} {Q : Value → Shared → Prop}
theorem isinst_tup {x : V} {u : Value} {t : String} {tp : Addr} {dd : Option Addr} {its : List Value} {n : Nat} {sl : Array (Option Value)} {b : Bool} (I : Inv X pins σ H s) (rx : RelV x u) (k : Knd X.K H x t)
    (htp : s.heap.get? tp = some ⟨.type "tuple", dd, .seq its.toArray n, sl⟩) (e : PySem.W.kitAny X.K (.type t) its = some b) (h : ∀ tk, Q (.bool b) { s with toks := tk }) :
    wpAny (model X.prog X.w) A (call (.builtin "isinstance") [u, .ref tp]) Q E s := by
  obtain ⟨ty, hk⟩ := k
  cases ty with
  | non => cases (show u = Value.none from rx); exact PySem.W.kia_tup PySem.W.kitx_none I.kIn True.intro htp e (fun z => nomatch z) h
  | bl y => cases (show u = Value.bool y from rx); exact PySem.W.kia_tup PySem.W.kitx_bool I.kIn True.intro htp e (fun z => nomatch z) h
  | int i => obtain ⟨t, q⟩ := (show ∃ t, u = Value.int i t from rx); cases q; exact PySem.W.kia_tup PySem.W.kitx_int I.kIn True.intro htp e (fun z => nomatch z) h
  | str y => obtain ⟨t, q⟩ := (show ∃ t, u = Value.str y t from rx); cases q; exact PySem.W.kia_tup PySem.W.kitx_str I.kIn True.intro htp e (fun z => nomatch z) h
  | flt y => exact absurd hk (by decide)
  | @lst a xs ea =>
    cases (show u = Value.ref a from rx)
    obtain ⟨_, _, n, _, h1⟩ := (show ObjOk X.prog X.w H s.heap a (.lst xs) from I.hok a _ ea)
    exact PySem.W.kia_tup PySem.W.kitx_list I.kIn ⟨_, h1, rfl⟩ htp e (fun z => nomatch z) h
  | @frz a ob xs ea =>
    cases (show u = Value.ref a from rx)
    obtain ⟨_, _, _, n, _, h1⟩ := (show ObjOk X.prog X.w H s.heap a (.frz ob (.lst xs)) from I.hok a _ ea)
    exact PySem.W.kia_tup PySem.W.kitx_list I.kIn ⟨_, h1, rfl⟩ htp e (fun z => nomatch z) h
  | @tup a xs ea =>
    cases (show u = Value.ref a from rx)
    obtain ⟨_, _, _, p⟩ := (show ObjOk X.prog X.w H s.heap a (.tup xs) from I.hok a _ ea)
    obtain ⟨o, h1, h2, _⟩ := p
    exact PySem.W.kia_tup PySem.W.kitx_tuple I.kIn ⟨o, h1, h2⟩ htp e (fun z => nomatch z) h
  | @dK a kvs ea =>
    cases (show u = Value.ref a from rx)
    obtain ⟨_, _, vs, _, p⟩ := (show ObjOk X.prog X.w H s.heap a (.dK kvs) from I.hok a _ ea)
    obtain ⟨o, es, ep, h1, h2, _⟩ := p
    exact PySem.W.kia_tup PySem.W.kitx_dict I.kIn ⟨o, h1, h2.1⟩ htp e (fun z => nomatch z) h
  | @dT a kvs ea =>
    cases (show u = Value.ref a from rx)
    obtain ⟨_, _, xs, _, o, es, ep, h1, h2, _⟩ := (show ObjOk X.prog X.w H s.heap a (.dT kvs) from I.hok a _ ea)
    exact PySem.W.kia_tup PySem.W.kitx_dict I.kIn ⟨o, h1, h2.1⟩ htp e (fun z => nomatch z) h
end
theorem kitAny_kinds (K : PySem.W.Frag) {t : String} (ht : t ∈ kinds) : ∀ (Ts : List String), (∀ T ∈ Ts, T ∈ ["bool", "int", "str", "list", "tuple", "dict"]) → PySem.W.kitAny K (.type t) (Ts.map Value.type) = some (Ts.any (isTy t))
  | [], _ => rfl
  | T :: r, h => by
    show (match PySem.W.kitOne K (.type t) (.type T) with
      | some true => some true
      | some false => PySem.W.kitAny K (.type t) (r.map Value.type)
      | none => none) = _
    rw [kit_kinds K t ht T (h T List.mem_cons_self), List.any_cons]
    cases isTy t T with
    | true => rfl
    | false => exact kitAny_kinds K ht r fun T' hT' => h T' (List.mem_cons_of_mem _ hT')
theorem vals_ty : ∀ {Ts : List String} {us : List Value}, Vals (Ts.map V.ty) us → us = Ts.map Value.type
  | [], _, .nil => rfl
  | T :: r, _, .cons h t => by
    have e := vals_ty (Ts := r) t
    cases (show _ = Value.type T from h)
    rw [e]; rfl
section
variable {X : Cx}
/-- isinstance(x, T) -/
def rIsi (K : PySem.W.Frag) : List V → Hp → VK → Prop := fun xs H Q => ∃ x T t, xs = [x, .ty T] ∧ Knd K H x t ∧ T ∈ ["bool", "int", "str", "list", "tuple", "dict"] ∧ Q (.bl (isTy t T)) H
theorem call_isi : CallR X (.builtin "isinstance") (rIsi X.K) := by
  intro pins s σ H xs us Q I r h
  obtain ⟨x, T, t, rfl, k, hT, q⟩ := h
  obtain ⟨u1, u2, rfl, r1, r2⟩ := vals2 r
  cases (show u2 = Value.type T from r2)
  exact isinst_ok I r1 k.1 (kit_kinds X.K t k.2 T hT) fun tk => ⟨.bl _, H, I.tok _, rfl, q⟩
/-- isinstance(x, (T, U)) -/
def rIsiT (K : PySem.W.Frag) : List V → Hp → VK → Prop := fun xs H Q => ∃ (x : V) (p : Addr) (Ts : List String) (t : String), xs = [x, .ref p] ∧ SqT K H p (Ts.map V.ty) ∧ Knd K H x t ∧ (∀ T ∈ Ts, T ∈ ["bool", "int", "str", "list", "tuple", "dict"]) ∧ Q (.bl (Ts.any (isTy t))) H
theorem call_isiT : CallR X (.builtin "isinstance") (rIsiT X.K) := by
  intro pins s σ H xs us Q I r h
  obtain ⟨x, p, Ts, t, rfl, hp, k, hT, q⟩ := h
  obtain ⟨u1, u2, rfl, r1, r2⟩ := vals2 r
  cases (show u2 = Value.ref p from r2)
  obtain ⟨its, rv, ⟨o, ho, hc, n, hd⟩, _⟩ := I.tuple hp
  have e := vals_ty rv
  subst e
  obtain ⟨c, d, dt, sl⟩ := o
  cases (show c = _ from hc)
  cases (show dt = _ from hd)
  exact isinst_tup I r1 k ho (kitAny_kinds X.K k.2 Ts hT) fun tk => ⟨.bl _, H, I.tok _, rfl, q⟩

/-! ### all(list of bools) -/
def rAll (K : PySem.W.Frag) : List V → Hp → VK → Prop := fun xs H Q => ∃ (p : Addr) (bs : List Bool), xs = [.ref p] ∧ SqL K H p (bs.map V.bl) ∧ Q (.bl (bs.all id)) H
theorem vals_bl : ∀ {bs : List Bool} {us : List Value}, Vals (bs.map V.bl) us → us = bs.map Value.bool
  | [], _, .nil => rfl
  | T :: r, _, .cons h t => by
    have e := vals_bl (bs := r) t
    cases (show _ = Value.bool T from h)
    rw [e]; rfl
theorem range_all (bs : List Bool) : (List.range bs.length).all (fun i => bs.getD i true) = bs.all id := by
  induction bs with
  | nil => rfl
  | cons b r ih =>
    rw [List.length_cons, List.range_succ_eq_map, List.all_cons, List.all_map, List.all_cons]
    show (b && (List.range r.length).all _) = _
    rw [← ih]; rfl
theorem call_allL (hc : X.calm = true) : CallR X (.builtin "all") (rAll X.K) := by
  intro pins s σ H xs us Q I r h
  obtain ⟨p, bs, rfl, hp, q⟩ := h
  obtain ⟨u1, rfl, r1⟩ := vals1 r
  cases (show u1 = Value.ref p from r1)
  obtain ⟨its, rv, pl, hz⟩ := I.list hp
  have e := vals_bl rv
  subst e
  have hlt : p < s.heap.objs.size := by obtain ⟨_, e, _⟩ := pl.isList; exact Heap.lt_size e
  refine call_all_walk (wpAny_pyIter_list pl.isList ?_)
  refine ⟨s.heap.objs.size, _, _, _, _, _, fun i => bs.getD i true, rfl, Walks.list (A := X.A.in1) (show X.A.in1.handled = none from I.ok.hd hc) _ p (Nat.ne_of_lt hlt) (bs.map Value.bool).toArray, ⟨⟨_, Heap.get?_push_size _ rfl, rfl, rfl⟩, pl.isList.push _⟩, ?_, fun h' tk hk => ?_⟩
  · intro i v A' Q' E' hv hq
    have hv' : (bs.map Value.bool)[i]? = some v := by simpa using hv
    rw [List.getElem?_map] at hv'
    cases e : bs[i]? with
    | none => rw [e] at hv'; cases hv'
    | some b =>
      rw [e] at hv'
      cases hv'
      refine wpAny_truthy_bool ?_
      have : bs.getD i true = b := by rw [List.getD_eq_getElem?_getD, e]; rfl
      replace hq : Q' (bs.getD i true) A' := hq
      rw [this] at hq
      exact hq
  · have e : (List.range (bs.map Value.bool).toArray.size).all (fun i => bs.getD i true) = bs.all id := by
      rw [List.size_toArray, List.length_map]
      exact range_all bs
    rw [e]
    refine ⟨.bl _, H, I.kept (t' := tk) fun b o e => hk b o (fun z => ?_) (Heap.get?_push_of_some _ e), rfl, q⟩
    have z' : b = s.heap.objs.size := by simpa using z
    exact absurd (Heap.lt_size e) (by rw [z']; exact Nat.lt_irrefl _)
end
end L2

namespace L2
open PySem PySem.Spec PyProof.Rows

/-! ### F. defs of the text by their names; a cut between two statements -/
/-- the def called x, with its promise -/
def Cal (P : Program) (w : World) (K : PySem.W.Frag) (mg : Str → Option Value) (base : Heap) (x : Str) (k : Nat) (ps : List Str) (sp : Sp) : Prop :=
  ∃ (f : Addr) (fd : FuncData), FnOk P w K mg base CX0 k f fd ps sp ∧ mg x = some (.ref f) ∧ PySem.W.keepIn K (.ref f) = true ∧ Binds K fd ps []
theorem Cal.mono {P : Program} {w : World} {K : PySem.W.Frag} {mg : Str → Option Value} {base : Heap} {x : Str} {j k : Nat} {ps : List Str} {sp : Sp} (c : Cal P w K mg base x j ps sp) (h : j ≤ k) : Cal P w K mg base x k ps sp := by
  obtain ⟨f, fd, F, a, b, d⟩ := c
  exact ⟨f, fd, F.mono h, a, b, d⟩
section
variable {X : Cx} {k : Nat} {ps : List Str} {sp : Sp} {x : Str} {p pos : Pos} {e : Expr} {es : List Expr} {t : TA} {st : Stmt} {rest : List Stmt} {t1 u1 : TS}
theorem pe_callC (c : Cal X.prog X.w X.K X.mg X.base x k ps sp) (hr : Room k X.A) (hg : Gl X x) (ha : PA X (e :: es) t) (hdb : (x == ("__debug__" : Str)) = false := by decide) (he : starEach (e :: es) X.env = (false, eval e X.env) :: starEach es X.env := by rfl) (hpl : (backTo pos (starEach es X.env)).any (·.1) = false := by rfl) :
    PE X (.Call (.Name x p) (e :: es) [] pos) (tCall sp [] E0 t) := by
  obtain ⟨f, fd, F, hm, hk, hb⟩ := c
  exact pe_call F hr hg hm hk hb .nil pass0 ha hdb he hpl
def tCut (t u : TS) : TS := fun D σ H => ∃ mid : St → Hp → Prop, t { D with nx := mid } σ H ∧ ∀ σ' H', mid σ' H' → u D σ' H'
theorem pss_cut (h1 : PS X st t1) (h2 : PSs X rest u1) : PSs X (st :: rest) (tCut t1 u1) := by
  intro pins s σ H D I h
  obtain ⟨mid, h, hm⟩ := h
  refine wpAny_execs_cons (thn (h1 pins s σ H { D with nx := mid } I h) fun f s1 q => ?_)
  cases f with
  | next =>
    obtain ⟨σ', H', I', q⟩ := q
    exact h2 pins s1 σ' H' D I' (hm _ _ q)
  | ret v => exact q
  | brk => exact q
  | cont => exact q
end

/-! ### G. data as it lies in the heap -/
inductive Dt where
  | int (i : Int) | bl (b : Bool) | str (x : Str) | non | lst (xs : List Dt) | tup (xs : List Dt)
mutual
inductive Rep (H : Hp) : V → Dt → Prop where
  | int (i : Int) : Rep H (.int i) (.int i)
  | bl (b : Bool) : Rep H (.bl b) (.bl b)
  | str (x : Str) : Rep H (.str x) (.str x)
  | non : Rep H .non .non
  | lst {a : Addr} {vs : List V} {ds : List Dt} : H a = some (.lst vs) → Reps H vs ds → Rep H (.ref a) (.lst ds)
  | tup {a : Addr} {vs : List V} {ds : List Dt} : H a = some (.tup vs) → Reps H vs ds → Rep H (.ref a) (.tup ds)
inductive Reps (H : Hp) : List V → List Dt → Prop where
  | nil : Reps H [] []
  | cons {v : V} {d : Dt} {vs : List V} {ds : List Dt} : Rep H v d → Reps H vs ds → Reps H (v :: vs) (d :: ds)
end
theorem Reps.length {H : Hp} : ∀ {vs : List V} {ds : List Dt}, Reps H vs ds → vs.length = ds.length
  | _, _, .nil => rfl
  | _, _, .cons _ t => by rw [List.length_cons, List.length_cons, Reps.length t]
theorem Reps.get {H : Hp} : ∀ {vs : List V} {ds : List Dt} {i : Nat} {v : V}, Reps H vs ds → vs[i]? = some v → ∃ d, ds[i]? = some d ∧ Rep H v d
  | _, _, _, _, .nil, e => by simp at e
  | _, _, 0, _, .cons r _, e => by simp at e; subst e; exact ⟨_, rfl, r⟩
  | _, _, i + 1, v, .cons _ t, e => by
    obtain ⟨d, h1, h2⟩ := Reps.get (i := i) (v := v) t (by simpa using e)
    exact ⟨d, by simpa using h1, h2⟩
theorem Rep.mono {H H' : Hp} (s : Same H H') {v : V} {d : Dt} (h : Rep H v d) : Rep H' v d :=
  Rep.rec (motive_1 := fun v d _ => Rep H' v d) (motive_2 := fun vs ds _ => Reps H' vs ds) (fun i => .int i) (fun b => .bl b) (fun x => .str x) .non (fun e _ ih => .lst (s _ _ e) ih) (fun e _ ih => .tup (s _ _ e) ih) .nil (fun _ _ ih1 ih2 => .cons ih1 ih2) h
theorem Reps.mono {H H' : Hp} (s : Same H H') : ∀ {vs : List V} {ds : List Dt}, Reps H vs ds → Reps H' vs ds
  | _, _, .nil => .nil
  | _, _, .cons r t => .cons (Rep.mono s r) (Reps.mono s t)
mutual
def Dt.depth : Dt → Nat
  | .lst xs => depths xs + 1
  | .tup xs => depths xs + 1
  | _ => 0
def depths : List Dt → Nat
  | [] => 0
  | d :: r => max d.depth (depths r)
end
mutual
def Dt.wide : Dt → Nat
  | .lst xs => max xs.length (wides xs)
  | .tup xs => max xs.length (wides xs)
  | _ => 0
def wides : List Dt → Nat
  | [] => 0
  | d :: r => max d.wide (wides r)
end
theorem wide_le : ∀ {ds : List Dt} {i : Nat} {d : Dt}, ds[i]? = some d → d.wide ≤ wides ds
  | [], _, _, e => by simp at e
  | x :: r, 0, d, e => by simp at e; subst e; exact Nat.le_max_left _ _
  | x :: r, i + 1, d, e => Nat.le_trans (wide_le (ds := r) (i := i) (by simpa using e)) (Nat.le_max_right _ _)
theorem depth_le : ∀ {ds : List Dt} {i : Nat} {d : Dt}, ds[i]? = some d → d.depth ≤ depths ds
  | [], _, _, e => by simp at e
  | x :: r, 0, d, e => by simp at e; subst e; exact Nat.le_max_left _ _
  | x :: r, i + 1, d, e => Nat.le_trans (depth_le (ds := r) (i := i) (by simpa using e)) (Nat.le_max_right _ _)
end L2

namespace L2
open PySem PySem.Spec PyProof.Rows
/-! ### H. the built-in names that the text does not bind -/
theorem bb_len : bootBuiltins "len" = some (.builtin "len") := by decide +kernel
theorem bb_abs : bootBuiltins "abs" = some (.builtin "abs") := by decide +kernel
theorem bb_all : bootBuiltins "all" = some (.builtin "all") := by decide +kernel
theorem bb_isinstance : bootBuiltins "isinstance" = some (.builtin "isinstance") := by decide +kernel
theorem bb_sorted : bootBuiltins "sorted" = some (.builtin "sorted") := by decide +kernel
theorem bb_list : bootBuiltins "list" = some (.type "list") := by decide +kernel
theorem bb_tuple : bootBuiltins "tuple" = some (.type "tuple") := by decide +kernel
theorem bb_bool : bootBuiltins "bool" = some (.type "bool") := by decide +kernel
theorem bb_int : bootBuiltins "int" = some (.type "int") := by decide +kernel
theorem bb_str : bootBuiltins "str" = some (.type "str") := by decide +kernel
theorem bb_set : bootBuiltins "set" = some (.type "set") := by decide +kernel
structure Blt (mg : Str → Option Value) : Prop where
  z_len : mg "len" = none
  z_abs : mg "abs" = none
  z_all : mg "all" = none
  z_isinstance : mg "isinstance" = none
  z_zip : mg "zip" = none
  z_list : mg "list" = none
  z_tuple : mg "tuple" = none
  z_bool : mg "bool" = none
  z_int : mg "int" = none
  z_str : mg "str" = none
  z_range : mg "range" = none
  z_sorted : mg "sorted" = none
  z_set : mg "set" = none

/-! ### heaps -/
theorem same_upd {H : Hp} {p : Addr} {o : HO} (h : H p = none) : Same H (upd H p o) := fun b u e => by rw [upd_ne (ne_of_none e h)]; exact e
/-- all but d is as it was -/
def But (d : Addr) (H H' : Hp) : Prop := ∀ b o, b ≠ d → H b = some o → H' b = some o
theorem But.refl {d : Addr} {H : Hp} : But d H H := fun _ _ _ e => e
theorem But.trans {d : Addr} {H H1 H2 : Hp} (a : But d H H1) (b : But d H1 H2) : But d H H2 := fun c o n e => b c o n (a c o n e)
theorem Same.but {d : Addr} {H H' : Hp} (a : Same H H') : But d H H' := fun c o _ e => a c o e
theorem but_upd {d : Addr} {H : Hp} {o : HO} : But d H (upd H d o) := fun b u n e => by rw [upd_ne n]; exact e

/-! ### the draws -/
/-- the drawing list at d: the script's cells, the place, the rest, the seed -/
def DrawAt (H : Hp) (d : Addr) : Prop := ∃ (c : Addr) (ns : List Int) (a : Nat) (r e : Int), H d = some (.lst [.ref c, .int a, .int r, .int e]) ∧ H c = some (.lst (ns.map V.int)) ∧ 0 ≤ r ∧ 0 ≤ e
theorem DrawAt.same {H H' : Hp} {d : Addr} (s : Same H H') (h : DrawAt H d) : DrawAt H' d := by
  obtain ⟨c, ns, a, r, e, h1, h2, h3, h4⟩ := h
  exact ⟨c, ns, a, r, e, s _ _ h1, s _ _ h2, h3, h4⟩
theorem draw_ne {H : Hp} {c d : Addr} {ns : List Int} {a : Nat} {r e : Int} (h1 : H d = some (.lst [.ref c, .int a, .int r, .int e])) (h2 : H c = some (.lst (ns.map V.int))) : c ≠ d := by
  intro z
  subst z
  rw [h1] at h2
  have q := Option.some.inj h2
  injection q with q
  cases ns with
  | nil => cases q
  | cons n r => injection q with q _; cases q
/-- behind a store into the drawing list -/
theorem DrawAt.put {H : Hp} {c d : Addr} {ns : List Int} {a : Nat} {r e : Int} {o : HO} (h1 : H d = some o) (h2 : H c = some (.lst (ns.map V.int))) (hn : c ≠ d) (hr : 0 ≤ r) (he : 0 ≤ e) : DrawAt (upd H d (.lst [.ref c, .int a, .int r, .int e])) d :=
  ⟨c, ns, a, r, e, upd_same, by rw [upd_ne hn]; exact h2, hr, he⟩
/-- same: two that are alike -/
def spSame (n : Nat) : Sp := fun vs H Q _ => ∃ f u dd, vs = [f, u] ∧ Rep H f dd ∧ Rep H u dd ∧ dd.depth ≤ n ∧ dd.wide ≤ 1000 ∧ ∀ H', Same H H' → Q (.bl true) H'
end L2

namespace L2
open PySem PySem.Spec PyProof.Rows
/-! ### S. steps of a reading, one a rule -/
section
variable {σ : St} {H : Hp} {Q : VK} {R : Bool → Hp → Prop} {D : Ends} {K : PySem.W.Frag}
theorem i_var {i : Nat} {v : V} (h : σ[i]? = some (some v)) (q : Q v H) : tVar i σ H Q := ⟨v, h, q⟩
theorem i_tC {v : V} (q : Q v H) : tC v σ H Q := q
theorem i_op {r : R2} {ta tb : TE} (q : ta σ H fun x H1 => tb σ H1 fun y H2 => r x y H2 Q) : tOp r ta tb σ H Q := q
theorem i_un {r : V → Hp → VK → Prop} {ta : TE} (q : ta σ H fun x H1 => r x H1 Q) : tUn r ta σ H Q := q
theorem i_rI0 {g : Int → Int → V} {i j : Int} (q : Q (g i j) H) : rI0 g (.int i) (.int j) H Q := ⟨i, j, rfl, rfl, q⟩
theorem i_rI {C : Int → Int → Prop} {g : Int → Int → V} {i j : Int} (c : C i j) (q : Q (g i j) H) : rI C g (.int i) (.int j) H Q := ⟨i, j, rfl, rfl, c, q⟩
theorem i_rU {g : Int → V} {i : Int} (q : Q (g i) H) : rU g (.int i) H Q := ⟨i, rfl, q⟩
theorem i_rEq {x y : V} (s : scal x y = true) (q : Q (.bl (decide (x = y))) H) : rEq x y H Q := ⟨s, q⟩
theorem i_rNe {x y : V} (s : scal x y = true) (q : Q (.bl (!decide (x = y))) H) : rNe x y H Q := ⟨s, q⟩
theorem i_test {t : TE} (q : t σ H fun x H' => ∃ k, x = .bl k ∧ R k H') : tTest t σ H R := q
theorem i_tB {t : TE} (q : t σ H fun x H' => ∃ k, x = .bl k ∧ R k H') : tB t σ H R := q
theorem i_bl {k : Bool} {P : Bool → Prop} (q : P k) : ∃ k', V.bl k = .bl k' ∧ P k' := ⟨k, rfl, q⟩
theorem i_and {t u : TT} (q : t σ H fun c H1 => if c = true then u σ H1 R else R false H1) : tAnd t u σ H R := q
theorem i_or {t u : TT} (q : t σ H fun c H1 => if c = true then R true H1 else u σ H1 R) : tOr t u σ H R := q
theorem i_not {t : TT} (q : t σ H fun c H1 => R (!c) H1) : tNot t σ H R := q
theorem i_andV {ta tb : TE} (q : ta σ H fun x H1 => ∃ c, x = .bl c ∧ if c = true then tb σ H1 Q else Q (.bl false) H1) : tAndV ta tb σ H Q := q
theorem i_orV {ta tb : TE} (q : ta σ H fun x H1 => ∃ c, x = .bl c ∧ if c = true then Q (.bl true) H1 else tb σ H1 Q) : tOrV ta tb σ H Q := q
theorem i_notV {ta : TE} (q : ta σ H fun x H1 => ∃ c, x = .bl c ∧ Q (.bl (!c)) H1) : tNotV ta σ H Q := q
theorem i_isN {ta : TE} (q : ta σ H fun x H1 => Q (.bl (decide (x = .non))) H1) : tIsN ta σ H Q := q
theorem i_notN {ta : TE} (q : ta σ H fun x H1 => Q (.bl (!decide (x = .non))) H1) : tNotN ta σ H Q := q
theorem i_ifE {t : TT} {ta tb : TE} (q : t σ H fun c H1 => if c = true then ta σ H1 Q else tb σ H1 Q) : tIf t ta tb σ H Q := q
theorem i_seq {t u : TS} (q : t { D with nx := u D } σ H) : tSeq t u D σ H := q
theorem i_asg {te : TE} {g : TG} (q : te σ H fun x H1 => g x σ H1 D.nx) : tAsg te g D σ H := q
theorem i_name {i : Nat} {v : V} {N : St → Hp → Prop} (q : N (σ.set i (some v)) H) : gName i v σ H N := q
theorem i_ret {te : TE} (q : te σ H D.rt) : tRet te D σ H := q
theorem i_if {c : TT} {t u : TS} (q : c σ H fun b H1 => if b = true then t D σ H1 else u D σ H1) : tIfS c t u D σ H := q
theorem i_next (q : D.nx σ H) : tNext D σ H := q
theorem i_drop {te : TE} (q : te σ H fun _ H1 => D.nx σ H1) : tDrop te D σ H := q
theorem i_cons {ta : TE} {tr : TA} {N : List V → Hp → Prop} (q : ta σ H fun x H1 => tr σ H1 fun xs H2 => N (x :: xs) H2) : tCons ta tr σ H N := q
theorem i_nil {N : List V → Hp → Prop} (q : N [] H) : tNil σ H N := q
theorem i_cb {r : List V → Hp → VK → Prop} {t : TA} (q : t σ H fun vs H1 => r vs H1 Q) : tCB r t σ H Q := q
theorem i_call {sp : Sp} {E : XK} {t : TA} (q : t σ H fun vs H1 => sp (vs ++ []) H1 Q E) : tCall sp [] E t σ H Q := q
theorem i_tup {t : TA} (q : t σ H fun xs H1 => xs.length ≤ sizeLine ∧ ∀ p, H1 p = none → Q (.ref p) (upd H1 p (.tup xs))) : tTup t σ H Q := q
theorem i_lst {t : TA} (q : t σ H fun xs H1 => xs.length ≤ sizeLine ∧ ∀ p, H1 p = none → Q (.ref p) (upd H1 p (.lst xs))) : tLst t σ H Q := q
theorem i_ixL {p : Addr} {xs : List V} {i : Int} {v : V} (h : SqL K H p xs) (e : atI xs i = some v) (q : Q v H) : rIxL K (.ref p) (.int i) H Q := ⟨p, xs, i, v, rfl, rfl, h, e, q⟩
theorem i_ixT {p : Addr} {xs : List V} {i : Int} {v : V} (h : SqT K H p xs) (e : atI xs i = some v) (q : Q v H) : rIxT K (.ref p) (.int i) H Q := ⟨p, xs, i, v, rfl, rfl, h, e, q⟩
theorem i_gsub {to ti : TE} {t : TSet} {v : V} {N : St → Hp → Prop} (q : to σ H fun o H1 => ti σ H1 fun i H2 => t o i v H2 fun H3 => N σ H3) : gSub to ti t v σ H N := q
theorem i_setL {p : Addr} {xs : List V} {k : Int} {j : Nat} {v : V} {N : Hp → Prop} (h : H p = some (.lst xs)) (e : ixN xs.length k = some j) (q : N (upd H p (.lst (xs.set j v)))) : rSetL (.ref p) (.int k) v H N := ⟨p, xs, k, j, rfl, rfl, h, e, q⟩
theorem i_gtup {n : Nat} {t : TGs} {a : Addr} {xs : List V} {N : St → Hp → Prop} (h : SqT K H a xs) (l : xs.length = n) (q : t xs σ H N) : gTup K n t (.ref a) σ H N := ⟨a, xs, rfl, h, l, q⟩
theorem i_gcons {t : TG} {u : TGs} {v : V} {r : List V} {N : St → Hp → Prop} (q : t v σ H fun σ' H' => u r σ' H' N) : gCons t u (v :: r) σ H N := ⟨v, r, rfl, q⟩
theorem i_gnil {N : St → Hp → Prop} (q : N σ H) : gNil [] σ H N := ⟨rfl, q⟩
theorem i_yes (q : R true H) : tYes σ H R := q
theorem i_slice {r : V → Option Int → Option Int → Hp → VK → Prop} {te : TE} {tl th : TO} (q : te σ H fun x H1 => tl σ H1 fun l H2 => th σ H2 fun u H3 => r x l u H3 Q) : tSl r te tl th σ H Q := q
theorem i_nopart {N : Option Int → Hp → Prop} (q : N none H) : tNoPart σ H N := q
theorem i_part {t : TE} {N : Option Int → Hp → Prop} (q : t σ H fun x H1 => ∃ i, x = .int i ∧ N (some i) H1) : tPart t σ H N := q
theorem i_int {i : Int} {P : Int → Prop} (q : P i) : ∃ j, V.int i = .int j ∧ P j := ⟨i, rfl, q⟩
theorem i_slL {a : Addr} {xs : List V} {lo hi : Option Int} (h : SqL K H a xs) (q : ∀ p, H p = none → Q (.ref p) (upd H p (.lst (cutV xs lo hi)))) : rSlL K (.ref a) lo hi H Q := ⟨a, xs, rfl, h, q⟩
theorem i_comp {n : Nat} {fre : List (Nat × Str)} {wi : TI} {g : TG} {tt : TT} {te : TE} (q : wi σ H fun J H1 => CompT J g tt te (fun ys H' => ∀ D, H' D = none → Q (.ref D) (upd H' D (.lst ys))) (startC n fre σ) H1) : tComp n fre wi g tt te σ H Q := q
theorem i_zip {ta : TA} {N : It → Hp → Prop} (q : ta σ H fun vs H1 => ∃ a b, vs = [.ref a, .ref b] ∧
  ((∃ xs ys, SqL K H1 a xs ∧ SqL K H1 b ys ∧ N (Itz (fun H xs => SqL K H a xs) (fun H ys => SqL K H b ys)) H1) ∨
   (∃ xs ys, SqT K H1 a xs ∧ SqT K H1 b ys ∧ N (Itz (fun H xs => SqT K H a xs) (fun H ys => SqT K H b ys)) H1))) : iZip K ta σ H N := q
theorem i_itL {tl : TE} {N : It → Hp → Prop} (q : tl σ H fun x H1 => ∃ a, x = .ref a ∧ (∃ xs, SqL K H1 a xs) ∧ N (Itl K a) H1) : iList K tl σ H N := q
theorem i_itT {tl : TE} {N : It → Hp → Prop} (q : tl σ H fun x H1 => ∃ a, x = .ref a ∧ (∃ xs, SqT K H1 a xs) ∧ N (Itt K a) H1) : iTup K tl σ H N := q
theorem i_rng1 {ta : TA} {N : It → Hp → Prop} (q : ta σ H fun vs H1 => ∃ j : Int, vs = [.int j] ∧ -(2 ^ 62) ≤ j ∧ j < 2 ^ 62 ∧ N (Itr 0 j.toNat) H1) : iRng1 ta σ H N := q
/-! named readings of calls -/
def rLen (K : PySem.W.Frag) : List V → Hp → VK → Prop := fun xs H Q => ∃ p ys, xs = [.ref p] ∧ (SqL K H p ys ∨ SqT K H p ys) ∧ Q (.int ys.length) H
def rAbs : List V → Hp → VK → Prop := fun xs H Q => ∃ i, xs = [.int i] ∧ Q (.int (if i < 0 then -i else i)) H
def rListOf (K : PySem.W.Frag) : List V → Hp → VK → Prop := fun xs H Q => ∃ p ys, xs = [.ref p] ∧ (SqL K H p ys ∨ SqT K H p ys) ∧ ∀ l, H l = none → Q (.ref l) (upd H l (.lst ys))
theorem i_len {p : Addr} {ys : List V} (h : SqL K H p ys) (q : Q (.int ys.length) H) : rLen K [.ref p] H Q := ⟨p, ys, rfl, .inl h, q⟩
theorem i_lenT {p : Addr} {ys : List V} (h : SqT K H p ys) (q : Q (.int ys.length) H) : rLen K [.ref p] H Q := ⟨p, ys, rfl, .inr h, q⟩
theorem i_abs {i : Int} (q : Q (.int (if i < 0 then -i else i)) H) : rAbs [.int i] H Q := ⟨i, rfl, q⟩
theorem i_list {p : Addr} {ys : List V} (h : SqL K H p ys) (q : ∀ l, H l = none → Q (.ref l) (upd H l (.lst ys))) : rListOf K [.ref p] H Q := ⟨p, ys, rfl, .inl h, q⟩
theorem i_isi {x : V} {T t : String} (k : Knd K H x t) (hT : T ∈ ["bool", "int", "str", "list", "tuple", "dict"]) (q : Q (.bl (isTy t T)) H) : rIsi K [x, .ty T] H Q := ⟨x, T, t, rfl, k, hT, q⟩
end
section
variable {X : Cx}
theorem call_absR : CallR X (.builtin "abs") rAbs := call_abs
end
/-! the rules that read sequences, the written part named -/
section
variable {X : Cx} {K : PySem.W.Frag}
theorem ixL (h : X.K = K) : IxR X (rIxL K) := by subst h; exact ix_list
theorem ixT (h : X.K = K) : IxR X (rIxT K) := by subst h; exact ix_tup
theorem slL (h : X.K = K) : SlR X (rSlL K) := by subst h; exact sl_list
theorem cLen (h : X.K = K) : CallR X (.builtin "len") (rLen K) := by subst h; exact call_len_seq
theorem cList (h : X.K = K) : CallR X (.type "list") (rListOf K) := by subst h; exact call_list_of
theorem cIsi (h : X.K = K) : CallR X (.builtin "isinstance") (rIsi K) := by subst h; exact call_isi
theorem cIsiT (h : X.K = K) : CallR X (.builtin "isinstance") (rIsiT K) := by subst h; exact call_isiT
theorem cAll (h : X.K = K) (hc : X.calm = true) : CallR X (.builtin "all") (rAll K) := by subst h; exact call_allL hc
theorem oIn (h : X.K = K) : OpR X (compareOp .In) (rIn K false) := by subst h; exact op_in_seq
theorem oNotIn (h : X.K = K) : OpR X (compareOp .NotIn) (rIn K true) := by subst h; exact op_notIn_seq
theorem piL {tg l : Expr} {tl : TE} (h : X.K = K) (hl : PE X l tl) : PI X tg l (iList K tl) := by subst h; exact pi_list hl
theorem piZ {es : List Expr} {kk : Nat} {tpos : Pos} {a b : Expr} {ta : TA} {p pos : Pos} (h : X.K = K) (hg : Gl X "zip") (hm : X.mg "zip" = none) (ha : PA X [a, b] ta) (hs : starEach [a, b] X.env = [(false, eval a X.env), (false, eval b X.env)] := by rfl) (hs2 : starEach [b] X.env = [(false, eval b X.env)] := by rfl) :
    PI X (.Tuple es kk tpos) (.Call (.Name "zip" p) [a, b] [] pos) (iZip K ta) := by subst h; exact pi_zip hg hm ha hs hs2
theorem pgT {es : List Expr} {k : Nat} {t : TGs} {n : Nat} {pos : Pos} (h : X.K = K) (hc : X.calm = true) (hh : PGs X es t)
    (hn : (assignEach es X.env).length = n := by rfl) (hst : (assignEach es X.env).findIdx? (·.1) = none := by rfl) : PG X (.Tuple es k pos) (gTup K n t) := by subst h; exact pg_tup hc hh hn hst
end
theorem cdivB {i j : Int} (h : 0 < j) (h2 : j.natAbs < 2 ^ 500) : CDivB i j := ⟨h, Nat.lt_trans (log2_lt_of h2 (by decide)) (by decide)⟩
end L2

namespace L2
open PySem
/-! ### T. sets of ints: the table -/
def Rise (xs : Array Nat) : Prop := xs.toList.Pairwise (· < ·)
theorem Rise.lt {xs : Array Nat} (h : Rise xs) (d : Nat) : ∀ a b, a < b → b < xs.size → xs.getD a d < xs.getD b d := fun a b hab hb => by
  have := (List.pairwise_iff_getElem.mp h) a b (by simpa using Nat.lt_trans hab hb) (by simpa using hb) hab
  simpa [Array.getD, hb, Nat.lt_trans hab hb] using this
theorem below_go {xs : Array Nat} {j : Nat} (hs : ∀ a b, a < b → b < xs.size → xs.getD a j < xs.getD b j) : ∀ (fuel lo hi : Nat), hi - lo ≤ fuel → lo ≤ hi → hi ≤ xs.size → (∀ i, i < lo → xs.getD i j < j) → (∀ i, hi ≤ i → i < xs.size → j ≤ xs.getD i j) →
    SetTable.below.go xs j fuel lo hi ≤ xs.size ∧ (∀ i, i < SetTable.below.go xs j fuel lo hi → xs.getD i j < j) ∧ (∀ i, SetTable.below.go xs j fuel lo hi ≤ i → i < xs.size → j ≤ xs.getD i j)
  | 0, lo, hi, hf, hl, hh, h1, h2 => by
    unfold SetTable.below.go
    exact ⟨by omega, h1, fun i a b => h2 i (by omega) b⟩
  | fuel + 1, lo, hi, hf, hl, hh, h1, h2 => by
    unfold SetTable.below.go
    by_cases hlt : lo < hi
    · rw [if_pos hlt]
      dsimp only
      by_cases hm : xs.getD ((lo + hi) / 2) j < j
      · rw [if_pos hm]
        refine below_go hs fuel _ _ (by omega) (by omega) hh (fun i hi' => ?_) h2
        by_cases e : i = (lo + hi) / 2
        · rw [e]; exact hm
        · exact Nat.lt_trans (hs i ((lo + hi) / 2) (by omega) (by omega)) hm
      · rw [if_neg hm]
        refine below_go hs fuel _ _ (by omega) (by omega) (by omega) h1 (fun i hi' hsz => ?_)
        by_cases e : i = (lo + hi) / 2
        · rw [e]; omega
        · have := hs ((lo + hi) / 2) i (by omega) hsz
          omega
    · rw [if_neg hlt]
      exact ⟨by omega, h1, fun i a b => h2 i (by omega) b⟩
theorem below_spec {xs : Array Nat} (h : Rise xs) (j : Nat) : SetTable.below xs j ≤ xs.size ∧ (∀ i, i < SetTable.below xs j → xs.getD i j < j) ∧ (∀ i, SetTable.below xs j ≤ i → i < xs.size → j ≤ xs.getD i j) := by
  unfold SetTable.below
  exact below_go (h.lt j) xs.size 0 xs.size (by omega) (Nat.zero_le _) (Nat.le_refl _) (fun i hi => absurd hi (Nat.not_lt_zero _)) (fun i a b => absurd b (by omega))
/-- the place of the first that is not below j -/
theorem below_of {xs : Array Nat} (h : Rise xs) {j k : Nat} (hk : k ≤ xs.size) (h1 : ∀ i, i < k → xs.getD i j < j) (h2 : ∀ i, k ≤ i → i < xs.size → j ≤ xs.getD i j) : SetTable.below xs j = k := by
  obtain ⟨b0, b1, b2⟩ := below_spec h j
  rcases Nat.lt_trichotomy (SetTable.below xs j) k with z | z | z
  · have := b2 _ (Nat.le_refl _) (by omega)
    have := h1 _ z
    omega
  · exact z
  · have := h2 k (Nat.le_refl _) (by omega)
    have := b1 _ z
    omega
theorem below_zero {xs : Array Nat} (h : Rise xs) : SetTable.below xs 0 = 0 := below_of h (Nat.zero_le _) (fun i hi => absurd hi (Nat.not_lt_zero _)) fun _ _ _ => Nat.zero_le _
theorem below_next {xs : Array Nat} (h : Rise xs) {i j : Nat} (e : xs[i]? = some j) : SetTable.below xs (j + 1) = i + 1 := by
  obtain ⟨hi, ej⟩ := Array.getElem?_eq_some_iff.mp e
  have g : ∀ d, xs.getD i d = j := fun d => by simp [Array.getD, hi, ej]
  refine below_of h (by omega) (fun k hk => ?_) fun k hk hs => ?_
  · rcases Nat.lt_or_ge k i with z | z
    · have := h.lt (j + 1) k i z hi
      rw [g] at this
      omega
    · have z' : k = i := by omega
      rw [z', g]; omega
  · have := h.lt (j + 1) i k (by omega) hs
    rw [g] at this
    omega
theorem put_rise {t : SetTable} {j : Nat} (h : Rise t.place) (hn : t.place[SetTable.below t.place j]? ≠ some j) : Rise (t.put j).1.place := by
  obtain ⟨b0, b1, b2⟩ := below_spec h j
  show Rise (SetTable.insertAt t.place (SetTable.below t.place j) j)
  generalize SetTable.below t.place j = p at *
  unfold Rise
  rw [SetTable.toList_insertAt]
  have hp : t.place.toList.Pairwise (· < ·) := h
  have hp' := hp
  rw [← List.take_append_drop p t.place.toList, List.pairwise_append] at hp'
  obtain ⟨q1, q2, q3⟩ := hp'
  have lo : ∀ a ∈ t.place.toList.take p, a < j := fun a ha => by
    obtain ⟨i, hi, e⟩ := List.getElem_of_mem ha
    rw [List.length_take] at hi
    rw [List.getElem_take] at e
    have := b1 i (by omega)
    have hs : i < t.place.size := by simp at hi; omega
    simp [Array.getD, hs] at this
    rw [← e]
    simpa using this
  have hi' : ∀ a ∈ t.place.toList.drop p, j < a := fun a ha => by
    obtain ⟨i, hi, e⟩ := List.getElem_of_mem ha
    rw [List.length_drop] at hi
    rw [List.getElem_drop] at e
    have hs : p + i < t.place.size := by simp at hi; omega
    have c := b2 (p + i) (by omega) hs
    simp [Array.getD, hs] at c
    have e' : t.place[p + i] = a := by simpa using e
    rw [e'] at c
    rcases Nat.lt_or_ge j a with z | z
    · exact z
    · have z' : a = j := by omega
      subst z'
      exfalso
      have hp0 : p < t.place.size := by omega
      have c0 := b2 p (Nat.le_refl _) hp0
      simp [Array.getD, hp0] at c0
      rcases Nat.eq_zero_or_pos i with i0 | i0
      · subst i0
        exact hn (by rw [Array.getElem?_eq_getElem hp0]; exact congrArg some (by simpa using e'))
      · have := h.lt 0 p (p + i) (by omega) hs
        simp [Array.getD, hs, hp0] at this
        rw [e'] at this
        omega
  rw [List.pairwise_append]
  refine ⟨q1, List.pairwise_cons.mpr ⟨hi', q2⟩, fun a ha b hb => ?_⟩
  rcases List.mem_cons.mp hb with rfl | hb
  · exact lo a ha
  · exact q3 a ha b hb
theorem probe_go {t : SetTable} {h : Int} {j : Nat} {dm : Option Nat} : ∀ (fuel : Nat) (p : SetTable.Probe), (∀ d, p.dummy = some d → t.slot d = .dummy) → SetTable.probe.go t (fun _ => h + 1) h fuel p = some (.empty j dm) →
    t.slot j = .empty ∧ ∀ d, dm = some d → t.slot d = .dummy
  | 0, p, _, e => by unfold SetTable.probe.go at e; cases e
  | fuel + 1, p, hp, e => by
    unfold SetTable.probe.go at e
    have adv : ∀ q : SetTable.Probe, (t.advance q).dummy = q.dummy := fun q => by unfold SetTable.advance; split <;> rfl
    split at e
    · rename_i hs
      have e' := Option.some.inj e
      injection e' with e1 e2
      subst e1; subst e2
      exact ⟨hs, hp⟩
    · rename_i hs
      refine probe_go fuel _ (fun d hd => ?_) e
      rw [adv] at hd
      have hd' : some p.j = some d := hd
      cases hd'
      exact hs
    · rename_i i hs
      split at e
      · cases e
      · refine probe_go fuel _ (fun d hd => ?_) e
        rw [adv] at hd
        exact hp d hd
theorem slot_live {t : SetTable} {j : Nat} (h : t.slot j = .empty ∨ t.slot j = .dummy) : t.place[SetTable.below t.place j]? ≠ some j := fun e => by
  unfold SetTable.slot at h
  dsimp only at h
  rw [e] at h
  simp at h
theorem freeSlot_live {t : SetTable} {h : Int} {j : Nat} {d : Bool} (e : t.freeSlot h = some (j, d)) : t.place[SetTable.below t.place j]? ≠ some j := by
  unfold SetTable.freeSlot at e
  split at e
  · rename_i j' dm hp
    have q := probe_go (10 * SetTable.turns t.mask) _ (fun d hd => by cases hd) hp
    have e' := Option.some.inj e
    injection e' with e1 _
    subst e1
    cases dm with
    | none => exact slot_live (.inl q.1)
    | some d => exact slot_live (.inr (q.2 d rfl))
  · cases e
theorem rise_range (n : Nat) : Rise (Array.range n) := by
  unfold Rise
  rw [Array.toList_range]
  exact List.pairwise_lt_range
theorem standIn_rise (t : SetTable) (n : Nat) : Rise (t.standIn n).place := rise_range n
theorem layNew_rise {t : SetTable} {es : Array (Int × Value)} {h : Int} {x : Value} (r : Rise t.place) : Rise (layNew t es h x).2.1.place ∧ (layNew t es h x).2.1.led = t.led := by
  unfold layNew
  split
  · rename_i slot wd e
    dsimp only
    unfold SetTable.orStandIn
    split
    · exact ⟨put_rise r (freeSlot_live e), rfl⟩
    · exact ⟨standIn_rise _ _, rfl⟩
  · exact ⟨standIn_rise _ _, rfl⟩
theorem laid_rise {mask finger moves : Nat} {led plain : Bool} {hs : Array Int} {t : SetTable} {o : Array Nat} (e : SetTable.laid mask finger moves led plain hs = some (t, o)) : Rise t.place ∧ t.led = led := by
  unfold SetTable.laid at e
  cases q : SetTable.layClean mask hs with
  | none => rw [q] at e; cases e
  | some owner =>
    rw [q] at e
    have e' := Option.some.inj e
    injection e' with e1 _
    subst e1
    refine ⟨?_, rfl⟩
    unfold Rise
    dsimp only
    rw [List.pairwise_map]
    refine List.Pairwise.filterMap _ (fun a a' hlt b hb b' hb' => ?_) (List.pairwise_lt_range (n := mask + 1))
    cases q1 : owner.getD a none with
    | none => rw [q1] at hb; cases hb
    | some v =>
      rw [q1] at hb
      cases q2 : owner.getD a' none with
      | none => rw [q2] at hb'; cases hb'
      | some v' =>
        rw [q2] at hb'
        cases hb
        cases hb'
        exact hlt
theorem relayAll_rise {t : SetTable} {es : Array (Int × Value)} {n : Nat} : Rise (relayAll t es n).2.1.place ∧ (relayAll t es n).2.1.led = t.led := by
  unfold relayAll
  split
  · rename_i t' order e
    dsimp only
    split
    · exact laid_rise e
    · exact ⟨standIn_rise _ _, rfl⟩
  · exact ⟨standIn_rise _ _, rfl⟩
end L2

namespace L2
open PySem PySem.Spec PyProof.Rows
/-! ### sets of ints: what stands in the heap -/
def bt (w : World) : Bool := w.params.followText "set-order"
def keyOf (e : Int × Value) : Int := match e.2 with
  | .int k _ => k
  | _ => 0
def EntOk (e : Int × Value) : Prop := ∃ k tok, e = (hashInt k, Value.int k tok)
/-- the set at a holds the ints ks, in the table's order -/
def SetG (w : World) (h : Heap) (a : Addr) (ks : List Int) : Prop := ∃ (o : Obj) (es : Array (Int × Value)) (ep : Nat) (t : SetTable), h.get? a = some o ∧ o.ExactSet ∧ o.data = .set es ep t ∧
  es.toList.map keyOf = ks ∧ (∀ e ∈ es.toList, EntOk e) ∧ ks.Nodup ∧ ks.length < scanBound ∧ t.fits es.size = true ∧ Rise t.place ∧ (t.led = true ∨ bt w = true)
theorem SetG.at {w : World} {h h' : Heap} {a : Addr} {ks : List Int} (g : SetG w h a ks) (k : ∀ o, h.get? a = some o → h'.get? a = some o) : SetG w h' a ks := by
  obtain ⟨o, es, ep, t, e, r⟩ := g
  exact ⟨o, es, ep, t, k o e, r⟩
theorem SetG.lt {w : World} {h : Heap} {a : Addr} {ks : List Int} (g : SetG w h a ks) : a < h.objs.size := by
  obtain ⟨o, es, ep, t, e, r⟩ := g
  exact Heap.lt_size e
section
variable {prog : Program} {w : World} {A : Around} {E : Value → Shared → Prop} {s : Shared}
theorem ents_elems {l : List (Int × Value)} (h : ∀ e ∈ l, EntOk e) : ElemsOf (intKind prog w) l := fun e he => by
  obtain ⟨k, tok, rfl⟩ := h e he
  exact ⟨⟨k, intKind_is _ _ _ _, rfl⟩, rfl⟩
theorem is_key {e : Int × Value} (h : EntOk e) (k : Int) : (intKind prog w).is k e.2 = decide (keyOf e = k) := by
  obtain ⟨k', tok, rfl⟩ := h
  show Value.isInt k (.int k' tok) = _
  by_cases z : k' = k
  · subst z; simp [Value.isInt, keyOf]
  · rw [decide_eq_false (by exact z)]
    simp [Value.isInt, z]
theorem find_none {l : List (Int × Value)} (h : ∀ e ∈ l, EntOk e) {k : Int} : l.findIdx? (fun e => (intKind prog w).is k e.2) = none ↔ k ∉ l.map keyOf := by
  rw [List.findIdx?_eq_none_iff]
  constructor
  · intro q hm
    obtain ⟨e, he, ek⟩ := List.mem_map.mp hm
    have := q e he
    rw [is_key (h e he), decide_eq_true ek] at this
    cases this
  · intro q e he
    rw [is_key (h e he)]
    exact decide_eq_false fun ek => q (List.mem_map.mpr ⟨e, he, ek⟩)
theorem storeG {h : Heap} {a : Addr} {o : Obj} {es : Array (Int × Value)} {ep : Nat} {t : SetTable} (ho : h.get? a = some o) (hex : o.ExactSet) (hd : o.data = .set es ep t)
    {es' : Array (Int × Value)} {t' : SetTable} (hel : ∀ e ∈ es'.toList, EntOk e) (hnd : (es'.toList.map keyOf).Nodup) (hb : es'.size < scanBound) (hf : t'.fits es'.size = true) (hr : Rise t'.place) (hl : t'.led = true ∨ bt w = true) :
    (h.update a (Obj.putSet es' t')).get? a = some { o with data := .set es' (ep + 1) t' } ∧ SetG w (h.update a (Obj.putSet es' t')) a (es'.toList.map keyOf) := by
  have hg : (h.update a (Obj.putSet es' t')).get? a = some { o with data := .set es' (ep + 1) t' } := by
    have := Heap.get?_update_self (Obj.putSet es' t') ho (by rw [putSet_of es' t' hd]; rfl)
    rw [putSet_of es' t' hd] at this; exact this
  exact ⟨hg, _, es', ep + 1, t', hg, hex, rfl, rfl, hel, hnd, by simpa using hb, hf, hr, hl⟩
theorem addTailG {g : Bool → Sem Unit} (hg : ∀ (b : Bool) (s₁ : Shared) (Q' : Unit → Shared → Prop), Q' () s₁ → wpAny (model prog w) A (g b) Q' E s₁)
    {a : Addr} {o : Obj} {es : Array (Int × Value)} {ep : Nat} {t : SetTable} (ho : s.heap.get? a = some o) (hex : o.ExactSet) (hd : o.data = .set es ep t)
    {es1 : Array (Int × Value)} {t2 : SetTable} (hel1 : ∀ e ∈ es1.toList, EntOk e) (hnd : (es1.toList.map keyOf).Nodup) (hb1 : es1.size < scanBound) (hf2 : t2.fits es1.size = true) (hr : Rise t2.place) (hl : t2.led = true ∨ bt w = true)
    {wasDummy : Bool} {R : Option Bool → Shared → Prop}
    (h : ∀ h' ks, Heap.SameBut a s.heap h' → SetG w h' a ks → ks.Perm (es1.toList.map keyOf) → R (some true) { s with heap := h' }) :
    wpAny (model prog w) A (do
        storeSet a es1 t2
        if (!wasDummy && t2.tooFull) = true then do
            g (relayAll t2 es1 (SetTable.grown es1.size)).2.2
            storeSet a (relayAll t2 es1 (SetTable.grown es1.size)).1 (relayAll t2 es1 (SetTable.grown es1.size)).2.1
            pure (some true)
          else pure (some true)) R E s := by
  refine wpAny_bind (wpAny_storeSet_of ho hd ?_ (fits_of_scanBound hb1))
  obtain ⟨ho1, hS1⟩ := storeG (w := w) ho hex hd hel1 hnd hb1 hf2 hr hl
  have hsb1 := Heap.SameBut.update s.heap a (Obj.putSet es1 t2)
  split
  · have hp := relayAll_perm t2 es1 (SetTable.grown es1.size)
    have hfr := relayAll_fits t2 es1 (SetTable.grown es1.size)
    obtain ⟨rr, rl⟩ := relayAll_rise (t := t2) (es := es1) (n := SetTable.grown es1.size)
    generalize relayAll t2 es1 (SetTable.grown es1.size) = Rl at hp hfr rr rl ⊢
    obtain ⟨es2, t3, gave2⟩ := Rl
    dsimp only at hp hfr rr rl ⊢
    have pm : (es2.toList.map keyOf).Perm (es1.toList.map keyOf) := hp.map _
    have hsz : es2.size = es1.size := by rw [← Array.length_toList, hp.length_eq, Array.length_toList]
    have hb2 : es2.size < scanBound := by rw [hsz]; exact hb1
    refine wpAny_bind (hg _ _ _ ?_)
    refine wpAny_bind (wpAny_storeSet_of ho1 rfl ?_ (fits_of_scanBound hb2))
    obtain ⟨_, hS2⟩ := storeG (w := w) ho1 hex rfl (fun e he => hel1 e (hp.mem_iff.mp he)) (pm.nodup_iff.mpr hnd) hb2 hfr rr (by rw [rl]; exact hl)
    exact wpAny_pure (h _ _ (hsb1.trans (Heap.SameBut.update _ a _)) hS2 pm)
  · exact wpAny_pure (h _ _ hsb1 hS1 (List.Perm.refl _))
theorem setAddG {a : Addr} {ks : List Int} {k : Int} {tok : Tok} {Q : Bool → Shared → Prop} (hS : SetG w s.heap a ks) (hroom : ks.length + 1 < scanBound)
    (h : ∀ h' ks', Heap.SameBut a s.heap h' → SetG w h' a ks' → ks'.Perm (if k ∈ ks then ks else k :: ks) → Q (decide (k ∉ ks)) { s with heap := h' }) :
    wpAny (model prog w) A (setAddHashed a (.int k tok) (hashInt k)) Q E s := by
  obtain ⟨o, es, ep, t, ho, hex, hd, rfl, hel, hnd, hb, hf, hr, hl⟩ := hS
  have hbs : es.size < scanBound := by simpa using hb
  have hel' : ElemsOf (intKind prog w) es.toList := ents_elems hel
  unfold setAddHashed setAddHashedIn
  refine wpAny_holding (wpAny_bind (wpAny_setState_of ho hd hf ?_))
  dsimp only
  rw [byScan_of (knd := intKind prog w) rfl hbs hel']
  simp only [↓reduceIte]
  unfold setAddByScan
  refine wpAny_bind (wpAny_bind (wpAny_rule (wpAny_bind (wpAny_setScan_of (knd := intKind prog w) (k := k) (intKind_is _ _ _ _) ho hd hf hel' ?_))))
  cases hq : List.findIdx? (fun e => (intKind prog w).is k e.2) es.toList with
  | some j =>
    have hin : k ∈ es.toList.map keyOf := by
      rcases Classical.em (k ∈ es.toList.map keyOf) with z | z
      · exact z
      · rw [(find_none (prog := prog) (w := w) hel).mpr z] at hq; cases hq
    refine wpAny_pure (wpAny_pure ?_)
    have e : s = { s with heap := s.heap } := by cases s; rfl
    have q := h s.heap _ (Heap.SameBut.refl a s.heap) ⟨o, es, ep, t, ho, hex, hd, rfl, hel, hnd, hb, hf, hr, hl⟩ (by rw [if_pos hin])
    rw [decide_eq_false (fun z => z hin)] at q
    rw [e]; exact q
  | none =>
    have hin : k ∉ es.toList.map keyOf := (find_none (prog := prog) (w := w) hel).mp hq
    have hperm := layNew_perm t es (hashInt k) (.int k tok)
    have hfits := layNew_fits t es (hashInt k) (.int k tok)
    obtain ⟨rr, rl⟩ := layNew_rise (es := es) (h := hashInt k) (x := .int k tok) hr
    have hgw : ∀ (b : Bool) {s₁ : Shared} {Q' : Unit → Shared → Prop}, Q' () s₁ → wpAny (model prog w) A (match b with | true => rule "set.scan.the-table-gave-way" | false => pure ()) Q' E s₁ :=
      fun b s₁ Q' hq => by cases b <;> first | exact wpAny_pure hq | exact wpAny_rule hq
    dsimp only
    generalize hL : layNew t es (hashInt k) (.int k tok) = L at hperm hfits rr rl
    obtain ⟨es1, t1, wasDummy, gave⟩ := L
    dsimp only at hperm hfits rr rl ⊢
    rw [Array.toList_push] at hperm
    have hel1 : ∀ e ∈ es1.toList, EntOk e := fun e he => by
      rcases List.mem_append.mp (hperm.mem_iff.mp he) with z | z
      · exact hel e z
      · rw [List.mem_singleton] at z; exact ⟨k, tok, z⟩
    have pm : (es1.toList.map keyOf).Perm (k :: es.toList.map keyOf) := by
      refine (hperm.map _).trans ?_
      rw [List.map_append]
      exact List.perm_append_comm
    have hnd1 : (es1.toList.map keyOf).Nodup := pm.nodup_iff.mpr (List.nodup_cons.mpr ⟨hin, hnd⟩)
    have hsz1 : es1.size = es.size + 1 := by rw [← Array.length_toList, hperm.length_eq, List.length_append, Array.length_toList]; rfl
    have hb1 : es1.size < scanBound := by rw [hsz1]; simpa using hroom
    have hend : ∀ h' ks', Heap.SameBut a s.heap h' → SetG w h' a ks' → ks'.Perm (es1.toList.map keyOf) → Q true { s with heap := h' } := fun h' ks' sb g p => by
      have q := h h' ks' sb g (by rw [if_neg hin]; exact p.trans pm)
      rw [decide_eq_true hin] at q
      exact q
    refine wpAny_bind (hgw _ ?_)
    have hl1 : t1.led = true ∨ bt w = true := by rw [rl]; exact hl
    split
    · refine wpAny_bind ?_
      rw [hashByValue_scannable 8 (show Value.scannable (.int k tok) = true from rfl)]
      refine wpAny_pure ?_
      refine addTailG ?_ ho hex hd hel1 hnd1 hb1 ?_ ?_ ?_ ?_
      · intro b s₁ Q' hq; cases b <;> first | exact wpAny_pure hq | exact wpAny_rule hq
      · split
        · exact hfits
        · exact SetTable.fits_plain_off hfits
      · split
        · exact rr
        · exact rr
      · split
        · exact hl1
        · exact hl1
      · intro h' ks' hsb g p; exact wpAny_pure (hend h' ks' hsb g p)
    · refine wpAny_bind (wpAny_pure ?_)
      simp only [↓reduceIte]
      refine addTailG ?_ ho hex hd hel1 hnd1 hb1 hfits rr hl1 ?_
      · intro b s₁ Q' hq; cases b <;> first | exact wpAny_pure hq | exact wpAny_rule hq
      · intro h' ks' hsb g p; exact wpAny_pure (hend h' ks' hsb g p)
end
end L2

namespace L2
open PySem PySem.Spec PyProof.Rows
/-! ### set(list of ints) -/
section
variable {prog : Program} {w : World} {A : Around} {E : Value → Shared → Prop} {s : Shared}
theorem update_loopG {R : Result → Shared → Prop} {I S l : Addr} {items : Array Value} {ns : List Int} (hh : A.in1.handled = none) (hi : IntsAre items.toList ns) (hb : items.size + 1 < scanBound) (n1 : S ≠ I) (n2 : S ≠ l) (n3 : l ≠ I) :
    ∀ (k i : Nat) (s : Shared) (ks : List Int), items.size - i = k → i ≤ items.size → s.heap.IsListIter I l i → s.heap.IsList l items → SetG w s.heap S ks → ks.length ≤ i → (∀ x, x ∈ ks ↔ x ∈ ns.take i) →
      (∀ h' tk ks', (∀ b o, b ≠ S → b ≠ I → s.heap.get? b = some o → h'.get? b = some o) → SetG w h' S ks' → (∀ x, x ∈ ks' ↔ x ∈ ns) → R (.ok (.ret .none)) { s with heap := h', toks := tk }) →
      codeAny (model prog w) A (.builtin "set.update.loop" ⟨[.ref S, .ref I], []⟩) R s := by
  have hlen : items.size = ns.length := by have := IntsAre.length hi; simpa using this
  intro k
  induction k with
  | zero =>
    intro i s ks hk hle hit hl hS hlk hm hR
    have hin : i = items.size := by omega
    subst hin
    refine codeAny_builtin PyProof.Rows.F.entry_set_update_loop ?_
    rw [Around.under_plainId PyProof.Rows.F.plain_set_update_loop _]
    show wpAny _ A.in1 (pyNext (.ref I) >>= _) _ _ s
    refine wpAny_bind (wpAny_pyNext_list_end hh hit hl (by simp) fun h' eb => ?_)
    show wpAny _ A.in1 (ret Value.none) _ _ _
    refine wpAny_pure (hR h' s.toks ks (fun b o _ b2 e => eb b o b2 e) (hS.at fun o e => eb _ _ n1 e) fun x => ?_)
    rw [hm x, hlen, List.take_length]
  | succ k ih =>
    intro i s ks hk hle hit hl hS hlk hm hR
    have hlt : i < items.size := by omega
    obtain ⟨t, hv⟩ := IntsAre.int_at hi i items[i] (by simp [hlt])
    have hgd : ns.getD i 0 = ns[i]'(by omega) := by simp [List.getD_eq_getElem?_getD, show i < ns.length by omega]
    refine codeAny_builtin PyProof.Rows.F.entry_set_update_loop ?_
    rw [Around.under_plainId PyProof.Rows.F.plain_set_update_loop _]
    show wpAny _ A.in1 (pyNext (.ref I) >>= _) _ _ s
    refine wpAny_bind (wpAny_pyNext_list_item hit hl (x := items[i]) (by simp [hlt]) fun h1 hit1 sb1 => ?_)
    have hS1 : SetG w h1 S ks := hS.at fun o e => sb1.extBut _ _ n1 e
    show wpAny _ A.in1 (holding [items[i]] (setAdd S items[i]) >>= _) _ _ _
    rw [hv]
    refine wpAny_bind (wpAny_holding ?_)
    unfold setAdd
    refine wpAny_holding ?_
    refine wpAny_bind ((intKind prog w).pyHash (k := ns.getD i 0) (intKind_is _ _ _ _) ?_)
    refine setAddG (s := { s with heap := h1, toks := s.toks + 1 }) hS1 (by omega) fun h2 ks2 sb2 hS2 p2 => ?_
    have hm2 : ∀ x, x ∈ ks2 ↔ x ∈ ns.take (i + 1) := fun x => by
      rw [p2.mem_iff, List.take_add_one, List.mem_append, ← hm x, show ns[i]? = some (ns.getD i 0) by rw [hgd]; exact List.getElem?_eq_getElem _]
      split
      · rename_i hin
        simp only [Option.toList_some, List.mem_singleton]
        exact ⟨.inl, fun z => z.elim id fun e => e ▸ hin⟩
      · simp only [List.mem_cons, Option.toList_some, List.mem_singleton, List.not_mem_nil, or_false]
        exact Or.comm
    have hl2 : ks2.length ≤ i + 1 := by
      rw [p2.length_eq]
      split
      · omega
      · rw [List.length_cons]; omega
    refine wpAny_pure ⟨plainId_quiet PyProof.Rows.F.plain_set_update_loop _, ih (i + 1) _ ks2 (by omega) hlt ?_ ?_ hS2 hl2 hm2 fun h' tk ks' kp hS' hm' => ?_⟩
    · exact hit1.extBut sb2.extBut (Ne.symm n1)
    · exact (hl.extBut sb1.extBut n3).extBut sb2.extBut (Ne.symm n2)
    · exact hR h' tk ks' (fun b o b1 b2 e => kp b o b1 b2 (sb2.extBut _ _ b1 (sb1.extBut _ _ b2 e))) hS' hm'
theorem set_new_G (a : Value) {Q₁ : Value → Shared → Prop}
    (h : Q₁ (.ref s.heap.objs.size) { s with heap := s.heap.push { cls := .type "set", dict := none, data := .set #[] 0 (.fresh 0 0 (!bt w)) } }) :
    codeAny (model prog w) A (.call (.builtin "set.__new__") ⟨[.type "set", a], []⟩) (wants Q₁ E) s := by
  refine codeAny_of_tree ?_
  show wpAny _ A.in1 (do checkBuiltinCall "set.__new__" ⟨[.type "set", a], []⟩; again (.builtin "set.__new__" ⟨[.type "set", a], []⟩)) _ _ s
  refine wpAny_bind (wpAny_of_eq (PySem.F.newCall_set_1 a) (wpAny_pure ⟨plainId_quiet PySem.F.plain_set_new _, codeAny_builtin PySem.F.entry_set_new ?_⟩))
  rw [Around.under_plainId PySem.F.plain_set_new _]
  unfold Builtin.«set.__new__» Builtin.Frozenset.newClass
  have hsub := sub_set_self
  obtain ⟨hp, g, d, tk, os⟩ := s
  dsimp only
  wp_walk
  refine wpAny_askSetting (wpAny_pure ?_)
  dsimp only
  simp only [newObj]
  refine wpAny_bind (wpAny_alloc (wpAny_pure ?_))
  exact wpAny_pure h
set_option maxHeartbeats 8000000 in
theorem set_listG {l : Addr} {items : Array Value} {ns : List Int} {Q : Value → Shared → Prop} (hh : A.handled = none) (hl : s.heap.IsList l items) (hi : IntsAre items.toList ns) (hb : items.size + 1 < scanBound)
    (h : ∀ (h' : Heap) (tk : Nat) (ks : List Int), SetG w h' s.heap.objs.size ks → (∀ x, x ∈ ks ↔ x ∈ ns) → (∀ b o, b < s.heap.objs.size → s.heap.get? b = some o → h'.get? b = some o) → Q (.ref s.heap.objs.size) { s with heap := h', toks := tk }) :
    wpAny (model prog w) A (call (.type "set") [.ref l]) Q E s := by
  obtain ⟨c, tl, hmro⟩ := PySem.F.called_set.mro
  have hmade := PySem.F.called_set.made
  have hsub := PySem.F.called_set.sub
  refine wpAny_call (codeAny_of_tree ?_)
  show wpAny _ _ (callAny (.type "set") _) _ _ _
  refine wpAny_pure ⟨Code.quiet_builtin _ (by decide +kernel), codeAny_builtin PySem.F.entry_type_call ?_⟩
  rw [Around.under_plain (weight_type_call_type "set" [.ref l] []) rfl]
  have h1 := PySem.F.called_set.notType
  have h2 := PySem.F.called_set.canCreate
  have hct := PySem.F.typeCall_set_1 (.ref l)
  repeat (any_goals (first | assumption | wp_step))
  refine codeAny_mono (set_new_G (w := w) (.ref l) (E := E) (Q₁ := fun obj s₁ => obj = .ref s.heap.objs.size ∧ s₁ = { s with heap := s.heap.push { cls := .type "set", dict := none, data := .set #[] 0 (.fresh 0 0 (!bt w)) } }) ⟨rfl, rfl⟩) fun r s₁ hr => ?_
  cases r with
  | error e => exact hr
  | ok fl =>
    cases fl with
    | ret obj =>
      obtain ⟨rfl, rfl⟩ := hr
      generalize hled : (!bt w) = led
      have hS : (s.heap.push { cls := .type "set", dict := none, data := .set #[] 0 (.fresh 0 0 led) }).get? s.heap.objs.size = some { cls := .type "set", dict := none, data := .set #[] 0 (.fresh 0 0 led) } := Heap.get?_push_size _ rfl
      have hT : Shared.TypeIs { s with heap := s.heap.push { cls := .type "set", dict := none, data := .set #[] 0 (.fresh 0 0 led) } } (.ref s.heap.objs.size) "set" := ⟨_, hS, rfl⟩
      have hli := PySem.F.called_set.init.lookup
      have hbi := PySem.F.called_set.init.bind (.ref s.heap.objs.size)
      repeat (any_goals (first | assumption | wp_step))
      refine codeAny_mono (codeAny_call_builtin (R := wants (fun r s₂ => r = .none ∧ ∃ h' tk ks, s₂ = { s with heap := h', toks := tk } ∧ SetG w h' s.heap.objs.size ks ∧ (∀ x, x ∈ ks ↔ x ∈ ns) ∧
          (∀ b o, b < s.heap.objs.size → s.heap.get? b = some o → h'.get? b = some o)) E) PySem.F.called_set.init.plain PySem.F.entry_set_init (check_set_init_1 hT ?_)) fun r₂ s₂ hr₂ => ?_
      · obtain ⟨ol, hol, hcl, nl, hdl⟩ := hl
        obtain ⟨ocls, odict, odata, oslots⟩ := ol
        simp only at hcl hdl
        subst hcl; subst hdl
        have hol' : (s.heap.push { cls := .type "set", dict := none, data := .set #[] 0 (.fresh 0 0 led) }).get? l = some { cls := .type "list", dict := odict, data := .seq items nl, slots := oslots } := Heap.get?_push_of_some _ hol
        have hsls := PySem.F.sub_list_set
        have hslf := PySem.F.sub_list_frozenset
        have hne : (Value.type "list" == Value.type "dict") = false := by decide
        have hl1 : (s.heap.push { cls := .type "set", dict := none, data := .set #[] 0 (.fresh 0 0 led) }).IsList l items := ⟨_, hol', rfl, nl, rfl⟩
        unfold Builtin.«set.__init__» noKeywords Builtin.Frozenset.updateFrom
        generalize hPI : pyIter = PI
        wp_walk
        subst hPI
        refine wpAny_pyIter_list hl1 ?_
        refine wpAny_bind (wpAny_runValue ?_)
        have hlS : l < s.heap.objs.size := Heap.lt_size hol
        have hh3 : A.in1.in1.in1.handled = none := by simp [hh]
        have hSz : (s.heap.push { cls := .type "set", dict := none, data := .set #[] 0 (.fresh 0 0 led) }).objs.size = s.heap.objs.size + 1 := Heap.size_push ..
        have e1 : s.heap.objs.size ≠ (s.heap.push { cls := .type "set", dict := none, data := .set #[] 0 (.fresh 0 0 led) }).objs.size := by rw [hSz]; exact Nat.ne_of_lt (Nat.lt_succ_self _)
        have e2 : l ≠ (s.heap.push { cls := .type "set", dict := none, data := .set #[] 0 (.fresh 0 0 led) }).objs.size := by rw [hSz]; exact Nat.ne_of_lt (Nat.lt_succ_of_lt hlS)
        refine update_loopG (w := w) hh3 hi hb e1 (Nat.ne_of_gt hlS) e2 (items.size - 0) 0 _ [] (by omega) (Nat.zero_le _)
          ⟨_, Heap.get?_push_size _ rfl, rfl, rfl⟩ (hl1.push _) ⟨_, #[], 0, _, Heap.get?_push_of_some _ hS, ⟨rfl, rfl, rfl⟩, rfl, rfl, fun e he => by simp at he, List.nodup_nil, by decide, by rfl, List.Pairwise.nil, ?_⟩ (Nat.le_refl _) (fun x => by simp) ?_
        · show led = true ∨ bt w = true
          rw [← hled]
          cases bt w <;> simp
        · intro h' tk ks' kp hS' hm'
          show wpAny _ _ _ _ _ _
          refine wpAny_pure ?_
          show wpAny _ _ (ret Value.none) _ _ _
          refine wpAny_pure ⟨rfl, h', tk, ks', rfl, hS', hm', fun b o hb e => ?_⟩
          exact kp b o (Nat.ne_of_lt hb) (by rw [hSz]; exact Nat.ne_of_lt (Nat.lt_succ_of_lt hb)) (Heap.get?_push_of_some _ (Heap.get?_push_of_some _ e))
      · cases r₂ with
        | error e => exact hr₂
        | ok fl₂ =>
          cases fl₂ with
          | ret r =>
            obtain ⟨rfl, h', tk, ks, rfl, hS', hm', hk'⟩ := hr₂
            repeat (any_goals (first | assumption | wp_step))
            exact h _ _ _ hS' hm' hk'
          | _ => exact hr₂.elim
    | _ => exact hr.elim
end
end L2

namespace L2
open PySem PySem.Spec PyProof.Rows
namespace FF
theorem slot_si_next : Slot "set_iterator" "__next__" "set_iterator.__next__" :=
  .of (owner := "set_iterator") (n := "__next__") (by rw [typeLookup_type, builtinLookup_eq_fast]; kernel_rfl) (by decide +kernel) (by decide +kernel) (by decide +kernel)
    (by first | exact .inl (by decide +kernel) | exact .inr (by decide +kernel)) (by rw [isSubtype_type]; kernel_rfl)
theorem slot_si_iter : Slot "set_iterator" "__iter__" "set_iterator.__iter__" :=
  .of (owner := "set_iterator") (n := "__iter__") (by rw [typeLookup_type, builtinLookup_eq_fast]; kernel_rfl) (by decide +kernel) (by decide +kernel) (by decide +kernel)
    (by first | exact .inl (by decide +kernel) | exact .inr (by decide +kernel)) (by rw [isSubtype_type]; kernel_rfl)
theorem entry_si_next : entryFor table "set_iterator.__next__" = some Builtin.«set_iterator.__next__» := entryFor_of_tree (by kernel_rfl)
theorem owner_si : Manifest.owners.lookup (String.ofList ['r', 'o', 't', 'a', 'r', 'e', 't', 'i', '_', 't', 'e', 's'].reverse) = some Manifest.sig_set_iterator := by kernel_rfl
theorem args_si_next (a : Value) : argsOk "set_iterator.__next__" ⟨[a], []⟩ := by
  unfold argsOk; rw [signature?_of (id := "set_iterator.__next__") (n := ['_', '_', 't', 'x', 'e', 'n', '_', '_']) (o := ['r', 'o', 't', 'a', 'r', 'e', 't', 'i', '_', 't', 'e', 's']) (by kernel_rfl) owner_si]; kernel_rfl
theorem entry_si_iter : entryFor table "set_iterator.__iter__" = some Builtin.«dict_keyiterator.__iter__» :=
  entryFor_alias (id' := "dict_keyiterator.__iter__") (by kernel_rfl) (by first | rfl | decide +kernel) (by decide +kernel) (by kernel_rfl)
theorem args_si_iter (a : Value) : argsOk "set_iterator.__iter__" ⟨[a], []⟩ := by
  unfold argsOk; rw [signature?_of (id := "set_iterator.__iter__") (n := ['_', '_', 'r', 'e', 't', 'i', '_', '_']) (o := ['r', 'o', 't', 'a', 'r', 'e', 't', 'i', '_', 't', 'e', 's']) (by kernel_rfl) owner_si]; kernel_rfl
theorem entry_set_iter : entryFor table "set.__iter__" = some Builtin.«frozenset.__iter__» :=
  entryFor_alias (id' := "frozenset.__iter__") (by kernel_rfl) rfl (by decide +kernel) (by kernel_rfl)
end FF
abbrev siObj (first : Value) (i : Nat) (S : Addr) (n ep : Nat) : Obj := { cls := .type "set_iterator", dict := none, data := .fields #[first, rawInt i, .ref S, rawInt n, rawInt ep], slots := #[] }
section
variable {prog : Program} {w : World} {A : Around} {E : Value → Shared → Prop} {s : Shared}
theorem wpAny_choose {n : Nat} {Q : Nat → Shared → Prop} (hn : n ≠ 0) (h : ∀ i d, i < n → Q i { s with drawn := d }) : wpAny (model prog w) A (choose .order n) Q E s := fun Γ p hΓ => by
  unfold choose
  rw [Sem.wp_choose]
  refine ⟨hn, ?_⟩
  rw [Sem.wp_pure]
  exact h _ _ (Nat.mod_lt _ (Nat.pos_of_ne_zero hn))
theorem cons_erase {α : Type} : ∀ (l : List α) (i : Nat) (h : i < l.length), (l[i] :: l.eraseIdx i).Perm l
  | x :: r, 0, _ => List.Perm.refl _
  | x :: r, i + 1, h => (List.Perm.swap _ _ _).trans (List.Perm.cons _ (cons_erase r i (by simpa using h)))
theorem draw_order {α : Type} : ∀ (n : Nat) (xs : List α) (s : Shared) (Q : List α → Shared → Prop), xs.length = n → (∀ ys d, ys.Perm xs → Q ys { s with drawn := d }) → wpAny (model prog w) A (drawOrder n xs) Q E s
  | 0, xs, s, Q, hl, h => by
    have e : xs = [] := List.length_eq_zero_iff.mp hl
    subst e
    unfold drawOrder
    exact wpAny_pure (h [] s.drawn (List.Perm.refl _))
  | n + 1, [], s, Q, hl, h => by simp at hl
  | n + 1, x :: r, s, Q, hl, h => by
    unfold drawOrder
    refine wpAny_bind (wpAny_choose (by simp) fun i d hi => ?_)
    rw [List.getElem?_eq_getElem hi]
    dsimp only
    refine wpAny_bind (draw_order n _ _ _ (by rw [List.length_eraseIdx_of_lt hi, hl]; rfl) fun ys d' p => wpAny_pure ?_)
    have := h ((x :: r)[i] :: ys) d' ((List.Perm.cons _ p).trans (cons_erase _ i hi))
    exact this
end
end L2

namespace L2
open PySem PySem.Spec PyProof.Rows
theorem pick_go {α : Type} (next : Nat → Nat) : ∀ (fuel k : Nat) (left : List α) (out : Array α), left.length = fuel → (pickOrder.go next fuel k left out).toList.Perm (out.toList ++ left)
  | 0, k, left, out, h => by
    have e : left = [] := List.length_eq_zero_iff.mp h
    subst e
    unfold pickOrder.go
    rw [List.append_nil]
  | fuel + 1, k, left, out, h => by
    unfold pickOrder.go
    have hi : next k % left.length < left.length := Nat.mod_lt _ (by omega)
    rw [List.getElem?_eq_getElem hi]
    dsimp only
    refine (pick_go next fuel (k + 1) _ _ (by rw [List.length_eraseIdx_of_lt hi, h]; rfl)).trans ?_
    rw [Array.toList_push, List.append_assoc]
    exact List.Perm.append_left _ (cons_erase _ _ hi)
theorem pick_perm {α : Type} (next : Nat → Nat) (xs : Array α) : (pickOrder next xs).toList.Perm xs.toList := by
  have := pick_go next xs.size 0 xs.toList #[] (by simp)
  simpa [pickOrder] using this
section
variable {prog : Program} {w : World} {A : Around} {E : Value → Shared → Prop} {s : Shared} {I S : Addr} {first : Value} {i n ep : Nat} {o : Obj} {es : Array (Int × Value)} {t : SetTable}
/-- the body of __next__, ahead of the choice of roads -/
theorem si_open {Q : Fin → Shared → Prop} {slot : Nat} (hI : s.heap.get? I = some (siObj (rawInt slot) i S n ep)) (hS : s.heap.get? S = some o) (hd : o.data = .set es ep t) (hf : t.fits es.size = true) (hn : es.size = n)
    (h : wpAny (model prog w) A (setNext S slot i ep) (fun r s' => wpAny (model prog w) A (match r with
      | some (x, next) => do
        setField (.ref I) 0 (rawInt next)
        setField (.ref I) 1 (rawInt ((i : Int) + 1))
        ret x
      | none => do
        setField (.ref I) 2 .none
        raiseNew (← newExc (.type "StopIteration") [])) Q E s') E s) :
    wpAny (model prog w) A (Builtin.«set_iterator.__next__» ⟨[.ref I], []⟩) Q E s := by
  show wpAny _ _ (fieldsOf (.ref I) >>= _) _ _ _
  refine wpAny_bind (wpAny_fieldsOf hI rfl ?_)
  show wpAny _ _ (setEntries S >>= _) _ _ _
  unfold setEntries
  refine wpAny_bind (wpAny_bind (wpAny_setState_of hS hd hf (wpAny_pure ?_)))
  have e : ((es.size : Int) != (n : Int)) = false := by rw [hn]; simp
  show wpAny _ _ (if ((es.size : Int) != (n : Int)) = true then _ else _) _ _ _
  rw [e, if_neg Bool.false_ne_true]
  refine wpAny_bind (wpAny_mono h (fun r s' hr => ?_) fun _ _ z => z)
  cases r with
  | none => exact hr
  | some p => obtain ⟨x, next⟩ := p; exact hr
end
end L2

namespace L2
open PySem PySem.Spec PyProof.Rows
section
variable {prog : Program} {w : World} {A : Around} {E : Value → Shared → Prop} {s : Shared} {I S : Addr} {first : Value} {i n ep : Nat} {o : Obj} {es : Array (Int × Value)} {t : SetTable}
theorem setsByText_ {Q : Bool → Shared → Prop} (h : Q (bt w) s) : wpAny (model prog w) A setsByText Q E s := by
  unfold setsByText
  exact wpAny_bind (wpAny_askSetting (wpAny_pure h))
/-- by the table's places -/
theorem next_places {slot : Nat} {Q : Option (Value × Nat) → Shared → Prop} (hS : s.heap.get? S = some o) (hd : o.data = .set es ep t) (hf : t.fits es.size = true) (hb : bt w = false) (hdr : (!t.plain && decide (es.size > 1)) = false) (hl : t.led = true)
    (h : Q (match es[SetTable.below t.place slot]?, t.place[SetTable.below t.place slot]? with
      | some (_, x), some j => some (x, j + 1)
      | _, _ => none) s) : wpAny (model prog w) A (setNext S slot i ep) Q E s := by
  unfold setNext
  refine wpAny_bind (wpAny_setState_of hS hd hf ?_)
  dsimp only
  refine wpAny_bind (setsByText_ ?_)
  rw [hb, if_neg Bool.false_ne_true]
  show wpAny _ _ (if (!t.plain && decide (es.size > 1)) = true then _ else _) _ _ _
  rw [hdr, if_neg Bool.false_ne_true]
  refine wpAny_bind ?_
  show wpAny _ _ (if (!t.led && !es.isEmpty) = true then _ else _) _ _ _
  rw [hl]
  exact wpAny_pure (wpAny_pure h)
/-- by the text -/
theorem next_text {slot : Nat} {Q : Option (Value × Nat) → Shared → Prop} (hS : s.heap.get? S = some o) (hd : o.data = .set es ep t) (hf : t.fits es.size = true) (hb : bt w = true)
    (h : Q (((pickOrder (w.params.setOrder S ep) es)[i]?).map fun e => (e.2, slot)) s) : wpAny (model prog w) A (setNext S slot i ep) Q E s := by
  unfold setNext
  refine wpAny_bind (wpAny_setState_of hS hd hf ?_)
  dsimp only
  refine wpAny_bind (setsByText_ ?_)
  rw [hb, if_pos rfl]
  have e : (ep != ep) = false := by simp
  rw [e, if_neg Bool.false_ne_true]
  unfold setWalk
  refine wpAny_bind (wpAny_bind (wpAny_setState_of hS hd hf ?_))
  dsimp only
  refine wpAny_bind (setsByText_ ?_)
  rw [hb, if_pos rfl]
  exact wpAny_bind (wpAny_askSetting (wpAny_pure (wpAny_pure h)))
/-- StopIteration -/
theorem si_stop {Q : Fin → Shared → Prop} (hh : A.handled = none) (hE : ∀ h' e, (∀ b o, s.heap.get? b = some o → h'.get? b = some o) → (∃ o, h'.get? e = some o ∧ o.cls = .type "StopIteration") → E (.ref e) { s with heap := h' }) :
    wpAny (model prog w) A (do raiseNew (← newExc (.type "StopIteration") [])) Q E s := by
  refine wpAny_bind ?_
  simp only [newExc, newTuple]
  refine wpAny_bind (wpAny_newObj_type ?_ (by size_fits))
  refine wpAny_bind (m := firstArgMember _ _) (wpAny_of_eq (a := Value.none) (by first | rfl | (simp only [firstArgMember]; rfl)) ?_)
  refine wpAny_newObj_type ?_ (by size_fits)
  simp only [raiseNew]
  refine wpAny_bind (wpAny_handled ?_)
  rw [hh]
  refine wpAny_bind (wpAny_pure (wpAny_throw ?_))
  exact hE _ _ (fun b o e => Heap.get?_push_of_some _ (Heap.get?_push_of_some _ e)) ⟨_, Heap.get?_push_size _ rfl, rfl⟩
theorem pyNext_si {Q : Option Value → Shared → Prop} (hI : s.heap.get? I = some (siObj first i S n ep))
    (h : wpAny (model prog w) A.in1 (Builtin.«set_iterator.__next__» ⟨[.ref I], []⟩) (fun fin s' => ∃ v, fin = .done (.ret v) ∧ Q (some v) s') (fun e s' => (∃ a o, e = .ref a ∧ s'.heap.get? a = some o ∧ o.cls = .type "StopIteration") ∧ Q none s') s) :
    wpAny (model prog w) A (pyNext (.ref I)) Q E s := by
  have hT : s.TypeIs (.ref I) "set_iterator" := ⟨_, hI, rfl⟩
  unfold pyNext
  refine wpAny_bind (wpAny_attempt (wpAny_callSpecial?_slot (name := Str.ofString "__next__") hT FF.slot_si_next
    (wpAny_call_entry FF.slot_si_next hT FF.entry_si_next (wpAny_mono h (fun fin s' ⟨v, e, q⟩ => ⟨v, e, wpAny_pure q⟩) fun e s' ⟨⟨a, o, e1, ho, hc⟩, q⟩ => ?_) (FF.args_si_next _))))
  subst e1
  refine wpAny_bind (wpAny_isInstance (T := "StopIteration") (b := true) ⟨o, ho, hc⟩ isSubtype_stop ?_)
  exact wpAny_pure q
end
end L2

namespace L2
open PySem PySem.Spec PyProof.Rows
section
variable {prog : Program} {w : World} {A : Around} {I S : Addr} {ep : Nat} {o : Obj} {es : Array (Int × Value)} {t : SetTable}
/-- what a walk by slots needs: at turn i from slot it yields e and goes on at the next slot -/
theorem walk_slots (hh : A.handled = none) (hIS : S ≠ I) (hd : o.data = .set es ep t) (hf : t.fits es.size = true) (vs : List Value) (hv : vs.length = es.size) (G : Nat → Nat → Prop)
    (hgo : ∀ (A' : Around) (i slot : Nat) (s : Shared) (Q : Option (Value × Nat) → Shared → Prop) (E : Value → Shared → Prop) (v : Value), G i slot → s.heap.get? S = some o → vs[i]? = some v → (∀ slot', G (i + 1) slot' → Q (some (v, slot')) s) → wpAny (model prog w) A' (setNext S slot i ep) Q E s)
    (hend : ∀ (A' : Around) (slot : Nat) (s : Shared) (Q : Option (Value × Nat) → Shared → Prop) (E : Value → Shared → Prop), G es.size slot → s.heap.get? S = some o → Q none s → wpAny (model prog w) A' (setNext S slot es.size ep) Q E s) :
    Walks prog w A I [I, S] [I] es.size (fun i v => vs[i]? = some v) (fun i h => h.get? S = some o ∧ ∃ slot : Nat, G i slot ∧ h.get? I = some (siObj (rawInt slot) i S es.size ep)) where
  sub := fun b hb => by simp at hb; simp [hb]
  frame := fun i h h' st k => by
    obtain ⟨h1, slot, g, h2⟩ := st
    exact ⟨k S (by simp) o h1, slot, g, k I (by simp) _ h2⟩
  item := fun i s Q E hi st hQ => by
    obtain ⟨h1, slot, g, h2⟩ := st
    have hiv : i < vs.length := by omega
    refine pyNext_si h2 (si_open h2 h1 hd hf rfl (hgo _ i slot s _ _ vs[i] g h1 (List.getElem?_eq_getElem hiv) fun slot' g' => ?_))
    refine wpAny_bind (wpAny_setField_rec h2 (by simp) fun h3 h3I sb3 => ?_)
    refine wpAny_bind (wpAny_setField_rec h3I (by simp) fun h4 h4I sb4 => ?_)
    refine wpAny_pure ⟨_, rfl, ?_⟩
    refine hQ _ h4 s.toks (List.getElem?_eq_getElem hiv) ⟨sb4.extBut _ _ hIS (sb3.extBut _ _ hIS h1), slot', g', ?_⟩ fun b o' hb e => ?_
    · rw [h4I]; rfl
    · have hb' : b ≠ I := by simpa using hb
      exact sb4.extBut _ _ hb' (sb3.extBut _ _ hb' e)
  done := fun s Q E st hQ => by
    obtain ⟨h1, slot, g, h2⟩ := st
    refine pyNext_si h2 (si_open h2 h1 hd hf rfl (hend _ slot s _ _ g h1 ?_))
    refine wpAny_bind (wpAny_setField_rec h2 (by simp) fun h3 h3I sb3 => ?_)
    refine si_stop (show A.in1.handled = none from hh) fun h4 e k4 he => ⟨?_, hQ h4 s.toks fun b o' hb q => k4 _ _ (sb3.extBut _ _ (by simpa using hb) q)⟩
    obtain ⟨oe, q1, q2⟩ := he
    exact ⟨e, oe, rfl, q1, q2⟩
  self := fun i s Q E st hQ => by
    obtain ⟨h1, slot, g, h2⟩ := st
    have hT : s.TypeIs (.ref I) "set_iterator" := ⟨_, h2, rfl⟩
    refine wpAny_pyIter_slot hT FF.slot_si_iter (wpAny_call_entry FF.slot_si_iter hT FF.entry_si_iter ?_ (FF.args_si_iter _))
    show wpAny _ _ (ret (.ref I)) _ _ s
    exact wpAny_pure ⟨_, rfl, "set_iterator", _, hT, FF.slot_si_next.lookup, hQ⟩
end
end L2

namespace L2
open PySem PySem.Spec PyProof.Rows
abbrev ptObj (ps : List Nat) : Obj := { cls := .type "tuple", data := .seq (ps.map fun (p : Nat) => rawInt p).toArray }
section
variable {prog : Program} {w : World} {A : Around} {I S TT : Addr} {ep : Nat} {o : Obj} {es : Array (Int × Value)} {t : SetTable}
theorem walk_drawn (hh : A.handled = none) (n1 : S ≠ I) (n2 : TT ≠ I) (hd : o.data = .set es ep t) (hf : t.fits es.size = true) (ps : List Nat) (hps : ps.Perm (List.range es.size)) (vs : List Value)
    (hvi : ∀ (i p : Nat), ps[i]? = some p → ∃ e, es[p]? = some e ∧ vs[i]? = some e.2) :
    Walks prog w A I [I, S, TT] [I] es.size (fun i v => vs[i]? = some v) (fun i h => h.get? S = some o ∧ h.get? TT = some (ptObj ps) ∧ h.get? I = some (siObj (.ref TT) i S es.size ep)) where
  sub := fun b hb => by simp at hb; simp [hb]
  frame := fun i h h' st k => by
    obtain ⟨h1, h0, h2⟩ := st
    exact ⟨k S (by simp) o h1, k TT (by simp) _ h0, k I (by simp) _ h2⟩
  item := fun i s Q E hi st hQ => by
    obtain ⟨h1, h0, h2⟩ := st
    have hpl : ps.length = es.size := by rw [hps.length_eq, List.length_range]
    have hip : i < ps.length := by omega
    obtain ⟨e, he, hve⟩ := hvi i ps[i] (List.getElem?_eq_getElem hip)
    refine pyNext_si h2 ?_
    show wpAny _ _ (fieldsOf (.ref I) >>= _) _ _ _
    refine wpAny_bind (wpAny_fieldsOf h2 rfl ?_)
    show wpAny _ _ (setEntries S >>= _) _ _ _
    unfold setEntries
    refine wpAny_bind (wpAny_bind (wpAny_setState_of h1 hd hf (wpAny_pure ?_)))
    have e0 : ((es.size : Int) != (es.size : Int)) = false := by simp
    show wpAny _ _ (if ((es.size : Int) != (es.size : Int)) = true then _ else _) _ _ _
    rw [e0, if_neg Bool.false_ne_true]
    show wpAny _ _ (seqItems? (.ref TT) >>= _) _ _ _
    refine wpAny_bind (wpAny_seqItems h0 rfl ?_)
    have e1 : (ps.map fun (p : Nat) => rawInt p).toArray[((i : Int)).toNat]? = some (rawInt ps[i]) := by simp [hip]
    dsimp only
    rw [e1]
    show wpAny _ _ (setNextDrawn S ps[i] ep >>= _) _ _ _
    unfold setNextDrawn
    refine wpAny_bind (wpAny_bind (wpAny_setState_of h1 hd hf ?_))
    dsimp only
    have e2 : (ep != ep) = false := by simp
    rw [e2, if_neg Bool.false_ne_true, he]
    refine wpAny_pure ?_
    refine wpAny_bind (wpAny_setField_rec h2 (by simp) fun h3 h3I sb3 => ?_)
    refine wpAny_pure ⟨_, rfl, ?_⟩
    refine hQ _ h3 s.toks hve ⟨sb3.extBut _ _ n1 h1, sb3.extBut _ _ n2 h0, ?_⟩ fun b o' hb q => sb3.extBut _ _ (by simpa using hb) q
    rw [h3I]; rfl
  done := fun s Q E st hQ => by
    obtain ⟨h1, h0, h2⟩ := st
    have hpl : ps.length = es.size := by rw [hps.length_eq, List.length_range]
    refine pyNext_si h2 ?_
    show wpAny _ _ (fieldsOf (.ref I) >>= _) _ _ _
    refine wpAny_bind (wpAny_fieldsOf h2 rfl ?_)
    show wpAny _ _ (setEntries S >>= _) _ _ _
    unfold setEntries
    refine wpAny_bind (wpAny_bind (wpAny_setState_of h1 hd hf (wpAny_pure ?_)))
    have e0 : ((es.size : Int) != (es.size : Int)) = false := by simp
    show wpAny _ _ (if ((es.size : Int) != (es.size : Int)) = true then _ else _) _ _ _
    rw [e0, if_neg Bool.false_ne_true]
    show wpAny _ _ (seqItems? (.ref TT) >>= _) _ _ _
    refine wpAny_bind (wpAny_seqItems h0 rfl ?_)
    have e1 : (ps.map fun (p : Nat) => rawInt p).toArray[((es.size : Int)).toNat]? = none := by simp [hpl]
    dsimp only
    rw [e1]
    refine wpAny_bind (wpAny_setField_rec h2 (by simp) fun h3 h3I sb3 => ?_)
    refine wpAny_bind (wpAny_setField_rec h3I (by simp) fun h4 h4I sb4 => ?_)
    refine si_stop (show A.in1.handled = none from hh) fun h5 e k5 he => ⟨?_, hQ h5 s.toks fun b o' hb q => k5 _ _ (sb4.extBut _ _ (by simpa using hb) (sb3.extBut _ _ (by simpa using hb) q))⟩
    obtain ⟨oe, q1, q2⟩ := he
    exact ⟨e, oe, rfl, q1, q2⟩
  self := fun i s Q E st hQ => by
    obtain ⟨h1, h0, h2⟩ := st
    have hT : s.TypeIs (.ref I) "set_iterator" := ⟨_, h2, rfl⟩
    refine wpAny_pyIter_slot hT FF.slot_si_iter (wpAny_call_entry FF.slot_si_iter hT FF.entry_si_iter ?_ (FF.args_si_iter _))
    show wpAny _ _ (ret (.ref I)) _ _ s
    exact wpAny_pure ⟨_, rfl, "set_iterator", _, hT, FF.slot_si_next.lookup, hQ⟩
end
/-! ### iter(set) -/
theorem ints_of_ents : ∀ {l : List (Int × Value)}, (∀ e ∈ l, EntOk e) → IntsAre (l.map (·.2)) (l.map keyOf)
  | [], _ => .nil
  | e :: r, h => by
    obtain ⟨k, tok, rfl⟩ := h e List.mem_cons_self
    exact .cons k tok (ints_of_ents fun x hx => h x (List.mem_cons_of_mem _ hx))
theorem range_ents (es : Array (Int × Value)) (d : Int × Value) : (List.range es.size).map (fun p => es.getD p d) = es.toList := by
  apply List.ext_getElem
  · simp
  · intro i h1 h2
    have hi : i < es.size := by simpa using h1
    simp [Array.getD, hi]
theorem fits_place {t : SetTable} {n : Nat} (h : t.fits n = true) : t.place.size = n := by
  simp only [SetTable.fits, Bool.and_eq_true, beq_iff_eq] at h
  exact h.1
section
variable {prog : Program} {w : World} {A : Around} {E : Value → Shared → Prop} {s : Shared} {S : Addr} {ks : List Int}
/-- the iterator of a set: it walks the ints in some order -/
theorem iter_setG {Q : Value → Shared → Prop} (hS : SetG w s.heap S ks)
    (h : ∀ (I : Addr) (fp wr : List Addr) (St : Nat → Heap → Prop) (vs : List Value) (ns : List Int) (h' : Heap) (d' : Drawn), (∀ A' : Around, A'.handled = none → Walks prog w A' I fp wr ks.length (fun i v => vs[i]? = some v) St) → St 0 h' →
      (∀ b ∈ fp, b < h'.objs.size) → I ∈ fp → (∀ b ∈ wr, s.heap.objs.size ≤ b) → (∀ b ∈ fp, b = S ∨ s.heap.objs.size ≤ b) → IntsAre vs ns → ns.Perm ks → (∀ b o, s.heap.get? b = some o → h'.get? b = some o) → Q (.ref I) { s with heap := h', drawn := d' }) :
    wpAny (model prog w) A (pyIter (.ref S)) Q E s := by
  obtain ⟨o, es, ep, t, ho, hex, hd, rfl, hel, hnd, hb, hf, hr, hl⟩ := hS
  have hT : s.TypeIs (.ref S) "set" := ⟨o, ho, hex.1⟩
  have hSlt : S < s.heap.objs.size := Heap.lt_size ho
  have hkl : (es.toList.map keyOf).length = es.size := by simp
  refine wpAny_pyIter_slot hT PySem.F.slot_set_iter (wpAny_call_entry PySem.F.slot_set_iter hT FF.entry_set_iter ?_ (PySem.F.args_set_iter_1 _))
  show wpAny _ _ (Builtin.Frozenset.sizeOf S >>= _) _ _ _
  unfold Builtin.Frozenset.sizeOf setEntries
  refine wpAny_bind (wpAny_bind (wpAny_bind (wpAny_setState_of ho hd hf (wpAny_pure (wpAny_pure ?_)))))
  unfold setDrawn
  refine wpAny_bind (wpAny_bind (wpAny_setState_of ho hd hf ?_))
  dsimp only
  refine wpAny_bind (setsByText_ (wpAny_pure ?_))
  show wpAny _ _ (if (!bt w && (!t.plain && decide (es.size > 1))) = true then _ else _) _ _ _
  have old : ∀ (x : Obj) b u, s.heap.get? b = some u → (s.heap.push x).get? b = some u := fun x b u e => Heap.get?_push_of_some _ e
  by_cases hdr : (!bt w && (!t.plain && decide (es.size > 1))) = true
  · rw [if_pos hdr]
    refine wpAny_bind (draw_order es.size (List.range es.size) _ _ (by simp) fun ps d pps => ?_)
    refine wpAny_bind (wpAny_newTuple ?_ (by rw [List.length_map, pps.length_eq, List.length_range]; exact fits_of_scanBound (by simpa using hb)))
    unfold setEpoch
    refine wpAny_bind (wpAny_bind (wpAny_setState_of (s := { s with heap := s.heap.push (ptObj ps), drawn := d }) (old _ _ _ ho) hd hf (wpAny_pure ?_)))
    show wpAny _ _ (do ret (← newFields "set_iterator" [.ref s.heap.objs.size, rawInt 0, .ref S, rawInt es.size, rawInt ep])) _ _ { s with heap := s.heap.push (ptObj ps), drawn := d }
    refine wpAny_bind (wpAny_newObj_type (wpAny_pure ⟨_, rfl, "set_iterator", _, ⟨_, Heap.get?_push_size _ rfl, rfl⟩, FF.slot_si_next.lookup, ?_⟩))
    have hz : (s.heap.push (ptObj ps)).objs.size = s.heap.objs.size + 1 := Heap.size_push ..
    have n1 : S ≠ (s.heap.push (ptObj ps)).objs.size := by rw [hz]; exact Nat.ne_of_lt (Nat.lt_succ_of_lt hSlt)
    have n2 : s.heap.objs.size ≠ (s.heap.push (ptObj ps)).objs.size := by rw [hz]; exact Nat.ne_of_lt (Nat.lt_succ_self _)
    have pe : (ps.map fun p => es.getD p (0, .none)).Perm es.toList := by
      have := pps.map fun p => es.getD p (0, Value.none)
      rw [range_ents] at this
      exact this
    have plt : ∀ p ∈ ps, p < es.size := fun p hp => by simpa using pps.mem_iff.mp hp
    have ke : (es.toList.map keyOf).length = es.size := hkl
    rw [ke] at h
    refine h (s.heap.push (ptObj ps)).objs.size [(s.heap.push (ptObj ps)).objs.size, S, s.heap.objs.size] [(s.heap.push (ptObj ps)).objs.size] _ ((ps.map fun p => es.getD p (0, .none)).map (·.2)) ((ps.map fun p => es.getD p (0, .none)).map keyOf) _ d
      (fun A' hh' => walk_drawn hh' n1 n2 hd hf ps pps _ fun i p hp => ?_) ⟨Heap.get?_push_of_some _ (old _ _ _ ho), Heap.get?_push_of_some _ (Heap.get?_push_size _ rfl), Heap.get?_push_size _ rfl⟩ (fun b hb => ?_) (by simp) (fun b hb => ?_) (by simp [hz])
      (ints_of_ents fun e he => hel e (pe.mem_iff.mp he)) (pe.map _) (fun b u e => Heap.get?_push_of_some _ (Heap.get?_push_of_some _ e))
    · have hlt := plt p (List.mem_of_getElem? hp)
      refine ⟨es[p], Array.getElem?_eq_getElem hlt, ?_⟩
      rw [List.map_map, List.getElem?_map, hp]
      simp [Array.getD, hlt]
    · rw [Heap.size_push, hz]
      simp only [List.mem_cons, List.not_mem_nil, or_false] at hb
      rcases hb with rfl | rfl | rfl
      · rw [hz]; exact Nat.lt_succ_self _
      · exact Nat.lt_succ_of_lt (Nat.lt_succ_of_lt hSlt)
      · exact Nat.lt_succ_of_lt (Nat.lt_succ_self _)
    · have e : b = (s.heap.push (ptObj ps)).objs.size := by simpa using hb
      rw [e, hz]; exact Nat.le_succ _
  · rw [if_neg hdr]
    refine wpAny_bind (wpAny_pure ?_)
    unfold setEpoch
    refine wpAny_bind (wpAny_bind (wpAny_setState_of ho hd hf (wpAny_pure ?_)))
    show wpAny _ _ (do ret (← newFields "set_iterator" [rawInt 0, rawInt 0, .ref S, rawInt es.size, rawInt ep])) _ _ s
    refine wpAny_bind (wpAny_newObj_type (wpAny_pure ⟨_, rfl, "set_iterator", _, ⟨_, Heap.get?_push_size _ rfl, rfl⟩, FF.slot_si_next.lookup, ?_⟩))
    have hne : S ≠ s.heap.objs.size := Nat.ne_of_lt hSlt
    have flt : ∀ (x : Obj), ∀ b ∈ [s.heap.objs.size, S], b < (s.heap.push x).objs.size := fun x b hb => by
      rw [Heap.size_push]
      simp only [List.mem_cons, List.not_mem_nil, or_false] at hb
      rcases hb with rfl | rfl
      · exact Nat.lt_succ_self _
      · exact Nat.lt_succ_of_lt hSlt
    by_cases hbt : bt w = true
    · have pp := pick_perm (w.params.setOrder S ep) es
      have hps : (pickOrder (w.params.setOrder S ep) es).size = es.size := by rw [← Array.length_toList, pp.length_eq, Array.length_toList]
      have ke : (es.toList.map keyOf).length = es.size := hkl
      rw [ke] at h
      refine h s.heap.objs.size [s.heap.objs.size, S] [s.heap.objs.size] _ ((pickOrder (w.params.setOrder S ep) es).toList.map (·.2)) ((pickOrder (w.params.setOrder S ep) es).toList.map keyOf) _ s.drawn
        (fun A' hh' => walk_slots hh' hne hd hf ((pickOrder (w.params.setOrder S ep) es).toList.map (·.2)) (by simp [hps]) (fun _ _ => True) (fun A'' i slot s' Q' E' v _ hS' hv hq => next_text hS' hd hf hbt ?_) fun A'' slot s' Q' E' _ hS' hq => next_text hS' hd hf hbt ?_)
        ⟨old _ _ _ ho, 0, trivial, Heap.get?_push_size _ rfl⟩ (flt _) (by simp) (by simp) (by simp) (ints_of_ents fun e he => hel e (pp.mem_iff.mp he)) (pp.map _) (old _)
      · rw [List.getElem?_map, Array.getElem?_toList] at hv
        cases q : (pickOrder (w.params.setOrder S ep) es)[i]? with
        | none => rw [q] at hv; cases hv
        | some e =>
          rw [q] at hv
          cases hv
          exact hq slot trivial
      · rw [Array.getElem?_eq_none (by omega)]
        exact hq
    · have hbf : bt w = false := by cases q : bt w <;> simp_all
      have hled : t.led = true := hl.resolve_right hbt
      have hdr' : (!t.plain && decide (es.size > 1)) = false := by
        rw [hbf] at hdr
        simpa using hdr
      have hpl := fits_place hf
      have ke : (es.toList.map keyOf).length = es.size := hkl
      rw [ke] at h
      refine h s.heap.objs.size [s.heap.objs.size, S] [s.heap.objs.size] _ (es.toList.map (·.2)) (es.toList.map keyOf) _ s.drawn
        (fun A' hh' => walk_slots hh' hne hd hf (es.toList.map (·.2)) (by simp) (fun i slot => SetTable.below t.place slot = i) (fun A'' i slot s' Q' E' v hg hS' hv hq => next_places hS' hd hf hbf hdr' hled ?_) fun A'' slot s' Q' E' hg hS' hq => next_places hS' hd hf hbf hdr' hled ?_)
        ⟨old _ _ _ ho, 0, below_zero hr, Heap.get?_push_size _ rfl⟩ (flt _) (by simp) (by simp) (by simp) (ints_of_ents hel) (List.Perm.refl _) (old _)
      · rw [hg]
        rw [List.getElem?_map, Array.getElem?_toList] at hv
        cases q : es[i]? with
        | none => rw [q] at hv; cases hv
        | some e =>
          rw [q] at hv
          cases hv
          have hi : i < t.place.size := by rw [hpl]; exact (Array.getElem?_eq_some_iff.mp q).1
          rw [Array.getElem?_eq_getElem hi]
          exact hq _ (below_next hr (Array.getElem?_eq_getElem hi))
      · rw [hg, Array.getElem?_eq_none (Nat.le_refl _)]
        exact hq
end
end L2

namespace L2
open PySem PySem.Spec PyProof.Rows
namespace FF
theorem look_set_len : typeLookup (.type "set") "__len__" = pure (some (.builtin "set.__len__")) := by rw [typeLookup_type, builtinLookup_eq_fast]; kernel_rfl
end FF
section
variable {prog : Program} {w : World} {A : Around} {E : Value → Shared → Prop} {s : Shared} {S : Addr} {ks : List Int}
theorem hint_set {Q : Bool → Shared → Prop} (hT : s.TypeIs (.ref S) "set") (h : Q false s) : wpAny (model prog w) A (Builtin.List.listLengthHint (.ref S)) Q E s := by
  unfold Builtin.List.listLengthHint
  refine wpAny_bind (wpAny_specialOf hT FF.look_set_len ?_)
  (generalize hid : ("set.__len__" : String) = id0; (fail_if_success (clear hid id0)); wp_delta; rw [show splitId id0 = some ("set", "__len__") from by subst hid; decide +kernel]; subst hid)
  refine wpAny_bind (wpAny_isInstance (b := true) hT sub_set_self ?_)
  simp only [Bool.not_true, Bool.false_eq_true, if_false]
  refine wpAny_bind (wpAny_typeOf hT ?_)
  exact wpAny_pure h
theorem collect_setG {Q : List Value → Shared → Prop} (hh : A.handled = none) (hS : SetG w s.heap S ks)
    (h : ∀ (vs : List Value) (ns : List Int) (h' : Heap) (d' : Drawn) (tk : Nat), IntsAre vs ns → ns.Perm ks → (∀ b o, s.heap.get? b = some o → h'.get? b = some o) → s.heap.objs.size < h'.objs.size → Q vs { s with heap := h', drawn := d', toks := tk }) :
    wpAny (model prog w) A (collect (.ref S)) Q E s := by
  have hSlt := hS.lt
  have hkb : ks.length ≤ sizeLine := by obtain ⟨_, _, _, _, _, _, _, _, _, _, hb, _⟩ := hS; exact fits_of_scanBound hb
  unfold collect
  refine wpAny_bind (wpAny_runValue (codeAny_builtin PySem.F.entry_proto_collect ?_))
  rw [Around.under_plainId PySem.F.plain_proto_collect _]
  show wpAny _ A.in1 (newList [] >>= fun l => again (.builtin "list.__iadd__" ⟨[l, .ref S], []⟩)) _ _ s
  refine wpAny_bind (wpAny_newObj_type ?_)
  refine wpAny_pure ⟨plainId_quiet PySem.F.plain_list_iadd _, codeAny_builtin PySem.F.entry_list_iadd ?_⟩
  rw [Around.under_plainId PySem.F.plain_list_iadd _]
  generalize hh1 : s.heap.push { cls := .type "list", data := .seq ([] : List Value).toArray } = h1
  have z1 : h1.objs.size = s.heap.objs.size + 1 := by rw [← hh1]; exact Heap.size_push ..
  have old1 : ∀ b o, s.heap.get? b = some o → h1.get? b = some o := fun b o e => by rw [← hh1]; exact Heap.get?_push_of_some _ e
  have hL1 : h1.get? s.heap.objs.size = some { cls := .type "list", data := .seq #[] } := by rw [← hh1]; exact Heap.get?_push_size _ rfl
  have hS1 : SetG w h1 S ks := hS.at fun o e => old1 _ _ e
  have hT1 : Shared.TypeIs { s with heap := h1 } (.ref S) "set" := by obtain ⟨o, _, _, _, e, x, _⟩ := hS1; exact ⟨o, e, x.1⟩
  have hne : (s.heap.objs.size == S) = false := by simpa using (Nat.ne_of_gt hSlt)
  have h0 : Builtin.List.listSameRef (.ref s.heap.objs.size) (.ref S) = false := hne
  show wpAny _ A.in1 (Builtin.List.listExtendWith (.ref s.heap.objs.size) (.ref S) (.ref s.heap.objs.size)) _ _ _
  unfold Builtin.List.listExtendWith
  refine wpAny_bind (wpAny_typeOf hT1 ?_)
  rw [if_neg (by rw [h0]; decide)]
  refine wpAny_bind (iter_setG hS1 fun I fp wr St vs ns h2 d2 W st2 ft2 hI hw2 hf2 hi2 hp2 old2 => ?_)
  have hS2 : SetG w h2 S ks := hS1.at fun o e => old2 _ _ e
  have hT2 : Shared.TypeIs { s with heap := h2, drawn := d2 } (.ref S) "set" := by obtain ⟨o, _, _, _, e, x, _⟩ := hS2; exact ⟨o, e, x.1⟩
  have hL2 := old2 _ _ hL1
  refine wpAny_bind (wpAny_holding (hint_set hT2 ?_))
  rw [if_pos (by rfl)]
  refine wpAny_bind (wpAny_rule ?_)
  unfold Builtin.List.listTouch
  refine wpAny_bind (wpAny_bind (listUpdate_at hL2 rfl ?_))
  have hL3 := get?_update_seq hL2 (fun xs : Array Value => xs.push .none)
  refine listUpdate_at hL3 rfl ?_
  have hL4 := get?_update_seq hL3 (fun xs : Array Value => xs.pop)
  have hLf : s.heap.objs.size ∉ fp := fun hm => by
    rcases hf2 _ hm with z | z
    · exact absurd hSlt (by rw [← z]; exact Nat.lt_irrefl _)
    · rw [show Shared.heap { s with heap := h1 } = h1 from rfl, z1] at z
      exact absurd z (Nat.not_succ_le_self _)
  have W' := (W A.in1 (show A.in1.handled = none from hh)).toS
  have up : ∀ b ∈ fp, ∀ o, h2.get? b = some o → ((h2.update s.heap.objs.size (Obj.mapSeq fun xs : Array Value => xs.push .none)).update s.heap.objs.size (Obj.mapSeq fun xs : Array Value => xs.pop)).get? b = some o := fun b hb o e => by
    have hb' : s.heap.objs.size ≠ b := fun z => hLf (by rw [z]; exact hb)
    rw [Heap.get?_update_other _ _ hb', Heap.get?_update_other _ _ hb']
    exact e
  have st4 := (W A.in1 (show A.in1.handled = none from hh)).frame 0 _ _ st2 up
  refine wpAny_pure ⟨plainId_quiet PySem.F.plain_extend_loop _, codeAny_extend_loopS W' hkb s.heap.objs.size hLf _ ks.length 0 _ _ _ rfl (Nat.zero_le _) st4 hL4 (ItemsOf.nil _) fun s' acc' c' hm hS' hacc => ?_⟩
  show wpAny _ A (load s.heap.objs.size >>= _) _ _ s'
  refine wpAny_bind (wpAny_load hS' (wpAny_pure ?_))
  obtain ⟨h5, g5, d5, t5, o5⟩ := s'
  obtain rfl : g5 = s.gens := hm.gens
  obtain rfl : d5 = d2 := hm.drawn
  obtain rfl : o5 = s.os := hm.os
  have ev : acc'.toList = vs := by
    have hvl : vs.length = ks.length := by rw [IntsAre.length hi2, hp2.length_eq]
    apply List.ext_getElem?
    intro i
    rw [Array.getElem?_toList]
    cases q : acc'[i]? with
    | some v => exact (hacc.2 i v q).symm
    | none =>
      have : acc'.size ≤ i := by simpa using q
      rw [List.getElem?_eq_none (by have := hacc.1; omega)]
  show Q acc'.toList _
  rw [ev]
  refine h vs ns h5 d5 t5 hi2 hp2 (fun b o e => ?_) (Heap.lt_size hS')
  have hbL : b ≠ s.heap.objs.size := Nat.ne_of_lt (Heap.lt_size e)
  refine hm.heap b o (fun z => ?_) ?_
  · rcases List.mem_cons.mp z with z | z
    · exact hbL z
    · have := hw2 b z
      rw [show Shared.heap { s with heap := h1 } = h1 from rfl, z1] at this
      exact absurd (Heap.lt_size e) (Nat.not_lt.mpr (Nat.le_of_succ_le this))
  · show ((h2.update _ _).update _ _).get? b = some o
    rw [Heap.get?_update_other _ _ (Ne.symm hbL), Heap.get?_update_other _ _ (Ne.symm hbL)]
    exact old2 _ _ (old1 _ _ e)
end
end L2

namespace L2
open PySem PySem.Spec PyProof.Rows
section
variable {prog : Program} {w : World} {A : Around} {E : Value → Shared → Prop} {s : Shared} {S : Addr} {ks : List Int}
theorem sortedG {Q : Value → Shared → Prop} (hh : A.handled = none) (hS : SetG w s.heap S ks) (h64 : ks.length < 64)
    (h : ∀ (L : Addr) (n : Nat) (out : Array Value) (ns : List Int) (h' : Heap) (d' : Drawn) (tk : Nat), IntsAre out.toList ns → ns.Perm ks → ns.Pairwise (· ≤ ·) → h'.get? L = some (seqObj "list" out n) → s.heap.objs.size ≤ L →
      (∀ b o, s.heap.get? b = some o → h'.get? b = some o) → Q (.ref L) { s with heap := h', drawn := d', toks := tk }) :
    wpAny (model prog w) A (call (.builtin "sorted") [.ref S]) Q E s := by
  refine Calls.call_function_entry kind_sorted plain_sorted entry_sorted (args_sorted1 _) ?_
  unfold Builtin.«sorted»
  refine wpAny_bind (m := checkCount "sorted" 1 1 _) (wpAny_pure ?_)
  refine wpAny_bind (collect_setG hh hS fun vs ns h2 d2 t2 hi hp old hlt => ?_)
  have hvl : vs.length < 64 := by rw [IntsAre.length hi, hp.length_eq]; exact h64
  refine wpAny_bind (wpAny_newList ?_ (by rw [sizeLine_eq]; omega))
  have hoL : (h2.push (seqObj "list" vs.toArray 0)).get? h2.objs.size = some (seqObj "list" vs.toArray 0) := Heap.get?_push_size _ rfl
  show wpAny _ _ _ _ _ { s with heap := h2.push (seqObj "list" vs.toArray 0), drawn := d2, toks := t2 }
  refine wpAny_bind (wpAny_holding (wpAny_call_entry slot_list_sort ⟨_, hoL, rfl⟩ entry_list_sort (list_sort_tree hoL hi hvl fun out ns' a1 a2 a3 => ⟨_, rfl, ?_⟩) (args_list_sort _)))
  have hz : s.heap.objs.size ≤ h2.objs.size := Nat.le_of_lt hlt
  have keep : ∀ b o, s.heap.get? b = some o → (sortedHeap (h2.push (seqObj "list" vs.toArray 0)) h2.objs.size vs out).get? b = some o := fun b o e => by
    have e2 := old b o e
    have hb : b < h2.objs.size := Heap.lt_size e2
    unfold sortedHeap
    rw [Heap.get?_update_other _ _ (Nat.ne_of_gt hb)]
    refine Heap.get?_push_of_some _ (Heap.get?_push_of_some _ ?_)
    rw [Heap.get?_update_other _ _ (Nat.ne_of_gt hb)]
    exact Heap.get?_push_of_some _ e2
  have ho1 := get?_update_seq hoL (fun _ => (#[] : Array Value))
  have ho3 := get?_update_seq (Heap.get?_push_of_some (seqObj "list" #[] 0) (Heap.get?_push_of_some (seqObj "tuple" vs.toArray 0) ho1)) (fun _ => out)
  exact wpAny_pure ⟨_, rfl, h h2.objs.size _ out ns' _ d2 t2 a1 (a2.trans hp) a3 ho3 hz keep⟩
theorem lenG {Q : Value → Shared → Prop} (hS : SetG w s.heap S ks) (h : ∀ tk tk', Q (.int ks.length tk) { s with toks := tk' }) :
    wpAny (model prog w) A (call (.builtin "len") [.ref S]) Q E s := by
  obtain ⟨o, es, ep, t, ho, hex, hd, rfl, hel, hnd, hb, hf, hr, hl⟩ := hS
  have hb' : es.size < 4096 := by simpa [scanBound] using hb
  refine call_len_set ho hex hd hf (by omega) ?_
  have e : ((es.toList.map keyOf).length : Int) = es.size := by simp
  have q := h (s.toks + 1) (s.toks + 1 + 1)
  rw [e] at q
  exact q
end
end L2

namespace L2
open PySem PySem.Spec PyProof.Rows
section
variable {prog : Program} {w : World} {A : Around} {E : Value → Shared → Prop} {s : Shared}
end
end L2

namespace L2
open PySem PySem.Spec PyProof.Rows
section
variable {prog : Program} {w : World} {A : Around} {E : Value → Shared → Prop} {s : Shared}
end
end L2

namespace L2
open PySem PySem.Spec PyProof.Rows
namespace FF
end FF
section
variable {prog : Program} {w : World} {A : Around} {E : Value → Shared → Prop} {s : Shared}
theorem SetG.type {h : Heap} {a : Addr} {ks : List Int} (g : SetG w h a ks) {s' : Shared} (e : s'.heap = h) : s'.TypeIs (.ref a) "set" := by
  obtain ⟨o, _, _, _, ho, x, _⟩ := g
  exact ⟨o, by rw [e]; exact ho, x.1⟩
end
end L2

namespace L2
open PySem PySem.Spec PyProof.Rows
section
variable {prog : Program} {w : World} {A : Around} {E : Value → Shared → Prop} {s : Shared}
end
end L2

namespace L2
open PySem PySem.Spec PyProof.Rows
/-! ### a table that is laid anew has room -/
def lg (mask i : Nat) : Nat := (i * 5 + 1) % (mask + 1)
def lit (mask : Nat) : Nat → Nat → Nat
  | 0, i => i
  | t + 1, i => lit mask t (lg mask i)
theorem fm_congr {f g : Nat → Option Nat} : ∀ {l : List Nat}, (∀ x ∈ l, g x = f x) → l.filterMap g = l.filterMap f
  | [], _ => rfl
  | x :: r, h => by
    have hx := h x (List.mem_cons_self ..)
    have ih := fm_congr fun y hy => h y (List.mem_cons_of_mem _ hy)
    cases e : f x with
    | none => rw [List.filterMap_cons_none e, List.filterMap_cons_none (hx.trans e), ih]
    | some v => rw [List.filterMap_cons_some e, List.filterMap_cons_some (hx.trans e), ih]
end L2

namespace L2
open PySem PySem.Spec PyProof.Rows
def SetT (w : World) (h : Heap) (a : Addr) (ks : List Int) (o : Obj) (es : Array (Int × Value)) (ep : Nat) (t : SetTable) : Prop := h.get? a = some o ∧ o.ExactSet ∧ o.data = .set es ep t ∧
  es.toList.map keyOf = ks ∧ (∀ e ∈ es.toList, EntOk e) ∧ ks.Nodup ∧ ks.length < scanBound ∧ t.fits es.size = true ∧ Rise t.place ∧ (t.led = true ∨ bt w = true)
theorem SetT.g {w : World} {h : Heap} {a : Addr} {ks : List Int} {o : Obj} {es : Array (Int × Value)} {ep : Nat} {t : SetTable} (x : SetT w h a ks o es ep t) : SetG w h a ks := ⟨o, es, ep, t, x⟩
section
variable {prog : Program} {w : World} {A : Around} {E : Value → Shared → Prop} {s : Shared}
end
end L2

namespace L2
open PySem PySem.Spec PyProof.Rows
section
variable {prog : Program} {w : World} {A : Around} {E : Value → Shared → Prop} {s : Shared}
end
end L2

namespace L2
open PySem PySem.Spec PyProof.Rows
/-! ### sets of ints, tracked -/
def setO (w : World) (a : Addr) (ks : List Int) : HO := HO.ext fun h => SetG w h a ks
theorem setO_new {P : Program} {w : World} {H : Hp} {h : Heap} {a : Addr} {ks : List Int} (g : SetG w h a ks) : ObjOk P w H h a (setO w a ks) := by
  refine ⟨g, ?_, fun h1 h2 g1 k => g1.at k⟩
  obtain ⟨o, _, _, _, e, _⟩ := g
  exact ⟨o, e⟩
theorem setO_get {P : Program} {w : World} {H : Hp} {h : Heap} {a : Addr} {ks : List Int} (x : HOk P w H h) (e : H a = some (setO w a ks)) : SetG w h a ks := (x a _ e).1
theorem SetG.nodup {w : World} {h : Heap} {a : Addr} {ks : List Int} (g : SetG w h a ks) : ks.Nodup := by
  obtain ⟨_, _, _, _, _, _, _, _, _, n, _⟩ := g
  exact n
theorem ints_of_vals : ∀ {ns : List Int} {us : List Value}, Vals (ns.map V.int) us → IntsAre us ns
  | [], _, .nil => .nil
  | n :: r, _, .cons h t => by
    obtain ⟨tk, rfl⟩ := (show ∃ t, _ = Value.int n t from h)
    exact .cons n tk (ints_of_vals t)
theorem vals_of_ints : ∀ {ns : List Int} {us : List Value}, IntsAre us ns → Vals (ns.map V.int) us
  | _, _, .nil => .nil
  | _, _, .cons n t h => .cons ⟨t, rfl⟩ (vals_of_ints h)
section
variable {X : Cx} {pins : List (Addr × Obj)} {σ : St} {H : Hp} {s : Shared} {h' : Heap} {a : Addr} {o : HO}
theorem Inv.laidD {t' : Nat} {d' : Drawn} (I : Inv X pins σ H s) (k : ∀ b u, s.heap.get? b = some u → h'.get? b = some u) (hp : s.heap.objs.size ≤ a)
    (new : ObjOk X.prog X.w (upd H a o) h' a o) : Inv X pins σ (upd H a o) { s with heap := h', drawn := d', toks := t' } := by
  have hn : H a = none := I.hok.fresh hp
  refine I.step (g' := s.gens) (d' := d') (ch := []) (fun b hb => by simp at hb) (fun b u _ _ _ e _ => k b u e) (fun b u _ _ _ e _ => ⟨u.slots, k b u e⟩)
    (fun b u _ e n => by rw [upd_ne (Nat.ne_of_lt (Nat.lt_of_lt_of_le (Heap.lt_size e) hp))]; exact n)
    (fun b u _ e => ⟨u, k b u e⟩) (fun b xs e => by rw [upd_ne (ne_of_none e hn)]; exact e) (fun b u v e => by rw [upd_ne (ne_of_none e hn)]; exact e) (fun b ps e => ⟨#[], by rw [upd_ne (ne_of_none e hn), e]; simp⟩) (fun m hm => ?_) (I.hok.laid k hp new) I.bare
  obtain ⟨u, es, ep, ho, r⟩ := hm
  exact ⟨u, es, ep, k _ u ho, r⟩
end
section
variable {X : Cx}
def rSortedS (w : World) : List V → Hp → VK → Prop := fun xs H Q => ∃ (a : Addr) (ks : List Int), xs = [.ref a] ∧ H a = some (setO w a ks) ∧ ks.length < 64 ∧ ∀ (l : Addr) (ns : List Int), H l = none → ns.Perm ks → ns.Pairwise (· ≤ ·) → Q (.ref l) (upd H l (.lst (ns.map V.int)))
theorem call_sortedS (hc : X.calm = true) : CallR X (.builtin "sorted") (rSortedS X.w) := by
  intro pins s σ H xs us Q I r h
  obtain ⟨a, ks, rfl, ha, hl, q⟩ := h
  obtain ⟨u, rfl, rx⟩ := vals1 r
  cases rx
  refine sortedG (I.ok.hd hc) (setO_get I.hok ha) hl fun L n out ns h' d' tk hi hp hs hL hz old => ?_
  refine ⟨.ref L, _, I.laidD (d' := d') old hz (o := .lst (ns.map V.int)) ⟨?_, out.toList, n, vals_of_ints hi, by simpa using hL⟩, rfl, q _ ns (I.hok.fresh hz) hp hs⟩
  rw [List.length_map, hp.length_eq, sizeLine_eq]; omega
def rLenS (w : World) : List V → Hp → VK → Prop := fun xs H Q => ∃ (a : Addr) (ks : List Int), xs = [.ref a] ∧ H a = some (setO w a ks) ∧ Q (.int ks.length) H
theorem call_lenS : CallR X (.builtin "len") (rLenS X.w) := by
  intro pins s σ H xs us Q I r h
  obtain ⟨a, ks, rfl, ha, q⟩ := h
  obtain ⟨u, rfl, rx⟩ := vals1 r
  cases rx
  exact lenG (setO_get I.hok ha) fun tk tk' => ⟨.int ks.length, H, I.tok _, ⟨tk, rfl⟩, q⟩
end
/-! the rules with the written part and the world named -/
section
variable {X : Cx} {K : PySem.W.Frag} {w : World}
theorem cSortedS (hw : X.w = w) (hc : X.calm = true) : CallR X (.builtin "sorted") (rSortedS w) := by subst hw; exact call_sortedS hc
theorem cLenS (hw : X.w = w) : CallR X (.builtin "len") (rLenS w) := by subst hw; exact call_lenS
end
section
variable {σ : St} {H : Hp} {Q : VK} {K : PySem.W.Frag} {w : World}
theorem i_sortedS {a : Addr} {ks : List Int} (h : H a = some (setO w a ks)) (l : ks.length < 64) (q : ∀ (l : Addr) (ns : List Int), H l = none → ns.Perm ks → ns.Pairwise (· ≤ ·) → Q (.ref l) (upd H l (.lst (ns.map V.int)))) : rSortedS w [.ref a] H Q := ⟨a, ks, rfl, h, l, q⟩
theorem i_lenS {a : Addr} {ks : List Int} (h : H a = some (setO w a ks)) (q : Q (.int ks.length) H) : rLenS w [.ref a] H Q := ⟨a, ks, rfl, h, q⟩
end
end L2

namespace L2
open PySem PySem.Spec PyProof.Rows
/-! ### data that are alike compare as equal -/
section
variable {X : Cx} {pins : List (Addr × Obj)} {σ : St} {H : Hp} {s : Shared}
theorem reps_at {vs ws : List V} {ds : List Dt} {us zs : List Value} (h1 : Reps H vs ds) (h2 : Reps H ws ds) (r1 : Vals vs us) (r2 : Vals ws zs) : us.length = zs.length ∧ ∀ j (a : j < us.length) (b : j < zs.length), ∃ (v w : V) (d : Dt), Rep H v d ∧ Rep H w d ∧ ds[j]? = some d ∧ RelV v us[j] ∧ RelV w zs[j] := by
  have l1 := h1.length
  have l2 := h2.length
  have l3 := r1.length
  have l4 := r2.length
  refine ⟨by omega, fun j a b => ?_⟩
  have e1 : vs[j]? = some vs[j] := List.getElem?_eq_getElem (by omega)
  have e2 : ws[j]? = some ws[j] := List.getElem?_eq_getElem (by omega)
  obtain ⟨d, e3, p1⟩ := h1.get e1
  obtain ⟨d', e4, p2⟩ := h2.get e2
  rw [e3] at e4
  cases e4
  obtain ⟨u, e5, q1⟩ := Vals.get r1 e1
  obtain ⟨z, e6, q2⟩ := Vals.get r2 e2
  rw [List.getElem?_eq_getElem a] at e5
  rw [List.getElem?_eq_getElem b] at e6
  cases e5; cases e6
  exact ⟨_, _, d, p1, p2, e3, q1, q2⟩
theorem lstAt (I : Inv X pins σ H s) {a : Addr} {vs : List V} (e : H a = some (.lst vs)) : ∃ its : List Value, Vals vs its ∧ s.heap.IsList a its.toArray := by
  obtain ⟨_, its, n, r, h⟩ := (show ObjOk X.prog X.w H s.heap a (.lst vs) from I.hok a _ e)
  exact ⟨its, r, ⟨_, h, rfl, n, rfl⟩⟩
theorem tupAt (I : Inv X pins σ H s) {a : Addr} {vs : List V} (e : H a = some (.tup vs)) : ∃ its : List Value, Vals vs its ∧ s.heap.IsTuple a its.toArray := by
  obtain ⟨_, its, r, h⟩ := (show ObjOk X.prog X.w H s.heap a (.tup vs) from I.hok a _ e)
  exact ⟨its, r, h⟩
theorem allT (n : Nat) : ((List.range n).all fun _ => true) = true := by simp
theorem eqD (I : Inv X pins σ H s) : ∀ (n : Nat) (A : Around) (x y : V) (u v : Value) (d : Dt), A.units + n < cLine → d.depth ≤ n → Rep H x d → Rep H y d → RelV x u → RelV y v → SeqAt.EqAt A s u v true
  | n, A, _, _, u, v, .int i, hu, hd, .int _, .int _, rx, ry => by
    obtain ⟨t, rfl⟩ := (show ∃ t, u = Value.int i t from rx)
    obtain ⟨t', rfl⟩ := (show ∃ t, v = Value.int i t from ry)
    intro prog w E Q q
    exact wpAny_eqBool_int (by rw [beq_self_eq_true]; exact q)
  | n, A, _, _, u, v, .bl b, hu, hd, .bl _, .bl _, rx, ry => by
    cases (show u = Value.bool b from rx)
    cases (show v = Value.bool b from ry)
    exact .same _
  | n, A, _, _, u, v, .str i, hu, hd, .str _, .str _, rx, ry => by
    obtain ⟨t, rfl⟩ := (show ∃ t, u = Value.str i t from rx)
    obtain ⟨t', rfl⟩ := (show ∃ t, v = Value.str i t from ry)
    intro prog w E Q q
    exact wpAny_eqBool_str (by rw [decide_eq_true rfl]; exact q)
  | n, A, _, _, u, v, .non, hu, hd, .non, .non, rx, ry => by
    cases (show u = Value.none from rx)
    cases (show v = Value.none from ry)
    exact .same _
  | 0, A, _, _, u, v, .lst ds, hu, hd, _, _, rx, ry => by simp [Dt.depth] at hd
  | 0, A, _, _, u, v, .tup ds, hu, hd, _, _, rx, ry => by simp [Dt.depth] at hd
  | n + 1, A, _, _, u, v, .lst ds, hu, hd, .lst (a := a) ea ra, .lst (a := b) eb rb, rx, ry => by
    cases (show u = Value.ref a from rx)
    cases (show v = Value.ref b from ry)
    by_cases hab : a = b
    · subst hab; exact .same _
    · obtain ⟨us, r1, l1⟩ := lstAt I ea
      obtain ⟨zs, r2, l2⟩ := lstAt I eb
      obtain ⟨hl, hj⟩ := reps_at ra rb r1 r2
      have q := SeqAt.RcAt.lists (A := A) (e := fun _ => true) l1 l2 (by simpa using hl) (by omega) fun j h1 h2 => by
        obtain ⟨x', y', d', p1, p2, e3, q1, q2⟩ := hj j (by simpa using h1) (by simpa using h2)
        have hdd := depth_le e3
        simp only [Dt.depth] at hd
        exact eqD I n A.in1 x' y' _ _ d' (by show A.units + 1 + n < _; omega) (by omega) p1 p2 (by simpa using q1) (by simpa using q2)
      rw [allT] at q
      exact .of_refs hab q
  | n + 1, A, _, _, u, v, .tup ds, hu, hd, .tup (a := a) ea ra, .tup (a := b) eb rb, rx, ry => by
    cases (show u = Value.ref a from rx)
    cases (show v = Value.ref b from ry)
    by_cases hab : a = b
    · subst hab; exact .same _
    · obtain ⟨us, r1, l1⟩ := tupAt I ea
      obtain ⟨zs, r2, l2⟩ := tupAt I eb
      obtain ⟨hl, hj⟩ := reps_at ra rb r1 r2
      have q := SeqAt.RcAt.tuples (A := A) (e := fun _ => true) l1 l2 (by omega) fun j h1 h2 => by
        obtain ⟨x', y', d', p1, p2, e3, q1, q2⟩ := hj j (by simpa using h1) (by simpa using h2)
        have hdd := depth_le e3
        simp only [Dt.depth] at hd
        exact eqD I n A.in1 x' y' _ _ d' (by show A.units + 1 + n < _; omega) (by omega) p1 p2 (by simpa using q1) (by simpa using q2)
      rw [allT, Bool.true_and, show (us.toArray.size == zs.toArray.size) = true by simpa using hl] at q
      exact .of_refs hab q
end
section
variable {X : Cx}
/-- two that are alike -/
def rAlike (b : Bool) : R2 := fun x y H Q => ∃ (p q : Addr) (d : Dt), x = .ref p ∧ y = .ref q ∧ Rep H x d ∧ Rep H y d ∧ d.depth ≤ 40 ∧ Q (.bl b) H
theorem op_eqD (hu : X.A.units + 64 < cLine) : OpR X (compareOp .Eq) (rAlike true) := by
  intro pins s σ H x y v u Q I rx ry h
  obtain ⟨p, q, d, rfl, rfl, h1, h2, hd, k⟩ := h
  cases (show v = Value.ref p from rx)
  cases (show u = Value.ref q from ry)
  cases d with
  | int i => cases h1
  | bl i => cases h1
  | str i => cases h1
  | non => cases h1
  | lst ds =>
    cases h1 with | lst ea ra => cases h2 with | lst eb rb =>
    obtain ⟨us, r1, l1⟩ := lstAt I ea
    obtain ⟨zs, r2, l2⟩ := lstAt I eb
    obtain ⟨hl, hj⟩ := reps_at ra rb r1 r2
    refine SeqAt.RcAt.lists (A := X.A) (e := fun _ => true) l1 l2 (by simpa using hl) (by omega) (fun j h1 h2 => ?_) X.prog X.w _ _ ?_
    · obtain ⟨x', y', d', p1, p2, e3, q1, q2⟩ := hj j (by simpa using h1) (by simpa using h2)
      have hdd := depth_le e3
      simp only [Dt.depth] at hd
      exact eqD I 40 X.A.in1 x' y' _ _ d' (by show X.A.units + 1 + 40 < _; omega) (by omega) p1 p2 (by simpa using q1) (by simpa using q2)
    · rw [allT]
      exact ⟨.bl true, H, I, rfl, k⟩
  | tup ds =>
    cases h1 with | tup ea ra => cases h2 with | tup eb rb =>
    obtain ⟨us, r1, l1⟩ := tupAt I ea
    obtain ⟨zs, r2, l2⟩ := tupAt I eb
    obtain ⟨hl, hj⟩ := reps_at ra rb r1 r2
    refine SeqAt.RcAt.tuples (A := X.A) (e := fun _ => true) l1 l2 (by omega) (fun j h1 h2 => ?_) X.prog X.w _ _ ?_
    · obtain ⟨x', y', d', p1, p2, e3, q1, q2⟩ := hj j (by simpa using h1) (by simpa using h2)
      have hdd := depth_le e3
      simp only [Dt.depth] at hd
      exact eqD I 40 X.A.in1 x' y' _ _ d' (by show X.A.units + 1 + 40 < _; omega) (by omega) p1 p2 (by simpa using q1) (by simpa using q2)
    · rw [allT, Bool.true_and, show (us.toArray.size == zs.toArray.size) = true by simpa using hl]
      exact ⟨.bl true, H, I, rfl, k⟩
theorem i_alike {b : Bool} {p q : Addr} {d : Dt} {H : Hp} {Q : VK} (h1 : Rep H (.ref p) d) (h2 : Rep H (.ref q) d) (hd : d.depth ≤ 40) (k : Q (.bl b) H) : rAlike b (.ref p) (.ref q) H Q := ⟨p, q, d, rfl, rfl, h1, h2, hd, k⟩
end
end L2

namespace L2
open PySem PySem.Spec PyProof.Rows
/-! ### U. loops with a count, append, list + list, in; rising lists -/
section
variable {σ : St} {H : Hp} {Q : VK} {K : PySem.W.Frag} {D : Ends}
def ForT (J : It) (g : TG) (tb : TS) (D : Ends) (σ : St) (H1 : Hp) : Prop := ∃ W : Nat → Nat → St → Hp → Prop, (∃ m, W 0 m σ H1) ∧ ∀ i m σ H, W i m σ H →
  (J.stop i H ∧ D.nx σ H) ∨ (J.go i H ∧ ∃ N : St → Hp → Prop, (∀ σ' H', N σ' H' → ∃ m', m' < m ∧ W (i + 1) m' σ' H') ∧ ∀ x H', J.yld i H x H' → g x σ H' fun σ2 H2 => tb { D with nx := N, ct := N, bk := D.nx } σ2 H2)
theorem i_for {wi : TI} {g : TG} {tb : TS} (q : wi σ H fun J H1 => ForT J g tb D σ H1) : tFor wi g tb D σ H := q
theorem forW {J : It} {g : TG} {tb : TS} (W : Nat → St → Hp → Prop) (n : Nat) (w0 : W 0 σ H) (fin : ∀ σ' H', W n σ' H' → J.stop n H' ∧ D.nx σ' H')
    (step : ∀ i σ' H', i < n → W i σ' H' → J.go i H' ∧ ∀ x H2, J.yld i H' x H2 → g x σ' H2 fun σ3 H3 => tb { D with nx := W (i + 1), ct := W (i + 1), bk := D.nx } σ3 H3) : ForT J g tb D σ H := by
  refine ⟨fun i m σ' H' => i ≤ n ∧ m = n - i ∧ W i σ' H', ⟨n, Nat.zero_le _, rfl, w0⟩, ?_⟩
  rintro i m σ' H' ⟨hi, rfl, hw⟩
  rcases Nat.lt_or_ge i n with hlt | hge
  · right
    obtain ⟨g1, g2⟩ := step i σ' H' hlt hw
    exact ⟨g1, W (i + 1), fun σ2 H2 w2 => ⟨n - (i + 1), by omega, by omega, rfl, w2⟩, g2⟩
  · left
    obtain rfl : i = n := by omega
    exact fin _ _ hw
theorem compW {J : It} {g : TG} {tt : TT} {te : TE} {Fin : List V → Hp → Prop} (W : Nat → List V → St → Hp → Prop) (n : Nat) (w0 : W 0 [] σ H) (fin : ∀ ys σ' H', W n ys σ' H' → J.stop n H' ∧ Fin ys H')
    (step : ∀ i ys σ' H', i < n → W i ys σ' H' → J.go i H' ∧ ys.length < sizeLine ∧ ∀ x H2, J.yld i H' x H2 → g x σ' H2 fun σ3 H3 => tt σ3 H3 fun b H4 => if b = true then te σ3 H4 fun y H5 => ∃ m', m' < n - i ∧ (i + 1 ≤ n ∧ m' = n - (i + 1) ∧ W (i + 1) (ys ++ [y]) σ3 H5) else ∃ m', m' < n - i ∧ (i + 1 ≤ n ∧ m' = n - (i + 1) ∧ W (i + 1) ys σ3 H4)) : CompT J g tt te Fin σ H := by
  refine ⟨fun i m ys σ' H' => i ≤ n ∧ m = n - i ∧ W i ys σ' H', ⟨n, Nat.zero_le _, rfl, w0⟩, ?_⟩
  rintro i m ys σ' H' ⟨hi, rfl, hw⟩
  rcases Nat.lt_or_ge i n with hlt | hge
  · right
    exact step i ys σ' H' hlt hw
  · left
    obtain rfl : i = n := by omega
    exact fin _ _ _ hw
theorem nxt {n i : Nat} {A : Prop} (h : i < n) (a : A) : ∃ m', m' < n - i ∧ (i + 1 ≤ n ∧ m' = n - (i + 1) ∧ A) := ⟨n - (i + 1), by omega, h, rfl, a⟩
theorem i_bm {T : String} {r : V → List V → Hp → VK → Prop} {to : TE} {t : TA} (q : to σ H fun x H1 => tyV K T x H1 ∧ t σ H1 fun xs H2 => r x xs H2 Q) : tBM K T r to t σ H Q := q
theorem i_app {l : Addr} {xs : List V} {y : V} (h : H l = some (.lst xs)) (z : xs.length < sizeLine) (q : Q .non (upd H l (.lst (xs ++ [y])))) : rAppend (.ref l) [y] H Q := ⟨l, xs, y, rfl, rfl, h, z, q⟩
theorem i_cat {a b : Addr} {xs zs : List V} (h1 : H a = some (.lst xs)) (h2 : H b = some (.lst zs)) (l : xs.length + zs.length ≤ sizeLine) (q : ∀ p, H p = none → Q (.ref p) (upd H p (.lst (xs ++ zs)))) : rCat (.ref a) (.ref b) H Q := ⟨a, b, xs, zs, rfl, rfl, h1, h2, l, q⟩
theorem inV_int (z : Int) : ∀ ns : List Int, inV (.int z) (ns.map V.int) = decide (z ∈ ns)
  | [] => by simp [inV]
  | n :: r => by
    have ih := inV_int z r
    unfold inV at ih ⊢
    rw [List.map_cons, List.any_cons, ih]
    show ((n == z) || decide (z ∈ r)) = _
    by_cases e : n = z
    · subst e; simp
    · have e' : ¬ z = n := fun q => e q.symm
      simp [e, e']
theorem flat_ints (ns : List Int) : (ns.map V.int).all flatV = true := by simp [flatV]
theorem i_notInI {p : Addr} {ns : List Int} {z : Int} (h : SqL K H p (ns.map V.int)) (q : Q (.bl (!decide (z ∈ ns))) H) : rIn K true (.int z) (.ref p) H Q := by
  refine ⟨p, _, rfl, .inl h, rfl, flat_ints ns, ?_⟩
  rw [inV_int]
  exact q
end
section
variable {X : Cx} {K : PySem.W.Frag} {o e : Expr} {es : List Expr} {to : TE} {t : TA} {apos cpos : Pos}
theorem mApp (h : X.K = K) (ho : PE X o to) (ha : PA X (e :: es) t)
    (hbase : attributeBase o "append" X.env (eval o X.env) = eval o X.env := by rfl)
    (hfew : ((backTo cpos (starEach (e :: es) X.env)).all (fun x => !x.1) && (backToKw cpos (keywordEach [] X.env)).all (fun x => x.1.isSome)
      && decide ((e :: es).length + ([] : List Keyword).length + (if ([] : List Keyword).isEmpty then 0 else 1) < 30)) = true := by rfl)
    (hline : (apos.endLine == cpos.line) = true := by rfl) (hs : starEach (e :: es) X.env = (false, eval e X.env) :: starEach es X.env := by rfl) (hplain : (backTo cpos (starEach es X.env)).any (·.1) = false := by rfl) :
    PE X (.Call (.Attribute o "append" apos) (e :: es) [] cpos) (tBM K "list" rAppend to t) := by
  subst h
  exact pe_bm PySem.F.plainAttrs_list PySem.F.slot_list_append PySem.F.type_list_append mt_append ho ha hbase hfew hline hs hplain
end
/-! rising lists of ints -/
/-- strictly rising, and its members are just these -/
def Ris (rs : List Int) (P : Int → Prop) : Prop := rs.Pairwise (· < ·) ∧ ∀ x, x ∈ rs ↔ P x
theorem Ris.eq : ∀ {rs qs : List Int} {P : Int → Prop}, Ris rs P → Ris qs P → rs = qs
  | [], [], _, _, _ => rfl
  | [], q :: qs, P, h1, h2 => by
    have := (h1.2 q).mpr ((h2.2 q).mp List.mem_cons_self)
    cases this
  | r :: rs, [], P, h1, h2 => by
    have := (h2.2 r).mpr ((h1.2 r).mp List.mem_cons_self)
    cases this
  | r :: rs, q :: qs, P, h1, h2 => by
    obtain ⟨p1, m1⟩ := h1
    obtain ⟨p2, m2⟩ := h2
    rw [List.pairwise_cons] at p1 p2
    have a1 : r ∈ q :: qs := (m2 r).mpr ((m1 r).mp List.mem_cons_self)
    have a2 : q ∈ r :: rs := (m1 q).mpr ((m2 q).mp List.mem_cons_self)
    have e : r = q := by
      rcases List.mem_cons.mp a1 with z | z
      · exact z
      · rcases List.mem_cons.mp a2 with y | y
        · exact y.symm
        · have := p2.1 r z
          have := p1.1 q y
          omega
    subst e
    refine congrArg _ (Ris.eq (P := fun x => P x ∧ x ≠ r) ⟨p1.2, fun x => ?_⟩ ⟨p2.2, fun x => ?_⟩)
    · constructor
      · intro hx
        exact ⟨(m1 x).mp (List.mem_cons_of_mem _ hx), fun z => by have := p1.1 x hx; omega⟩
      · rintro ⟨hx, hn⟩
        rcases List.mem_cons.mp ((m1 x).mpr hx) with z | z
        · exact absurd z hn
        · exact z
    · constructor
      · intro hx
        exact ⟨(m2 x).mp (List.mem_cons_of_mem _ hx), fun z => by have := p2.1 x hx; omega⟩
      · rintro ⟨hx, hn⟩
        rcases List.mem_cons.mp ((m2 x).mpr hx) with z | z
        · exact absurd z hn
        · exact z
theorem nodup_le : ∀ {ks ns : List Int}, ks.Nodup → (∀ x ∈ ks, x ∈ ns) → ks.length ≤ ns.length
  | [], _, _, _ => Nat.zero_le _
  | k :: r, ns, h, m => by
    rw [List.nodup_cons] at h
    have hk := m k List.mem_cons_self
    have := nodup_le (ks := r) (ns := ns.erase k) h.2 fun x hx => (List.mem_erase_of_ne (fun z => h.1 (by rw [← z]; exact hx))).mpr (m x (List.mem_cons_of_mem _ hx))
    rw [List.length_erase_of_mem hk] at this
    have hp : 0 < ns.length := List.length_pos_of_mem hk
    rw [List.length_cons]
    omega
theorem Ris.nodup {rs : List Int} {P : Int → Prop} (h : Ris rs P) : rs.Nodup := h.1.imp (fun q z => by omega)
theorem Ris.len {rs ks : List Int} {P : Int → Prop} (h : Ris rs P) (n : ks.Nodup) (m : ∀ x, x ∈ ks ↔ P x) : ks.length = rs.length :=
  Nat.le_antisymm (nodup_le n fun x hx => (h.2 x).mpr ((m x).mp hx)) (nodup_le h.nodup fun x hx => (m x).mpr ((h.2 x).mp hx))
theorem ris_of {ns ks : List Int} {P : Int → Prop} (p : ns.Perm ks) (s : ns.Pairwise (· ≤ ·)) (n : ks.Nodup) (m : ∀ x, x ∈ ks ↔ P x) : Ris ns P := by
  refine ⟨?_, fun x => (p.mem_iff).trans (m x)⟩
  have nd : ns.Nodup := p.nodup_iff.mpr n
  exact (s.and nd).imp fun ⟨a, b⟩ => by omega
theorem Ris.filter {rs : List Int} {P : Int → Prop} {f : Int → Bool} (h : Ris rs P) : Ris (rs.filter f) (fun x => P x ∧ f x = true) :=
  ⟨h.1.filter f, fun x => by rw [List.mem_filter, h.2 x]⟩
theorem Ris.le {rs ns : List Int} {P : Int → Prop} (h : Ris rs P) (m : ∀ x, P x → x ∈ ns) : rs.length ≤ ns.length := nodup_le h.nodup fun x hx => m x ((h.2 x).mp hx)
theorem Ris.imp {rs : List Int} {P R : Int → Prop} (h : Ris rs P) (e : ∀ x, P x ↔ R x) : Ris rs R := ⟨h.1, fun x => (h.2 x).trans (e x)⟩
theorem reps_ints {H : Hp} : ∀ ns : List Int, Reps H (ns.map V.int) (ns.map Dt.int)
  | [] => .nil
  | n :: r => .cons (.int n) (reps_ints r)
theorem depths_ints : ∀ ns : List Int, depths (ns.map Dt.int) = 0
  | [] => rfl
  | n :: r => by show max 0 (depths (r.map Dt.int)) = 0; rw [depths_ints r]; rfl
theorem DrawAt.ne_ints {H : Hp} {d p : Addr} {ns : List Int} (h : DrawAt H d) (e : H p = some (.lst (ns.map V.int))) : p ≠ d := by
  obtain ⟨c, _, a, r, e', h1, _⟩ := h
  intro z
  subst z
  rw [h1] at e
  have q := Option.some.inj e
  injection q with q
  cases ns with
  | nil => cases q
  | cons n r => injection q with q _; cases q
end L2

namespace L2
open PySem PySem.Spec PyProof.Rows
/-! ### V. ranges as lists, lists turned about, pop at a place, min, max, == of lists of ints -/
def rangeI (lo : Int) (n : Nat) : List Int := (List.range n).map fun (k : Nat) => lo + (k : Int)
theorem rangeI_length (lo : Int) (n : Nat) : (rangeI lo n).length = n := by simp [rangeI]
theorem mem_rangeI {lo x : Int} {n : Nat} : x ∈ rangeI lo n ↔ lo ≤ x ∧ x < lo + n := by
  unfold rangeI
  rw [List.mem_map]
  constructor
  · rintro ⟨k, hk, rfl⟩
    rw [List.mem_range] at hk
    omega
  · rintro ⟨h1, h2⟩
    exact ⟨(x - lo).toNat, List.mem_range.mpr (by omega), by omega⟩
theorem rangeI_rises (lo : Int) (n : Nat) : (rangeI lo n).Pairwise (· < ·) := by
  unfold rangeI
  rw [List.pairwise_map]
  exact List.pairwise_lt_range.imp fun h => by omega
theorem vals_of_get : ∀ {xs : List V} {us : List Value}, xs.length = us.length → (∀ (k : Nat) x u, xs[k]? = some x → us[k]? = some u → RelV x u) → Vals xs us
  | [], [], _, _ => .nil
  | [], _ :: _, e, _ => by cases e
  | _ :: _, [], e, _ => by cases e
  | x :: r, u :: z, e, h => .cons (h 0 x u rfl rfl) (vals_of_get (by simpa using e) fun k a b e1 e2 => h (k + 1) a b (by simpa using e1) (by simpa using e2))
section
variable {X : Cx} {K : PySem.W.Frag}
def rRng2 : List V → Hp → VK → Prop := fun xs H Q => ∃ (i j : Int), xs = [.int i, .int j] ∧ ∀ l, H l = none → Q (.ref l) (upd H l (.rng i j))
theorem cRng2 : CallR X (.type "range") rRng2 := by
  intro pins s σ H xs us Q I r h
  obtain ⟨i, j, rfl, q⟩ := h
  obtain ⟨u, w', rfl, ⟨t, rfl⟩, ⟨t', rfl⟩⟩ := vals2 r
  refine call_range_2 ?_
  exact ⟨.ref s.heap.objs.size, _, I.laid (t' := s.toks + 1) (o := .rng i j) (fun b ob q => Heap.get?_push_of_some _ q) (Nat.le_refl _) ⟨_, _, _, Heap.get?_push_size _ rfl⟩, rfl, q _ (I.hok.fresh (Nat.le_refl _))⟩
def rListRng : List V → Hp → VK → Prop := fun xs H Q => ∃ (p : Addr) (i j : Int), xs = [.ref p] ∧ H p = some (.rng i j) ∧ -(2 ^ 62) ≤ i ∧ j < 2 ^ 62 ∧ i ≤ 2 ^ 61 ∧ -(2 ^ 61) ≤ j ∧ (j - i).toNat ≤ 1000 ∧ ∀ l, H l = none → Q (.ref l) (upd H l (.lst ((rangeI i (j - i).toNat).map V.int)))
theorem cListRng (hc : X.calm = true) : CallR X (.type "list") rListRng := by
  intro pins s σ H xs us Q I r h
  obtain ⟨p, i, j, rfl, hp, h1, h2, h3, h4, hn, q⟩ := h
  obtain ⟨u, rfl, rx⟩ := vals1 r
  cases rx
  obtain ⟨t, u', v, hg⟩ := I.hok p _ hp
  have hs : Builtin.Range.rangeSize i j 1 = (((j - i).toNat : Nat) : Int) := by rw [rangeSize_one]; split <;> omega
  refine call_list_range (n := (j - i).toNat) (I.ok.hd hc) hg (small_one h1 (by omega) (by omega) h2) hs (by omega) fun h' tk acc c old hL items => ?_
  refine ⟨.ref s.heap.objs.size, _, I.laid (t' := tk) (o := .lst ((rangeI i (j - i).toNat).map V.int)) old (Nat.le_refl _) ⟨?_, acc.toList, c, ?_, by simpa using hL⟩, rfl, q _ (I.hok.fresh (Nat.le_refl _))⟩
  · rw [List.length_map, rangeI_length]
    exact Nat.le_trans hn (by decide)
  · refine vals_of_get (by rw [List.length_map, rangeI_length]; exact items.1.symm) fun k x v e1 e2 => ?_
    obtain ⟨t2, rfl⟩ := items.2 k v (by simpa using e2)
    have hk : k < (j - i).toNat := by
      rcases Nat.lt_or_ge k (j - i).toNat with q | q
      · exact q
      · rw [List.getElem?_eq_none (by rw [List.length_map, rangeI_length]; exact q)] at e1; cases e1
    have e3 : ((rangeI i (j - i).toNat).map V.int)[k]? = some (.int (i + (k : Int))) := by simp [rangeI, List.getElem?_range hk]
    rw [e3] at e1
    cases e1
    exact ⟨t2, by rw [Int.mul_one]⟩
def rMax2 : List V → Hp → VK → Prop := fun xs H Q => ∃ i j, xs = [.int i, .int j] ∧ Q (.int (if j > i then j else i)) H
def rMin2 : List V → Hp → VK → Prop := fun xs H Q => ∃ i j, xs = [.int i, .int j] ∧ Q (.int (if j < i then j else i)) H
def rInt1 : List V → Hp → VK → Prop := fun xs H Q => (∃ i, xs = [.int i] ∧ Q (.int i) H) ∨ ∃ k, xs = [.bl k] ∧ Q (.int (if k then 1 else 0)) H
theorem cMax2 (hc : X.calm = true) : CallR X (.builtin "max") rMax2 := call_max2 hc
theorem cMin2 (hc : X.calm = true) : CallR X (.builtin "min") rMin2 := call_min2 hc
/-! a list turned about -/
def tRev (K : PySem.W.Frag) (te : TE) (ts : TO) : TE := fun σ H Q => te σ H fun x H1 => ts σ H1 fun st H2 => ∃ a xs, x = .ref a ∧ st = some (-1) ∧ SqL K H2 a xs ∧ ∀ p, H2 p = none → Q (.ref p) (upd H2 p (.lst xs.reverse))
end
section
variable {X : Cx} {K : PySem.W.Frag} {o e : Expr} {es : List Expr} {to : TE} {t : TA} {apos cpos : Pos}
end
section
variable {σ : St} {H : Hp} {Q : VK} {K : PySem.W.Frag}
theorem i_rng2 {i j : Int} (q : ∀ l, H l = none → Q (.ref l) (upd H l (.rng i j))) : rRng2 [.int i, .int j] H Q := ⟨i, j, rfl, q⟩
theorem i_listRng {p : Addr} {i j : Int} (h : H p = some (.rng i j)) (h1 : -(2 ^ 61) ≤ i) (h2 : i ≤ 2 ^ 61) (h3 : -(2 ^ 61) ≤ j) (h4 : j ≤ 2 ^ 61) (hn : (j - i).toNat ≤ 1000) (q : ∀ l, H l = none → Q (.ref l) (upd H l (.lst ((rangeI i (j - i).toNat).map V.int)))) : rListRng [.ref p] H Q :=
  ⟨p, i, j, rfl, h, by omega, by omega, h2, h3, hn, q⟩
theorem i_max2 {i j : Int} (q : Q (.int (if j > i then j else i)) H) : rMax2 [.int i, .int j] H Q := ⟨i, j, rfl, q⟩
theorem i_min2 {i j : Int} (q : Q (.int (if j < i then j else i)) H) : rMin2 [.int i, .int j] H Q := ⟨i, j, rfl, q⟩
theorem i_intB {k : Bool} (q : Q (.int (if k then 1 else 0)) H) : rInt1 [.bl k] H Q := .inr ⟨k, rfl, q⟩
theorem i_rev {te : TE} {ts : TO} (q : te σ H fun x H1 => ts σ H1 fun st H2 => ∃ a xs, x = .ref a ∧ st = some (-1) ∧ SqL K H2 a xs ∧ ∀ p, H2 p = none → Q (.ref p) (upd H2 p (.lst xs.reverse))) : tRev K te ts σ H Q := q
end

/-! == and != of lists of ints; of lists of unlike lengths -/
section
variable {X : Cx}
def rEqI (neg : Bool) : R2 := fun x y H Q => ∃ (p q : Addr) (ns ms : List Int), x = .ref p ∧ y = .ref q ∧ H p = some (.lst (ns.map V.int)) ∧ H q = some (.lst (ms.map V.int)) ∧ Q (.bl (if neg then !decide (ns = ms) else decide (ns = ms))) H
theorem all_eqI {ns ms : List Int} (h : ns.length = ms.length) : ((List.range ns.length).all fun j => decide (ns[j]? = ms[j]?)) = decide (ns = ms) := by
  by_cases e : ns = ms
  · subst e; simp
  · rw [decide_eq_false e]
    rw [Bool.eq_false_iff]
    intro z
    apply e
    rw [List.all_eq_true] at z
    apply List.ext_getElem? 
    intro j
    rcases Nat.lt_or_ge j ns.length with q | q
    · exact of_decide_eq_true (z j (List.mem_range.mpr q))
    · rw [List.getElem?_eq_none q, List.getElem?_eq_none (by omega)]
theorem eq_items {A : Around} {s : Shared} {ns ms : List Int} {us zs : List Value} (r1 : Vals (ns.map V.int) us) (r2 : Vals (ms.map V.int) zs) (j : Nat) (h1 : j < us.length) (h2 : j < zs.length) : SeqAt.EqAt A s us[j] zs[j] (decide (ns[j]? = ms[j]?)) := by
  have l1 := r1.length
  have l2 := r2.length
  rw [List.length_map] at l1 l2
  obtain ⟨u, e1, q1⟩ := r1.get (i := j) (x := .int (ns[j]'(by omega))) (by rw [List.getElem?_map, List.getElem?_eq_getElem (by omega)]; rfl)
  obtain ⟨z, e2, q2⟩ := r2.get (i := j) (x := .int (ms[j]'(by omega))) (by rw [List.getElem?_map, List.getElem?_eq_getElem (by omega)]; rfl)
  rw [List.getElem?_eq_getElem h1] at e1
  rw [List.getElem?_eq_getElem h2] at e2
  cases e1; cases e2
  have q := eqAt_V (A := A) (s := s) q1 q2 rfl rfl
  rw [List.getElem?_eq_getElem (show j < ns.length by omega), List.getElem?_eq_getElem (show j < ms.length by omega)]
  have e : eqV (.int (ns[j]'(by omega))) (.int (ms[j]'(by omega))) = decide (some (ns[j]'(by omega)) = some (ms[j]'(by omega))) := by
    show (ns[j]'(by omega) == ms[j]'(by omega)) = _
    by_cases z : ns[j]'(by omega) = ms[j]'(by omega)
    · simp [z]
    · simp [z]
  rw [e] at q
  exact q
theorem op_eqI (hu : X.A.units + 64 < cLine) : OpR X (compareOp .Eq) (rEqI false) := by
  intro pins s σ H x y v u Q I rx ry h
  obtain ⟨p, q, ns, ms, rfl, rfl, h1, h2, k⟩ := h
  cases (show v = Value.ref p from rx)
  cases (show u = Value.ref q from ry)
  obtain ⟨us, r1, l1⟩ := lstAt I h1
  obtain ⟨zs, r2, l2⟩ := lstAt I h2
  have e1 := r1.length
  have e2 := r2.length
  rw [List.length_map] at e1 e2
  by_cases hl : ns.length = ms.length
  · refine SeqAt.RcAt.lists (A := X.A) (e := fun j => decide (ns[j]? = ms[j]?)) l1 l2 (by simp; omega) (by omega) (fun j h1 h2 => ?_) X.prog X.w _ _ ?_
    · simpa using eq_items (A := X.A.in1) (s := s) r1 r2 j (by simpa using h1) (by simpa using h2)
    · rw [List.size_toArray, ← e1, all_eqI hl]
      exact ⟨.bl _, H, I, rfl, k⟩
  · refine SeqAt.RcAt.lists_lengths l1 l2 (by simp; omega) (by omega) X.prog X.w _ _ ?_
    have e : decide (ns = ms) = false := decide_eq_false fun z => hl (by rw [z])
    refine ⟨.bl false, H, I, rfl, ?_⟩
    rw [if_neg (by decide), e] at k
    exact k
theorem i_eqI {neg : Bool} {H : Hp} {Q : VK} {p q : Addr} {ns ms : List Int} (h1 : H p = some (.lst (ns.map V.int))) (h2 : H q = some (.lst (ms.map V.int))) (k : Q (.bl (if neg then !decide (ns = ms) else decide (ns = ms))) H) : rEqI neg (.ref p) (.ref q) H Q := ⟨p, q, ns, ms, rfl, rfl, h1, h2, k⟩
end
end L2

namespace L2
open PySem PySem.Spec PyProof.Rows
/-! ### W. more built-in names; filters; sizes of sets -/
theorem bb_min : bootBuiltins "min" = some (.builtin "min") := by decide +kernel
theorem bb_max : bootBuiltins "max" = some (.builtin "max") := by decide +kernel
theorem bb_range : bootBuiltins "range" = some (.type "range") := by decide +kernel
theorem bb_sum : bootBuiltins "sum" = some (.builtin "sum") := by decide +kernel
structure BltM (mg : Str → Option Value) : Prop extends Blt mg where
  z_min : mg "min" = none
  z_max : mg "max" = none
  z_sum : mg "sum" = none
  z_enumerate : mg "enumerate" = none
section
variable {K : PySem.W.Frag}
theorem filterL {a : Addr} {rs : List Int} {f : Int → Bool} {tt : TT} {H1 : Hp} {Fin : List V → Hp → Prop} {σ0 : List (Option V)} (hl : rs.length ≤ 1000)
    (ha : SqL K H1 a (rs.map V.int)) (htt : ∀ z R, R (f z) H1 → tt (some (.int z) :: σ0) H1 R) (fin : Fin ((rs.filter f).map V.int) H1) :
    CompT (Itl K a) (gName 0) tt (tVar 0) Fin (none :: σ0) H1 := by
  refine compW (fun i ys σ' H' => (∃ x, σ' = x :: σ0) ∧ H' = H1 ∧ ys = ((rs.take i).filter f).map V.int) rs.length ⟨⟨none, rfl⟩, rfl, rfl⟩ ?_ ?_
  · rintro ys σ' H' ⟨_, rfl, rfl⟩
    refine ⟨⟨_, ha, by rw [List.length_map]; exact Nat.le_refl _⟩, ?_⟩
    rw [List.take_of_length_le (Nat.le_refl _)]
    exact fin
  · rintro i ys σ' H' hi ⟨⟨x0, rfl⟩, rfl, rfl⟩
    have hx : (rs.map V.int)[i]? = some (.int rs[i]) := by rw [List.getElem?_map, List.getElem?_eq_getElem hi]; rfl
    have hle : ((rs.take i).filter f).length ≤ 1000 := Nat.le_trans (List.length_filter_le _ _) (by rw [List.length_take]; omega)
    refine ⟨⟨_, _, ha, hx⟩, Nat.lt_of_lt_of_le (show _ < 1001 by rw [List.length_map]; omega) (by decide), ?_⟩
    rintro x H6 ⟨rfl, hy⟩
    have e := hy _ ha
    rw [hx] at e
    cases e
    refine i_name ?_
    refine htt _ _ ?_
    have et : rs.take (i + 1) = rs.take i ++ [rs[i]] := by rw [List.take_succ, List.getElem?_eq_getElem hi]; rfl
    cases hf : f rs[i] with
    | true =>
      refine iteT ?_
      refine i_var (v := .int rs[i]) rfl ?_
      refine nxt hi ⟨⟨_, rfl⟩, rfl, ?_⟩
      rw [et, List.filter_append, List.filter_cons, hf]
      simp
    | false =>
      refine iteF ?_
      refine nxt hi ⟨⟨_, rfl⟩, rfl, ?_⟩
      rw [et, List.filter_append, List.filter_cons, hf]
      simp
end
theorem i_rngB {σ : St} {H : Hp} {ta : TA} {N : It → Hp → Prop} (q : ta σ H fun vs H1 => ∃ i j : Int, vs = [.int i, .int j] ∧ (-(2 ^ 62) ≤ i ∧ i < 2 ^ 62 ∧ -(2 ^ 62) ≤ j ∧ j < 2 ^ 62) ∧ N (Itr i (j - i).toNat) H1) : iRng2 ta σ H N := q
/-- each once -/
def uniq : List Int → List Int
  | [] => []
  | x :: r => if x ∈ uniq r then uniq r else x :: uniq r
theorem mem_uniq {x : Int} : ∀ {ns : List Int}, x ∈ uniq ns ↔ x ∈ ns
  | [] => Iff.rfl
  | y :: r => by
    have ih := @mem_uniq x r
    unfold uniq
    split
    · rename_i h
      rw [ih, List.mem_cons]
      constructor
      · exact .inr
      · rintro (rfl | q)
        · exact mem_uniq.mp h
        · exact q
    · rw [List.mem_cons, List.mem_cons, ih]
theorem nodup_uniq : ∀ {ns : List Int}, (uniq ns).Nodup
  | [] => List.nodup_nil
  | y :: r => by
    unfold uniq
    split
    · exact nodup_uniq
    · rename_i h
      exact List.nodup_cons.mpr ⟨h, nodup_uniq⟩
theorem nodup_len {ks js : List Int} (h1 : ks.Nodup) (h2 : js.Nodup) (m : ∀ x, x ∈ ks ↔ x ∈ js) : ks.length = js.length :=
  Nat.le_antisymm (nodup_le h1 fun x hx => (m x).mp hx) (nodup_le h2 fun x hx => (m x).mpr hx)
def cnt (ns : List Int) : Nat := (uniq ns).length
def cntB (ns ms : List Int) : Nat := ((uniq ns).filter fun x => decide (x ∈ ms)).length
theorem cnt_of {ks ns : List Int} (h : ks.Nodup) (m : ∀ x, x ∈ ks ↔ x ∈ ns) : ks.length = cnt ns := nodup_len h nodup_uniq fun x => (m x).trans mem_uniq.symm
theorem cntB_of {ks ns ms : List Int} (h : ks.Nodup) (m : ∀ x, x ∈ ks ↔ x ∈ ns ∧ x ∈ ms) : ks.length = cntB ns ms := nodup_len h (nodup_uniq.filter _) fun x => by
  rw [m x, List.mem_filter, mem_uniq, decide_eq_true_iff]
theorem cnt_le (ns : List Int) : cnt ns ≤ ns.length := nodup_le nodup_uniq fun x hx => mem_uniq.mp hx
theorem cntB_le (ns ms : List Int) : cntB ns ms ≤ cnt ns := List.length_filter_le _ _
theorem cntB_symm (ns ms : List Int) : cntB ns ms = cntB ms ns := cntB_of (nodup_uniq.filter _) fun x => by
  rw [List.mem_filter, mem_uniq, decide_eq_true_iff]; exact And.comm
/-- the same boat -/
def likeB (ns ms : List Int) : Bool := decide (cnt ns < 2 * cntB ns ms) && decide (cnt ms < 2 * cntB ns ms)
end L2

namespace L2
open PySem PySem.Spec PyProof.Rows
/-! ### X. texts -/
def chV (c : Nat) : V := .str ⟨#[c]⟩
/-- the signs of a text, one by one -/
def Its (x : Str) : It := ⟨fun i _ => i < x.cps.size, fun i H v H' => H' = H ∧ ∃ c, x.cps[i]? = some c ∧ v = chV c, fun i _ => x.cps.size ≤ i⟩
def iStr (tl : TE) : TI := fun σ H R => tl σ H fun x H1 => ∃ z, x = .str z ∧ z.cps.all (· < 128) = true ∧ R (Its z) H1
section
variable {X : Cx}
def rInStr : R2 := fun x y H Q => ∃ i j, x = .str i ∧ y = .str j ∧ Q (.bl (!(Builtin.Str.occurrences j i 0 j.length 1).isEmpty)) H
/-- where a text first stands in another, or -1 -/
def findI (x y : Str) : Int := match Builtin.Str.occurrences x y 0 x.length 1 with | i :: _ => (i : Int) | [] => -1
def rFind : V → List V → Hp → VK → Prop := fun x vs H Q => ∃ z y, x = .str z ∧ vs = [.str y] ∧ Q (.int (findI z y)) H
end
section
variable {X : Cx} {K : PySem.W.Frag} {o e : Expr} {es : List Expr} {to : TE} {t : TA} {apos cpos : Pos}
end
section
variable {σ : St} {H : Hp} {Q : VK}
theorem i_itS {tl : TE} {N : It → Hp → Prop} (q : tl σ H fun x H1 => ∃ z, x = .str z ∧ z.cps.all (· < 128) = true ∧ N (Its z) H1) : iStr tl σ H N := q
theorem i_inStr {i j : Str} (q : Q (.bl (!(Builtin.Str.occurrences j i 0 j.length 1).isEmpty)) H) : rInStr (.str i) (.str j) H Q := ⟨i, j, rfl, rfl, q⟩
theorem i_find {z y : Str} (q : Q (.int (findI z y)) H) : rFind (.str z) [.str y] H Q := ⟨z, y, rfl, rfl, q⟩
end
end L2

namespace L2
open PySem PySem.Spec PyProof.Rows
/-! ### Y. set(tuple of ints), enumerate -/
theorem sub_tuple_set0 : isSubtype (.type "tuple") (.type "set") = pure false := by rw [isSubtype_type]; kernel_rfl
theorem sub_tuple_frozenset0 : isSubtype (.type "tuple") (.type "frozenset") = pure false := by rw [isSubtype_type]; kernel_rfl
section
variable {prog : Program} {w : World} {A : Around} {E : Value → Shared → Prop} {s : Shared}
theorem update_loopGT {R : Result → Shared → Prop} {I S l : Addr} {items : Array Value} {ns : List Int} (hh : A.in1.handled = none) (hi : IntsAre items.toList ns) (hb : items.size + 1 < scanBound) (n1 : S ≠ I) (n2 : S ≠ l) (n3 : l ≠ I) :
    ∀ (k i : Nat) (s : Shared) (ks : List Int), items.size - i = k → i ≤ items.size → s.heap.IsTupleIter I l i → s.heap.IsTuple l items → SetG w s.heap S ks → ks.length ≤ i → (∀ x, x ∈ ks ↔ x ∈ ns.take i) →
      (∀ h' tk ks', (∀ b o, b ≠ S → b ≠ I → s.heap.get? b = some o → h'.get? b = some o) → SetG w h' S ks' → (∀ x, x ∈ ks' ↔ x ∈ ns) → R (.ok (.ret .none)) { s with heap := h', toks := tk }) →
      codeAny (model prog w) A (.builtin "set.update.loop" ⟨[.ref S, .ref I], []⟩) R s := by
  have hlen : items.size = ns.length := by have := IntsAre.length hi; simpa using this
  intro k
  induction k with
  | zero =>
    intro i s ks hk hle hit hl hS hlk hm hR
    have hin : i = items.size := by omega
    subst hin
    refine codeAny_builtin PyProof.Rows.F.entry_set_update_loop ?_
    rw [Around.under_plainId PyProof.Rows.F.plain_set_update_loop _]
    show wpAny _ A.in1 (pyNext (.ref I) >>= _) _ _ s
    refine wpAny_bind (wpAny_pyNext_tuple_end hh hit hl (by simp) fun h' eb => ?_)
    show wpAny _ A.in1 (ret Value.none) _ _ _
    refine wpAny_pure (hR h' s.toks ks (fun b o _ b2 e => eb b o b2 e) (hS.at fun o e => eb _ _ n1 e) fun x => ?_)
    rw [hm x, hlen, List.take_length]
  | succ k ih =>
    intro i s ks hk hle hit hl hS hlk hm hR
    have hlt : i < items.size := by omega
    obtain ⟨t, hv⟩ := IntsAre.int_at hi i items[i] (by simp [hlt])
    have hgd : ns.getD i 0 = ns[i]'(by omega) := by simp [List.getD_eq_getElem?_getD, show i < ns.length by omega]
    refine codeAny_builtin PyProof.Rows.F.entry_set_update_loop ?_
    rw [Around.under_plainId PyProof.Rows.F.plain_set_update_loop _]
    show wpAny _ A.in1 (pyNext (.ref I) >>= _) _ _ s
    refine wpAny_bind (wpAny_pyNext_tuple_item hit hl (x := items[i]) (by simp [hlt]) fun h1 hit1 sb1 => ?_)
    have hS1 : SetG w h1 S ks := hS.at fun o e => sb1.extBut _ _ n1 e
    show wpAny _ A.in1 (holding [items[i]] (setAdd S items[i]) >>= _) _ _ _
    rw [hv]
    refine wpAny_bind (wpAny_holding ?_)
    unfold setAdd
    refine wpAny_holding ?_
    refine wpAny_bind ((intKind prog w).pyHash (k := ns.getD i 0) (intKind_is _ _ _ _) ?_)
    refine setAddG (s := { s with heap := h1, toks := s.toks + 1 }) hS1 (by omega) fun h2 ks2 sb2 hS2 p2 => ?_
    have hm2 : ∀ x, x ∈ ks2 ↔ x ∈ ns.take (i + 1) := fun x => by
      rw [p2.mem_iff, List.take_add_one, List.mem_append, ← hm x, show ns[i]? = some (ns.getD i 0) by rw [hgd]; exact List.getElem?_eq_getElem _]
      split
      · rename_i hin
        simp only [Option.toList_some, List.mem_singleton]
        exact ⟨.inl, fun z => z.elim id fun e => e ▸ hin⟩
      · simp only [List.mem_cons, Option.toList_some, List.mem_singleton, List.not_mem_nil, or_false]
        exact Or.comm
    have hl2 : ks2.length ≤ i + 1 := by
      rw [p2.length_eq]
      split
      · omega
      · rw [List.length_cons]; omega
    refine wpAny_pure ⟨plainId_quiet PyProof.Rows.F.plain_set_update_loop _, ih (i + 1) _ ks2 (by omega) hlt ?_ ?_ hS2 hl2 hm2 fun h' tk ks' kp hS' hm' => ?_⟩
    · (obtain ⟨o, ho, r⟩ := hit1; exact ⟨o, sb2.extBut _ _ (Ne.symm n1) ho, r⟩)
    · (obtain ⟨o, ho, r⟩ := hl; exact ⟨o, sb2.extBut _ _ (Ne.symm n2) (sb1.extBut _ _ n3 ho), r⟩)
    · exact hR h' tk ks' (fun b o b1 b2 e => kp b o b1 b2 (sb2.extBut _ _ b1 (sb1.extBut _ _ b2 e))) hS' hm'
set_option maxHeartbeats 8000000 in
theorem set_tupleG {l : Addr} {items : Array Value} {ns : List Int} {Q : Value → Shared → Prop} (hh : A.handled = none) (hl : s.heap.IsTuple l items) (hi : IntsAre items.toList ns) (hb : items.size + 1 < scanBound)
    (h : ∀ (h' : Heap) (tk : Nat) (ks : List Int), SetG w h' s.heap.objs.size ks → (∀ x, x ∈ ks ↔ x ∈ ns) → (∀ b o, b < s.heap.objs.size → s.heap.get? b = some o → h'.get? b = some o) → Q (.ref s.heap.objs.size) { s with heap := h', toks := tk }) :
    wpAny (model prog w) A (call (.type "set") [.ref l]) Q E s := by
  obtain ⟨c, tl, hmro⟩ := PySem.F.called_set.mro
  have hmade := PySem.F.called_set.made
  have hsub := PySem.F.called_set.sub
  refine wpAny_call (codeAny_of_tree ?_)
  show wpAny _ _ (callAny (.type "set") _) _ _ _
  refine wpAny_pure ⟨Code.quiet_builtin _ (by decide +kernel), codeAny_builtin PySem.F.entry_type_call ?_⟩
  rw [Around.under_plain (weight_type_call_type "set" [.ref l] []) rfl]
  have h1 := PySem.F.called_set.notType
  have h2 := PySem.F.called_set.canCreate
  have hct := PySem.F.typeCall_set_1 (.ref l)
  repeat (any_goals (first | assumption | wp_step))
  refine codeAny_mono (set_new_G (w := w) (.ref l) (E := E) (Q₁ := fun obj s₁ => obj = .ref s.heap.objs.size ∧ s₁ = { s with heap := s.heap.push { cls := .type "set", dict := none, data := .set #[] 0 (.fresh 0 0 (!bt w)) } }) ⟨rfl, rfl⟩) fun r s₁ hr => ?_
  cases r with
  | error e => exact hr
  | ok fl =>
    cases fl with
    | ret obj =>
      obtain ⟨rfl, rfl⟩ := hr
      generalize hled : (!bt w) = led
      have hS : (s.heap.push { cls := .type "set", dict := none, data := .set #[] 0 (.fresh 0 0 led) }).get? s.heap.objs.size = some { cls := .type "set", dict := none, data := .set #[] 0 (.fresh 0 0 led) } := Heap.get?_push_size _ rfl
      have hT : Shared.TypeIs { s with heap := s.heap.push { cls := .type "set", dict := none, data := .set #[] 0 (.fresh 0 0 led) } } (.ref s.heap.objs.size) "set" := ⟨_, hS, rfl⟩
      have hli := PySem.F.called_set.init.lookup
      have hbi := PySem.F.called_set.init.bind (.ref s.heap.objs.size)
      repeat (any_goals (first | assumption | wp_step))
      refine codeAny_mono (codeAny_call_builtin (R := wants (fun r s₂ => r = .none ∧ ∃ h' tk ks, s₂ = { s with heap := h', toks := tk } ∧ SetG w h' s.heap.objs.size ks ∧ (∀ x, x ∈ ks ↔ x ∈ ns) ∧
          (∀ b o, b < s.heap.objs.size → s.heap.get? b = some o → h'.get? b = some o)) E) PySem.F.called_set.init.plain PySem.F.entry_set_init (check_set_init_1 hT ?_)) fun r₂ s₂ hr₂ => ?_
      · obtain ⟨ol, hol, hcl, nl, hdl⟩ := hl
        obtain ⟨ocls, odict, odata, oslots⟩ := ol
        simp only at hcl hdl
        subst hcl; subst hdl
        have hol' : (s.heap.push { cls := .type "set", dict := none, data := .set #[] 0 (.fresh 0 0 led) }).get? l = some { cls := .type "tuple", dict := odict, data := .seq items nl, slots := oslots } := Heap.get?_push_of_some _ hol
        have hsls := sub_tuple_set0
        have hslf := sub_tuple_frozenset0
        have hne : (Value.type "tuple" == Value.type "dict") = false := by decide
        have hl1 : (s.heap.push { cls := .type "set", dict := none, data := .set #[] 0 (.fresh 0 0 led) }).IsTuple l items := ⟨_, hol', rfl, nl, rfl⟩
        unfold Builtin.«set.__init__» noKeywords Builtin.Frozenset.updateFrom
        generalize hPI : pyIter = PI
        wp_walk
        subst hPI
        refine wpAny_pyIter_tuple hl1 ?_
        refine wpAny_bind (wpAny_runValue ?_)
        have hlS : l < s.heap.objs.size := Heap.lt_size hol
        have hh3 : A.in1.in1.in1.handled = none := by simp [hh]
        have hSz : (s.heap.push { cls := .type "set", dict := none, data := .set #[] 0 (.fresh 0 0 led) }).objs.size = s.heap.objs.size + 1 := Heap.size_push ..
        have e1 : s.heap.objs.size ≠ (s.heap.push { cls := .type "set", dict := none, data := .set #[] 0 (.fresh 0 0 led) }).objs.size := by rw [hSz]; exact Nat.ne_of_lt (Nat.lt_succ_self _)
        have e2 : l ≠ (s.heap.push { cls := .type "set", dict := none, data := .set #[] 0 (.fresh 0 0 led) }).objs.size := by rw [hSz]; exact Nat.ne_of_lt (Nat.lt_succ_of_lt hlS)
        refine update_loopGT (w := w) hh3 hi hb e1 (Nat.ne_of_gt hlS) e2 (items.size - 0) 0 _ [] (by omega) (Nat.zero_le _)
          ⟨_, Heap.get?_push_size _ rfl, rfl, rfl⟩ (hl1.push _) ⟨_, #[], 0, _, Heap.get?_push_of_some _ hS, ⟨rfl, rfl, rfl⟩, rfl, rfl, fun e he => by simp at he, List.nodup_nil, by decide, by rfl, List.Pairwise.nil, ?_⟩ (Nat.le_refl _) (fun x => by simp) ?_
        · show led = true ∨ bt w = true
          rw [← hled]
          cases bt w <;> simp
        · intro h' tk ks' kp hS' hm'
          show wpAny _ _ _ _ _ _
          refine wpAny_pure ?_
          show wpAny _ _ (ret Value.none) _ _ _
          refine wpAny_pure ⟨rfl, h', tk, ks', rfl, hS', hm', fun b o hb e => ?_⟩
          exact kp b o (Nat.ne_of_lt hb) (by rw [hSz]; exact Nat.ne_of_lt (Nat.lt_succ_of_lt hb)) (Heap.get?_push_of_some _ (Heap.get?_push_of_some _ e))
      · cases r₂ with
        | error e => exact hr₂
        | ok fl₂ =>
          cases fl₂ with
          | ret r =>
            obtain ⟨rfl, h', tk, ks, rfl, hS', hm', hk'⟩ := hr₂
            repeat (any_goals (first | assumption | wp_step))
            exact h _ _ _ hS' hm' hk'
          | _ => exact hr₂.elim
    | _ => exact hr.elim
end

end L2

namespace L2
open PySem PySem.Spec PyProof.Rows
section
variable {X : Cx} {K : PySem.W.Frag}
/-- a list or a tuple -/
def SqX (K : PySem.W.Frag) (H : Hp) (p : Addr) (xs : List V) : Prop := SqL K H p xs ∨ SqT K H p xs
theorem seqT_same {H H' : Hp} {a : Addr} {xs : List V} (e : Same H H') (h : SqT K H a xs) : SqT K H' a xs := by
  rcases h with (h | ⟨o, h⟩) | h
  · exact .inl (.inl (e _ _ h))
  · exact .inl (.inr ⟨o, e _ _ h⟩)
  · exact .inr h
theorem SqX.same {H H' : Hp} {p : Addr} {xs : List V} (s : Same H H') (h : SqX K H p xs) : SqX K H' p xs := h.elim (fun h => .inl (s.seq h)) fun h => .inr (seqT_same s h)
def rSetX (K : PySem.W.Frag) (w : World) : List V → Hp → VK → Prop := fun xs H Q => ∃ (p : Addr) (ns : List Int), xs = [.ref p] ∧ SqX K H p (ns.map V.int) ∧ ns.length + 1 < 4096 ∧ ∀ (l : Addr) (ks : List Int), H l = none → ks.Nodup → (∀ x, x ∈ ks ↔ x ∈ ns) → Q (.ref l) (upd H l (setO w l ks))
theorem call_setX (hc : X.calm = true) : CallR X (.type "set") (rSetX X.K X.w) := by
  intro pins s σ H xs us Q I r h
  obtain ⟨p, ns, rfl, hq, hl, q⟩ := h
  obtain ⟨u, rfl, rx⟩ := vals1 r
  cases rx
  rcases hq with hq | hq
  · obtain ⟨its, r', pl, hz⟩ := I.list hq
    have hi := ints_of_vals r'
    have hlen := IntsAre.length hi
    refine set_listG (I.ok.hd hc) pl.isList (by simpa using hi) (by simp only [List.size_toArray]; show _ < 4096; omega) fun h' tk ks g m old => ?_
    exact ⟨.ref s.heap.objs.size, _, I.laidD (d' := s.drawn) (fun b o e => old b o (Heap.lt_size e) e) (Nat.le_refl _) (setO_new g), rfl, q _ ks (I.hok.fresh (Nat.le_refl _)) g.nodup m⟩
  · obtain ⟨its, r', pl, hz⟩ := I.tuple hq
    have hi := ints_of_vals r'
    have hlen := IntsAre.length hi
    refine set_tupleG (I.ok.hd hc) (show s.heap.IsTuple p its.toArray from pl) (by simpa using hi) (by simp only [List.size_toArray]; show _ < 4096; omega) fun h' tk ks g m old => ?_
    exact ⟨.ref s.heap.objs.size, _, I.laidD (d' := s.drawn) (fun b o e => old b o (Heap.lt_size e) e) (Nat.le_refl _) (setO_new g), rfl, q _ ks (I.hok.fresh (Nat.le_refl _)) g.nodup m⟩
theorem cSetX {w : World} (h : X.K = K) (hw : X.w = w) (hc : X.calm = true) : CallR X (.type "set") (rSetX K w) := by subst h; subst hw; exact call_setX hc
end
section
variable {σ : St} {H : Hp} {Q : VK} {K : PySem.W.Frag} {w : World}
theorem i_setX {p : Addr} {ns : List Int} (h : SqX K H p (ns.map V.int)) (l : ns.length + 1 < 4096) (q : ∀ (l : Addr) (ks : List Int), H l = none → ks.Nodup → (∀ x, x ∈ ks ↔ x ∈ ns) → Q (.ref l) (upd H l (setO w l ks))) : rSetX K w [.ref p] H Q := ⟨p, ns, rfl, h, l, q⟩
theorem i_inX {p : Addr} {ns : List Int} {z : Int} (h : SqX K H p (ns.map V.int)) (q : Q (.bl (decide (z ∈ ns))) H) : rIn K false (.int z) (.ref p) H Q := by
  refine ⟨p, _, rfl, h, rfl, flat_ints ns, ?_⟩
  rw [inV_int]
  exact q
end
/-! enumerate of a list -/
def Ite (K : PySem.W.Frag) (l : Addr) : It :=
  ⟨fun i H => ∃ xs u, SqL K H l xs ∧ xs[i]? = some u,
   fun i H x H' => ∃ T u, x = .ref T ∧ H T = none ∧ H' = upd H T (.tup [.int i, u]) ∧ ∀ xs, SqL K H l xs → xs[i]? = some u,
   fun i H => ∃ xs, SqL K H l xs ∧ xs.length ≤ i⟩
section
variable {X : Cx} {K : PySem.W.Frag} {es : List Expr} {kk : Nat} {tpos : Pos}
def iEnum (K : PySem.W.Frag) (ta : TA) : TI := fun σ H R => ta σ H fun vs H1 => ∃ a, vs = [.ref a] ∧ (∃ xs, SqL K H1 a xs) ∧ R (Ite K a) H1
theorem i_itE {σ : St} {H : Hp} {ta : TA} {N : It → Hp → Prop} (q : ta σ H fun vs H1 => ∃ a, vs = [.ref a] ∧ (∃ xs, SqL K H1 a xs) ∧ N (Ite K a) H1) : iEnum K ta σ H N := q
end
end L2

namespace L2
open PySem PySem.Spec PyProof.Rows
/-! ### sorted(list), slices of tuples, chains of comparisons -/
section
variable {X : Cx} {K : PySem.W.Frag}
end
section
variable {σ : St} {H : Hp} {Q : VK} {K : PySem.W.Frag}
theorem i_chain {r r' : R2} {ta tb tc : TE} (q : ta σ H fun x H1 => tb σ H1 fun y H2 => r x y H2 fun z H3 => ∃ k, z = .bl k ∧ (if k = true then tc σ H3 fun w' H4 => r' y w' H4 Q else Q (.bl false) H3)) : tChain r r' ta tb tc σ H Q := q
end
/-! rising numbers -/
end L2

namespace L2
open PySem PySem.Spec PyProof.Rows
/-! ### Z. list comprehensions with two clauses: the loops -/
section
variable {elt t0 i0 t1 i1 : Expr} {f0 f1 : List Expr} {scope : Scope} {pos : Pos}
/-- [elt for t0 in i0 if f0 for t1 in i1 if f1] -/
abbrev two (elt t0 i0 : Expr) (f0 : List Expr) (t1 i1 : Expr) (f1 : List Expr) (scope : Scope) (pos : Pos) : Expr := .ListComp elt [⟨t0, i0, f0, 0⟩, ⟨t1, i1, f1, 0⟩] scope pos
end
end L2

namespace L2
open PySem PySem.Spec PyProof.Rows
section
variable {prog : Program} {w : World} {A : Around} {R : Result → Shared → Prop} {s : Shared} {elt t0 i0 t1 i1 : Expr} {f0 f1 : List Expr} {scope : Scope} {pos : Pos} {it acc : Value} {env : Env}
end
end L2

namespace L2
open PySem PySem.Spec PyProof.Rows
section
variable {prog : Program} {w : World} {A : Around} {R : Result → Shared → Prop} {s : Shared} {elt t0 i0 t1 i1 : Expr} {f0 f1 : List Expr} {scope : Scope} {pos : Pos} {it acc : Value} {env : Env}
end
section
variable {X : Cx} {pins : List (Addr × Obj)} {σ : St} {scope : Scope} {own : List Str} {fre : List (Nat × Str)} {elt tg iter t1 i1 : Expr} {ifs f1 : List Expr} {pos : Pos} {wi wi1 : TI} {g g1 : TG} {tt tt1 : TT} {te : TE}
end
end L2

namespace L2
open PySem PySem.Spec PyProof.Rows
section
variable {X : Cx} {pins : List (Addr × Obj)} {σ : St} {scope : Scope} {own : List Str} {fre : List (Nat × Str)} {elt tg iter t1 i1 : Expr} {ifs f1 : List Expr} {pos : Pos} {wi wi1 : TI} {g g1 : TG} {tt tt1 : TT} {te : TE}
end
end L2

namespace L2
open PySem PySem.Spec PyProof.Rows
/-! ### two clauses by counts; statements that are never reached -/
section
variable {σ : St} {H : Hp}
end
end L2

namespace L2
open PySem PySem.Spec PyProof.Rows
/-! ### M. list comprehensions with any number of clauses -/
/-- the last clause's turns -/
def LastT (g : TG) (tt : TT) (te : TE) (J : It) (Fin : List V → St → Hp → Prop) (ys0 : List V) (σ0 : St) (H0 : Hp) : Prop :=
  ∃ W : Nat → Nat → List V → St → Hp → Prop, (∃ m, W 0 m ys0 σ0 H0) ∧ ∀ i m ys σ' H', W i m ys σ' H' → (J.stop i H' ∧ Fin ys σ' H') ∨
    (J.go i H' ∧ ys.length < sizeLine ∧ ∀ x H2, J.yld i H' x H2 → g x σ' H2 fun σ3 H3 => tt σ3 H3 fun b H4 => if b = true then te σ3 H4 fun y H5 => ∃ m', m' < m ∧ W (i + 1) m' (ys ++ [y]) σ3 H5 else ∃ m', m' < m ∧ W (i + 1) m' ys σ3 H4)
/-- another clause's turns: inner is what the next clause wants -/
def MidT (g : TG) (tt : TT) (wi : TI) (inner : It → (List V → St → Hp → Prop) → List V → St → Hp → Prop) (J : It) (Fin : List V → St → Hp → Prop) (ys0 : List V) (σ0 : St) (H0 : Hp) : Prop :=
  ∃ W : Nat → Nat → List V → St → Hp → Prop, (∃ m, W 0 m ys0 σ0 H0) ∧ ∀ i m ys σ' H', W i m ys σ' H' → (J.stop i H' ∧ Fin ys σ' H') ∨
    (J.go i H' ∧ ∀ x H2, J.yld i H' x H2 → g x σ' H2 fun σ3 H3 => tt σ3 H3 fun b H4 => if b = true then wi σ3 H4 fun J1 H5 => inner J1 (fun ys' σ5 H6 => ∃ m', m' < m ∧ W (i + 1) m' ys' σ5 H6) ys σ3 H5 else ∃ m', m' < m ∧ W (i + 1) m' ys σ3 H4)
structure CalmX (X : Cx) : Prop where
  xe : X.xe = fun _ _ => False
  pn : X.pn = []
  calm : X.calm = true
section
variable {X : Cx} {D : Addr} {elt tg i0 t1 i1 : Expr} {gens : List Comprehension} {scope : Scope} {pos : Pos} {fs : List Expr} {k : Nat} {g : TG} {tt : TT} {te : TE} {wi : TI} {inner : It → (List V → St → Hp → Prop) → List V → St → Hp → Prop}
end
end L2

namespace L2
open PySem PySem.Spec PyProof.Rows
section
variable {X : Cx} {pins : List (Addr × Obj)} {σ : St} {scope : Scope} {own : List Str} {fre : List (Nat × Str)} {elt tg : Expr} {gens : List Comprehension} {pos : Pos} {body : It → (List V → St → Hp → Prop) → List V → St → Hp → Prop}
end
abbrev three (elt t0 i0 : Expr) (f0 : List Expr) (t1 i1 : Expr) (f1 : List Expr) (t2 i2 : Expr) (f2 : List Expr) (scope : Scope) (pos : Pos) : Expr := .ListComp elt [⟨t0, i0, f0, 0⟩, ⟨t1, i1, f1, 0⟩, ⟨t2, i2, f2, 0⟩] scope pos
section
variable {prog : Program} {w : World} {A : Around} {R : Result → Shared → Prop} {s : Shared} {elt t0 i0 t1 i1 t2 i2 : Expr} {f0 f1 f2 : List Expr} {scope : Scope} {pos : Pos} {it acc : Value} {env : Env}
end
def tComp3 (n : Nat) (fre : List (Nat × Str)) (wi : TI) (g : TG) (tt : TT) (wi1 : TI) (g1 : TG) (tt1 : TT) (wi2 : TI) (g2 : TG) (tt2 : TT) (te : TE) : TE := fun σ H Q => wi σ H fun J H1 => MidT g tt wi1 (MidT g1 tt1 wi2 (LastT g2 tt2 te)) J (fun ys _ H' => ∀ D, H' D = none → Q (.ref D) (upd H' D (.lst ys))) [] (startC n fre σ) H1
section
variable {X : Cx} {pins : List (Addr × Obj)} {σ : St} {scope : Scope} {own : List Str} {fre : List (Nat × Str)} {elt tg iter t1 i1 t2 i2 : Expr} {ifs f1 f2 : List Expr} {pos : Pos} {wi wi1 wi2 : TI} {g g1 g2 : TG} {tt tt1 tt2 : TT} {te : TE}
end
theorem i_comp3 {σ : St} {H : Hp} {Q : VK} {n : Nat} {fre : List (Nat × Str)} {wi : TI} {g : TG} {tt : TT} {wi1 : TI} {g1 : TG} {tt1 : TT} {wi2 : TI} {g2 : TG} {tt2 : TT} {te : TE} (q : wi σ H fun J H1 => MidT g tt wi1 (MidT g1 tt1 wi2 (LastT g2 tt2 te)) J (fun ys _ H' => ∀ D, H' D = none → Q (.ref D) (upd H' D (.lst ys))) [] (startC n fre σ) H1) : tComp3 n fre wi g tt wi1 g1 tt1 wi2 g2 tt2 te σ H Q := q
/-! by counts -/
section
variable {σ : St} {H : Hp} {J : It} {g : TG} {tt : TT} {te : TE} {wi : TI} {inner : It → (List V → St → Hp → Prop) → List V → St → Hp → Prop} {Fin : List V → St → Hp → Prop} {ys0 : List V}
end
end L2

namespace L2
open PySem PySem.Spec PyProof.Rows
/-! ### N. sum; a list taken apart; clear -/
section
variable {X : Cx} {K : PySem.W.Frag}
def rSum (K : PySem.W.Frag) : List V → Hp → VK → Prop := fun xs H Q => ∃ (p : Addr) (ns : List Int), xs = [.ref p] ∧ (SqL K H p (ns.map V.int) ∨ SqT K H p (ns.map V.int)) ∧ Q (.int ns.sum) H
theorem call_sumX (hc : X.calm = true) : CallR X (.builtin "sum") (rSum X.K) := by
  intro pins s σ H xs us Q I r h
  obtain ⟨p, ns, rfl, hq, q⟩ := h
  obtain ⟨u, rfl, rx⟩ := vals1 r
  cases rx
  rcases hq with hq | hq
  · obtain ⟨its, r', pl, hz⟩ := I.list hq
    have hi := ints_of_vals r'
    have hl := pl.isList
    obtain ⟨ys, hx⟩ := hi.allInts.items
    have hn : numsOf its.toArray.toList = ns := by rw [show its.toArray.toList = its from rfl, hi.numsOf]
    rw [hx] at hl hn
    rw [nums_intItems] at hn
    refine sum_intListG (I.ok.hd hc) hl fun h' tk t' hk => ?_
    rw [preSum_eq, List.take_of_length_le (by simp), hn]
    exact ⟨.int ns.sum, H, I.kept (t' := tk) hk, ⟨_, rfl⟩, q⟩
  · obtain ⟨its, r', pl, hz⟩ := I.tuple hq
    have hi := ints_of_vals r'
    have hl : s.heap.IsTuple p its.toArray := pl
    obtain ⟨ys, hx⟩ := hi.allInts.items
    have hn : numsOf its.toArray.toList = ns := by rw [show its.toArray.toList = its from rfl, hi.numsOf]
    rw [hx] at hl hn
    rw [nums_intItems] at hn
    refine PySem.W.ktm_sumG (I.ok.hd hc) hl fun h' tk t' hk => ?_
    rw [preSum_eq, List.take_of_length_le (by simp), hn]
    exact ⟨.int ns.sum, H, I.kept (t' := tk) hk, ⟨_, rfl⟩, q⟩
theorem cSum (h : X.K = K) (hc : X.calm = true) : CallR X (.builtin "sum") (rSum K) := by subst h; exact call_sumX hc
end
section
variable {prog : Program} {w : World} {A : Around} {E : Value → Shared → Prop} {s : Shared}
end
section
variable {X : Cx} {K : PySem.W.Frag} {pos : Pos}
end
section
variable {σ : St} {H : Hp} {Q : VK} {K : PySem.W.Frag}
theorem i_sum {p : Addr} {ns : List Int} (h : SqL K H p (ns.map V.int)) (q : Q (.int ns.sum) H) : rSum K [.ref p] H Q := ⟨p, ns, rfl, .inl h, q⟩
theorem i_bm0 {T : String} {r : V → List V → Hp → VK → Prop} {to : TE} (q : to σ H fun x H1 => tyV K T x H1 ∧ r x [] H1 Q) : tBM0 K T r to σ H Q := q
end
end L2

namespace L2
open PySem PySem.Spec PyProof.Rows
/-! ### exceptions of the text's own classes: raised, leaving a def, passing through -/
/-- an exception at a, of the class C, has left all frames but these -/
structure Fly (P : Program) (w : World) (outer : List Env) (H : Hp) (s : Shared) (C : Value) (H' : Hp) (a : Addr) (s' : Shared) : Prop where
  os : s'.os = s.os
  bare : AllBare s'.gens
  un : Un (frs outer) [] H H' s.heap s'.heap
  hok : HOk P w H' s'.heap
  fly : ∃ (B : Heap) (a0 : Value), Heap.FlyingW B outer a C a0 s'.heap ∧ ∀ b, ((∃ o, H' b = some o) ∨ ∃ o, s.heap.get? b = some o) → b ∉ frs outer → ∃ o, B.get? b = some o
def CX1 (P : Program) (w : World) : CXT := fun outer H s E e s' => ∃ (a : Addr) (C : Value) (H' : Hp), e = .ref a ∧ Fly P w outer H s C H' a s' ∧ E C none H'
theorem ObjOk.has {P : Program} {w : World} {H : Hp} {h : Heap} {a : Addr} {o : HO} (x : ObjOk P w H h a o) : ∃ u, h.get? a = some u := by
  cases o with
  | lst xs => obtain ⟨_, _, _, _, e⟩ := x; exact ⟨_, e⟩
  | tup xs => obtain ⟨_, _, _, p⟩ := x; obtain ⟨o, e, _⟩ := p; exact ⟨o, e⟩
  | dK kvs => obtain ⟨_, _, _, _, o, _, _, e, _⟩ := x; exact ⟨o, e⟩
  | dT kvs => obtain ⟨_, _, _, _, o, _, _, e, _⟩ := x; exact ⟨o, e⟩
  | set S n => obtain ⟨o, _, _, _, e, _⟩ := x; exact ⟨o, e⟩
  | ins C dx fs => obtain ⟨_, _, _, e, _⟩ := x; exact ⟨_, e⟩
  | own y => obtain ⟨_, e⟩ := x; exact ⟨_, e⟩
  | xd fs => obtain ⟨_, ⟨_, _, _, e, _⟩, _⟩ := x; exact ⟨_, e⟩
  | rng lo hi => obtain ⟨_, _, _, e⟩ := x; exact ⟨_, e⟩
  | frz ob u => obtain ⟨e, _⟩ := x; exact ⟨_, e⟩
  | tbl ps => exact ⟨_, x⟩
  | met f y => exact ⟨_, x⟩
  | ext φ => obtain ⟨_, ⟨_, e⟩, _⟩ := x; exact ⟨_, e⟩
theorem HOk.keptB {P : Program} {w : World} {H : Hp} {h h' : Heap} (x : HOk P w H h) (k : ∀ b o u, H b = some o → h.get? b = some u → h'.get? b = some u) : HOk P w H h' := fun a o e =>
  (x a o e).stay (fun b u hb q => by
    rcases hb with rfl | hb
    · exact k _ _ u e q
    · exact k _ _ u hb q) (fun _ q => q) fun _ _ q => q
section
variable {X : Cx} {pins : List (Addr × Obj)} {σ : St} {H H' : Hp} {s s' : Shared} {C : Value} {a : Addr} {L : Addr}
/-- what the frames of X's stack are -/
theorem Inv.frameIn (I : Inv X pins σ H s) {b : Addr} (hb : b ∈ frs X.stack) : ∃ o, s.heap.get? b = some o ∧ ∀ vs, o.data ≠ .fields vs := (I.stack.mem hb).2
/-- behind a change that keeps what B has: the caller goes on -/
theorem Fly.inv (I : Inv X pins σ H s) (F : Fly X.prog X.w X.stack H s C H' a s') {B h' : Heap} (st : B.StaysIn s'.heap) (cov : ∀ b, ((∃ o, H' b = some o) ∨ ∃ o, s.heap.get? b = some o) → b ∉ frs X.stack → ∃ o, B.get? b = some o)
    (st' : B.StaysIn h') (up : s'.heap.UpToSlots h') : Inv X pins σ H' { s' with heap := h' } := by
  have same : ∀ b u, ((∃ o, H' b = some o) ∨ ∃ o, s.heap.get? b = some o) → b ∉ frs X.stack → s'.heap.get? b = some u → h'.get? b = some u := fun b u hc hb e => by
    obtain ⟨o, eo⟩ := cov b hc hb
    have z := st b o eo
    rw [e] at z
    cases z
    exact st' b u eo
  have nfr : ∀ b o, H' b = some o → b ∉ frs X.stack := fun b o e hb => by
    obtain ⟨ob, eb, _⟩ := I.frameIn hb
    rw [F.un.free b ob eb (I.stkFree b hb) (by simp)] at e
    cases e
  refine I.call' (s' := { s' with heap := h' }) (ch := []) F.os ⟨?_, ?_, F.un.free, ?_, F.un.tups, F.un.frzs, F.un.tbls⟩ (F.hok.keptB fun b o u e q => same b u (.inl ⟨o, e⟩) (nfr b o e) q) F.bare (fun b hb => absurd hb (by simp))
  · intro b o e n hb hx
    exact same b o (.inr ⟨o, e⟩) hb (F.un.keep b o e n hb hx)
  · intro b o e n hb hx
    obtain ⟨sl, e1⟩ := F.un.slot b o e n hb hx
    obtain ⟨ob, eb, nd⟩ := I.frameIn hb
    rw [eb] at e
    cases e
    obtain ⟨sl', e2⟩ := up b _ e1 nd
    exact ⟨sl', e2⟩
  · intro b o e hx
    by_cases hb : b ∈ frs X.stack
    · obtain ⟨sl, e1⟩ := F.un.slot b o e (I.stkFree b hb) hb hx
      obtain ⟨ob, eb, nd⟩ := I.frameIn hb
      rw [eb] at e
      cases e
      obtain ⟨sl', e2⟩ := up b _ e1 nd
      exact ⟨_, e2⟩
    · obtain ⟨o', e1⟩ := F.un.there b o e hx
      exact ⟨o', same b o' (.inr ⟨o, e⟩) hb e1⟩
/-- what a frame's end says -/
structure InDef (X : Cx) : Prop where
  stk : X.stack = X.env :: X.outer
  fr : X.env.frame = some X.env.locals
  ex : X.ex = []
theorem Fly.out (I : Inv X pins σ H s) (D : InDef X) (F : Fly X.prog X.w X.stack H s C H' a s') {Q : Unit → Shared → Prop} {E : Value → Shared → Prop}
    (k : ∀ s'', Fly X.prog X.w X.outer X.H₀ X.s₀ C H' a s'' → Q () s'') : wpAny (model X.prog X.w) X.A (leaving X.env (.ref a)) Q E s' := by
  obtain ⟨B, a0, fl, cov⟩ := F.fly
  have fl' := fl
  rw [D.stk] at fl'
  refine wpAny_leaves_onW (by rw [I.ok.frames, D.stk]) D.fr fl' fun h' x1 x2 => k _ ?_
  have J := F.inv I fl.1 cov x1.1 x2
  refine ⟨J.os, J.bare, by have z := J.base; rw [D.ex] at z; exact z, J.hok, B, a0, x1, fun b hb hn => ?_⟩
  have hne : b ≠ X.env.locals := by
    rintro rfl
    rcases hb with ⟨o, e⟩ | ⟨o, e⟩
    · rw [J.free] at e; cases e
    · exact absurd (Heap.lt_size e) (Nat.not_lt.mpr I.ok.above)
  have hns : b ∉ frs X.stack := fun z => by
    rcases List.mem_cons.mp (I.stkSub b z) with y | y
    · exact hne y
    · exact hn y
  refine cov b ?_ hns
  rcases hb with hb | ⟨o, e⟩
  · exact .inl hb
  · exact .inr (I.base.there b o e (by rw [D.ex]; simp))
/-- raised here -/
theorem Inv.raised (I : Inv X pins σ H s) (D : InDef X) {h' : Heap} {e C : Addr} {vs : List Value} (mk : Heap.MadeExcOf s.heap h' e (.ref C) vs) {Q : Unit → Shared → Prop} {E : Value → Shared → Prop}
    (k : ∀ s'', Fly X.prog X.w X.outer X.H₀ X.s₀ (.ref C) H e s'' → Q () s'') : wpAny (model X.prog X.w) X.A (leaving X.env (.ref e)) Q E { s with heap := h' } := by
  have hin : ∀ env ∈ X.stack, ∀ b, env.frame = some b → b ∈ frs X.stack := fun env he b hb => List.mem_filterMap.mpr ⟨env, he, hb⟩
  have hfr : s.heap.FunFrames (PySem.W.hideAll s.heap (frs X.stack)) X.stack := PySem.W.funFrames_hide I.stack hin
  rw [D.stk] at hfr
  refine wpAny_leaves_madeW (s := { s with heap := h' }) (base := PySem.W.hideAll s.heap (frs X.stack)) (h := s.heap) (by rw [I.ok.frames, D.stk]) D.fr (fun b o q => PySem.W.of_hideAll _ q) (by rw [← D.stk] at hfr ⊢; exact hfr) mk fun h'' t x1 x2 x3 x4 => k _ ?_
  have keep : ∀ b o, s.heap.get? b = some o → b ∉ frs X.stack → h''.get? b = some o := fun b o e hb => x1.1 b o (PySem.W.hideAll_get _ e hb)
  have J : Inv X pins σ H { s with heap := h'' } := by
    refine I.call' (s' := { s with heap := h'' }) (H' := H) (ch := []) rfl ⟨fun b o e n hb _ => keep b o e hb, ?_, fun b o e n _ => n, ?_, fun _ _ e => e, fun _ _ _ e => e, fun b ps e => ⟨#[], by rw [e]; simp⟩⟩ ?_ I.bare (fun b hb => absurd hb (by simp))
    · intro b o e n hb _
      obtain ⟨ob, eb, nd⟩ := I.frameIn hb
      rw [eb] at e
      cases e
      exact x4 b _ (mk.keeps b _ eb) nd
    · intro b o e _
      by_cases hb : b ∈ frs X.stack
      · obtain ⟨ob, eb, nd⟩ := I.frameIn hb
        rw [eb] at e
        cases e
        obtain ⟨sl, e2⟩ := x4 b _ (mk.keeps b _ eb) nd
        exact ⟨_, e2⟩
      · exact ⟨o, keep b o e hb⟩
    · exact I.hok.keptB fun b o u e q => keep b u q fun hb => by rw [I.stkFree b hb] at e; cases e
  refine ⟨J.os, J.bare, by have z := J.base; rw [D.ex] at z; exact z, J.hok, _, _, x1, fun b hb hn => ?_⟩
  have hne : b ≠ X.env.locals := by
    rintro rfl
    rcases hb with ⟨o, e⟩ | ⟨o, e⟩
    · rw [I.free] at e; cases e
    · exact absurd (Heap.lt_size e) (Nat.not_lt.mpr I.ok.above)
  have hns : b ∉ frs X.stack := fun z => by
    rcases List.mem_cons.mp (I.stkSub b z) with y | y
    · exact hne y
    · exact hn y
  rcases hb with ⟨o, e⟩ | ⟨o, e⟩
  · have hlt := I.hok.lt e
    obtain ⟨u, eu⟩ : ∃ u, s.heap.get? b = some u := (I.hok b o e).has
    exact ⟨u, PySem.W.hideAll_get _ eu hns⟩
  · obtain ⟨u, eu⟩ := I.base.there b o e (by rw [D.ex]; simp)
    exact ⟨u, PySem.W.hideAll_get _ eu hns⟩
end
end L2

namespace L2
open PySem PySem.Spec PyProof.Rows
/-! ### defs that may raise -/
section
variable {P : Program} {w : World} {K : PySem.W.Frag} {mg : Str → Option Value} {base : Heap}
theorem Fun.okX {x qual : Str} {st : Stmt} {f : Addr} {fd : FuncData} {N ps : List Str} {k : Nat} {sp : Sp} (F : Fun K x qual st f fd) (S : FnScope N ps (defScope st)) (len : ∀ vs H Q E, sp vs H Q E → vs.length = ps.length)
    (hbody : ∀ (cdv : Value) (A : Around) (outer : List Env) (s : Shared) (H : Hp) (vs : List V) (Q : VK) (E : XK), Room k (A.deeper (envOfC qual (defScope st) s.heap.objs.size f cdv)) → sp vs H Q E →
      ∃ t, PSs (cxOf (CX1 P w) P w K mg base N qual (defScope st) f cdv A outer s H E) (defBody st) t ∧ t { nx := fun _ H' => Q .non H', rt := Q } (start N vs) H) : FnOk P w K mg base (CX1 P w) (k + 1) f fd ps sp := by
  obtain ⟨oc, od, kV, doc, pm, an, cdv, ct, osl, rfl, lk, hcd⟩ := F.ex
  exact fn_of lk hcd S len fun A outer s H vs Q E hr hsp => hbody cdv A outer s H vs Q E hr hsp
theorem inDef {CX : CXT} {N : List Str} {qual : Str} {scope : Scope} {f : Addr} {cd : Value} {A : Around} {outer : List Env} {s : Shared} {H : Hp} {E : XK} : InDef (cxOf CX P w K mg base N qual scope f cd A outer s H E) := ⟨rfl, rfl, rfl⟩
theorem pass1 {N : List Str} {qual : Str} {scope : Scope} {f : Addr} {cd : Value} {A : Around} {outer : List Env} {s : Shared} {H : Hp} {E : XK} : Passes (CX1 P w) (cxOf (CX1 P w) P w K mg base N qual scope f cd A outer s H E) E := by
  intro pins σ H1 s1 e s' I h
  obtain ⟨a, C, H', rfl, F, q⟩ := h
  exact F.out I inDef fun s'' F' => ⟨a, C, H', rfl, F', q⟩
end
/-- the def called x, with its promise; it may raise -/
def CalX (P : Program) (w : World) (K : PySem.W.Frag) (mg : Str → Option Value) (base : Heap) (x : Str) (k : Nat) (ps : List Str) (sp : Sp) : Prop :=
  ∃ (f : Addr) (fd : FuncData), FnOk P w K mg base (CX1 P w) k f fd ps sp ∧ mg x = some (.ref f) ∧ PySem.W.keepIn K (.ref f) = true ∧ Binds K fd ps []
section
variable {X : Cx} {k : Nat} {ps : List Str} {sp : Sp} {x : Str} {p pos : Pos} {e : Expr} {es : List Expr} {t : TA} {E : XK}
theorem pe_callX (c : CalX X.prog X.w X.K X.mg X.base x k ps sp) (hr : Room k X.A) (hg : Gl X x) (hx : Passes (CX1 X.prog X.w) X E) (ha : PA X (e :: es) t) (hdb : (x == ("__debug__" : Str)) = false := by decide) (he : starEach (e :: es) X.env = (false, eval e X.env) :: starEach es X.env := by rfl) (hpl : (backTo pos (starEach es X.env)).any (·.1) = false := by rfl) :
    PE X (.Call (.Name x p) (e :: es) [] pos) (tCall sp [] E t) := by
  obtain ⟨f, fd, F, hm, hk, hb⟩ := c
  exact pe_call F hr hg hm hk hb .nil hx ha hdb he hpl
end
/-! ### raise C(..) -/
abbrev bmV : List Value := [.type "ValueError", .type "Exception", .type "BaseException", .type "object"]
/-- an exception class of the text under ValueError -/
structure ExcC (K : PySem.W.Frag) (mg : Str → Option Value) (x : Str) (C : Addr) : Prop where
  bound : mg x = some (.ref C)
  ok : PySem.W.excIn K C bmV "ValueError.__new__" = true
theorem ExcC.obj {K : PySem.W.Frag} {mg : Str → Option Value} {x : Str} {C : Addr} {h : Heap} (e : ExcC K mg x C) (X : K.In h) : OwnCls x C bmV "ValueError.__new__" mg h := by
  refine ⟨e.bound, ?_⟩
  have q := e.ok
  unfold PySem.W.excIn at q
  split at q
  · rename_i dd cd sl ho
    split at q
    · rename_i C' bm k0 k1 k2 k3 n k5 hm hs
      simp only [Bool.and_eq_true, beq_iff_eq, Bool.not_eq_true'] at q
      obtain ⟨⟨⟨⟨⟨rfl, rfl⟩, hdel⟩, ht⟩, hok⟩, hni⟩ := q
      obtain ⟨nm, bs, mro, ns, qn, hd, sn, sub, ab, col, del⟩ := cd
      dsimp only at hm hdel hok hni
      subst hm hdel
      have hsl : sl = #[k0, k1, k2, k3, some (.builtin "ValueError.__new__"), k5] := by
        obtain ⟨l⟩ := sl
        simp only at hs
        rw [hs]
      subst hsl
      exact ⟨bm, ns, nm, qn, bs, hd, sn, sub, ab, col, dd, k0, k1, k2, k3, k5, _, X _ _ ho, .of_isNs (PySem.W.isNs_of_in X hok), PySem.W.nsMap_none_of_in X hok hni, PySem.W.tail_of_in X ht⟩
    · cases q
  · cases q
section
variable {X : Cx} {x : Str} {np cpos pos : Pos} {e₀ : Expr} {es : List Expr} {t : TA} {E : XK} {C : Addr}
def tRaise (C : Addr) (E : XK) (t : TA) : TS := fun _ σ H => t σ H fun vs H1 => vs.length ≤ sizeLine ∧ E (.ref C) none H1
/-- raise C(..), of a def's body whose exceptions leave it -/
def Raises (X : Cx) (E : XK) : Prop := ∀ pins σ H s h' e C vs, Inv X pins σ H s → Heap.MadeExcOf s.heap h' e (.ref C) vs → E (.ref C) none H → X.xe (.ref e) { s with heap := h' }
theorem ps_raise (hc : X.calm = true) (hg : Gl X x) (O : ExcC X.K X.mg x C) (hE : Raises X E) (ha : PA X (e₀ :: es) t)
    (he : starEach (e₀ :: es) X.env = (false, eval e₀ X.env) :: starEach es X.env := by rfl) (hplain : (backTo cpos (starEach es X.env)).any (·.1) = false := by rfl) (hd : (x == ("__debug__" : Str)) = false := by decide) :
    PS X (.Raise (some (.Call (.Name x np) (e₀ :: es) [] cpos)) none pos) (tRaise C E t) := by
  intro pins s σ H D I h
  obtain ⟨tl, N, nm, q, bs, hdct, sn, sub, ab, col, dd, k0, k1, k2, k3, k5, mN, hC, hN, hni, T⟩ := (O.obj I.mod.kin).obj
  refine wpAny_Raise_call_subT (C := C) (nm := nm) (q := q) (N := N) (bs := bs) (bm := tl) (hdct := hdct) (sn := sn) (sub := sub) (ab := ab) (col := col) (dd := dd) (k0 := k0) (k1 := k1) (k2 := k2) (k3 := k3) (k5 := k5)
    PySem.F.excBase_ValueError (mN := mN) (T.hasType PySem.F.excBase_ValueError.hasBase) (I.ok.hd hc) (by rw [he]; show (false || (backTo cpos (starEach es X.env)).any (·.1)) = false; rw [hplain]; rfl) hni (ld_glob I hg O.bound ⟨rfl, ?_⟩ hd)
  have sp := ha cpos pins s σ H _ I h
  rw [he] at sp ⊢
  refine Calls.evalArgs_plain (wpAny_mono sp (fun us s₂ h₂ => ?_) fun _ _ y => y)
  obtain ⟨vs, H2, I2, rv, hl, hq⟩ := h₂
  exact ⟨rfl, by rw [← rv.length]; exact hl, I2.bk _ _ hC, hN.keeps I2.bk, T.keeps I2.bk, fun h' e mk => hE pins σ H2 s₂ h' e C us I2 mk hq⟩
end
theorem raises1 {P : Program} {w : World} {K : PySem.W.Frag} {mg : Str → Option Value} {base : Heap} {N : List Str} {qual : Str} {scope : Scope} {f : Addr} {cd : Value} {A : Around} {outer : List Env} {s : Shared} {H : Hp} {E : XK} :
    Raises (cxOf (CX1 P w) P w K mg base N qual scope f cd A outer s H E) E := by
  intro pins σ H1 s1 h' e C vs I mk q
  exact I.raised inDef mk fun s'' F' => ⟨e, .ref C, H1, rfl, F', q⟩
end L2

namespace L2
open PySem PySem.Spec PyProof.Rows PySem.W
/-! ### isinstance of an exception -/
section
variable {prog : Program} {w : World} {A : Around} {E : Value → Shared → Prop} {K : Frag} {s : Shared} {a C : Addr} {oe : Obj}
end
structure ExcK (K : Frag) (C : Addr) : Prop where
  ga : findIn K (.ref C) "__getattribute__" = some (some (.builtin "BaseException.__getattribute__"))
  gh : findIn K (.ref C) "__getattr__" = some none
  sub : subIn K (.ref C) (.type "BaseException") = some true
  cl : findIn K (.ref C) "__class__" = some (some (.builtin "object.__class__"))
  gt : specialIn K (.builtin "object.__class__") "__get__" = some (some (.builtin "getset_descriptor.__get__"))
  tk : takesIn K (.builtin "object.__class__") = some true
  mro : mroIn K C (.type "object") = some true
  is : (clsIn K C).isSome = true
/-- the handler's suite, at a caught exception -/
structure Caught (X : Cx) (a C : Addr) : Prop where
  pin : ∃ oe, (a, oe) ∈ X.pn ∧ oe.cls = .ref C
section
variable {X : Cx} {K : Frag} {a C : Addr}
end
end L2

namespace L2
open PySem PySem.Spec PyProof.Rows
/-! ### try .. except C as n -/
section
variable {X : Cx} {pins : List (Addr × Obj)} {σ : St} {H : Hp} {s : Shared}
end
/-- another around, other pins, another wish: the same frame -/
abbrev Cx.alt (X : Cx) (A : Around) (c : Bool) (pn : List (Addr × Obj)) (W : Value → Shared → Prop) : Cx := { X with A := A, calm := c, pn := pn, xe := W }
theorem Cx.Ok.alt {X : Cx} (ok : X.Ok) {A : Around} {c : Bool} {pn : List (Addr × Obj)} {W : Value → Shared → Prop} (hf : A.frames = some X.stack) (hd : c = true → A.handled = none) : (X.alt A c pn W).Ok :=
  ⟨ok.mod, ok.kind, ok.glob, ok.blt, ok.above, ok.inj, ok.has, ok.cab, hd, hf, ok.stk, ok.exf, ok.bs, ok.bsz, ok.noex, ok.exfs, ok.funs, ok.frf⟩
theorem Inv.alt {X : Cx} {pins pins' : List (Addr × Obj)} {σ : St} {H : Hp} {s : Shared} (I : Inv X pins σ H s) {A : Around} {c : Bool} {pn : List (Addr × Obj)} {W : Value → Shared → Prop} (hf : A.frames = some X.stack) (hd : c = true → A.handled = none)
    (hp : ∀ p ∈ pn ++ pins', s.heap.get? p.1 = some p.2 ∧ H p.1 = none ∧ p.1 ≠ X.env.locals ∧ p.1 ∉ X.fs ∧ ∀ v, p.2.data ≠ .cell v) : Inv (X.alt A c pn W) pins' σ H s :=
  ⟨I.ok.alt hf hd, I.os, I.bare, I.base, I.loc, I.cell, I.free, I.freeC, hp, I.hok, I.len⟩
section
variable {X : Cx} {k : Nat} {ps : List Str} {sp : Sp} {x : Str} {p pos : Pos} {e : Expr} {es : List Expr} {t : TA} {ES : St → XK}
end
/-- an exception class, as a handler's name and as what is raised -/
structure Catches (K : PySem.W.Frag) (C D : Addr) : Prop where
  sub : PySem.W.subIn K (.ref C) (.ref D) = some true
  exc : PySem.W.subIn K (.ref D) (.type "BaseException") = some true
  is : (PySem.W.clsIn K D).isSome = true
  ty : PySem.W.typeIn K (.ref D) = some (.type "type")
theorem i_raise {C : Addr} {E : XK} {t : TA} {D : Ends} {σ : St} {H : Hp} (q : t σ H fun vs H1 => vs.length ≤ sizeLine ∧ E (.ref C) none H1) : tRaise C E t D σ H := q
section
variable {X : Cx} {x n : Str} {np hpos pos : Pos} {b₀ : Stmt} {suite body : List Stmt} {D : Addr} {i : Nat} {tb : (St → XK) → TS} {ts : Addr → Addr → TS} {K : PySem.W.Frag} {G : Addr → Prop}
end
end L2

namespace L2
open PySem PySem.Spec PyProof.Rows
/-! ### a statement that raises nothing, in a def that may -/
end L2

namespace L2
open PySem PySem.Spec PyProof.Rows
/-! ### try with several clauses without a name -/
structure Misses (K : PySem.W.Frag) (C D : Addr) : Prop where
  sub : PySem.W.subIn K (.ref C) (.ref D) = some false
  exc : PySem.W.subIn K (.ref D) (.type "BaseException") = some true
  is : (PySem.W.clsIn K D).isSome = true
  ty : PySem.W.typeIn K (.ref D) = some (.type "type")
inductive Hs (X : Cx) : List ExceptHandler → (Addr → TS) → Prop
  | nil : Hs X [] (fun _ _ _ _ => False)
  | cons {x : Str} {np hpos : Pos} {b₀ : Stmt} {suite : List Stmt} {rest : List ExceptHandler} {D : Addr} {ts : TS} {tr : Addr → TS} (hg : Gl X x) (hm : X.mg x = some (.ref D)) (hs : ∀ A pn, A.units = X.A.units → PSs (X.alt A false pn fun _ _ => False) (b₀ :: suite) ts) (r : Hs X rest tr)
      (hd : (x == ("__debug__" : Str)) = false := by decide) : Hs X (.ExceptHandler (some (.Name x np)) none (b₀ :: suite) hpos :: rest) (fun Ca En σ H => (Catches X.K Ca D ∧ ts En σ H) ∨ (Misses X.K Ca D ∧ tr Ca En σ H))
end L2

namespace L2
open PySem PySem.Spec PyProof.Rows
/-! ### tuples of numbers: in a list, lists of them compared; list.index -/
def TsAt (H : Hp) (ts : List Addr) (yss : List (List Int)) : Prop := ts.length = yss.length ∧ ∀ (i : Nat) t ys, ts[i]? = some t → yss[i]? = some ys → H t = some (.tup (ys.map V.int))
theorem TsAt.same {H H' : Hp} {ts : List Addr} {yss : List (List Int)} (s : Same H H') (h : TsAt H ts yss) : TsAt H' ts yss := ⟨h.1, fun i t p e1 e2 => s _ _ (h.2 i t p e1 e2)⟩
section
variable {X : Cx} {pins : List (Addr × Obj)} {σ : St} {H : Hp} {s : Shared} {K : PySem.W.Frag}
open Classical in
end
section
variable {H : Hp} {Q : VK}
end
end L2

namespace L2
open PySem PySem.Spec PyProof.Rows
/-! ### any(list of bools) -/
section
variable {X : Cx} {K : PySem.W.Frag} {o e : Expr} {es : List Expr} {to : TE} {t : TA} {apos cpos : Pos}
end
end L2

namespace L2
open PySem PySem.Spec PyProof.Rows
/-! ### J. min of three, insert, == of tuples of ints, name op= e -/
section
variable {X : Cx} {K : PySem.W.Frag}
def min3 (a b c : Int) : Int := if b < a then (if c < b then c else b) else (if c < a then c else a)
def rMin3 : List V → Hp → VK → Prop := fun xs H Q => ∃ i j k, xs = [.int i, .int j, .int k] ∧ Q (.int (min3 i j k)) H
end
section
variable {σ : St} {H : Hp} {Q : VK} {K : PySem.W.Frag} {D : Ends}
theorem i_min3 {i j k : Int} (q : Q (.int (min3 i j k)) H) : rMin3 [.int i, .int j, .int k] H Q := ⟨i, j, k, rfl, q⟩
theorem i_aug {i : Nat} {te : TE} {ti : TIp} {x : V} (h : σ[i]? = some (some x)) (q : te σ H fun y H1 => ti x y H1 fun z H2 => D.nx (σ.set i (some z)) H2) : tAug i te ti D σ H := ⟨x, h, q⟩
theorem i_ip {f : Int → Int → Int} {i j : Int} (q : Q (.int (f i j)) H) : ipI f (.int i) (.int j) H Q := ⟨i, j, rfl, rfl, q⟩
theorem i_par {i j : Nat} {ta : TA} (q : ta σ H fun vs H1 => ∃ v w, vs = [v, w] ∧ D.nx ((σ.set i (some v)).set j (some w)) H1) : tPar i j ta D σ H := q
theorem i_two {a b : V} {R : V → V → Prop} (q : R a b) : ∃ v w, [a, b] = [v, w] ∧ R v w := ⟨a, b, rfl, q⟩
end
end L2

namespace K38
open PySem L2
def top (i : Nat) : Stmt := PySem.Challenge.pw_argosy_k38_lots_by_all_dealings.main.body.getD i (.Pass ⟨0, 0, 0, 0⟩)
end K38

namespace K38
open PySem L2
local macro_rules | `(tactic| walk_at "s") => `(tactic| first | (with_reducible refine i_seq ?_) | (with_reducible refine i_asg ?_) | (with_reducible refine i_ret ?_) | (with_reducible refine i_if ?_) | (with_reducible refine i_next ?_) | (with_reducible refine i_drop ?_) | ((with_reducible refine' i_var ?k1 ?_); (case k1 => exact rfl)) | (with_reducible refine i_tC ?_) | (with_reducible refine i_op ?_) | (with_reducible refine i_un ?_) | (with_reducible refine i_rI0 ?_) | (with_reducible refine i_rU ?_) | ((with_reducible refine' i_rEq ?k1 ?_); (case k1 => exact rfl)) | ((with_reducible refine' i_rNe ?k1 ?_); (case k1 => exact rfl)) | (with_reducible refine i_test ?_) | (with_reducible refine i_tB ?_) | (with_reducible refine i_bl ?_) | (with_reducible refine i_int ?_) | (with_reducible refine i_and ?_) | (with_reducible refine i_or ?_) | (with_reducible refine i_not ?_) | (with_reducible refine i_andV ?_) | (with_reducible refine i_orV ?_) | (with_reducible refine i_notV ?_) | (with_reducible refine i_isN ?_) | (with_reducible refine i_notN ?_) | (with_reducible refine i_ifE ?_) | (with_reducible refine i_name ?_) | (with_reducible refine i_cons ?_) | (with_reducible refine i_nil ?_) | (with_reducible refine i_cb ?_) | (with_reducible refine i_call ?_) | (with_reducible refine i_tup ?_) | (with_reducible refine i_lst ?_) | (with_reducible refine i_gsub ?_) | (with_reducible refine i_gcons ?_) | (with_reducible refine i_gnil ?_) | (with_reducible refine i_yes ?_) | (with_reducible refine i_slice ?_) | (with_reducible refine i_nopart ?_) | (with_reducible refine i_part ?_) | (with_reducible refine i_abs ?_) | ((with_reducible refine' i_ixL ?k1 ?k2 ?_); (case k1 => first | exact SqL.of (by assumption) | assumption | exact SqL.of upd_same); (case k2 => exact rfl)) | ((with_reducible refine' i_ixT ?k1 ?k2 ?_); (case k1 => first | exact SqT.of (by assumption) | assumption | exact SqT.of upd_same); (case k2 => exact rfl)) | ((with_reducible refine' i_setL ?k1 ?k2 ?_); (case k1 => first | assumption | exact upd_same); (case k2 => exact rfl)) | ((with_reducible refine' i_gtup ?k1 ?k2 ?_); (case k1 => first | exact SqT.of (by assumption) | assumption | exact SqT.of upd_same); (case k2 => exact rfl)) | ((with_reducible refine' i_len ?k1 ?_); (case k1 => first | exact SqL.of (by assumption) | assumption | exact SqL.of upd_same)) | ((with_reducible refine' i_lenT ?k1 ?_); (case k1 => first | exact SqT.of (by assumption) | assumption | exact SqT.of upd_same)) | ((with_reducible refine' i_list ?k1 ?_); (case k1 => first | exact SqL.of (by assumption) | assumption | exact SqL.of upd_same)) | ((with_reducible refine' i_slL ?k1 ?_); (case k1 => first | exact SqL.of (by assumption) | assumption | exact SqL.of upd_same)) | ((with_reducible refine' i_isi ?k1 ?k2 ?_); (case k1 => assumption); (case k2 => decide)) | ((with_reducible refine i_rI ?k1 ?_); (case k1 => first | (show (0 : Int) < _; decide) | (show CPow _ _; exact ⟨by decide, by decide, by decide⟩) | (show CDiv _ _; exact ⟨by decide, by decide⟩) | (show CMul _ _; exact .inr ⟨by decide, by decide⟩) | (show CMul _ _; exact .inl ⟨by decide, by decide⟩) | (show (0 : Int) < _; omega) | (show CDiv _ _; exact ⟨by omega, by omega⟩) | (show CMul _ _; exact .inr ⟨by omega, by omega⟩) | (show CMul _ _; exact .inl ⟨by omega, by omega⟩))) | (with_reducible refine i_comp ?_) | (with_reducible refine i_zip ?_) | (with_reducible refine i_itL ?_) | (with_reducible refine i_itT ?_) | (with_reducible refine i_rng1 ?_) | (with_reducible refine i_bm ?_) | (with_reducible refine i_for ?_) | (with_reducible refine i_min2 ?_) | (with_reducible refine i_max2 ?_) | (with_reducible refine i_rng2 ?_) | (with_reducible refine i_intB ?_) | (with_reducible refine i_rev ?_) | (with_reducible refine i_rngB ?_) | (with_reducible refine i_itS ?_) | (with_reducible refine i_inStr ?_) | (with_reducible refine i_find ?_) | (with_reducible refine i_itE ?_) | (with_reducible refine i_comp3 ?_) | (with_reducible refine i_bm0 ?_))
/-! ### what all laws share: begin, take, same -/
/-- the drawing list at d, the script's cells at c -/
def DrawC (H : Hp) (d c : Addr) : Prop := ∃ (ns : List Int) (a : Nat) (r e : Int), H d = some (.lst [.ref c, .int a, .int r, .int e]) ∧ H c = some (.lst (ns.map V.int)) ∧ 0 ≤ r ∧ 0 ≤ e
def spBeginC (K : PySem.W.Frag) : Sp := fun vs H Q _ => ∃ (a : Addr) (ns : List Int), vs = [.ref a] ∧ SqL K H a (ns.map V.int) ∧ ns.length ≤ 63 ∧ ∀ d c H', Same H H' → H d = none → H c = none → DrawC H' d c → Q (.ref d) H'
def spTakeC : Sp := fun vs H Q _ => ∃ (d c : Addr) (m : Int), vs = [.ref d, .int m] ∧ DrawC H d c ∧ 0 < m ∧ m.natAbs < 2 ^ 500 ∧ ∀ r H', 0 ≤ r → r < m → DrawC H' d c → But d H H' → Q (.int r) H'
theorem DrawC.same {H H' : Hp} {d c : Addr} (s : Same H H') (h : DrawC H d c) : DrawC H' d c := by
  obtain ⟨ns, a, r, e, h1, h2, h3, h4⟩ := h
  exact ⟨ns, a, r, e, s _ _ h1, s _ _ h2, h3, h4⟩
theorem DrawC.put {H : Hp} {d c b : Addr} {o : HO} (h : DrawC H d c) (n1 : b ≠ d) (n2 : b ≠ c) : DrawC (upd H b o) d c := by
  obtain ⟨ns, a, r, e, h1, h2, h3, h4⟩ := h
  exact ⟨ns, a, r, e, by rw [upd_ne (Ne.symm n1)]; exact h1, by rw [upd_ne (Ne.symm n2)]; exact h2, h3, h4⟩
theorem DrawC.is {H : Hp} {d c : Addr} (h : DrawC H d c) : (∃ o, H d = some o) ∧ ∃ o, H c = some o := by
  obtain ⟨ns, a, r, e, h1, h2, h3, h4⟩ := h
  exact ⟨⟨_, h1⟩, ⟨_, h2⟩⟩
section
variable {P : Program} {w : World} {K : PySem.W.Frag} {mg : Str → Option Value} {base : Heap}
abbrev sLawBegin : Stmt := top 22
theorem scLawBegin : FnScope ["_law_script"] ["_law_script"] (defScope sLawBegin) := ⟨rfl, rfl, rfl, by decide +kernel, rfl, by decide +kernel, by decide +kernel⟩
theorem ok_begin {f : Addr} {fd : FuncData} (F : Fun K "_law_begin" "_law_begin" sLawBegin f fd) (T : Blt mg) : FnOk P w K mg base CX0 1 f fd ["_law_script"] (spBeginC K) := by
  refine F.ok scLawBegin (fun vs H Q E h => ?_) (fun cdv A outer s H vs Q E hr h => ?_)
  · obtain ⟨a, ns, rfl, _⟩ := h
    rfl
  · obtain ⟨a, ns, rfl, hS, hl, k⟩ := h
    refine ⟨_, (pss_one (ps_ret (pe_lst (pa_cons (pe_callTy (cList (K := K) rfl) (by rfl) T.z_list bb_list (pa_cons (pe_slice (slL (K := K) rfl) (pv 0) po_none (po_some pe_int)) pa_nil)) (pa_cons pe_int (pa_cons pe_int (pa_cons pe_int pa_nil))))))), ?_⟩
    repeat walk_at "s"
    intro p hp
    have s1 := same_upd (o := .lst (cutV (ns.map V.int) none (some 63))) hp
    repeat walk_at "s"
    intro c hc
    have s2 := same_upd (o := .lst (cutV (ns.map V.int) none (some 63))) hc
    repeat walk_at "s"
    refine ⟨by show 4 ≤ sizeLine; decide, fun d hd => ?_⟩
    have s3 := same_upd (o := .lst [.ref c, .int 0, .int 0, .int 17]) hd
    have e : cutV (ns.map V.int) none (some 63) = (ns.take 63).map V.int := by
      unfold cutV
      rw [HT.sIx_none, List.drop_zero, List.length_map, List.map_take]
      have z : HT.sIx ns.length ns.length (some (63 : Int)) = min 63 ns.length := HT.sIx_nat ns.length ns.length 63
      rw [z, Nat.sub_zero]
      rcases Nat.le_total 63 ns.length with q | q
      · rw [Nat.min_eq_left q]
      · rw [Nat.min_eq_right q, List.take_of_length_le (by simp), List.take_of_length_le (by simpa using q)]
    refine k d c _ ((s1.trans s2).trans s3) ((s1.trans s2).free hd) (s1.free hc) ⟨ns.take 63, 0, 0, 17, upd_same, ?_, by decide, by decide⟩
    rw [← e]
    exact s3 _ _ upd_same
abbrev sLawTake : Stmt := top 23
theorem scLawTake : FnScope ["_law_draw", "_law_many", "_law_cell", "_law_got"] ["_law_draw", "_law_many"] (defScope sLawTake) := ⟨rfl, rfl, rfl, by decide +kernel, rfl, by decide +kernel, by decide +kernel⟩
theorem ok_take {f : Addr} {fd : FuncData} (F : Fun K "_law_take" "_law_take" sLawTake f fd) (T : Blt mg) : FnOk P w K mg base CX0 1 f fd ["_law_draw", "_law_many"] spTakeC := by
  refine F.ok scLawTake (fun vs H Q E h => ?_) (fun cdv A outer s H vs Q E hr h => ?_)
  · obtain ⟨d, c, m, rfl, _⟩ := h
    rfl
  · obtain ⟨d, c, m, rfl, ⟨ns, a, r, e, h1, h2, h3, h4⟩, hm, hm2, k⟩ := h
    have ncd := draw_ne h1 h2
    refine ⟨_, (pss_cut (ps_if ((pw_and (pt_cmpR op_lt (pe_ix (ixL (K := K) rfl) (pv 0) pe_int (fun _ _ => rfl)) (pv 1) (nomark _)) (pw_and1 (pt_cmpR op_lt (pe_ix (ixL (K := K) rfl) (pv 0) pe_int (fun _ _ => rfl)) (pe_callB (cLen (K := K) rfl) (by rfl) T.z_len bb_len (pa_cons (pe_ix (ixL (K := K) rfl) (pv 0) pe_int (fun _ _ => rfl)) pa_nil)) (nomark _))))).pt (pss_cons (ps_set (i := 2) scLawTake.nd rfl (Or.inl rfl) (pe_ix (ixL (K := K) rfl) (pe_ix (ixL (K := K) rfl) (pv 0) pe_int (fun _ _ => rfl)) (pe_ix (ixL (K := K) rfl) (pv 0) pe_int (fun _ _ => rfl)) (fun _ _ => rfl)))
      (pss_cons (ps_asg (pe_op op_add (pe_ix (ixL (K := K) rfl) (pv 0) pe_int (fun _ _ => rfl)) pe_int) (pg_sub (pv 0) pe_int set_list))
      (pss_cons (ps_asg pe_int (pg_sub (pv 0) pe_int set_list))
      (pss_one (ps_if (pt_cmpR op_ge (pe_callB call_absR (by rfl) T.z_abs bb_abs (pa_cons (pv 2) pa_nil)) (pe_op op_pow pe_int pe_int) (nomark _)) (pss_one (ps_asg (pe_callB call_absR (by rfl) T.z_abs bb_abs (pa_cons (pv 2) pa_nil)) (pg_sub (pv 0) pe_int set_list))) (pss_one (ps_asg (pe_op op_mod (pe_op op_add (pe_op op_add (pe_op op_mul (pe_ix (ixL (K := K) rfl) (pv 0) pe_int (fun _ _ => rfl)) pe_int) (pe_op op_mul (pe_op op_mod (pv 2) pe_int) pe_int)) pe_int) pe_int) (pg_sub (pv 0) pe_int set_list)))))))) pss_nil)
      (pss_cons (ps_if (pt_cmpR op_ge (pe_ix (ixL (K := K) rfl) (pv 0) pe_int (fun _ _ => rfl)) (pv 1) (nomark _)) (pss_cons (ps_set (i := 3) scLawTake.nd rfl (Or.inl rfl) (pe_op op_mod (pe_ix (ixL (K := K) rfl) (pv 0) pe_int (fun _ _ => rfl)) (pv 1)))
      (pss_cons (ps_asg (pe_op op_fdivB (pe_ix (ixL (K := K) rfl) (pv 0) pe_int (fun _ _ => rfl)) (pv 1)) (pg_sub (pv 0) pe_int set_list))
      (pss_one (ps_ret (pv 3))))) pss_nil)
      (pss_cons (ps_asg (pe_op op_mod (pe_op op_add (pe_op op_mul (pe_ix (ixL (K := K) rfl) (pv 0) pe_int (fun _ _ => rfl)) pe_int) pe_int) pe_int) (pg_sub (pv 0) pe_int set_list))
      (pss_one (ps_ret (pe_op op_mod (pe_op op_fdiv (pe_ix (ixL (K := K) rfl) (pv 0) pe_int (fun _ _ => rfl)) pe_int) (pv 1))))))), ?_⟩
    refine ⟨fun σ' H' => (∃ v, σ' = [some (.ref d), some (.int m), v, none]) ∧ DrawC H' d c ∧ But d H H', ?_, ?_⟩
    · repeat walk_at "s"
      refine ite2 (fun _ => ?_) (fun _ => ?_)
      · repeat walk_at "s"
        refine ite2 (fun hlt => ?_) (fun _ => ?_)
        · have hlt' : a < ns.length := by
            have z : (a : Int) < ((ns.map V.int).length : Int) := of_decide_eq_true hlt
            rw [List.length_map] at z
            omega
          have hc0 : atI (ns.map V.int) (a : Int) = some (.int (ns[a]'hlt')) := atI_nat (by rw [List.getElem?_map, List.getElem?_eq_getElem hlt']; rfl)
          generalize ns[a]'hlt' = cell at hc0
          repeat walk_at "s"
          refine i_ixL (SqL.of h2) hc0 ?_
          repeat walk_at "s"
          refine ite2 (fun _ => ?_) (fun _ => ?_)
          · repeat walk_at "s"
            refine ⟨⟨_, rfl⟩, ⟨ns, a + 1, _, e, upd_same, ?_, ?_, h4⟩, but_upd.trans (but_upd.trans but_upd)⟩
            · rw [upd_ne ncd, upd_ne ncd, upd_ne ncd]
              exact h2
            · split <;> omega
          · repeat walk_at "s"
            refine ⟨⟨_, rfl⟩, ⟨ns, a + 1, 0, _, upd_same, ?_, by decide, ?_⟩, but_upd.trans (but_upd.trans but_upd)⟩
            · rw [upd_ne ncd, upd_ne ncd, upd_ne ncd]
              exact h2
            · exact Int.emod_nonneg _ (by decide)
        · exact ⟨⟨_, rfl⟩, ⟨ns, a, r, e, h1, h2, h3, h4⟩, But.refl⟩
      · exact ⟨⟨_, rfl⟩, ⟨ns, a, r, e, h1, h2, h3, h4⟩, But.refl⟩
    · rintro σ' H' ⟨⟨v, rfl⟩, ⟨ns, a, r, e, h1, h2, h3, h4⟩, bt⟩
      have ncd := draw_ne h1 h2
      repeat walk_at "s"
      refine ite2 (fun _ => ?_) (fun _ => ?_)
      · repeat walk_at "s"
        refine i_rI (cdivB hm hm2) ?_
        repeat walk_at "s"
        refine k _ _ (Int.emod_nonneg _ (by omega)) (Int.emod_lt_of_pos _ hm) ⟨ns, a, _, e, upd_same, ?_, Int.ediv_nonneg h3 (by omega), h4⟩ (bt.trans but_upd)
        rw [upd_ne ncd]
        exact h2
      · repeat walk_at "s"
        refine k _ _ (Int.emod_nonneg _ (by omega)) (Int.emod_lt_of_pos _ hm) ⟨ns, a, r, _, upd_same, ?_, h3, Int.emod_nonneg _ (by decide)⟩ (bt.trans but_upd)
        rw [upd_ne ncd]
        exact h2
/-- same, by the depth of what is compared -/
def spS : Nat → Sp
  | 0 => fun _ _ _ _ => False
  | n + 1 => spSame n
theorem same_turns {S1 S2 : Hp → List V → Prop} {n : Nat} {vs us : List V} {ds : List Dt} {H1 : Hp} {Fin : List V → Hp → Prop} {σ : St} (hS1 : ∀ H', Same H1 H' → S1 H' vs) (hS2 : ∀ H', Same H1 H' → S2 H' us)
    (r1 : Reps H1 vs ds) (r2 : Reps H1 us ds) (hd : depths ds + 1 ≤ n) (hw : wides ds ≤ 1000) (hl : ds.length ≤ 1000) (fin : ∀ H', Same H1 H' → Fin (List.replicate ds.length (.bl true)) H') :
    CompT (Itz S1 S2) (gTup K 2 (gCons (gName 0) (gCons (gName 1) gNil))) tYes (tCall (spS n) [] E0 (tCons (tVar 0) (tCons (tVar 1) tNil))) Fin (startC 2 [] σ) H1 := by
  have l1 := r1.length
  have l2 := r2.length
  refine ⟨fun i m ys σ' H' => i ≤ ds.length ∧ m = ds.length - i ∧ ys = List.replicate i (.bl true) ∧ (∃ x y, σ' = [x, y]) ∧ Same H1 H', ⟨ds.length, Nat.zero_le _, rfl, rfl, ⟨none, none, rfl⟩, Same.refl _⟩, ?_⟩
  rintro i m ys σ' H' ⟨hi, rfl, rfl, ⟨x, y, rfl⟩, s1⟩
  rcases Nat.lt_or_ge i ds.length with hlt | hge
  · right
    have e1 : ∃ a, vs[i]? = some a := ⟨vs[i]'(by omega), List.getElem?_eq_getElem _⟩
    have e2 : ∃ a, us[i]? = some a := ⟨us[i]'(by omega), List.getElem?_eq_getElem _⟩
    obtain ⟨a, ea⟩ := e1
    obtain ⟨b, eb⟩ := e2
    obtain ⟨d1, g1, p1⟩ := r1.get ea
    obtain ⟨d2, g2, p2⟩ := r2.get eb
    rw [g1] at g2
    cases g2
    refine ⟨⟨vs, us, a, b, hS1 H' s1, hS2 H' s1, ea, eb⟩, small1000 (by rw [List.length_replicate]; omega), ?_⟩
    rintro z H2 ⟨T, u, v, rfl, hn, rfl, q⟩
    obtain ⟨q1, q2⟩ := q vs us (hS1 H' s1) (hS2 H' s1)
    rw [ea] at q1
    rw [eb] at q2
    cases q1
    cases q2
    have s2 := same_upd (o := .tup [a, b]) hn
    obtain ⟨n', rfl⟩ : ∃ n', n = n' + 1 := ⟨n - 1, by omega⟩
    refine i_gtup (SqT.of upd_same) rfl ?_
    repeat walk_at "s"
    refine iteT ?_
    repeat walk_at "s"
    have dd := depth_le g1
    have dw := wide_le g1
    refine ⟨a, b, d1, rfl, p1.mono (s1.trans s2), p2.mono (s1.trans s2), by omega, by omega, fun H3 s3 => ?_⟩
    refine ⟨ds.length - (i + 1), by omega, hlt, rfl, ?_, ⟨_, _, rfl⟩, (s1.trans s2).trans s3⟩
    rw [List.replicate_succ']
  · left
    obtain rfl : i = ds.length := by omega
    exact ⟨⟨vs, us, hS1 H' s1, hS2 H' s1, .inl (by omega)⟩, fin H' s1⟩
theorem all_yes (n : Nat) : (List.replicate n true).all id = true := by
  induction n with
  | zero => rfl
  | succ n ih => rw [List.replicate_succ, List.all_cons, ih]; rfl
abbrev sLawSame : Stmt := top 24
theorem scLawSame : FnScope ["_law_found", "_law_due"] ["_law_found", "_law_due"] (defScope sLawSame) := ⟨rfl, rfl, rfl, by decide +kernel, rfl, by decide +kernel, by decide +kernel⟩
theorem nd_88_56 : (["_law_one", "_law_other"] : List Str).Nodup := by decide +kernel
theorem S_88_56 : CompScope ["_law_found", "_law_due"] (defScope sLawSame) ({ kind := PySem.ScopeKind.function, names := [ (PySem.Str.ofString ".0", PySem.NameKind.local), (PySem.Str.ofString "_law_one", PySem.NameKind.local), (PySem.Str.ofString "_law_other", PySem.NameKind.local), (PySem.Str.ofString "_law_same", PySem.NameKind.globalImplicit)], isGenerator := false, isCoroutine := false, more := [] : PySem.Scope }) (["_law_one", "_law_other"] : List Str) ([] : List (Nat × Str)) := ⟨by decide +kernel, by decide +kernel, by decide +kernel, by decide +kernel, by decide +kernel⟩
theorem ok_same {f : Addr} {fd : FuncData} (F : Fun K "_law_same" "_law_same" sLawSame f fd) (T : Blt mg) (hm : mg "_law_same" = some (.ref f)) (b : Binds K fd ["_law_found", "_law_due"] []) : ∀ n, FnOk P w K mg base CX0 n f fd ["_law_found", "_law_due"] (spS n)
  | 0 => ⟨fun _ _ _ _ h => h.elim, fun _ _ _ _ _ _ _ _ _ _ _ _ _ h => h.elim⟩
  | n + 1 => by
    have c_law_same : Cal P w K mg base "_law_same" n ["_law_found", "_law_due"] (spS n) := ⟨f, fd, ok_same F T hm b n, hm, F.kp, b⟩
    refine F.ok scLawSame (fun vs H Q E h => ?_) (fun cdv A outer s H vs Q E hr h => ?_)
    · obtain ⟨f, u, dd, rfl, _⟩ := h
      rfl
    · obtain ⟨f1, u, dd, rfl, r1, r2, hd, hw, k⟩ := h
      refine ⟨_, (pss_cons (ps_if (pt_val (pe_callB (cIsiT (K := K) rfl) (by rfl) T.z_isinstance bb_isinstance (pa_cons (pv 1) (pa_cons (pe_tup (pa_cons (pe_bltn (v := .ty "list") (by rfl) T.z_list bb_list rfl) (pa_cons (pe_bltn (v := .ty "tuple") (by rfl) T.z_tuple bb_tuple rfl) pa_nil))) pa_nil)))) (pss_cons (ps_if ((pw_or (pt_cmpR op_ne (pe_callB (cIsi (K := K) rfl) (by rfl) T.z_isinstance bb_isinstance (pa_cons (pv 0) (pa_cons (pe_bltn (v := .ty "list") (by rfl) T.z_list bb_list rfl) pa_nil))) (pe_callB (cIsi (K := K) rfl) (by rfl) T.z_isinstance bb_isinstance (pa_cons (pv 1) (pa_cons (pe_bltn (v := .ty "list") (by rfl) T.z_list bb_list rfl) pa_nil))) (nomark _)) (pw_or1 (pt_cmpR op_ne (pe_callB (cIsi (K := K) rfl) (by rfl) T.z_isinstance bb_isinstance (pa_cons (pv 0) (pa_cons (pe_bltn (v := .ty "tuple") (by rfl) T.z_tuple bb_tuple rfl) pa_nil))) (pe_callB (cIsi (K := K) rfl) (by rfl) T.z_isinstance bb_isinstance (pa_cons (pv 1) (pa_cons (pe_bltn (v := .ty "tuple") (by rfl) T.z_tuple bb_tuple rfl) pa_nil))) (nomark _))))).pt (pss_one (ps_ret pe_bl)) pss_nil)
      (pss_one (ps_ret (pe_and (pe_cmpR op_eq (pe_callB (cLen (K := K) rfl) (by rfl) T.z_len bb_len (pa_cons (pv 0) pa_nil)) (pe_callB (cLen (K := K) rfl) (by rfl) T.z_len bb_len (pa_cons (pv 1) pa_nil)) (nomark _)) (pe_one (pe_callB (cAll (K := K) rfl rfl) (by rfl) T.z_all bb_all (pa_cons (pe_lcomp rfl S_88_56 (piZ (K := K) rfl (by rfl) T.z_zip (pa_cons (pv 0) (pa_cons (pv 1) pa_nil))) (by intro _ _ _ _ _; exact (pgT (K := K) (n := 2) rfl rfl (pgs_cons (pg_name (i := 0) nd_88_56 rfl (Or.inl rfl)) (pgs_cons (pg_name (i := 1) nd_88_56 rfl (Or.inl rfl)) pgs_nil)))) (by intro _ _ _ _ _; exact pts_nil) (by intro _ _ _ _ _; exact (pe_callC c_law_same (hr.mono (by omega)) (by rfl) (pa_cons (pv 0) (pa_cons (pv 1) pa_nil))))) pa_nil))))))) pss_nil)
      (pss_cons (ps_if (pt_cmp (pc_isN (pv 1))) (pss_one (ps_ret (pe_cmp (pc_isN (pv 0))))) pss_nil)
      (pss_cons (ps_if ((pw_or (pt_cmpR op_ne (pe_callB (cIsi (K := K) rfl) (by rfl) T.z_isinstance bb_isinstance (pa_cons (pv 0) (pa_cons (pe_bltn (v := .ty "bool") (by rfl) T.z_bool bb_bool rfl) pa_nil))) (pe_callB (cIsi (K := K) rfl) (by rfl) T.z_isinstance bb_isinstance (pa_cons (pv 1) (pa_cons (pe_bltn (v := .ty "bool") (by rfl) T.z_bool bb_bool rfl) pa_nil))) (nomark _)) (pw_or1 (pt_cmpR op_ne (pe_callB (cIsi (K := K) rfl) (by rfl) T.z_isinstance bb_isinstance (pa_cons (pv 0) (pa_cons (pe_bltn (v := .ty "str") (by rfl) T.z_str bb_str rfl) pa_nil))) (pe_callB (cIsi (K := K) rfl) (by rfl) T.z_isinstance bb_isinstance (pa_cons (pv 1) (pa_cons (pe_bltn (v := .ty "str") (by rfl) T.z_str bb_str rfl) pa_nil))) (nomark _))))).pt (pss_one (ps_ret pe_bl)) pss_nil)
      (pss_one (ps_ret (pe_and (pe_cmpR op_eq (pe_callB (cIsi (K := K) rfl) (by rfl) T.z_isinstance bb_isinstance (pa_cons (pv 0) (pa_cons (pe_bltn (v := .ty "int") (by rfl) T.z_int bb_int rfl) pa_nil))) (pe_callB (cIsi (K := K) rfl) (by rfl) T.z_isinstance bb_isinstance (pa_cons (pv 1) (pa_cons (pe_bltn (v := .ty "int") (by rfl) T.z_int bb_int rfl) pa_nil))) (nomark _)) (pe_one (pe_cmpR op_eq (pv 0) (pv 1) (nomark _))))))))), ?_⟩
      repeat walk_at "s"
      refine ⟨by show 2 ≤ sizeLine; decide, fun p hp => ?_⟩
      have s1 := same_upd (o := .tup [.ty "list", .ty "tuple"]) hp
      generalize hH1 : upd H p (.tup [.ty "list", .ty "tuple"]) = H1 at s1
      have hT : SqT K H1 p (["list", "tuple"].map V.ty) := by rw [← hH1]; exact SqT.of upd_same
      repeat walk_at "s"
      replace r1 := r1.mono s1
      replace r2 := r2.mono s1
      cases r2 with
      | int i =>
        cases r1
        have kn : Knd K H1 (.int i) "int" := ⟨.int i, by decide⟩
        refine ⟨_, p, ["list", "tuple"], "int", rfl, hT, kn, by decide, ?_⟩
        repeat walk_at "s"
        refine iteF ?_
        repeat walk_at "s"
        refine iteF ?_
        repeat walk_at "s"
        refine iteNS rfl ?_
        repeat walk_at "s"
        refine iteNS rfl ?_
        repeat walk_at "s"
        rw [decide_eq_true (show V.bl (isTy "int" "int") = V.bl (isTy "int" "int") from rfl)]
        refine iteT ?_
        repeat walk_at "s"
        rw [decide_eq_true rfl]
        exact k _ s1
      | bl i =>
        cases r1
        have kn : Knd K H1 (.bl i) "bool" := ⟨.bl i, by decide⟩
        refine ⟨_, p, ["list", "tuple"], "bool", rfl, hT, kn, by decide, ?_⟩
        repeat walk_at "s"
        refine iteF ?_
        repeat walk_at "s"
        refine iteF ?_
        repeat walk_at "s"
        refine iteNS rfl ?_
        repeat walk_at "s"
        refine iteNS rfl ?_
        repeat walk_at "s"
        rw [decide_eq_true (show V.bl (isTy "bool" "int") = V.bl (isTy "bool" "int") from rfl)]
        refine iteT ?_
        repeat walk_at "s"
        rw [decide_eq_true rfl]
        exact k _ s1
      | str i =>
        cases r1
        have kn : Knd K H1 (.str i) "str" := ⟨.str i, by decide⟩
        refine ⟨_, p, ["list", "tuple"], "str", rfl, hT, kn, by decide, ?_⟩
        repeat walk_at "s"
        refine iteF ?_
        repeat walk_at "s"
        refine iteF ?_
        repeat walk_at "s"
        refine iteNS rfl ?_
        repeat walk_at "s"
        refine iteNS rfl ?_
        repeat walk_at "s"
        rw [decide_eq_true (show V.bl (isTy "str" "int") = V.bl (isTy "str" "int") from rfl)]
        refine iteT ?_
        repeat walk_at "s"
        rw [decide_eq_true rfl]
        exact k _ s1
      | non =>
        cases r1
        have kn : Knd K H1 (.non) "NoneType" := ⟨.non, by decide⟩
        refine ⟨_, p, ["list", "tuple"], "NoneType", rfl, hT, kn, by decide, ?_⟩
        repeat walk_at "s"
        refine iteF ?_
        repeat walk_at "s"
        rw [decide_eq_true (show V.non = V.non from rfl)]
        refine iteT ?_
        repeat walk_at "s"
        rw [decide_eq_true (show V.non = V.non from rfl)]
        exact k _ s1
      | lst e2 q2 =>
        cases r1 with
        | lst e1 q1 =>
          have kn1 : Knd K H1 _ "list" := ⟨.lst e1, by decide⟩
          have kn2 : Knd K H1 _ "list" := ⟨.lst e2, by decide⟩
          refine ⟨_, p, ["list", "tuple"], "list", rfl, hT, kn2, by decide, ?_⟩
          repeat walk_at "s"
          refine iteT ?_
          repeat walk_at "s"
          refine iteNS rfl ?_
          repeat walk_at "s"
          refine iteNS rfl ?_
          repeat walk_at "s"
          have el := congrArg (fun z : Nat => V.int (z : Int)) (q1.length.trans q2.length.symm)
          rw [decide_eq_true el]
          refine iteT ?_
          repeat walk_at "s"
          have hd' : depths _ + 1 ≤ n := hd
          have hw' : max _ (wides _) ≤ 1000 := hw
          refine ⟨_, _, rfl, .inl ⟨_, _, SqL.of e1, SqL.of e2, ?_⟩⟩
          refine same_turns (fun H' s' => SqL.of (s' _ _ e1)) (fun H' s' => SqL.of (s' _ _ e2)) q1 q2 hd' (Nat.le_trans (Nat.le_max_right _ _) hw') (Nat.le_trans (Nat.le_max_left _ _) hw') ?_
          intro H' s' D hD
          repeat walk_at "s"
          refine ⟨D, List.replicate _ true, rfl, SqL.of (by rw [List.map_replicate]; exact upd_same), ?_⟩
          rw [all_yes]
          exact k _ ((s1.trans s').trans (same_upd hD))
      | tup e2 q2 =>
        cases r1 with
        | tup e1 q1 =>
          have kn1 : Knd K H1 _ "tuple" := ⟨.tup e1, by decide⟩
          have kn2 : Knd K H1 _ "tuple" := ⟨.tup e2, by decide⟩
          refine ⟨_, p, ["list", "tuple"], "tuple", rfl, hT, kn2, by decide, ?_⟩
          repeat walk_at "s"
          refine iteT ?_
          repeat walk_at "s"
          refine iteNS rfl ?_
          repeat walk_at "s"
          refine iteNS rfl ?_
          repeat walk_at "s"
          have el := congrArg (fun z : Nat => V.int (z : Int)) (q1.length.trans q2.length.symm)
          rw [decide_eq_true el]
          refine iteT ?_
          repeat walk_at "s"
          have hd' : depths _ + 1 ≤ n := hd
          have hw' : max _ (wides _) ≤ 1000 := hw
          refine ⟨_, _, rfl, .inr ⟨_, _, SqT.of e1, SqT.of e2, ?_⟩⟩
          refine same_turns (fun H' s' => SqT.of (s' _ _ e1)) (fun H' s' => SqT.of (s' _ _ e2)) q1 q2 hd' (Nat.le_trans (Nat.le_max_right _ _) hw') (Nat.le_trans (Nat.le_max_left _ _) hw') ?_
          intro H' s' D hD
          repeat walk_at "s"
          refine ⟨D, List.replicate _ true, rfl, SqL.of (by rw [List.map_replicate]; exact upd_same), ?_⟩
          rw [all_yes]
          exact k _ ((s1.trans s').trans (same_upd hD))
end
end K38

namespace K38
/-! ### lots: ways, and ways with many of one kind among them (the pure part of k39; core Lean alone) -/
def bin : Nat → Nat → Nat
  | _, 0 => 1
  | 0, _ + 1 => 0
  | n + 1, k + 1 => bin n k + bin n (k + 1)
theorem bin_zero (n : Nat) : bin n 0 = 1 := by cases n <;> rfl
theorem bin_succ (n k : Nat) : bin (n + 1) (k + 1) = bin n k + bin n (k + 1) := rfl
theorem bin_none : ∀ (n k : Nat), n < k → bin n k = 0
  | 0, k + 1, _ => rfl
  | n + 1, k + 1, h => by rw [bin_succ, bin_none n k (by omega), bin_none n (k + 1) (by omega)]
  | _, 0, h => by omega
theorem bin_pos : ∀ (n k : Nat), k ≤ n → 1 ≤ bin n k
  | n, 0, _ => by rw [bin_zero]; exact Nat.le_refl _
  | 0, k + 1, h => by omega
  | n + 1, k + 1, h => by have := bin_pos n k (by omega); rw [bin_succ]; omega
theorem bin_le : ∀ (n k : Nat), bin n k ≤ 2 ^ n
  | n, 0 => by rw [bin_zero]; exact Nat.one_le_two_pow
  | 0, k + 1 => by show 0 ≤ _; omega
  | n + 1, k + 1 => by
    have h1 := bin_le n k
    have h2 := bin_le n (k + 1)
    rw [bin_succ, Nat.pow_succ]
    omega
theorem bin_step : ∀ (n k : Nat), bin n (k + 1) * (k + 1) = bin n k * (n - k)
  | 0, k => by show 0 * _ = _; rw [Nat.zero_sub, Nat.mul_zero, Nat.zero_mul]
  | n + 1, 0 => by
    have h := bin_step n 0
    rw [bin_zero] at h
    rw [bin_succ, bin_zero, bin_zero]
    omega
  | n + 1, k + 1 => by
    have h1 := bin_step n (k + 1)
    have h2 := bin_step n k
    rw [bin_succ, bin_succ]
    rcases Nat.lt_or_ge k n with q | q
    · obtain ⟨m, rfl⟩ : ∃ m, n = k + 1 + m := ⟨n - (k + 1), by omega⟩
      rw [show k + 1 + m - (k + 1) = m by omega] at h1
      rw [show k + 1 + m - k = m + 1 by omega] at h2
      rw [show k + 1 + m + 1 - (k + 1) = m + 1 by omega]
      generalize bin (k + 1 + m) (k + 1 + 1) = x at *
      generalize bin (k + 1 + m) (k + 1) = y at *
      generalize bin (k + 1 + m) k = z at *
      have e1 : (y + x) * (k + 1 + 1) = y * (k + 1 + 1) + x * (k + 1 + 1) := Nat.add_mul _ _ _
      have e2 : (z + y) * (m + 1) = z * (m + 1) + y * (m + 1) := Nat.add_mul _ _ _
      rw [e1, e2, h1, ← h2, Nat.mul_add y (k + 1) 1, Nat.mul_add y m 1]
      omega
    · rw [bin_none n (k + 1) (by omega), bin_none n (k + 1 + 1) (by omega), show n + 1 - (k + 1) = 0 by omega]
      simp
/-- ways to take m out of s + r with t or more out of the s -/
def cb : Nat → Nat → Nat → Int → Nat
  | 0, r, m, t => if t ≤ 0 then bin r m else 0
  | s + 1, r, 0, t => cb s r 0 t
  | s + 1, r, m + 1, t => cb s r m (t - 1) + cb s r (m + 1) t
theorem cb_s0 (s r : Nat) (t : Int) : cb (s + 1) r 0 t = cb s r 0 t := rfl
theorem cb_s (s r m : Nat) (t : Int) : cb (s + 1) r (m + 1) t = cb s r m (t - 1) + cb s r (m + 1) t := rfl
theorem cb_r0 : ∀ (s r : Nat) (t : Int), cb s (r + 1) 0 t = cb s r 0 t
  | 0, r, t => by show (if t ≤ 0 then bin (r + 1) 0 else 0) = (if t ≤ 0 then bin r 0 else 0); rw [bin_zero, bin_zero]
  | s + 1, r, t => by rw [cb_s0, cb_s0, cb_r0 s r t]
theorem cb_r : ∀ (s r m : Nat) (t : Int), cb s (r + 1) (m + 1) t = cb s r m t + cb s r (m + 1) t
  | 0, r, m, t => by
    show (if t ≤ 0 then bin (r + 1) (m + 1) else 0) = (if t ≤ 0 then bin r m else 0) + (if t ≤ 0 then bin r (m + 1) else 0)
    split
    · exact bin_succ r m
    · rfl
  | s + 1, r, 0, t => by rw [cb_s, cb_s, cb_r s r 0 t, cb_r0 s r (t - 1), cb_s0]; omega
  | s + 1, r, m + 1, t => by rw [cb_s, cb_s, cb_s, cb_r s r m (t - 1), cb_r s r (m + 1) t]; omega
theorem cb_le : ∀ (s r m : Nat) (t : Int), cb s r m t ≤ bin (s + r) m
  | 0, r, m, t => by
    show (if t ≤ 0 then bin r m else 0) ≤ bin (0 + r) m
    rw [Nat.zero_add]
    split
    · exact Nat.le_refl _
    · exact Nat.zero_le _
  | s + 1, r, 0, t => by
    have := cb_le s r 0 t
    rw [cb_s0, bin_zero]
    rw [bin_zero] at this
    exact this
  | s + 1, r, m + 1, t => by
    have h1 := cb_le s r m (t - 1)
    have h2 := cb_le s r (m + 1) t
    rw [cb_s, show s + 1 + r = s + r + 1 by omega, bin_succ]
    omega
/-- no two of them at once -/
def Apart (m : Nat) : List (Nat × Int) → Prop
  | [] => True
  | b :: r => (∀ c ∈ r, (m : Int) < b.2 + c.2) ∧ Apart m r
theorem Apart.less {m : Nat} : ∀ {L : List (Nat × Int)}, Apart (m + 1) L → Apart m L
  | [], _ => trivial
  | b :: r, h => ⟨fun c hc => by have := h.1 c hc; omega, Apart.less h.2⟩
/-- as a sum over how many of the s -/
def smd (s r m : Nat) (t : Int) : Nat → Nat
  | 0 => 0
  | x + 1 => smd s r m t x + if t ≤ (x : Int) then bin s x * bin r (m - x) else 0
theorem smd_zero (s r m : Nat) (t : Int) : ∀ k, (∀ x : Nat, x < k → ¬ t ≤ (x : Int)) → smd s r m t k = 0
  | 0, _ => rfl
  | k + 1, h => by
    show smd s r m t k + (if t ≤ (k : Int) then _ else 0) = 0
    rw [smd_zero s r m t k fun x hx => h x (by omega), if_neg (h k (by omega))]
theorem smd_s (s r m : Nat) (t : Int) : ∀ k, k ≤ m + 1 → smd (s + 1) r (m + 1) t (k + 1) = smd s r m (t - 1) k + smd s r (m + 1) t (k + 1)
  | 0, _ => by
    show 0 + (if t ≤ ((0 : Nat) : Int) then bin (s + 1) 0 * bin r (m + 1 - 0) else 0) = 0 + (0 + if t ≤ ((0 : Nat) : Int) then bin s 0 * bin r (m + 1 - 0) else 0)
    rw [bin_zero, bin_zero]
    omega
  | k + 1, h => by
    have ih := smd_s s r m t k (by omega)
    show smd (s + 1) r (m + 1) t (k + 1) + (if t ≤ ((k + 1 : Nat) : Int) then bin (s + 1) (k + 1) * bin r (m + 1 - (k + 1)) else 0) = (smd s r m (t - 1) k + if t - 1 ≤ (k : Int) then bin s k * bin r (m - k) else 0) + (smd s r (m + 1) t (k + 1) + if t ≤ ((k + 1 : Nat) : Int) then bin s (k + 1) * bin r (m + 1 - (k + 1)) else 0)
    rw [ih, show m + 1 - (k + 1) = m - k by omega]
    by_cases ht : t ≤ ((k + 1 : Nat) : Int)
    · rw [if_pos ht, if_pos ht, if_pos (by omega), bin_succ, Nat.add_mul]
      omega
    · rw [if_neg ht, if_neg ht, if_neg (by omega)]
      omega
theorem cb_smd : ∀ (s r m : Nat) (t : Int), cb s r m t = smd s r m t (m + 1)
  | 0, r, m, t => by
    have gen : ∀ k, smd 0 r m t (k + 1) = if t ≤ 0 then bin r m else 0 := by
      intro k
      induction k with
      | zero =>
        show 0 + (if t ≤ ((0 : Nat) : Int) then bin 0 0 * bin r (m - 0) else 0) = _
        rw [bin_zero, Nat.one_mul, Nat.sub_zero, Nat.zero_add]
        rfl
      | succ k ih =>
        show smd 0 r m t (k + 1) + (if t ≤ ((k + 1 : Nat) : Int) then bin 0 (k + 1) * bin r (m - (k + 1)) else 0) = _
        rw [ih, show bin 0 (k + 1) = 0 from rfl, Nat.zero_mul]
        split <;> split <;> rfl
    exact (gen m).symm
  | s + 1, r, 0, t => by
    rw [cb_s0, cb_smd s r 0 t]
    show 0 + (if t ≤ ((0 : Nat) : Int) then bin s 0 * bin r (0 - 0) else 0) = 0 + (if t ≤ ((0 : Nat) : Int) then bin (s + 1) 0 * bin r (0 - 0) else 0)
    rw [bin_zero s, bin_zero (s + 1)]
  | s + 1, r, m + 1, t => by rw [cb_s, cb_smd s r m (t - 1), cb_smd s r (m + 1) t, smd_s s r m t (m + 1) (Nat.le_refl _)]
end K38

namespace K38
open PySem L2
local macro_rules | `(tactic| walk_at "s") => `(tactic| first | (with_reducible refine i_seq ?_) | (with_reducible refine i_asg ?_) | (with_reducible refine i_ret ?_) | (with_reducible refine i_if ?_) | (with_reducible refine i_next ?_) | (with_reducible refine i_drop ?_) | ((with_reducible refine' i_var ?k1 ?_); (case k1 => exact rfl)) | (with_reducible refine i_tC ?_) | (with_reducible refine i_op ?_) | (with_reducible refine i_un ?_) | (with_reducible refine i_rI0 ?_) | (with_reducible refine i_rU ?_) | ((with_reducible refine' i_rEq ?k1 ?_); (case k1 => exact rfl)) | ((with_reducible refine' i_rNe ?k1 ?_); (case k1 => exact rfl)) | (with_reducible refine i_test ?_) | (with_reducible refine i_tB ?_) | (with_reducible refine i_bl ?_) | (with_reducible refine i_int ?_) | (with_reducible refine i_and ?_) | (with_reducible refine i_or ?_) | (with_reducible refine i_not ?_) | (with_reducible refine i_andV ?_) | (with_reducible refine i_orV ?_) | (with_reducible refine i_notV ?_) | (with_reducible refine i_isN ?_) | (with_reducible refine i_notN ?_) | (with_reducible refine i_ifE ?_) | (with_reducible refine i_name ?_) | (with_reducible refine i_cons ?_) | (with_reducible refine i_nil ?_) | (with_reducible refine i_cb ?_) | (with_reducible refine i_call ?_) | (with_reducible refine i_tup ?_) | (with_reducible refine i_lst ?_) | (with_reducible refine i_gsub ?_) | (with_reducible refine i_gcons ?_) | (with_reducible refine i_gnil ?_) | (with_reducible refine i_yes ?_) | (with_reducible refine i_slice ?_) | (with_reducible refine i_nopart ?_) | (with_reducible refine i_part ?_) | (with_reducible refine i_abs ?_) | ((with_reducible refine' i_ixL ?k1 ?k2 ?_); (case k1 => first | exact SqL.of (by assumption) | assumption | exact SqL.of upd_same); (case k2 => exact rfl)) | ((with_reducible refine' i_ixT ?k1 ?k2 ?_); (case k1 => first | exact SqT.of (by assumption) | assumption | exact SqT.of upd_same); (case k2 => exact rfl)) | ((with_reducible refine' i_setL ?k1 ?k2 ?_); (case k1 => first | assumption | exact upd_same); (case k2 => exact rfl)) | ((with_reducible refine' i_gtup ?k1 ?k2 ?_); (case k1 => first | exact SqT.of (by assumption) | assumption | exact SqT.of upd_same); (case k2 => exact rfl)) | ((with_reducible refine' i_len ?k1 ?_); (case k1 => first | exact SqL.of (by assumption) | assumption | exact SqL.of upd_same)) | ((with_reducible refine' i_lenT ?k1 ?_); (case k1 => first | exact SqT.of (by assumption) | assumption | exact SqT.of upd_same)) | ((with_reducible refine' i_list ?k1 ?_); (case k1 => first | exact SqL.of (by assumption) | assumption | exact SqL.of upd_same)) | ((with_reducible refine' i_slL ?k1 ?_); (case k1 => first | exact SqL.of (by assumption) | assumption | exact SqL.of upd_same)) | ((with_reducible refine' i_isi ?k1 ?k2 ?_); (case k1 => assumption); (case k2 => decide)) | ((with_reducible refine i_rI ?k1 ?_); (case k1 => first | (show (0 : Int) < _; decide) | (show CPow _ _; exact ⟨by decide, by decide, by decide⟩) | (show CDiv _ _; exact ⟨by decide, by decide⟩) | (show CMul _ _; exact .inr ⟨by decide, by decide⟩) | (show CMul _ _; exact .inl ⟨by decide, by decide⟩) | (show (0 : Int) < _; omega) | (show CDiv _ _; exact ⟨by omega, by omega⟩) | (show CMul _ _; exact .inr ⟨by omega, by omega⟩) | (show CMul _ _; exact .inl ⟨by omega, by omega⟩))) | (with_reducible refine i_comp ?_) | (with_reducible refine i_zip ?_) | (with_reducible refine i_itL ?_) | (with_reducible refine i_itT ?_) | (with_reducible refine i_rng1 ?_) | (with_reducible refine i_bm ?_) | (with_reducible refine i_for ?_) | (with_reducible refine i_min2 ?_) | (with_reducible refine i_max2 ?_) | (with_reducible refine i_rng2 ?_) | (with_reducible refine i_intB ?_) | (with_reducible refine i_rev ?_) | (with_reducible refine i_rngB ?_) | (with_reducible refine i_itS ?_) | (with_reducible refine i_inStr ?_) | (with_reducible refine i_find ?_) | (with_reducible refine i_itE ?_) | (with_reducible refine i_comp3 ?_) | (with_reducible refine i_bm0 ?_) | (with_reducible refine i_par ?_) | (with_reducible refine i_two ?_) | ((with_reducible refine' i_aug ?k1 ?_); (case k1 => exact rfl)) | (with_reducible refine i_ip ?_) | (with_reducible refine i_min3 ?_))
/-! ### what many laws share: some, set, like -/
section
variable {P : Program} {w : World} {K : PySem.W.Frag} {mg : Str → Option Value} {base : Heap}
theorem DrawC.ne_ints {H : Hp} {d c p : Addr} {ns : List Int} (h : DrawC H d c) (e : H p = some (.lst (ns.map V.int))) : p ≠ d := by
  obtain ⟨_, a, r, e', h1, _⟩ := h
  intro z
  subst z
  rw [h1] at e
  have q := Option.some.inj e
  injection q with q
  cases ns with
  | nil => cases q
  | cons n r => injection q with q _; cases q
theorem small_int {m : Int} (h : 0 < m) (h2 : m ≤ 10000) : m.natAbs < 2 ^ 500 := Nat.lt_trans (show m.natAbs < 2 ^ 20 by omega) (Nat.pow_lt_pow_right (by decide) (by decide))
theorem le_line {n : Nat} (h : n ≤ 1000) : n ≤ sizeLine := Nat.le_trans h (by decide)
theorem lt_line {n : Nat} (h : n < 1000) : n < sizeLine := Nat.lt_of_lt_of_le h (by decide)
theorem but_new {d a : Addr} {H H' : Hp} {o : HO} (h : H a = none) (b : But d H H') : But d H (upd H' a o) := fun c u n e => by rw [upd_ne (ne_of_none e h)]; exact b c u n e
abbrev sLawSet : Stmt := top 25
theorem scLawSet : FnScope ["_law_timbers"] ["_law_timbers"] (defScope sLawSet) := ⟨rfl, rfl, rfl, by decide +kernel, rfl, by decide +kernel, by decide +kernel⟩
def spRis (K : PySem.W.Frag) : Sp := fun vs H Q _ => ∃ (p : Addr) (ns : List Int), vs = [.ref p] ∧ SqX K H p (ns.map V.int) ∧ ns.length < 64 ∧ ∀ l H' (rs : List Int), Same H H' → H l = none → H' l = some (.lst (rs.map V.int)) → Ris rs (fun x => x ∈ ns) → Q (.ref l) H'
theorem ok_set {f : Addr} {fd : FuncData} (F : Fun K "_law_set" "_law_set" sLawSet f fd) (T : BltM mg) : FnOk P w K mg base CX0 1 f fd ["_law_timbers"] (spRis K) := by
  refine F.ok scLawSet (fun vs H Q E h => ?_) (fun cdv A outer s H vs Q E hr h => ?_)
  · obtain ⟨p, ns, rfl, _⟩ := h
    rfl
  · obtain ⟨p, ns, rfl, hS, hl, k⟩ := h
    refine ⟨_, (pss_one (ps_ret (pe_callB (cSortedS (w := w) rfl rfl) (by rfl) T.z_sorted bb_sorted (pa_cons (pe_callTy (cSetX (K := K) (w := w) rfl rfl rfl) (by rfl) T.z_set bb_set (pa_cons (pv 0) pa_nil)) pa_nil)))), ?_⟩
    repeat walk_at "s"
    refine i_setX hS (by omega) fun a ks ha nd mem => ?_
    repeat walk_at "s"
    refine i_sortedS upd_same (Nat.lt_of_le_of_lt (nodup_le nd fun x hx => (mem x).mp hx) hl) fun l rs hl pm so => ?_
    have s1 := same_upd (o := setO w a ks) ha
    exact k l _ rs (s1.trans (same_upd hl)) (s1.free hl) upd_same (ris_of pm so nd mem)
def spLike (K : PySem.W.Frag) : Sp := fun vs H Q _ => ∃ (p q : Addr) (ns ms : List Int), vs = [.ref p, .ref q] ∧ SqX K H p (ns.map V.int) ∧ SqX K H q (ms.map V.int) ∧ ns.length < 64 ∧ ms.length < 64 ∧ ∀ H', Same H H' → Q (.bl (likeB ns ms)) H'
abbrev sLawLike : Stmt := top 26
theorem scLawLike : FnScope ["_law_one", "_law_other", "_law_both"] ["_law_one", "_law_other"] (defScope sLawLike) := ⟨rfl, rfl, rfl, by decide +kernel, rfl, by decide +kernel, by decide +kernel⟩
theorem nd_97_20 : (["_law_timber", "_law_other"] : List Str).Nodup := by decide +kernel
theorem S_97_20 : CompScope ["_law_one", "_law_other", "_law_both"] (defScope sLawLike) ({ kind := PySem.ScopeKind.function, names := [ (PySem.Str.ofString ".0", PySem.NameKind.local), (PySem.Str.ofString "_law_timber", PySem.NameKind.local), (PySem.Str.ofString "_law_other", PySem.NameKind.free)], isGenerator := false, isCoroutine := false, more := [] : PySem.Scope }) (["_law_timber"] : List Str) ([(1, "_law_other")] : List (Nat × Str)) := ⟨by decide +kernel, by decide +kernel, by decide +kernel, by decide +kernel, by decide +kernel⟩
theorem ok_like {f : Addr} {fd : FuncData} (F : Fun K "_law_like" "_law_like" sLawLike f fd) (T : BltM mg) (c_law_set : Cal P w K mg base "_law_set" 1 ["_law_timbers"] (spRis K)) : FnOk P w K mg base CX0 2 f fd ["_law_one", "_law_other"] (spLike K) := by
  refine F.ok scLawLike (fun vs H Q E h => ?_) (fun cdv A outer s H vs Q E hr h => ?_)
  · obtain ⟨p, q, ns, ms, rfl, _⟩ := h
    rfl
  · obtain ⟨p, q, ns, ms, rfl, hS, hT, hl, hm, k⟩ := h
    refine ⟨_, (pss_cons (ps_set (i := 2) scLawLike.nd rfl (Or.inl rfl) (pe_callB (cLen (K := K) rfl) (by rfl) T.z_len bb_len (pa_cons (pe_lcomp rfl S_97_20 (piL (K := K) rfl (pe_callC c_law_set (hr.mono (by omega)) (by rfl) (pa_cons (pv 0) pa_nil))) (by intro _ _ _ _ _; exact (pg_name (i := 0) nd_97_20 rfl (Or.inl rfl))) (by intro _ _ _ _ _; exact (pts_one (pt_cmpR (oIn (K := K) rfl) (pv 0) (pv 1) (by with_unfolding_all rfl)))) (by intro _ _ _ _ _; exact (pv 0))) pa_nil)))
      (pss_one (ps_ret (pe_and (pe_cmpR op_gt (pe_op op_mul pe_int (pv 2)) (pe_callB (cLenS (w := w) rfl) (by rfl) T.z_len bb_len (pa_cons (pe_callTy (cSetX (K := K) (w := w) rfl rfl rfl) (by rfl) T.z_set bb_set (pa_cons (pv 0) pa_nil)) pa_nil)) (nomark _)) (pe_one (pe_cmpR op_gt (pe_op op_mul pe_int (pv 2)) (pe_callB (cLenS (w := w) rfl) (by rfl) T.z_len bb_len (pa_cons (pe_callTy (cSetX (K := K) (w := w) rfl rfl rfl) (by rfl) T.z_set bb_set (pa_cons (pv 1) pa_nil)) pa_nil)) (nomark _))))))), ?_⟩
    repeat walk_at "s"
    refine ⟨p, ns, rfl, hS, hl, fun l H1 rs s1 _ hl1 ris => ?_⟩
    refine ⟨l, rfl, ⟨_, SqL.of hl1⟩, ?_⟩
    have hT1 := hT.same s1
    have lr : rs.length ≤ ns.length := ris.le fun x h => h
    refine filterL (σ0 := [some (.ref q)]) (f := fun z => decide (z ∈ ms)) (by omega) (SqL.of hl1) ?_ ?_
    · intro z R hR
      repeat walk_at "s"
      refine i_inX hT1 ?_
      repeat walk_at "s"
      exact hR
    intro e he
    have s2 := same_upd (o := .lst ((rs.filter fun z => decide (z ∈ ms)).map V.int)) he
    have ec : (rs.filter fun z => decide (z ∈ ms)).length = cntB ns ms := cntB_of (ris.nodup.filter _) fun x => by rw [List.mem_filter, ris.2 x, decide_eq_true_iff]
    have hS2 := hS.same (s1.trans s2)
    have hT2 := hT.same (s1.trans s2)
    repeat walk_at "s"
    rw [List.length_map, ec]
    repeat walk_at "s"
    have b1 := cntB_le ns ms
    have b2 := cnt_le ns
    refine i_setX hS2 (by omega) fun a ks ha nd mem => ?_
    have s3 := same_upd (o := setO w a ks) ha
    repeat walk_at "s"
    refine i_lenS upd_same ?_
    rw [cnt_of nd mem]
    repeat walk_at "s"
    have ee : likeB ns ms = (decide ((cnt ns : Int) < 2 * (cntB ns ms : Int)) && decide ((cnt ms : Int) < 2 * (cntB ns ms : Int))) := by
      unfold likeB
      congr 1
      · exact decide_eq_decide.mpr (by omega)
      · exact decide_eq_decide.mpr (by omega)
    refine ite2 (fun c1 => ?_) (fun c1 => ?_)
    · repeat walk_at "s"
      refine i_setX (hT2.same s3) (by omega) fun b js hb nd2 mem2 => ?_
      have s4 := same_upd (o := setO w b js) hb
      repeat walk_at "s"
      refine i_lenS upd_same ?_
      rw [cnt_of nd2 mem2]
      repeat walk_at "s"
      have q := k _ ((s1.trans s2).trans (s3.trans s4))
      rw [ee, c1, Bool.true_and] at q
      exact q
    · have q := k _ ((s1.trans s2).trans s3)
      rw [ee, Bool.eq_false_iff.mpr c1, Bool.false_and] at q
      exact q
end

end K38

namespace K38
open PySem L2
local macro_rules | `(tactic| walk_at "s") => `(tactic| first | (with_reducible refine i_seq ?_) | (with_reducible refine i_asg ?_) | (with_reducible refine i_ret ?_) | (with_reducible refine i_if ?_) | (with_reducible refine i_next ?_) | (with_reducible refine i_drop ?_) | ((with_reducible refine' i_var ?k1 ?_); (case k1 => exact rfl)) | (with_reducible refine i_tC ?_) | (with_reducible refine i_op ?_) | (with_reducible refine i_un ?_) | (with_reducible refine i_rI0 ?_) | (with_reducible refine i_rU ?_) | ((with_reducible refine' i_rEq ?k1 ?_); (case k1 => exact rfl)) | ((with_reducible refine' i_rNe ?k1 ?_); (case k1 => exact rfl)) | (with_reducible refine i_test ?_) | (with_reducible refine i_tB ?_) | (with_reducible refine i_bl ?_) | (with_reducible refine i_int ?_) | (with_reducible refine i_and ?_) | (with_reducible refine i_or ?_) | (with_reducible refine i_not ?_) | (with_reducible refine i_andV ?_) | (with_reducible refine i_orV ?_) | (with_reducible refine i_notV ?_) | (with_reducible refine i_isN ?_) | (with_reducible refine i_notN ?_) | (with_reducible refine i_ifE ?_) | (with_reducible refine i_name ?_) | (with_reducible refine i_cons ?_) | (with_reducible refine i_nil ?_) | (with_reducible refine i_cb ?_) | (with_reducible refine i_call ?_) | (with_reducible refine i_tup ?_) | (with_reducible refine i_lst ?_) | (with_reducible refine i_gsub ?_) | (with_reducible refine i_gcons ?_) | (with_reducible refine i_gnil ?_) | (with_reducible refine i_yes ?_) | (with_reducible refine i_slice ?_) | (with_reducible refine i_nopart ?_) | (with_reducible refine i_part ?_) | (with_reducible refine i_abs ?_) | ((with_reducible refine' i_ixL ?k1 ?k2 ?_); (case k1 => first | exact SqL.of (by assumption) | assumption | exact SqL.of upd_same); (case k2 => exact rfl)) | ((with_reducible refine' i_ixT ?k1 ?k2 ?_); (case k1 => first | exact SqT.of (by assumption) | assumption | exact SqT.of upd_same); (case k2 => exact rfl)) | ((with_reducible refine' i_setL ?k1 ?k2 ?_); (case k1 => first | assumption | exact upd_same); (case k2 => exact rfl)) | ((with_reducible refine' i_gtup ?k1 ?k2 ?_); (case k1 => first | exact SqT.of (by assumption) | assumption | exact SqT.of upd_same); (case k2 => exact rfl)) | ((with_reducible refine' i_len ?k1 ?_); (case k1 => first | exact SqL.of (by assumption) | assumption | exact SqL.of upd_same)) | ((with_reducible refine' i_lenT ?k1 ?_); (case k1 => first | exact SqT.of (by assumption) | assumption | exact SqT.of upd_same)) | ((with_reducible refine' i_list ?k1 ?_); (case k1 => first | exact SqL.of (by assumption) | assumption | exact SqL.of upd_same)) | ((with_reducible refine' i_slL ?k1 ?_); (case k1 => first | exact SqL.of (by assumption) | assumption | exact SqL.of upd_same)) | ((with_reducible refine' i_isi ?k1 ?k2 ?_); (case k1 => assumption); (case k2 => decide)) | ((with_reducible refine i_rI ?k1 ?_); (case k1 => first | (show (0 : Int) < _; decide) | (show CPow _ _; exact ⟨by decide, by decide, by decide⟩) | (show CDiv _ _; exact ⟨by decide, by decide⟩) | (show CMul _ _; exact .inr ⟨by decide, by decide⟩) | (show CMul _ _; exact .inl ⟨by decide, by decide⟩) | (show (0 : Int) < _; omega) | (show CDiv _ _; exact ⟨by omega, by omega⟩) | (show CMul _ _; exact .inr ⟨by omega, by omega⟩) | (show CMul _ _; exact .inl ⟨by omega, by omega⟩))) | (with_reducible refine i_comp ?_) | (with_reducible refine i_zip ?_) | (with_reducible refine i_itL ?_) | (with_reducible refine i_itT ?_) | (with_reducible refine i_rng1 ?_) | (with_reducible refine i_bm ?_) | (with_reducible refine i_for ?_) | (with_reducible refine i_min2 ?_) | (with_reducible refine i_max2 ?_) | (with_reducible refine i_rng2 ?_) | (with_reducible refine i_intB ?_) | (with_reducible refine i_rev ?_) | (with_reducible refine i_rngB ?_) | (with_reducible refine i_itS ?_) | (with_reducible refine i_inStr ?_) | (with_reducible refine i_find ?_) | (with_reducible refine i_itE ?_) | (with_reducible refine i_comp3 ?_) | (with_reducible refine i_bm0 ?_))
theorem _root_.L2.FnOk.quiet {P : Program} {w : World} {K : PySem.W.Frag} {mg : Str → Option Value} {base : Heap} {k : Nat} {f : Addr} {fd : FuncData} {ps : List Str} {sp : Sp} (F : FnOk P w K mg base (CX1 P w) k f fd ps sp) : FnOk P w K mg base CX0 k f fd ps (fun vs H Q _ => sp vs H Q (fun _ _ _ => False)) :=
  ⟨fun vs H Q E h => F.len vs H Q _ h, fun A outer s H args us vs Q E hr he hb hv hs => codeAny_mono (F.run A outer s H args us vs Q (fun _ _ _ => False) hr he hb hv hs) fun r s' q => by
    cases r with
    | ok f => cases f <;> exact q
    | error e => obtain ⟨_, _, _, _, _, h⟩ := q; exact h.elim⟩
theorem CalX.quiet {P : Program} {w : World} {K : PySem.W.Frag} {mg : Str → Option Value} {base : Heap} {x : Str} {k : Nat} {ps : List Str} {sp : Sp} (c : CalX P w K mg base x k ps sp) : Cal P w K mg base x k ps (fun vs H Q _ => sp vs H Q (fun _ _ _ => False)) := by
  obtain ⟨f, fd, F, a, b, d⟩ := c
  exact ⟨f, fd, F.quiet, a, b, d⟩
/-! ### parts in lowest terms -/
def low (a b : Nat) : Nat × Nat := (a / Nat.gcd a b, b / Nat.gcd a b)
def pl (x y : Nat × Nat) : Nat × Nat := low (x.1 * y.2 + y.1 * x.2) (x.2 * y.2)
def totl (l : List (Nat × Nat)) : Nat × Nat := l.foldl pl (0, 1)
theorem low_le1 (a b : Nat) : (low a b).1 ≤ a := Nat.div_le_self _ _
theorem low_le2 (a b : Nat) : (low a b).2 ≤ b := Nat.div_le_self _ _
theorem low_pos {a b : Nat} (h : 0 < b) : 0 < (low a b).2 := Nat.div_pos (Nat.gcd_le_right _ h) (Nat.gcd_pos_of_pos_right _ h)
theorem low_val {a b D n : Nat} (h : 0 < b) (e : a * D = n * b) : (low a b).1 * D = n * (low a b).2 := by
  have g : 0 < Nat.gcd a b := Nat.gcd_pos_of_pos_right _ h
  have h1 : (low a b).1 * Nat.gcd a b = a := Nat.div_mul_cancel (Nat.gcd_dvd_left a b)
  have h2 : (low a b).2 * Nat.gcd a b = b := Nat.div_mul_cancel (Nat.gcd_dvd_right a b)
  refine Nat.eq_of_mul_eq_mul_right g ?_
  calc (low a b).1 * D * Nat.gcd a b = (low a b).1 * Nat.gcd a b * D := Nat.mul_right_comm _ _ _
    _ = a * D := by rw [h1]
    _ = n * b := e
    _ = n * ((low a b).2 * Nat.gcd a b) := by rw [h2]
    _ = n * (low a b).2 * Nat.gcd a b := (Nat.mul_assoc _ _ _).symm
/-- in lowest terms -/
def Cn (p : Nat × Nat) : Prop := Nat.Coprime p.1 p.2 ∧ 0 < p.2
theorem low_cn {a b : Nat} (h : 0 < b) : Cn (low a b) := ⟨Nat.coprime_div_gcd_div_gcd (Nat.gcd_pos_of_pos_right _ h), low_pos h⟩
theorem cn_eq {p q : Nat × Nat} (hp : Cn p) (hq : Cn q) (e : p.1 * q.2 = q.1 * p.2) : p = q := by
  have d1 : p.2 ∣ q.2 := Nat.Coprime.dvd_of_dvd_mul_left hp.1.symm (show p.2 ∣ p.1 * q.2 by rw [e]; exact Nat.dvd_mul_left _ _)
  have d2 : q.2 ∣ p.2 := Nat.Coprime.dvd_of_dvd_mul_left hq.1.symm (show q.2 ∣ q.1 * p.2 by rw [← e]; exact Nat.dvd_mul_left _ _)
  have e2 : p.2 = q.2 := Nat.dvd_antisymm d1 d2
  have e1 : p.1 = q.1 := Nat.eq_of_mul_eq_mul_right hq.2 (by rw [e, e2])
  exact Prod.ext e1 e2
theorem cn_val {p q : Nat × Nat} {D n : Nat} (hp : Cn p) (hq : Cn q) (hD : 0 < D) (e1 : p.1 * D = n * p.2) (e2 : q.1 * D = n * q.2) : p = q := by
  refine cn_eq hp hq (Nat.eq_of_mul_eq_mul_right hD ?_)
  calc p.1 * q.2 * D = p.1 * D * q.2 := Nat.mul_right_comm _ _ _
    _ = n * p.2 * q.2 := by rw [e1]
    _ = n * q.2 * p.2 := Nat.mul_right_comm _ _ _
    _ = q.1 * D * p.2 := by rw [e2]
    _ = q.1 * p.2 * D := Nat.mul_right_comm _ _ _
theorem pl_pos {x y : Nat × Nat} (h1 : 0 < x.2) (h2 : 0 < y.2) : 0 < (pl x y).2 := low_pos (Nat.mul_pos h1 h2)
theorem pl_val {x y : Nat × Nat} {D n m : Nat} (h1 : 0 < x.2) (h2 : 0 < y.2) (e1 : x.1 * D = n * x.2) (e2 : y.1 * D = m * y.2) : (pl x y).1 * D = (n + m) * (pl x y).2 := by
  refine low_val (Nat.mul_pos h1 h2) ?_
  calc (x.1 * y.2 + y.1 * x.2) * D = x.1 * y.2 * D + y.1 * x.2 * D := Nat.add_mul _ _ _
    _ = x.1 * D * y.2 + y.1 * D * x.2 := by rw [Nat.mul_right_comm, Nat.mul_right_comm y.1]
    _ = n * x.2 * y.2 + m * y.2 * x.2 := by rw [e1, e2]
    _ = n * (x.2 * y.2) + m * (x.2 * y.2) := by rw [Nat.mul_assoc, Nat.mul_assoc, Nat.mul_comm y.2 x.2]
    _ = (n + m) * (x.2 * y.2) := (Nat.add_mul _ _ _).symm
theorem totl_snoc (l : List (Nat × Nat)) (x : Nat × Nat) : totl (l ++ [x]) = pl (totl l) x := by
  unfold totl
  rw [List.foldl_append]
  rfl
section
variable {P : Program} {w : World} {K : PySem.W.Frag} {mg : Str → Option Value} {base : Heap}
def inB (lo hi x : Int) : Bool := decide (lo ≤ x) && decide (x ≤ hi)
def inL (lo hi x : Int) : Bool := decide (lo ≤ x) && decide (x < hi)
theorem in_chain {σ : St} {H : Hp} {Q : VK} {ta tb tc : TE} {lo hi x : Int} (h1 : ∀ Q', Q' (.int lo) H → ta σ H Q') (h2 : ∀ Q', Q' (.int x) H → tb σ H Q') (h3 : ∀ Q', Q' (.int hi) H → tc σ H Q') (q : Q (.bl (inB lo hi x)) H) :
    tChain (rI0 fun i j => .bl (decide (i ≤ j))) (rI0 fun i j => .bl (decide (i ≤ j))) ta tb tc σ H Q := by
  refine i_chain (h1 _ (h2 _ (i_rI0 (i_bl ?_))))
  unfold inB at q
  cases h : decide (lo ≤ x) with
  | true =>
    rw [h, Bool.true_and] at q
    exact iteT (h3 _ (i_rI0 q))
  | false =>
    rw [h, Bool.false_and] at q
    exact iteF q
theorem in_chainL {σ : St} {H : Hp} {Q : VK} {ta tb tc : TE} {lo hi x : Int} (h1 : ∀ Q', Q' (.int lo) H → ta σ H Q') (h2 : ∀ Q', Q' (.int x) H → tb σ H Q') (h3 : ∀ Q', Q' (.int hi) H → tc σ H Q') (q : Q (.bl (inL lo hi x)) H) :
    tChain (rI0 fun i j => .bl (decide (i ≤ j))) (rI0 fun i j => .bl (decide (i < j))) ta tb tc σ H Q := by
  refine i_chain (h1 _ (h2 _ (i_rI0 (i_bl ?_))))
  unfold inL at q
  cases h : decide (lo ≤ x) with
  | true =>
    rw [h, Bool.true_and] at q
    exact iteT (h3 _ (i_rI0 q))
  | false =>
    rw [h, Bool.false_and] at q
    exact iteF q
theorem inB_iff {lo hi x : Int} : inB lo hi x = true ↔ lo ≤ x ∧ x ≤ hi := by unfold inB; rw [Bool.and_eq_true, decide_eq_true_iff, decide_eq_true_iff]
theorem inL_iff {lo hi x : Int} : inL lo hi x = true ↔ lo ≤ x ∧ x < hi := by unfold inL; rw [Bool.and_eq_true, decide_eq_true_iff, decide_eq_true_iff]
def wys (m t : Int) : Nat := if 0 ≤ t then bin m.toNat t.toNat else 0
def spWays : Sp := fun vs H Q _ => ∃ (m t : Int), vs = [.int m, .int t] ∧ 0 ≤ m ∧ m ≤ 108 ∧ (0 ≤ t → t ≤ 2 ^ 60) ∧ Q (.int (wys m t : Nat)) H
abbrev sWays : Stmt := top 6
theorem scWays : FnScope ["many", "taken", "told", "at"] ["many", "taken"] (defScope sWays) := ⟨rfl, rfl, rfl, by decide +kernel, rfl, by decide +kernel, by decide +kernel⟩
theorem ok_ways {f : Addr} {fd : FuncData} (F : Fun K "ways" "ways" sWays f fd) (T : BltM mg) : FnOk P w K mg base CX0 1 f fd ["many", "taken"] spWays := by
  refine F.ok scWays (fun vs H Q E h => ?_) (fun cdv A outer s H vs Q E hr h => ?_)
  · obtain ⟨m, t, rfl, _⟩ := h
    rfl
  · obtain ⟨m, t, rfl, m0, m1, t1, k⟩ := h
    refine ⟨_, (pss_cons (ps_if (pt_not (pt_chain op_le op_le pe_int (pv 1) (pv 0))) (pss_one (ps_ret pe_int)) pss_nil)
      (pss_cons (ps_set (i := 2) scWays.nd rfl (Or.inl rfl) pe_int)
      (pss_cons (ps_for PassesOwn.never rfl (pi_range1 (by rfl) T.z_range (pa_cons (pv 1) pa_nil)) (pg_name (i := 3) scWays.nd rfl (Or.inl rfl)) (pss_one (ps_set (i := 2) scWays.nd rfl (Or.inl rfl) (pe_op op_fdiv (pe_op op_mul (pv 2) (pe_op op_sub (pv 0) (pv 3))) (pe_op op_add (pv 3) pe_int)))))
      (pss_one (ps_ret (pv 2)))))), ?_⟩
    repeat walk_at "s"
    refine in_chain (lo := 0) (x := t) (hi := m) (fun _ q => i_tC q) (fun _ q => i_var rfl q) (fun _ q => i_var rfl q) ?_
    repeat walk_at "s"
    cases hb : inB 0 m t with
    | false =>
      refine iteT ?_
      repeat walk_at "s"
      have e : wys m t = 0 := by
        unfold wys
        by_cases h1 : 0 ≤ t
        · rw [if_pos h1]
          refine bin_none _ _ ?_
          have h2 : ¬ t ≤ m := fun h2 => by rw [inB_iff.mpr ⟨h1, h2⟩] at hb; cases hb
          omega
        · exact if_neg h1
      rw [e] at k
      exact k
    | true =>
      obtain ⟨h1, h2⟩ := inB_iff.mp hb
      refine iteF ?_
      repeat walk_at "s"
      refine ⟨t, rfl, by omega, by omega, ?_⟩
      refine forW (fun i σ' H' => (∃ x, σ' = [some (.int m), some (.int t), some (.int (bin m.toNat i : Nat)), x]) ∧ H' = H) t.toNat ⟨⟨none, by rw [bin_zero]; rfl⟩, rfl⟩ ?_ ?_
      · rintro σ' H' ⟨⟨x, rfl⟩, rfl⟩
        refine ⟨Nat.le_refl _, ?_⟩
        repeat walk_at "s"
        unfold wys at k
        rw [if_pos h1] at k
        exact k
      · rintro i σ' H' hi ⟨⟨x, rfl⟩, rfl⟩
        refine ⟨hi, ?_⟩
        rintro x' G ⟨rfl, rfl⟩
        rw [Int.zero_add]
        repeat walk_at "s"
        refine ⟨⟨some (.int i), ?_⟩, rfl⟩
        have e : ((bin m.toNat i : Nat) : Int) * (m - i) / ((i : Int) + 1) = ((bin m.toNat (i + 1) : Nat) : Int) := by
          have q := bin_step m.toNat i
          have q' : ((bin m.toNat i : Nat) : Int) * (m - i) = ((bin m.toNat (i + 1) : Nat) : Int) * ((i : Int) + 1) := by
            have z : ((m.toNat - i : Nat) : Int) = m - i := by omega
            rw [← z]
            have := congrArg (fun n : Nat => (n : Int)) q
            simp only [Int.natCast_mul, Int.natCast_add, Int.natCast_one] at this
            exact this.symm
          rw [q']
          exact Int.mul_ediv_cancel _ (by omega)
        rw [← e]
        rfl
/-! ### parts -/
theorem gcd_step (m n : Nat) : Nat.gcd n (m % n) = Nat.gcd m n := by
  rw [Nat.gcd_comm m n, Nat.gcd_rec n m, Nat.gcd_comm]
theorem absN (t : Nat) : (if (t : Int) < 0 then -(t : Int) else (t : Int)) = (t : Int) := by split <;> omega
def spDiv : Sp := fun vs H Q _ => ∃ (a b : Nat), vs = [.int a, .int b] ∧ Q (.int (Nat.gcd a b : Nat)) H
abbrev sDivisor : Stmt := top 8
theorem scDivisor : FnScope ["one", "other"] ["one", "other"] (defScope sDivisor) := ⟨rfl, rfl, rfl, by decide +kernel, rfl, by decide +kernel, by decide +kernel⟩
theorem ok_divisor {f : Addr} {fd : FuncData} (F : Fun K "divisor" "divisor" sDivisor f fd) : FnOk P w K mg base CX0 1 f fd ["one", "other"] spDiv := by
  refine F.ok scDivisor (fun vs H Q E h => ?_) (fun cdv A outer s H vs Q E hr h => ?_)
  · obtain ⟨a, b, rfl, _⟩ := h
    rfl
  · obtain ⟨a, b, rfl, k⟩ := h
    refine ⟨_, (pss_cons (ps_while PassesOwn.never (pt_cmpR op_gt (pv 1) pe_int (nomark _)) (pss_one (ps_par (i := 0) (j := 1) rfl scDivisor.nd rfl rfl (by decide) rfl rfl (pa_cons (pv 1) (pa_cons (pe_op op_mod (pv 0) (pv 1)) pa_nil)) (by rfl))))
      (pss_one (ps_ret (pv 0)))), ?_⟩
    refine while_by (fun σ H' => ∃ m n : Nat, σ = [some (.int m), some (.int n)] ∧ H' = H ∧ Nat.gcd m n = Nat.gcd a b)
      (fun σ _ => match σ with | [_, some (.int y)] => y.toNat | _ => 0) ⟨a, b, rfl, rfl, rfl⟩ ?_ ?_
    · rintro σ H' ⟨m, n, rfl, rfl, e⟩
      refine ⟨_, rfl, _, _, rfl, rfl, _, rfl, ?_⟩
      refine ite2 (fun h => ?_) (fun h => ?_)
      · have hn : 0 < n := by
          have := of_decide_eq_true h
          omega
        refine ⟨_, rfl, _, rfl, _, rfl, _, _, rfl, rfl, (by show (0 : Int) < n; omega), _, _, rfl, ⟨n, m % n, rfl, rfl, by rw [gcd_step]; exact e⟩, ?_⟩
        show ((m : Int) % (n : Int)).toNat < (n : Int).toNat
        have h1 : (m : Int) % (n : Int) < n := Int.emod_lt_of_pos _ (by omega)
        omega
      · have hn : n = 0 := by
          have : ¬ ((0 : Int) < n) := fun z => h (decide_eq_true z)
          omega
        subst hn
        refine ⟨_, rfl, ?_⟩
        rw [Nat.gcd_zero_right] at e
        rw [e]
        exact k
    · rintro σ H' Q1 Q2 hq ⟨v, e, i, j, e1, e2, c, e3, q⟩
      exact ⟨v, e, i, j, e1, e2, c, e3, hq _ _ q⟩
theorem cdivN {i : Int} {n : Nat} (h : 0 < n) (h2 : n < 2 ^ 8000) : CDivB i (n : Int) := ⟨by omega, Nat.lt_trans (log2_lt_of (k := 8000) h2 (by decide)) (by decide)⟩
theorem cmulN {i j : Nat} (h : i < 2 ^ 90000) (h2 : j < 2 ^ 90000) : CMulB (i : Int) (j : Int) := ⟨Nat.lt_trans (log2_lt_of (k := 90000) h (by decide)) (by decide), Nat.lt_trans (log2_lt_of (k := 90000) h2 (by decide)) (by decide)⟩
/-- a part told -/
def RX (H : Hp) (Q : VK) (v : Nat × Nat) : Prop := ∀ p H', Same H H' → H' p = some (.tup [.int v.1, .int v.2]) → Q (.ref p) H'
theorem RX.from {H H' : Hp} {Q : VK} {v : Nat × Nat} (h : RX H Q v) (s : Same H H') : RX H' Q v := fun p H2 s2 e => h p H2 (s.trans s2) e
def spLow : Sp := fun vs H Q _ => ∃ (t b : Nat), vs = [.int t, .int b] ∧ 0 < b ∧ b < 2 ^ 8000 ∧ RX H Q (low t b)
abbrev sLowest : Stmt := top 9
theorem scLowest : FnScope ["top", "bottom", "shared"] ["top", "bottom"] (defScope sLowest) := ⟨rfl, rfl, rfl, by decide +kernel, rfl, by decide +kernel, by decide +kernel⟩
theorem ok_lowest {f : Addr} {fd : FuncData} (F : Fun K "lowest" "lowest" sLowest f fd) (T : BltM mg) (c_divisor : Cal P w K mg base "divisor" 1 ["one", "other"] spDiv) : FnOk P w K mg base CX0 2 f fd ["top", "bottom"] spLow := by
  refine F.ok scLowest (fun vs H Q E h => ?_) (fun cdv A outer s H vs Q E hr h => ?_)
  · obtain ⟨a, b, rfl, _⟩ := h
    rfl
  · obtain ⟨t, b, rfl, hb, hb2, k⟩ := h
    refine ⟨_, (pss_cons (ps_set (i := 2) scLowest.nd rfl (Or.inl rfl) (pe_callC c_divisor (hr.mono (by omega)) (by rfl) (pa_cons (pe_callB call_absR (by rfl) T.z_abs bb_abs (pa_cons (pv 0) pa_nil)) (pa_cons (pv 1) pa_nil))))
      (pss_one (ps_ret (pe_tup (pa_cons (pe_op op_fdivB (pv 0) (pv 2)) (pa_cons (pe_op op_fdivB (pv 1) (pv 2)) pa_nil)))))), ?_⟩
    have g1 : 0 < Nat.gcd t b := Nat.gcd_pos_of_pos_right _ hb
    have g2 : Nat.gcd t b ≤ b := Nat.gcd_le_right _ hb
    repeat walk_at "s"
    refine ⟨t, b, (by rw [absN]; rfl), ?_⟩
    repeat walk_at "s"
    refine i_rI (cdivN g1 (Nat.lt_of_le_of_lt g2 hb2)) ?_
    repeat walk_at "s"
    refine i_rI (cdivN g1 (Nat.lt_of_le_of_lt g2 hb2)) ?_
    repeat walk_at "s"
    refine ⟨by show 2 ≤ sizeLine; decide, fun p hp => k p _ (same_upd hp) upd_same⟩
def spPlus : Sp := fun vs H Q _ => ∃ (p q : Addr) (a b c d : Nat), vs = [.ref p, .ref q] ∧ H p = some (.tup [.int a, .int b]) ∧ H q = some (.tup [.int c, .int d]) ∧ 0 < b ∧ 0 < d ∧ a < 2 ^ 90000 ∧ b < 2 ^ 90000 ∧ c < 2 ^ 90000 ∧ d < 2 ^ 90000 ∧ b * d < 2 ^ 8000 ∧ RX H Q (pl (a, b) (c, d))
abbrev sPlus : Stmt := top 10
theorem scPlus : FnScope ["one", "other", "top", "bottom", "other_top", "other_bottom"] ["one", "other"] (defScope sPlus) := ⟨rfl, rfl, rfl, by decide +kernel, rfl, by decide +kernel, by decide +kernel⟩
theorem ok_plus {f : Addr} {fd : FuncData} (F : Fun K "plus" "plus" sPlus f fd) (T : BltM mg) (c_lowest : Cal P w K mg base "lowest" 2 ["top", "bottom"] spLow) : FnOk P w K mg base CX0 3 f fd ["one", "other"] spPlus := by
  refine F.ok scPlus (fun vs H Q E h => ?_) (fun cdv A outer s H vs Q E hr h => ?_)
  · obtain ⟨p, q, a, b, c, d, rfl, _⟩ := h
    rfl
  · obtain ⟨p, q, a, b, c, d, rfl, hp, hq, b0, d0, a1, b1, c1, d1, bd, k⟩ := h
    refine ⟨_, (pss_cons (ps_asg (pv 0) (pgT (K := K) (n := 2) rfl rfl (pgs_cons (pg_name (i := 2) scPlus.nd rfl (Or.inl rfl)) (pgs_cons (pg_name (i := 3) scPlus.nd rfl (Or.inl rfl)) pgs_nil))))
      (pss_cons (ps_asg (pv 1) (pgT (K := K) (n := 2) rfl rfl (pgs_cons (pg_name (i := 4) scPlus.nd rfl (Or.inl rfl)) (pgs_cons (pg_name (i := 5) scPlus.nd rfl (Or.inl rfl)) pgs_nil))))
      (pss_one (ps_ret (pe_callC c_lowest (hr.mono (by omega)) (by rfl) (pa_cons (pe_op op_add (pe_op op_mulB (pv 2) (pv 5)) (pe_op op_mulB (pv 4) (pv 3))) (pa_cons (pe_op op_mulB (pv 3) (pv 5)) pa_nil))))))), ?_⟩
    repeat walk_at "s"
    refine i_rI (cmulN a1 d1) ?_
    repeat walk_at "s"
    refine i_rI (cmulN c1 b1) ?_
    repeat walk_at "s"
    refine i_rI (cmulN b1 d1) ?_
    repeat walk_at "s"
    exact ⟨a * d + c * b, b * d, rfl, Nat.mul_pos b0 d0, bd, k⟩
end

section
variable {P : Program} {w : World} {K : PySem.W.Frag} {mg : Str → Option Value} {base : Heap}
theorem mapL {H1 : Hp} {l : Addr} {ns : List Int} {te : TE} {g : Int → V} {fr : St} {Fin : List V → Hp → Prop} (hl : H1 l = some (.lst (ns.map V.int))) (le : ns.length ≤ 100)
    (step : ∀ (x : Int) (H' : Hp) (R : VK), Same H1 H' → (∀ H3, Same H1 H3 → R (g x) H3) → te (some (.int x) :: fr) H' R) (fin : ∀ H', Same H1 H' → Fin (ns.map g) H') : CompT (Itl K l) (gName 0) tYes te Fin (none :: fr) H1 := by
  refine compW (fun i ys σ' H' => (∃ x, σ' = x :: fr) ∧ Same H1 H' ∧ ys = (ns.take i).map g) ns.length ⟨⟨none, rfl⟩, Same.refl _, rfl⟩ ?_ ?_
  · rintro ys σ' H' ⟨_, s1, rfl⟩
    rw [List.take_length]
    exact ⟨⟨_, SqL.of (s1 _ _ hl), by rw [List.length_map]; omega⟩, fin H' s1⟩
  · rintro i ys σ' H' hi ⟨⟨x0, rfl⟩, s1, rfl⟩
    have e2 : ns[i]? = some ns[i] := List.getElem?_eq_getElem hi
    refine ⟨⟨_, .int ns[i], SqL.of (s1 _ _ hl), by rw [List.getElem?_map, e2]; rfl⟩, lt_line (by rw [List.length_map, List.length_take]; omega), ?_⟩
    rintro x' G ⟨rfl, hy⟩
    have ex := hy _ (SqL.of (s1 _ _ hl))
    rw [List.getElem?_map, e2] at ex
    cases ex
    refine i_name ?_
    refine i_yes ?_
    refine iteT ?_
    refine step _ _ _ s1 fun H3 s3 => nxt hi ⟨⟨_, rfl⟩, s3, ?_⟩
    rw [List.take_succ, e2, List.map_append]
    rfl
theorem coll {J : It} {te : TE} {fr : St} {H1 : Hp} {Fin : List V → Hp → Prop} (Rl : Hp → Prop) (Pv : V → Hp → Prop) (n : Nat) (le : n ≤ 100) (r0 : Rl H1) (stop : ∀ H', Rl H' → J.stop n H') (go : ∀ i H', i < n → Rl H' → J.go i H')
    (step : ∀ i x H' H2 (R : VK), i < n → Rl H' → J.yld i H' x H2 → (∀ v H3, Rl H3 → (∀ y, Pv y H' → Pv y H3) → Pv v H3 → R v H3) → te (some x :: fr) H2 R)
    (fin : ∀ ys H', Rl H' → ys.length = n → (∀ y ∈ ys, Pv y H') → Fin ys H') : CompT J (gName 0) tYes te Fin (none :: fr) H1 := by
  refine compW (fun i ys σ' H' => (∃ x, σ' = x :: fr) ∧ Rl H' ∧ ys.length = i ∧ ∀ y ∈ ys, Pv y H') n ⟨⟨none, rfl⟩, r0, rfl, fun y h => by cases h⟩ ?_ ?_
  · rintro ys σ' H' ⟨_, s1, l1, p1⟩
    exact ⟨stop H' s1, fin ys H' s1 l1 p1⟩
  · rintro i ys σ' H' hi ⟨⟨x0, rfl⟩, s1, l1, p1⟩
    refine ⟨go i H' hi s1, lt_line (by omega), ?_⟩
    rintro x' G hy
    refine i_name ?_
    refine i_yes ?_
    refine iteT ?_
    refine step i _ H' G _ hi s1 hy fun v H3 s3 up pv => nxt hi ⟨⟨_, rfl⟩, s3, by rw [List.length_append, l1]; rfl, fun y hy => ?_⟩
    rcases List.mem_append.mp hy with h | h
    · exact up y (p1 y h)
    · rw [List.mem_singleton] at h
      rw [h]; exact pv
/-! ### what is refused -/
def flB (ns : List Int) : Bool := inB 1 8 ns.length && (ns.map (inB 1 12)).all id
def spIn (lo hi : Int) : Sp := fun vs H Q _ => ∃ x : Int, vs = [.int x] ∧ Q (.bl (inB lo hi x)) H
abbrev sIsSize : Stmt := top 12
theorem scIsSize : FnScope ["number"] ["number"] (defScope sIsSize) := ⟨rfl, rfl, rfl, by decide +kernel, rfl, by decide +kernel, by decide +kernel⟩
theorem ok_is_size {f : Addr} {fd : FuncData} (F : Fun K "is_size" "is_size" sIsSize f fd) (T : BltM mg) {tk : Tok} (hMost : mg "MOST_SLIP" = some (.int 12 tk)) : FnOk P w K mg base CX0 1 f fd ["number"] (spIn 1 12) := by
  refine F.ok scIsSize (fun vs H Q E h => ?_) (fun cdv A outer s H vs Q E hr h => ?_)
  · obtain ⟨x, rfl, _⟩ := h
    rfl
  · obtain ⟨x, rfl, k⟩ := h
    refine ⟨_, (pss_one (ps_ret (pe_chain op_le op_le pe_int (pv 0) (pe_glob (v := .int 12) (by rfl) hMost ⟨_, rfl⟩)))), ?_⟩
    refine i_ret ?_
    exact in_chain (fun _ q => i_tC q) (fun _ q => i_var rfl q) (fun _ q => i_tC q) k
def OrBad (CB : Addr) (c : Bool) (H : Hp) (Q : VK) (E : XK) : Prop := (c = true → ∀ H', Same H H' → Q .non H') ∧ (c = false → ∀ H', Same H H' → E (.ref CB) none H')
def spNeedSizes (CB : Addr) : Sp := fun vs H Q E => ∃ (p : Addr) (ns : List Int), vs = [.ref p] ∧ H p = some (.lst (ns.map V.int)) ∧ ns.length ≤ 100 ∧ OrBad CB (flB ns) H Q E
abbrev sNeedSizes : Stmt := top 13
theorem scNeedSizes : FnScope ["sizes"] ["sizes"] (defScope sNeedSizes) := ⟨rfl, rfl, rfl, by decide +kernel, rfl, by decide +kernel, by decide +kernel⟩
theorem nd_32_52 : (["size"] : List Str).Nodup := by decide +kernel
theorem S_32_52 : CompScope ["sizes"] (defScope sNeedSizes) ({ kind := PySem.ScopeKind.function, names := [ (PySem.Str.ofString ".0", PySem.NameKind.local), (PySem.Str.ofString "size", PySem.NameKind.local), (PySem.Str.ofString "is_size", PySem.NameKind.globalImplicit)], isGenerator := false, isCoroutine := false, more := [] : PySem.Scope }) (["size"] : List Str) ([] : List (Nat × Str)) := ⟨by decide +kernel, by decide +kernel, by decide +kernel, by decide +kernel, by decide +kernel⟩
theorem ok_need_sizes {f : Addr} {fd : FuncData} {cBadNumber : Addr} (F : Fun K "need_sizes" "need_sizes" sNeedSizes f fd) (T : BltM mg) {tk : Tok} (hBoats : mg "MOST_BOATS" = some (.int 8 tk)) (xBadNumber : ExcC K mg "BadNumber" cBadNumber) (c_is_size : Cal P w K mg base "is_size" 1 ["number"] (spIn 1 12)) : FnOk P w K mg base (CX1 P w) 2 f fd ["sizes"] (spNeedSizes cBadNumber) := by
  refine F.okX scNeedSizes (fun vs H Q E h => ?_) (fun cdv A outer s H vs Q E hr h => ?_)
  · obtain ⟨p, ns, rfl, _⟩ := h
    rfl
  · obtain ⟨p, ns, rfl, hp, hl, k0, kE⟩ := h
    refine ⟨_, (pss_one (ps_if ((pw_or (pt_not (pt_chain op_le op_le pe_int (pe_callB (cLen (K := K) rfl) (by rfl) T.z_len bb_len (pa_cons (pv 0) pa_nil)) (pe_glob (v := .int 8) (by rfl) hBoats ⟨_, rfl⟩))) (pw_or1 (pt_not (pt_val (pe_callB (cAll (K := K) rfl rfl) (by rfl) T.z_all bb_all (pa_cons (pe_lcomp rfl S_32_52 (piL (K := K) rfl (pv 0)) (by intro _ _ _ _ _; exact (pg_name (i := 0) nd_32_52 rfl (Or.inl rfl))) (by intro _ _ _ _ _; exact pts_nil) (by intro _ _ _ _ _; exact (pe_callC c_is_size (hr.mono (by omega)) (by rfl) (pa_cons (pv 0) pa_nil)))) pa_nil))))))).pt (pss_one (ps_raise rfl (by rfl) xBadNumber raises1 (pa_cons pe_str pa_nil))) pss_nil)), ?_⟩
    repeat walk_at "s"
    refine in_chain (lo := 1) (x := ns.length) (hi := 8) (fun _ q => i_tC q) (fun _ q => i_cb (i_cons (i_var rfl (i_nil (i_len (SqL.of hp) (by rw [List.length_map]; exact q)))))) (fun _ q => i_tC q) ?_
    repeat walk_at "s"
    unfold flB at k0 kE
    cases h1 : inB 1 8 ns.length with
    | false =>
      refine iteT ?_
      refine iteT ?_
      refine i_raise ?_
      repeat walk_at "s"
      exact ⟨by show 1 ≤ sizeLine; decide, kE (by rw [h1]; rfl) _ (Same.refl _)⟩
    | true =>
      rw [h1, Bool.true_and] at k0 kE
      refine iteF ?_
      repeat walk_at "s"
      refine ⟨p, rfl, ⟨_, SqL.of hp⟩, ?_⟩
      refine mapL (g := fun x => .bl (inB 1 12 x)) hp hl (fun x H' R s1 q => ?_) fun H1 s1 D hD => ?_
      · repeat walk_at "s"
        exact ⟨x, rfl, q _ s1⟩
      · have s2 := s1.trans (same_upd (o := .lst (ns.map fun x => .bl (inB 1 12 x))) hD)
        repeat walk_at "s"
        refine ⟨D, ns.map (inB 1 12), rfl, SqL.of (by rw [List.map_map]; exact upd_same), ?_⟩
        generalize upd H1 D (.lst (ns.map fun x => .bl (inB 1 12 x))) = H2 at s2 ⊢
        repeat walk_at "s"
        cases h2 : (ns.map (inB 1 12)).all id with
        | false =>
          refine iteT ?_
          refine i_raise ?_
          repeat walk_at "s"
          exact ⟨by show 1 ≤ sizeLine; decide, kE h2 _ s2⟩
        | true =>
          refine iteF ?_
          repeat walk_at "s"
          exact k0 h2 _ s2
def feB (as bs : List Int) : Bool := flB as && (flB bs && !decide (bs.sum > as.sum))
def spNeedFleets (CB : Addr) : Sp := fun vs H Q E => ∃ (p q : Addr) (as bs : List Int), vs = [.ref p, .ref q] ∧ H p = some (.lst (as.map V.int)) ∧ H q = some (.lst (bs.map V.int)) ∧ as.length ≤ 100 ∧ bs.length ≤ 100 ∧ OrBad CB (feB as bs) H Q E
abbrev sNeedFleets : Stmt := top 14
theorem scNeedFleets : FnScope ["ahead", "behind"] ["ahead", "behind"] (defScope sNeedFleets) := ⟨rfl, rfl, rfl, by decide +kernel, rfl, by decide +kernel, by decide +kernel⟩
theorem ok_need_fleets {f : Addr} {fd : FuncData} {cBadNumber : Addr} (F : Fun K "need_fleets" "need_fleets" sNeedFleets f fd) (T : BltM mg) (xBadNumber : ExcC K mg "BadNumber" cBadNumber) (c_need_sizes : CalX P w K mg base "need_sizes" 2 ["sizes"] (spNeedSizes cBadNumber)) : FnOk P w K mg base (CX1 P w) 3 f fd ["ahead", "behind"] (spNeedFleets cBadNumber) := by
  refine F.okX scNeedFleets (fun vs H Q E h => ?_) (fun cdv A outer s H vs Q E hr h => ?_)
  · obtain ⟨p, q, as, bs, rfl, _⟩ := h
    rfl
  · obtain ⟨p, q, as, bs, rfl, hp, hq, l1, l2, k0, kE⟩ := h
    refine ⟨_, (pss_cons (ps_expr (pe_callX c_need_sizes (hr.mono (by omega)) (by rfl) pass1 (pa_cons (pv 0) pa_nil)))
      (pss_cons (ps_expr (pe_callX c_need_sizes (hr.mono (by omega)) (by rfl) pass1 (pa_cons (pv 1) pa_nil)))
      (pss_one (ps_if (pt_cmpR op_gt (pe_callB (cSum (K := K) rfl rfl) (by rfl) T.z_sum bb_sum (pa_cons (pv 1) pa_nil)) (pe_callB (cSum (K := K) rfl rfl) (by rfl) T.z_sum bb_sum (pa_cons (pv 0) pa_nil)) (nomark _)) (pss_one (ps_raise rfl (by rfl) xBadNumber raises1 (pa_cons pe_str pa_nil))) pss_nil)))), ?_⟩
    unfold feB at k0 kE
    repeat walk_at "s"
    refine ⟨p, as, rfl, hp, l1, fun h1 H1 s1 => ?_, fun h1 H1 s1 => kE (by rw [h1]; rfl) _ s1⟩
    rw [h1, Bool.true_and] at k0 kE
    repeat walk_at "s"
    refine ⟨q, bs, rfl, s1 _ _ hq, l2, fun h2 H2 s2' => ?_, fun h2 H2 s2 => kE (by rw [h2]; rfl) _ (s1.trans s2)⟩
    rw [h2, Bool.true_and] at k0 kE
    have s2 := s1.trans s2'
    repeat walk_at "s"
    refine i_sum (SqL.of (s2 _ _ hq)) ?_
    repeat walk_at "s"
    refine i_sum (SqL.of (s2 _ _ hp)) ?_
    repeat walk_at "s"
    cases h3 : decide (bs.sum > as.sum) with
    | true =>
      refine iteT ?_
      refine i_raise ?_
      repeat walk_at "s"
      exact ⟨by show 1 ≤ sizeLine; decide, kE (by rw [h3]; rfl) _ s2⟩
    | false =>
      refine iteF ?_
      repeat walk_at "s"
      exact k0 (by rw [h3]; rfl) _ s2
def spNeedPlace (CB : Addr) : Sp := fun vs H Q E => ∃ (p : Addr) (ns : List Int) (x : Int), vs = [.ref p, .int x] ∧ H p = some (.lst (ns.map V.int)) ∧ OrBad CB (inL 0 ns.length x) H Q E
abbrev sNeedPlace : Stmt := top 15
theorem scNeedPlace : FnScope ["sizes", "place"] ["sizes", "place"] (defScope sNeedPlace) := ⟨rfl, rfl, rfl, by decide +kernel, rfl, by decide +kernel, by decide +kernel⟩
theorem ok_need_place {f : Addr} {fd : FuncData} {cBadNumber : Addr} (F : Fun K "need_place" "need_place" sNeedPlace f fd) (T : BltM mg) (xBadNumber : ExcC K mg "BadNumber" cBadNumber) : FnOk P w K mg base (CX1 P w) 1 f fd ["sizes", "place"] (spNeedPlace cBadNumber) := by
  refine F.okX scNeedPlace (fun vs H Q E h => ?_) (fun cdv A outer s H vs Q E hr h => ?_)
  · obtain ⟨p, ns, x, rfl, _⟩ := h
    rfl
  · obtain ⟨p, ns, x, rfl, hp, k0, kE⟩ := h
    refine ⟨_, (pss_one (ps_if (pt_not (pt_chain op_le op_lt pe_int (pv 1) (pe_callB (cLen (K := K) rfl) (by rfl) T.z_len bb_len (pa_cons (pv 0) pa_nil)))) (pss_one (ps_raise rfl (by rfl) xBadNumber raises1 (pa_cons pe_str pa_nil))) pss_nil)), ?_⟩
    repeat walk_at "s"
    refine in_chainL (lo := 0) (x := x) (hi := ns.length) (fun _ q => i_tC q) (fun _ q => i_var rfl q) (fun _ q => i_cb (i_cons (i_var rfl (i_nil (i_len (SqL.of hp) (by rw [List.length_map]; exact q)))))) ?_
    repeat walk_at "s"
    cases h1 : inL 0 ns.length x with
    | false =>
      refine iteT ?_
      refine i_raise ?_
      repeat walk_at "s"
      exact ⟨by show 1 ≤ sizeLine; decide, kE h1 _ (Same.refl _)⟩
    | true =>
      refine iteF ?_
      repeat walk_at "s"
      exact k0 h1 _ (Same.refl _)
theorem ix_of {ns : List Int} {i : Nat} {x : Int} (h : ns[i]? = some x) : atI (ns.map V.int) (i : Int) = some (.int x) := atI_nat (by rw [List.getElem?_map, h]; rfl)
end

theorem pow2_le {a b : Nat} (h : a ≤ b) : 2 ^ a ≤ 2 ^ b := Nat.pow_le_pow_right (by decide) h
theorem pow2_lt {a b : Nat} (h : a < b) : 2 ^ a < 2 ^ b := Nat.pow_lt_pow_right (by decide) h
theorem sum_nats : ∀ rs : List Nat, (rs.map fun (r : Nat) => (r : Int)).sum = (rs.sum : Nat)
  | [] => rfl
  | r :: rs => by rw [List.map_cons, List.sum_cons, List.sum_cons, sum_nats rs]; omega
theorem sum12 : ∀ {ns : List Int}, (∀ v ∈ ns, 1 ≤ v ∧ v ≤ 12) → 0 ≤ ns.sum ∧ ns.sum ≤ 12 * ns.length ∧ ∀ v ∈ ns, v ≤ ns.sum
  | [], _ => ⟨Int.le_refl _, Int.le_refl _, fun v h => by cases h⟩
  | x :: ns, h => by
    have h1 := h x List.mem_cons_self
    obtain ⟨a, b, c⟩ := sum12 (ns := ns) fun z hz => h z (List.mem_cons_of_mem _ hz)
    rw [List.sum_cons]
    refine ⟨by omega, by rw [List.length_cons]; omega, fun v hv => ?_⟩
    rcases List.mem_cons.mp hv with rfl | hv
    · omega
    · have := c v hv; omega
theorem flB_of {ns : List Int} (h : flB ns = true) : 1 ≤ ns.length ∧ ns.length ≤ 8 ∧ ∀ v ∈ ns, 1 ≤ v ∧ v ≤ 12 := by
  unfold flB at h
  rw [Bool.and_eq_true, inB_iff, List.all_eq_true] at h
  refine ⟨by omega, by omega, fun v hv => inB_iff.mp (h.2 _ (List.mem_map.mpr ⟨v, hv, rfl⟩))⟩
theorem wys_lt {m t : Int} (h : m ≤ 108) : wys m t < 2 ^ 90000 := by
  unfold wys
  split
  · exact Nat.lt_of_le_of_lt (bin_le _ _) (pow2_lt (by omega))
  · exact Nat.pow_pos (by decide)
/-- the chance that is reckoned -/
def ch (S x size drawn mine : Int) : Nat × Nat := low (cb (x - mine).toNat (S - x - (drawn - mine)).toNat (size - drawn).toNat ((if size > x then size else x) / 2 + 1 - mine)) (bin (S - drawn).toNat (size - drawn).toNat)
def fct (s r m x : Nat) : Nat := bin s x * bin r (m - x)
theorem sum_snoc (f : Nat → Nat) (k : Nat) : ((List.range (k + 1)).map f).sum = ((List.range k).map f).sum + f k := by
  rw [List.range_succ, List.map_append, List.sum_append]
  simp
/-- from t on, where t is no less than nought -/
theorem smd_from (s r m t : Nat) : ∀ k, smd s r m (t : Int) (t + k) = ((List.range k).map fun j => fct s r m (t + j)).sum
  | 0 => smd_zero s r m _ t fun x hx => by omega
  | k + 1 => by
    show smd s r m (t : Int) (t + k) + (if (t : Int) ≤ ((t + k : Nat) : Int) then bin s (t + k) * bin r (m - (t + k)) else 0) = _
    rw [smd_from s r m t k, if_pos (by omega), sum_snoc]
    rfl
theorem smd_neg (s r m : Nat) {t : Int} (h : t ≤ 0) : ∀ k, smd s r m t k = smd s r m 0 k
  | 0 => rfl
  | k + 1 => by
    show smd s r m t k + (if t ≤ (k : Int) then _ else 0) = smd s r m 0 k + (if (0 : Int) ≤ (k : Int) then _ else 0)
    rw [smd_neg s r m h k, if_pos (by omega), if_pos (by omega)]
theorem good_sum {own str left : Nat} {t L : Int} (hL : L = if (0 : Int) > t then 0 else t) {n : Nat} (hn : n = ((left : Int) + 1 - L).toNat) :
    ((List.range n).map fun (j : Nat) => wys own (L + (j : Int)) * wys str ((left : Int) - (L + (j : Int)))).sum = cb own str left t := by
  have L0 : 0 ≤ L := by rw [hL]; split <;> omega
  obtain ⟨l, rfl⟩ : ∃ l : Nat, L = l := ⟨L.toNat, by omega⟩
  have e1 : cb own str left t = smd own str left (l : Int) (left + 1) := by
    rw [cb_smd]
    rcases Int.lt_or_le t 0 with q | q
    · rw [if_pos q] at hL
      rw [smd_neg own str left (by omega), hL]
    · rw [if_neg (by omega)] at hL
      rw [hL]
  rw [e1]
  have cg : ∀ j : Nat, j < n → wys own ((l : Int) + (j : Int)) * wys str ((left : Int) - ((l : Int) + (j : Int))) = fct own str left (l + j) := by
    intro j hj
    unfold wys fct
    rw [if_pos (by omega), if_pos (by omega)]
    rw [show ((own : Int)).toNat = own by omega, show ((str : Int)).toNat = str by omega, show ((l : Int) + (j : Int)).toNat = l + j by omega, show ((left : Int) - ((l : Int) + (j : Int))).toNat = left - (l + j) by omega]
  rw [List.map_congr_left fun j hj => cg j (List.mem_range.mp hj)]
  rcases Nat.lt_or_ge (left + 1) l with q | q
  · have : n = 0 := by omega
    rw [this, smd_zero own str left _ (left + 1) fun x hx => by omega]
    rfl
  · rw [← smd_from own str left l n, show l + n = left + 1 by omega]
theorem ch_le {S x size drawn mine : Int} (h1 : 0 ≤ mine) (h2 : mine ≤ x) (h3 : 0 ≤ drawn - mine) (h4 : drawn - mine ≤ S - x) (h5 : S ≤ 96) : (ch S x size drawn mine).1 ≤ 2 ^ 96 ∧ (ch S x size drawn mine).2 ≤ 2 ^ 96 := by
  constructor
  · refine Nat.le_trans (low_le1 _ _) (Nat.le_trans (cb_le _ _ _ _) (Nat.le_trans (bin_le _ _) (pow2_le ?_)))
    omega
  · refine Nat.le_trans (low_le2 _ _) (Nat.le_trans (bin_le _ _) (pow2_le ?_))
    omega
theorem ch_pos {S x size drawn mine : Int} (h1 : size ≤ S) (h2 : drawn ≤ size) : 0 < (ch S x size drawn mine).2 := low_pos (bin_pos _ _ (by omega))
/-- sizes of sums -/
theorem totl_le {T B : Nat} : ∀ (n : Nat) (l : List (Nat × Nat)), l.length = n → (∀ v ∈ l, v.1 ≤ 2 ^ T ∧ v.2 ≤ 2 ^ B ∧ 0 < v.2) → (totl l).1 ≤ 2 ^ ((T + B + 1) * n) ∧ (totl l).2 ≤ 2 ^ (B * n) ∧ 0 < (totl l).2
  | 0, l, h, _ => by
    cases l with
    | nil => exact ⟨Nat.zero_le _, by rw [Nat.mul_zero]; exact Nat.le_refl _, by decide⟩
    | cons a b => cases h
  | i + 1, l, h, hv => by
    obtain ⟨l', x, rfl⟩ : ∃ l' x, l = l' ++ [x] := ⟨l.dropLast, l.getLast (by intro z; rw [z] at h; cases h), (List.dropLast_concat_getLast _).symm⟩
    have hl : l'.length = i := by rw [List.length_append] at h; simpa using h
    obtain ⟨a1, b1, b0⟩ := totl_le i l' hl fun v hv' => hv v (List.mem_append_left _ hv')
    obtain ⟨c1, d1, d0⟩ := hv x (List.mem_append_right _ List.mem_cons_self)
    rw [totl_snoc]
    refine ⟨Nat.le_trans (low_le1 _ _) ?_, Nat.le_trans (low_le2 _ _) ?_, pl_pos b0 d0⟩
    · have x1 : (totl l').1 * x.2 ≤ 2 ^ ((T + B + 1) * i + (T + B)) := by
        refine Nat.le_trans (Nat.mul_le_mul a1 d1) ?_
        rw [← Nat.pow_add]
        exact pow2_le (by omega)
      have x2 : x.1 * (totl l').2 ≤ 2 ^ ((T + B + 1) * i + (T + B)) := by
        refine Nat.le_trans (Nat.mul_le_mul c1 b1) ?_
        rw [← Nat.pow_add]
        refine pow2_le ?_
        have : B * i ≤ (T + B + 1) * i := Nat.mul_le_mul_right _ (by omega)
        omega
      have x3 : (T + B + 1) * (i + 1) = (T + B + 1) * i + (T + B) + 1 := by rw [Nat.mul_succ]; omega
      rw [x3, Nat.pow_succ]
      omega
    · refine Nat.le_trans (Nat.mul_le_mul b1 d1) ?_
      rw [← Nat.pow_add, Nat.mul_succ]
      exact Nat.le_refl _
/-- parts behind their addresses -/
def PtAt (H : Hp) : List Addr → List (Nat × Nat) → Prop
  | [], [] => True
  | t :: ts, v :: vs => H t = some (.tup [.int v.1, .int v.2]) ∧ PtAt H ts vs
  | _, _ => False
theorem PtAt.mono {H H' : Hp} (s : Same H H') : ∀ {ts : List Addr} {vs : List (Nat × Nat)}, PtAt H ts vs → PtAt H' ts vs
  | [], [], _ => trivial
  | t :: ts, v :: vs, h => ⟨s _ _ h.1, PtAt.mono s h.2⟩
  | [], _ :: _, h => h.elim
  | _ :: _, [], h => h.elim
theorem PtAt.len {H : Hp} : ∀ {ts : List Addr} {vs : List (Nat × Nat)}, PtAt H ts vs → ts.length = vs.length
  | [], [], _ => rfl
  | t :: ts, v :: vs, h => by rw [List.length_cons, List.length_cons, PtAt.len h.2]
  | [], _ :: _, h => h.elim
  | _ :: _, [], h => h.elim
theorem PtAt.get {H : Hp} : ∀ {ts : List Addr} {vs : List (Nat × Nat)} {i : Nat} {t : Addr}, PtAt H ts vs → ts[i]? = some t → ∃ v, vs[i]? = some v ∧ H t = some (.tup [.int v.1, .int v.2])
  | t :: ts, v :: vs, 0, t', h, e => by
    have : t = t' := Option.some.inj e
    subst this
    exact ⟨v, rfl, h.1⟩
  | t :: ts, v :: vs, i + 1, t', h, e => PtAt.get (ts := ts) (vs := vs) (i := i) h.2 e
  | [], _, _, _, _, e => by cases e
  | _ :: _, [], _, _, h, _ => h.elim
theorem PtAt.snoc {H : Hp} {t : Addr} {v : Nat × Nat} (h1 : H t = some (.tup [.int v.1, .int v.2])) : ∀ {ts : List Addr} {vs : List (Nat × Nat)}, PtAt H ts vs → PtAt H (ts ++ [t]) (vs ++ [v])
  | [], [], _ => ⟨h1, trivial⟩
  | _ :: ts, _ :: vs, h => ⟨h.1, PtAt.snoc h1 h.2⟩
  | [], _ :: _, h => h.elim
  | _ :: _, [], h => h.elim
section
variable {P : Program} {w : World} {K : PySem.W.Frag} {mg : Str → Option Value} {base : Heap}
theorem collP {J : It} {te : TE} {fr : St} {H1 : Hp} {Fin : List V → Hp → Prop} (Rl : Hp → Prop) (g : Nat → Nat × Nat) (n : Nat) (le : n ≤ 100) (r0 : Rl H1) (stop : ∀ H', Rl H' → J.stop n H') (go : ∀ i H', i < n → Rl H' → J.go i H')
    (step : ∀ i x H' H2 (R : VK), i < n → Rl H' → J.yld i H' x H2 → (∀ t H3, Rl H3 → Same H' H3 → H3 t = some (.tup [.int (g i).1, .int (g i).2]) → R (.ref t) H3) → te (some x :: fr) H2 R)
    (fin : ∀ ts H', Rl H' → PtAt H' ts ((List.range n).map g) → Fin (ts.map V.ref) H') : CompT J (gName 0) tYes te Fin (none :: fr) H1 := by
  refine compW (fun i ys σ' H' => (∃ x, σ' = x :: fr) ∧ Rl H' ∧ ∃ ts : List Addr, ys = ts.map V.ref ∧ PtAt H' ts ((List.range i).map g)) n ⟨⟨none, rfl⟩, r0, [], rfl, trivial⟩ ?_ ?_
  · rintro ys σ' H' ⟨_, s1, ts, rfl, p1⟩
    exact ⟨stop H' s1, fin ts H' s1 p1⟩
  · rintro i ys σ' H' hi ⟨⟨x0, rfl⟩, s1, ts, rfl, p1⟩
    have l1 : ts.length = i := by rw [p1.len, List.length_map, List.length_range]
    refine ⟨go i H' hi s1, lt_line (by rw [List.length_map]; omega), ?_⟩
    rintro x' G hy
    refine i_name ?_
    refine i_yes ?_
    refine iteT ?_
    refine step i _ H' G _ hi s1 hy fun t H3 s3 up pv => nxt hi ⟨⟨_, rfl⟩, s3, ts ++ [t], by rw [List.map_append]; rfl, ?_⟩
    rw [List.range_succ, List.map_append]
    exact PtAt.snoc pv (p1.mono up)
theorem collN {J : It} {te : TE} {fr : St} {H1 : Hp} {Fin : List V → Hp → Prop} (Rl : Hp → Prop) (g : Nat → Int) (n : Nat) (le : n ≤ 100) (r0 : Rl H1) (stop : ∀ H', Rl H' → J.stop n H') (go : ∀ i H', i < n → Rl H' → J.go i H')
    (step : ∀ i x H' H2 (R : VK), i < n → Rl H' → J.yld i H' x H2 → (∀ H3, Rl H3 → R (.int (g i)) H3) → te (some x :: fr) H2 R)
    (fin : ∀ H', Rl H' → Fin (((List.range n).map g).map V.int) H') : CompT J (gName 0) tYes te Fin (none :: fr) H1 := by
  refine compW (fun i ys σ' H' => (∃ x, σ' = x :: fr) ∧ Rl H' ∧ ys = ((List.range i).map g).map V.int) n ⟨⟨none, rfl⟩, r0, rfl⟩ ?_ ?_
  · rintro ys σ' H' ⟨_, s1, rfl⟩
    exact ⟨stop H' s1, fin H' s1⟩
  · rintro i ys σ' H' hi ⟨⟨x0, rfl⟩, s1, rfl⟩
    refine ⟨go i H' hi s1, lt_line (by rw [List.length_map, List.length_map, List.length_range]; omega), ?_⟩
    rintro x' G hy
    refine i_name ?_
    refine i_yes ?_
    refine iteT ?_
    refine step i _ H' G _ hi s1 hy fun H3 s3 => nxt hi ⟨⟨_, rfl⟩, s3, ?_⟩
    rw [List.range_succ, List.map_append, List.map_append]
    rfl
theorem sum_cast (f : Nat → Nat) (l : List Nat) : (l.map fun j => ((f j : Nat) : Int)).sum = ((l.map f).sum : Nat) := by
  induction l with
  | nil => rfl
  | cons a r ih => rw [List.map_cons, List.sum_cons, List.map_cons, List.sum_cons, ih]; omega
def spReck : Sp := fun vs H Q _ => ∃ (p : Addr) (ns : List Int) (i : Nat) (x size drawn mine : Int), vs = [.ref p, .int i, .int size, .int drawn, .int mine] ∧ H p = some (.lst (ns.map V.int)) ∧ ns[i]? = some x ∧ x ≤ 12 ∧ ns.sum ≤ 96 ∧ 1 ≤ size ∧ size ≤ 12 ∧ size ≤ ns.sum ∧ 0 ≤ drawn ∧ drawn ≤ size ∧ 0 ≤ mine ∧ mine ≤ x ∧ 0 ≤ drawn - mine ∧ drawn - mine ≤ ns.sum - x ∧ RX H Q (ch ns.sum x size drawn mine)
abbrev sReckoned : Stmt := top 16
theorem scReckoned : FnScope ["ahead", "at", "size", "drawn", "mine", "own", "strange", "left", "missing", "good"] ["ahead", "at", "size", "drawn", "mine"] (defScope sReckoned) := ⟨rfl, rfl, rfl, by decide +kernel, rfl, by decide +kernel, by decide +kernel⟩
theorem nd_47_15 : (["more", "own", "strange", "left"] : List Str).Nodup := by decide +kernel
theorem S_47_15 : CompScope ["ahead", "at", "size", "drawn", "mine", "own", "strange", "left", "missing", "good"] (defScope sReckoned) ({ kind := PySem.ScopeKind.function, names := [ (PySem.Str.ofString ".0", PySem.NameKind.local), (PySem.Str.ofString "more", PySem.NameKind.local), (PySem.Str.ofString "ways", PySem.NameKind.globalImplicit), (PySem.Str.ofString "left", PySem.NameKind.free), (PySem.Str.ofString "own", PySem.NameKind.free), (PySem.Str.ofString "strange", PySem.NameKind.free)], isGenerator := false, isCoroutine := false, more := [] : PySem.Scope }) (["more"] : List Str) ([(5, "own"), (6, "strange"), (7, "left")] : List (Nat × Str)) := ⟨by decide +kernel, by decide +kernel, by decide +kernel, by decide +kernel, by decide +kernel⟩
theorem ok_reckoned {f : Addr} {fd : FuncData} (F : Fun K "reckoned" "reckoned" sReckoned f fd) (T : BltM mg) (c_ways : Cal P w K mg base "ways" 1 ["many", "taken"] spWays) (c_lowest : Cal P w K mg base "lowest" 2 ["top", "bottom"] spLow) : FnOk P w K mg base CX0 3 f fd ["ahead", "at", "size", "drawn", "mine"] spReck := by
  refine F.ok scReckoned (fun vs H Q E h => ?_) (fun cdv A outer s H vs Q E hr h => ?_)
  · obtain ⟨p, ns, i, x, size, drawn, mine, rfl, _⟩ := h
    rfl
  · obtain ⟨p, ns, i, x, size, drawn, mine, rfl, hp, hx, x12, su, z1, z2, z3, d1, d2, m1, m2, e1, e2, k⟩ := h
    refine ⟨_, (pss_cons (ps_set (i := 5) scReckoned.nd rfl (Or.inr rfl) (pe_op op_sub (pe_ix (ixL (K := K) rfl) (pv 0) (pv 1) (fun _ _ => rfl)) (pv 4)))
      (pss_cons (ps_set (i := 6) scReckoned.nd rfl (Or.inr rfl) (pe_op op_sub (pe_op op_sub (pe_callB (cSum (K := K) rfl rfl) (by rfl) T.z_sum bb_sum (pa_cons (pv 0) pa_nil)) (pe_ix (ixL (K := K) rfl) (pv 0) (pv 1) (fun _ _ => rfl))) (pe_op op_sub (pv 3) (pv 4))))
      (pss_cons (ps_set (i := 7) scReckoned.nd rfl (Or.inr rfl) (pe_op op_sub (pv 2) (pv 3)))
      (pss_cons (ps_set (i := 8) scReckoned.nd rfl (Or.inl rfl) (pe_op op_sub (pe_op op_add (pe_op op_fdiv (pe_callB (cMax2 rfl) (by rfl) T.z_max bb_max (pa_cons (pe_ix (ixL (K := K) rfl) (pv 0) (pv 1) (fun _ _ => rfl)) (pa_cons (pv 2) pa_nil))) pe_int) pe_int) (pv 4)))
      (pss_cons (ps_set (i := 9) scReckoned.nd rfl (Or.inl rfl) (pe_callB (cSum (K := K) rfl rfl) (by rfl) T.z_sum bb_sum (pa_cons (pe_lcomp rfl S_47_15 (pi_range2 (by rfl) T.z_range (pa_cons (pe_callB (cMax2 rfl) (by rfl) T.z_max bb_max (pa_cons (pv 8) (pa_cons pe_int pa_nil))) (pa_cons (pe_op op_add (pv 7) pe_int) pa_nil))) (by intro _ _ _ _ _; exact (pg_name (i := 0) nd_47_15 rfl (Or.inl rfl))) (by intro _ _ _ _ _; exact pts_nil) (by intro _ _ _ _ _; exact (pe_op op_mulB (pe_callC c_ways (hr.mono (by omega)) (by rfl) (pa_cons (pv 1) (pa_cons (pv 0) pa_nil))) (pe_callC c_ways (hr.mono (by omega)) (by rfl) (pa_cons (pv 2) (pa_cons (pe_op op_sub (pv 3) (pv 0)) pa_nil)))))) pa_nil)))
      (pss_one (ps_ret (pe_callC c_lowest (hr.mono (by omega)) (by rfl) (pa_cons (pv 9) (pa_cons (pe_callC c_ways (hr.mono (by omega)) (by rfl) (pa_cons (pe_op op_add (pv 5) (pv 6)) (pa_cons (pv 7) pa_nil))) pa_nil)))))))))), ?_⟩
    generalize hsu : ns.sum = S at *
    repeat walk_at "s"
    refine i_ixL (SqL.of hp) (ix_of hx) ?_
    repeat walk_at "s"
    refine i_sum (SqL.of hp) ?_
    rw [hsu]
    repeat walk_at "s"
    refine i_ixL (SqL.of hp) (ix_of hx) ?_
    repeat walk_at "s"
    refine i_ixL (SqL.of hp) (ix_of hx) ?_
    repeat walk_at "s"
    generalize hM : (if size > x then size else x) / 2 + 1 - mine = M
    have hM1 : -20 ≤ M ∧ M ≤ 20 := by
      rw [← hM]
      split <;> omega
    generalize hL : (if (0 : Int) > M then 0 else M) = L
    have hL1 : 0 ≤ L ∧ L ≤ 20 := by
      rw [← hL]
      split <;> omega
    refine ⟨L, size - drawn + 1, rfl, ⟨by omega, by omega, by omega, by omega⟩, ?_⟩
    generalize hn : (size - drawn + 1 - L).toNat = n
    have hn1 : n ≤ 13 ∧ ∀ j : Nat, j < n → L + (j : Int) ≤ size - drawn := by
      refine ⟨by omega, fun j hj => by omega⟩
    refine collN (Rl := fun H' => H' = H) (g := fun j => ((wys (x - mine) (L + (j : Int)) * wys (S - x - (drawn - mine)) (size - drawn - (L + (j : Int))) : Nat) : Int)) n (by omega) rfl (fun H' _ => Nat.le_refl _) (fun j H' hj _ => hj) ?_ ?_
    · rintro j x' H' G R hj rfl ⟨rfl, rfl⟩ q
      have hj1 := hn1.2 j hj
      repeat walk_at "s"
      refine ⟨x - mine, L + j, rfl, by omega, by omega, fun _ => by omega, ?_⟩
      repeat walk_at "s"
      refine ⟨S - x - (drawn - mine), size - drawn - (L + j), rfl, by omega, by omega, fun _ => by omega, ?_⟩
      refine i_rI (cmulN (wys_lt (by omega)) (wys_lt (by omega))) ?_
      exact q _ rfl
    · rintro H' rfl D hD
      have s1 := same_upd (o := .lst (((List.range n).map fun (j : Nat) => ((wys (x - mine) (L + (j : Int)) * wys (S - x - (drawn - mine)) (size - drawn - (L + (j : Int))) : Nat) : Int)).map V.int)) hD
      repeat walk_at "s"
      refine i_sum (SqL.of upd_same) ?_
      rw [sum_cast (fun j => wys (x - mine) (L + (j : Int)) * wys (S - x - (drawn - mine)) (size - drawn - (L + (j : Int))))]
      generalize upd H' D _ = H1 at s1 ⊢
      have eS : ((List.range n).map fun (j : Nat) => wys (x - mine) (L + (j : Int)) * wys (S - x - (drawn - mine)) (size - drawn - (L + (j : Int)))).sum = cb (x - mine).toNat (S - x - (drawn - mine)).toNat (size - drawn).toNat M := by
        have := good_sum (own := (x - mine).toNat) (str := (S - x - (drawn - mine)).toNat) (left := (size - drawn).toNat) (t := M) (L := L) hL.symm (n := n) (by rw [← hn]; congr 1; omega)
        rw [show (((x - mine).toNat : Nat) : Int) = x - mine by omega, show (((S - x - (drawn - mine)).toNat : Nat) : Int) = S - x - (drawn - mine) by omega, show (((size - drawn).toNat : Nat) : Int) = size - drawn by omega] at this
        exact this
      rw [eS]
      repeat walk_at "s"
      refine ⟨x - mine + (S - x - (drawn - mine)), size - drawn, rfl, by omega, by omega, fun _ => by omega, ?_⟩
      have eb : wys (x - mine + (S - x - (drawn - mine))) (size - drawn) = bin (S - drawn).toNat (size - drawn).toNat := by
        unfold wys
        rw [if_pos (by omega), show x - mine + (S - x - (drawn - mine)) = S - drawn by omega]
      rw [eb]
      repeat walk_at "s"
      refine ⟨_, _, rfl, bin_pos _ _ (by omega), Nat.lt_of_le_of_lt (bin_le _ _) (pow2_lt (by omega)), ?_⟩
      rw [← hM]
      exact k.from s1
def spTotal : Sp := fun vs H Q _ => ∃ (p : Addr) (ts : List Addr) (ps : List (Nat × Nat)) (T B : Nat), vs = [.ref p] ∧ H p = some (.lst (ts.map V.ref)) ∧ ts.length ≤ 8 ∧ T ≤ 3000 ∧ B ≤ 900 ∧ PtAt H ts ps ∧ (∀ v ∈ ps, v.1 ≤ 2 ^ T ∧ v.2 ≤ 2 ^ B ∧ 0 < v.2) ∧ RX H Q (totl ps)
theorem take_step {ps : List (Nat × Nat)} {i : Nat} {v : Nat × Nat} (e : ps[i]? = some v) : totl (ps.take (i + 1)) = pl (totl (ps.take i)) v := by
  rw [List.take_succ, e]
  exact totl_snoc _ _
abbrev sTotal : Stmt := top 17
theorem scTotal : FnScope ["parts", "told", "part"] ["parts"] (defScope sTotal) := ⟨rfl, rfl, rfl, by decide +kernel, rfl, by decide +kernel, by decide +kernel⟩
theorem ok_total {f : Addr} {fd : FuncData} (F : Fun K "total" "total" sTotal f fd) (T0 : BltM mg) (c_plus : Cal P w K mg base "plus" 3 ["one", "other"] spPlus) : FnOk P w K mg base CX0 4 f fd ["parts"] spTotal := by
  refine F.ok scTotal (fun vs H Q E h => ?_) (fun cdv A outer s H vs Q E hr h => ?_)
  · obtain ⟨p, ts, ps, T, B, rfl, _⟩ := h
    rfl
  · obtain ⟨p, ts, ps, T, B, rfl, hp, l8, hT, hB, hts, hbd, k⟩ := h
    refine ⟨_, (pss_cons (ps_set (i := 1) scTotal.nd rfl (Or.inl rfl) (pe_tup (pa_cons pe_int (pa_cons pe_int pa_nil))))
      (pss_cons (ps_for PassesOwn.never rfl (piL (K := K) rfl (pv 0)) (pg_name (i := 2) scTotal.nd rfl (Or.inl rfl)) (pss_one (ps_set (i := 1) scTotal.nd rfl (Or.inl rfl) (pe_callC c_plus (hr.mono (by omega)) (by rfl) (pa_cons (pv 1) (pa_cons (pv 2) pa_nil))))))
      (pss_one (ps_ret (pv 1))))), ?_⟩
    repeat walk_at "s"
    refine ⟨by show 2 ≤ sizeLine; decide, fun q hq => ?_⟩
    have s0 := same_upd (o := .tup [.int 0, .int 1]) hq
    have hq0 : upd H q (.tup [.int 0, .int 1]) q = some (.tup [.int 0, .int 1]) := upd_same
    generalize upd H q (.tup [.int 0, .int 1]) = H0 at s0 hq0 ⊢
    repeat walk_at "s"
    refine ⟨p, rfl, ⟨_, SqL.of (s0 _ _ hp)⟩, ?_⟩
    refine forW (fun i σ' H' => (∃ (r : Addr) (x : Option V), σ' = [some (.ref p), some (.ref r), x] ∧ H' r = some (.tup [.int (totl (ps.take i)).1, .int (totl (ps.take i)).2])) ∧ Same H H') ts.length ⟨⟨q, none, rfl, hq0⟩, s0⟩ ?_ ?_
    · rintro σ' H' ⟨⟨r, x, rfl, hr'⟩, s1⟩
      refine ⟨⟨_, SqL.of (s1 _ _ hp), by rw [List.length_map]; exact Nat.le_refl _⟩, ?_⟩
      repeat walk_at "s"
      rw [hts.len, List.take_length] at hr'
      exact k r H' s1 hr'
    · rintro i σ' H' hi ⟨⟨r, x, rfl, hr'⟩, s1⟩
      have e1 : ts[i]? = some ts[i] := List.getElem?_eq_getElem hi
      refine ⟨⟨_, .ref ts[i], SqL.of (s1 _ _ hp), by rw [List.getElem?_map, e1]; rfl⟩, ?_⟩
      rintro x' G ⟨rfl, hy⟩
      have ex := hy _ (SqL.of (s1 _ _ hp))
      rw [List.getElem?_map, e1] at ex
      cases ex
      obtain ⟨v, ev, ht⟩ := hts.get e1
      obtain ⟨c1, d1, d0⟩ := hbd v (List.mem_of_getElem? ev)
      have hti := s1 _ _ ht
      have i8 : i < 8 := by omega
      obtain ⟨a1, b1, b0⟩ := totl_le (T := T) (B := B) i (ps.take i) (by rw [List.length_take, ← hts.len]; omega) fun v hv => hbd v (List.mem_of_mem_take hv)
      have big : (T + B + 1) * i ≤ 3901 * 8 := Nat.mul_le_mul (by omega) (by omega)
      have big2 : B * i ≤ 900 * 7 := Nat.mul_le_mul hB (by omega)
      repeat walk_at "s"
      refine ⟨r, ts[i], _, _, v.1, v.2, rfl, hr', hti, b0, d0, Nat.lt_of_le_of_lt a1 (pow2_lt (by omega)), Nat.lt_of_le_of_lt b1 (pow2_lt (by omega)), Nat.lt_of_le_of_lt c1 (pow2_lt (by omega)), Nat.lt_of_le_of_lt d1 (pow2_lt (by omega)), ?_, fun r' H2 s2 hr2 => ?_⟩
      · refine Nat.lt_of_le_of_lt (Nat.mul_le_mul b1 d1) ?_
        rw [← Nat.pow_add]
        exact pow2_lt (by omega)
      · repeat walk_at "s"
        refine ⟨⟨r', _, rfl, ?_⟩, s1.trans s2⟩
        rw [take_step ev]
        exact hr2
end

def gA (as bs : List Int) (i j : Nat) : Nat × Nat := ch as.sum (as.getD i 0) (bs.getD j 0) 0 0
def gO (as bs : List Int) (i : Nat) : Nat × Nat := totl ((List.range bs.length).map (gA as bs i))
def gM (as bs : List Int) : Nat × Nat := totl ((List.range as.length).map (gO as bs))
theorem feB_of {as bs : List Int} (h : feB as bs = true) : flB as = true ∧ flB bs = true ∧ bs.sum ≤ as.sum := by
  unfold feB at h
  rw [Bool.and_eq_true, Bool.and_eq_true] at h
  refine ⟨h.1, h.2.1, ?_⟩
  have := h.2.2
  simp at this
  exact this
theorem fl_at {ns : List Int} {i : Nat} (h : flB ns = true) (hi : i < ns.length) : ns[i]? = some (ns.getD i 0) ∧ 1 ≤ ns.getD i 0 ∧ ns.getD i 0 ≤ 12 ∧ ns.getD i 0 ≤ ns.sum ∧ ns.sum ≤ 96 := by
  obtain ⟨a1, a2, a3⟩ := flB_of h
  obtain ⟨sa0, sa1, sa2⟩ := sum12 a3
  have e : ns.getD i 0 = ns[i] := by simp [List.getD, List.getElem?_eq_getElem hi]
  have m := List.getElem_mem hi
  have v := a3 _ m
  have v2 := sa2 _ m
  rw [e]
  exact ⟨List.getElem?_eq_getElem hi, v.1, v.2, v2, by omega⟩
theorem gA_le {as bs : List Int} (h : feB as bs = true) {i j : Nat} (hi : i < as.length) (hj : j < bs.length) : (gA as bs i j).1 ≤ 2 ^ 96 ∧ (gA as bs i j).2 ≤ 2 ^ 96 ∧ 0 < (gA as bs i j).2 := by
  obtain ⟨fa, fb, hs⟩ := feB_of h
  obtain ⟨_, a1, a2, a3, a4⟩ := fl_at fa hi
  obtain ⟨_, b1, b2, b3, b4⟩ := fl_at fb hj
  obtain ⟨c1, c2⟩ := ch_le (S := as.sum) (x := as.getD i 0) (size := bs.getD j 0) (drawn := 0) (mine := 0) (by omega) (by omega) (by omega) (by omega) a4
  exact ⟨c1, c2, ch_pos (by omega) (by omega)⟩
theorem gO_le {as bs : List Int} (h : feB as bs = true) {i : Nat} (hi : i < as.length) : (gO as bs i).1 ≤ 2 ^ 1544 ∧ (gO as bs i).2 ≤ 2 ^ 768 ∧ 0 < (gO as bs i).2 := by
  obtain ⟨fa, fb, hs⟩ := feB_of h
  obtain ⟨b1, b2, b3⟩ := flB_of fb
  obtain ⟨t1, t2, t3⟩ := totl_le (T := 96) (B := 96) bs.length ((List.range bs.length).map (gA as bs i)) (by rw [List.length_map, List.length_range]) fun v hv => by
    obtain ⟨j, hj, rfl⟩ := List.mem_map.mp hv
    exact gA_le h hi (List.mem_range.mp hj)
  exact ⟨Nat.le_trans t1 (pow2_le (by omega)), Nat.le_trans t2 (pow2_le (by omega)), t3⟩
section
variable {P : Program} {w : World} {K : PySem.W.Frag} {mg : Str → Option Value} {base : Heap}
theorem in_nat {i n : Nat} (h : i < n) : inL 0 n i = true := inL_iff.mpr ⟨by omega, by omega⟩
theorem OrBad.yes {CB : Addr} {c : Bool} {H : Hp} {Q : VK} {E : XK} (h : c = true) (k : ∀ H', Same H H' → Q .non H') : OrBad CB c H Q E := ⟨fun _ => k, fun z => by rw [h] at z; cases z⟩
def spGoesAs : Sp := fun vs H Q _ => ∃ (p q : Addr) (as bs : List Int) (i j : Nat), vs = [.ref p, .int i, .ref q, .int j] ∧ H p = some (.lst (as.map V.int)) ∧ H q = some (.lst (bs.map V.int)) ∧ feB as bs = true ∧ i < as.length ∧ j < bs.length ∧ RX H Q (gA as bs i j)
abbrev sGoesAs : Stmt := top 18
theorem scGoesAs : FnScope ["ahead", "at", "behind", "to"] ["ahead", "at", "behind", "to"] (defScope sGoesAs) := ⟨rfl, rfl, rfl, by decide +kernel, rfl, by decide +kernel, by decide +kernel⟩
theorem ok_goes_as {f : Addr} {fd : FuncData} {cBadNumber : Addr} (F : Fun K "goes_as" "goes_as" sGoesAs f fd) (T : BltM mg) (c_need_fleets : CalX P w K mg base "need_fleets" 3 ["ahead", "behind"] (spNeedFleets cBadNumber)) (c_need_place : CalX P w K mg base "need_place" 1 ["sizes", "place"] (spNeedPlace cBadNumber)) (c_reckoned : Cal P w K mg base "reckoned" 3 ["ahead", "at", "size", "drawn", "mine"] spReck) : FnOk P w K mg base (CX1 P w) 4 f fd ["ahead", "at", "behind", "to"] spGoesAs := by
  refine F.okX scGoesAs (fun vs H Q E h => ?_) (fun cdv A outer s H vs Q E hr h => ?_)
  · obtain ⟨p, q, as, bs, i, j, rfl, _⟩ := h
    rfl
  · obtain ⟨p, q, as, bs, i, j, rfl, hp, hq, h1, hi, hj, k⟩ := h
    refine ⟨_, (pss_cons (ps_expr (pe_callX c_need_fleets (hr.mono (by omega)) (by rfl) pass1 (pa_cons (pv 0) (pa_cons (pv 2) pa_nil))))
      (pss_cons (ps_expr (pe_callX c_need_place (hr.mono (by omega)) (by rfl) pass1 (pa_cons (pv 0) (pa_cons (pv 1) pa_nil))))
      (pss_cons (ps_expr (pe_callX c_need_place (hr.mono (by omega)) (by rfl) pass1 (pa_cons (pv 2) (pa_cons (pv 3) pa_nil))))
      (pss_one (ps_ret (pe_callC c_reckoned (hr.mono (by omega)) (by rfl) (pa_cons (pv 0) (pa_cons (pv 1) (pa_cons (pe_ix (ixL (K := K) rfl) (pv 2) (pv 3) (fun _ _ => rfl)) (pa_cons pe_int (pa_cons pe_int pa_nil))))))))))), ?_⟩
    obtain ⟨fa, fb, hs⟩ := feB_of h1
    obtain ⟨a1, a2, _⟩ := flB_of fa
    obtain ⟨b1, b2, _⟩ := flB_of fb
    repeat walk_at "s"
    refine ⟨p, q, as, bs, rfl, hp, hq, by omega, by omega, .yes h1 fun H1 s1 => ?_⟩
    repeat walk_at "s"
    refine ⟨p, as, i, rfl, s1 _ _ hp, .yes (in_nat hi) fun H2 s2' => ?_⟩
    have s2 := s1.trans s2'
    repeat walk_at "s"
    refine ⟨q, bs, j, rfl, s2 _ _ hq, .yes (in_nat hj) fun H3 s3' => ?_⟩
    have s3 := s2.trans s3'
    obtain ⟨e1, v1, v2, v3, v4⟩ := fl_at fa hi
    obtain ⟨e2, u1, u2, u3, u4⟩ := fl_at fb hj
    repeat walk_at "s"
    refine i_ixL (SqL.of (s3 _ _ hq)) (ix_of e2) ?_
    repeat walk_at "s"
    exact ⟨p, as, i, _, _, 0, 0, rfl, s3 _ _ hp, e1, by omega, by omega, by omega, by omega, by omega, by omega, by omega, by omega, by omega, by omega, by omega, k.from s3⟩
def spGoesOn : Sp := fun vs H Q _ => ∃ (p q : Addr) (as bs : List Int) (i : Nat), vs = [.ref p, .int i, .ref q] ∧ H p = some (.lst (as.map V.int)) ∧ H q = some (.lst (bs.map V.int)) ∧ feB as bs = true ∧ i < as.length ∧ RX H Q (gO as bs i)
abbrev sGoesOn : Stmt := top 19
theorem scGoesOn : FnScope ["ahead", "at", "behind"] ["ahead", "at", "behind"] (defScope sGoesOn) := ⟨rfl, rfl, rfl, by decide +kernel, rfl, by decide +kernel, by decide +kernel⟩
theorem nd_62_17 : (["to", "ahead", "at", "behind"] : List Str).Nodup := by decide +kernel
theorem S_62_17 : CompScope ["ahead", "at", "behind"] (defScope sGoesOn) ({ kind := PySem.ScopeKind.function, names := [ (PySem.Str.ofString ".0", PySem.NameKind.local), (PySem.Str.ofString "to", PySem.NameKind.local), (PySem.Str.ofString "goes_as", PySem.NameKind.globalImplicit), (PySem.Str.ofString "ahead", PySem.NameKind.free), (PySem.Str.ofString "at", PySem.NameKind.free), (PySem.Str.ofString "behind", PySem.NameKind.free)], isGenerator := false, isCoroutine := false, more := [] : PySem.Scope }) (["to"] : List Str) ([(0, "ahead"), (1, "at"), (2, "behind")] : List (Nat × Str)) := ⟨by decide +kernel, by decide +kernel, by decide +kernel, by decide +kernel, by decide +kernel⟩
theorem ok_goes_on {f : Addr} {fd : FuncData} {cBadNumber : Addr} (F : Fun K "goes_on" "goes_on" sGoesOn f fd) (T : BltM mg) (c_need_fleets : CalX P w K mg base "need_fleets" 3 ["ahead", "behind"] (spNeedFleets cBadNumber)) (c_need_place : CalX P w K mg base "need_place" 1 ["sizes", "place"] (spNeedPlace cBadNumber)) (c_goes_as : CalX P w K mg base "goes_as" 4 ["ahead", "at", "behind", "to"] spGoesAs) (c_total : Cal P w K mg base "total" 4 ["parts"] spTotal) : FnOk P w K mg base (CX1 P w) 6 f fd ["ahead", "at", "behind"] spGoesOn := by
  refine F.okX scGoesOn (fun vs H Q E h => ?_) (fun cdv A outer s H vs Q E hr h => ?_)
  · obtain ⟨p, q, as, bs, i, rfl, _⟩ := h
    rfl
  · obtain ⟨p, q, as, bs, i, rfl, hp, hq, h1, hi, k⟩ := h
    have c_goes_asQ := K38.CalX.quiet c_goes_as
    refine ⟨_, (pss_cons (ps_expr (pe_callX c_need_fleets (hr.mono (by omega)) (by rfl) pass1 (pa_cons (pv 0) (pa_cons (pv 2) pa_nil))))
      (pss_cons (ps_expr (pe_callX c_need_place (hr.mono (by omega)) (by rfl) pass1 (pa_cons (pv 0) (pa_cons (pv 1) pa_nil))))
      (pss_one (ps_ret (pe_callC c_total (hr.mono (by omega)) (by rfl) (pa_cons (pe_lcomp rfl S_62_17 (pi_range1 (by rfl) T.z_range (pa_cons (pe_callB (cLen (K := K) rfl) (by rfl) T.z_len bb_len (pa_cons (pv 2) pa_nil)) pa_nil)) (by intro _ _ _ _ _; exact (pg_name (i := 0) nd_62_17 rfl (Or.inl rfl))) (by intro _ _ _ _ _; exact pts_nil) (by intro _ _ _ _ _; exact (pe_callC c_goes_asQ (hr.mono (by omega)) (by rfl) (pa_cons (pv 1) (pa_cons (pv 2) (pa_cons (pv 3) (pa_cons (pv 0) pa_nil))))))) pa_nil)))))), ?_⟩
    obtain ⟨fa, fb, hs⟩ := feB_of h1
    obtain ⟨a1, a2, _⟩ := flB_of fa
    obtain ⟨b1, b2, _⟩ := flB_of fb
    repeat walk_at "s"
    refine ⟨p, q, as, bs, rfl, hp, hq, by omega, by omega, .yes h1 fun H1 s1 => ?_⟩
    repeat walk_at "s"
    refine ⟨p, as, i, rfl, s1 _ _ hp, .yes (in_nat hi) fun H2 s2' => ?_⟩
    have s2 := s1.trans s2'
    have hq2 := s2 _ _ hq
    repeat walk_at "s"
    rw [List.length_map]
    refine ⟨_, rfl, by omega, by omega, ?_⟩
    rw [show ((bs.length : Int)).toNat = bs.length by omega]
    refine collP (Rl := fun H' => Same H2 H') (g := gA as bs i) bs.length (by omega) (Same.refl _) (fun H' _ => Nat.le_refl _) (fun j H' hj _ => hj) ?_ ?_
    · rintro j x' H' G R hj sj ⟨rfl, rfl⟩ q'
      have sj2 := s2.trans sj
      repeat walk_at "s"
      rw [Int.zero_add]
      exact ⟨p, q, as, bs, i, j, rfl, sj2 _ _ hp, sj2 _ _ hq, h1, hi, hj, fun t H3 s3 ht => q' _ _ (sj.trans s3) s3 ht⟩
    · rintro ts H3 s3 hts D hD
      have s4 := same_upd (o := .lst (ts.map V.ref)) hD
      have lt := hts.len
      rw [List.length_map, List.length_range] at lt
      repeat walk_at "s"
      refine ⟨D, ts, _, 96, 96, rfl, upd_same, by omega, by decide, by decide, hts.mono s4, fun v hv => ?_, k.from (s2.trans (s3.trans s4))⟩
      obtain ⟨j, hj, rfl⟩ := List.mem_map.mp hv
      exact gA_le h1 hi (List.mem_range.mp hj)
def spMean : Sp := fun vs H Q _ => ∃ (p q : Addr) (as bs : List Int), vs = [.ref p, .ref q] ∧ H p = some (.lst (as.map V.int)) ∧ H q = some (.lst (bs.map V.int)) ∧ feB as bs = true ∧ RX H Q (gM as bs)
abbrev sMeanGoing : Stmt := top 20
theorem scMeanGoing : FnScope ["ahead", "behind"] ["ahead", "behind"] (defScope sMeanGoing) := ⟨rfl, rfl, rfl, by decide +kernel, rfl, by decide +kernel, by decide +kernel⟩
theorem nd_65_17 : (["at", "ahead", "behind"] : List Str).Nodup := by decide +kernel
theorem S_65_17 : CompScope ["ahead", "behind"] (defScope sMeanGoing) ({ kind := PySem.ScopeKind.function, names := [ (PySem.Str.ofString ".0", PySem.NameKind.local), (PySem.Str.ofString "at", PySem.NameKind.local), (PySem.Str.ofString "goes_on", PySem.NameKind.globalImplicit), (PySem.Str.ofString "ahead", PySem.NameKind.free), (PySem.Str.ofString "behind", PySem.NameKind.free)], isGenerator := false, isCoroutine := false, more := [] : PySem.Scope }) (["at"] : List Str) ([(0, "ahead"), (1, "behind")] : List (Nat × Str)) := ⟨by decide +kernel, by decide +kernel, by decide +kernel, by decide +kernel, by decide +kernel⟩
theorem ok_mean_going {f : Addr} {fd : FuncData} {cBadNumber : Addr} (F : Fun K "mean_going" "mean_going" sMeanGoing f fd) (T : BltM mg) (c_need_fleets : CalX P w K mg base "need_fleets" 3 ["ahead", "behind"] (spNeedFleets cBadNumber)) (c_goes_on : CalX P w K mg base "goes_on" 6 ["ahead", "at", "behind"] spGoesOn) (c_total : Cal P w K mg base "total" 4 ["parts"] spTotal) : FnOk P w K mg base (CX1 P w) 8 f fd ["ahead", "behind"] spMean := by
  refine F.okX scMeanGoing (fun vs H Q E h => ?_) (fun cdv A outer s H vs Q E hr h => ?_)
  · obtain ⟨p, q, as, bs, rfl, _⟩ := h
    rfl
  · obtain ⟨p, q, as, bs, rfl, hp, hq, h1, k⟩ := h
    have c_goes_onQ := K38.CalX.quiet c_goes_on
    refine ⟨_, (pss_cons (ps_expr (pe_callX c_need_fleets (hr.mono (by omega)) (by rfl) pass1 (pa_cons (pv 0) (pa_cons (pv 1) pa_nil))))
      (pss_one (ps_ret (pe_callC c_total (hr.mono (by omega)) (by rfl) (pa_cons (pe_lcomp rfl S_65_17 (pi_range1 (by rfl) T.z_range (pa_cons (pe_callB (cLen (K := K) rfl) (by rfl) T.z_len bb_len (pa_cons (pv 0) pa_nil)) pa_nil)) (by intro _ _ _ _ _; exact (pg_name (i := 0) nd_65_17 rfl (Or.inl rfl))) (by intro _ _ _ _ _; exact pts_nil) (by intro _ _ _ _ _; exact (pe_callC c_goes_onQ (hr.mono (by omega)) (by rfl) (pa_cons (pv 1) (pa_cons (pv 0) (pa_cons (pv 2) pa_nil)))))) pa_nil))))), ?_⟩
    obtain ⟨fa, fb, hs⟩ := feB_of h1
    obtain ⟨a1, a2, _⟩ := flB_of fa
    obtain ⟨b1, b2, _⟩ := flB_of fb
    repeat walk_at "s"
    refine ⟨p, q, as, bs, rfl, hp, hq, by omega, by omega, .yes h1 fun H2 s2 => ?_⟩
    have hp2 := s2 _ _ hp
    repeat walk_at "s"
    rw [List.length_map]
    refine ⟨_, rfl, by omega, by omega, ?_⟩
    rw [show ((as.length : Int)).toNat = as.length by omega]
    refine collP (Rl := fun H' => Same H2 H') (g := gO as bs) as.length (by omega) (Same.refl _) (fun H' _ => Nat.le_refl _) (fun j H' hj _ => hj) ?_ ?_
    · rintro j x' H' G R hj sj ⟨rfl, rfl⟩ q'
      have sj2 := s2.trans sj
      repeat walk_at "s"
      rw [Int.zero_add]
      exact ⟨p, q, as, bs, j, rfl, sj2 _ _ hp, sj2 _ _ hq, h1, hj, fun t H3 s3 ht => q' _ _ (sj.trans s3) s3 ht⟩
    · rintro ts H3 s3 hts D hD
      have s4 := same_upd (o := .lst (ts.map V.ref)) hD
      have lt := hts.len
      rw [List.length_map, List.length_range] at lt
      repeat walk_at "s"
      refine ⟨D, ts, _, 1544, 768, rfl, upd_same, by omega, by decide, by decide, hts.mono s4, fun v hv => ?_, k.from (s2.trans (s3.trans s4))⟩
      obtain ⟨j, hj, rfl⟩ := List.mem_map.mp hv
      exact gO_le h1 (List.mem_range.mp hj)
end
end K38

namespace K38
open PySem L2
local macro_rules | `(tactic| walk_at "s") => `(tactic| first | (with_reducible refine i_seq ?_) | (with_reducible refine i_asg ?_) | (with_reducible refine i_ret ?_) | (with_reducible refine i_if ?_) | (with_reducible refine i_next ?_) | (with_reducible refine i_drop ?_) | ((with_reducible refine' i_var ?k1 ?_); (case k1 => exact rfl)) | (with_reducible refine i_tC ?_) | (with_reducible refine i_op ?_) | (with_reducible refine i_un ?_) | (with_reducible refine i_rI0 ?_) | (with_reducible refine i_rU ?_) | ((with_reducible refine' i_rEq ?k1 ?_); (case k1 => exact rfl)) | ((with_reducible refine' i_rNe ?k1 ?_); (case k1 => exact rfl)) | (with_reducible refine i_test ?_) | (with_reducible refine i_tB ?_) | (with_reducible refine i_bl ?_) | (with_reducible refine i_int ?_) | (with_reducible refine i_and ?_) | (with_reducible refine i_or ?_) | (with_reducible refine i_not ?_) | (with_reducible refine i_andV ?_) | (with_reducible refine i_orV ?_) | (with_reducible refine i_notV ?_) | (with_reducible refine i_isN ?_) | (with_reducible refine i_notN ?_) | (with_reducible refine i_ifE ?_) | (with_reducible refine i_name ?_) | (with_reducible refine i_cons ?_) | (with_reducible refine i_nil ?_) | (with_reducible refine i_cb ?_) | (with_reducible refine i_call ?_) | (with_reducible refine i_tup ?_) | (with_reducible refine i_lst ?_) | (with_reducible refine i_gsub ?_) | (with_reducible refine i_gcons ?_) | (with_reducible refine i_gnil ?_) | (with_reducible refine i_yes ?_) | (with_reducible refine i_slice ?_) | (with_reducible refine i_nopart ?_) | (with_reducible refine i_part ?_) | (with_reducible refine i_abs ?_) | ((with_reducible refine' i_ixL ?k1 ?k2 ?_); (case k1 => first | exact SqL.of (by assumption) | assumption | exact SqL.of upd_same); (case k2 => exact rfl)) | ((with_reducible refine' i_ixT ?k1 ?k2 ?_); (case k1 => first | exact SqT.of (by assumption) | assumption | exact SqT.of upd_same); (case k2 => exact rfl)) | ((with_reducible refine' i_setL ?k1 ?k2 ?_); (case k1 => first | assumption | exact upd_same); (case k2 => exact rfl)) | ((with_reducible refine' i_gtup ?k1 ?k2 ?_); (case k1 => first | exact SqT.of (by assumption) | assumption | exact SqT.of upd_same); (case k2 => exact rfl)) | ((with_reducible refine' i_len ?k1 ?_); (case k1 => first | exact SqL.of (by assumption) | assumption | exact SqL.of upd_same)) | ((with_reducible refine' i_lenT ?k1 ?_); (case k1 => first | exact SqT.of (by assumption) | assumption | exact SqT.of upd_same)) | ((with_reducible refine' i_list ?k1 ?_); (case k1 => first | exact SqL.of (by assumption) | assumption | exact SqL.of upd_same)) | ((with_reducible refine' i_slL ?k1 ?_); (case k1 => first | exact SqL.of (by assumption) | assumption | exact SqL.of upd_same)) | ((with_reducible refine' i_isi ?k1 ?k2 ?_); (case k1 => assumption); (case k2 => decide)) | ((with_reducible refine i_rI ?k1 ?_); (case k1 => first | (show (0 : Int) < _; decide) | (show CPow _ _; exact ⟨by decide, by decide, by decide⟩) | (show CDiv _ _; exact ⟨by decide, by decide⟩) | (show CMul _ _; exact .inr ⟨by decide, by decide⟩) | (show CMul _ _; exact .inl ⟨by decide, by decide⟩) | (show (0 : Int) < _; omega) | (show CDiv _ _; exact ⟨by omega, by omega⟩) | (show CMul _ _; exact .inr ⟨by omega, by omega⟩) | (show CMul _ _; exact .inl ⟨by omega, by omega⟩))) | (with_reducible refine i_comp ?_) | (with_reducible refine i_zip ?_) | (with_reducible refine i_itL ?_) | (with_reducible refine i_itT ?_) | (with_reducible refine i_rng1 ?_) | (with_reducible refine i_bm ?_) | (with_reducible refine i_for ?_) | (with_reducible refine i_min2 ?_) | (with_reducible refine i_max2 ?_) | (with_reducible refine i_rng2 ?_) | (with_reducible refine i_intB ?_) | (with_reducible refine i_rev ?_) | (with_reducible refine i_rngB ?_) | (with_reducible refine i_itS ?_) | (with_reducible refine i_inStr ?_) | (with_reducible refine i_find ?_) | (with_reducible refine i_itE ?_) | (with_reducible refine i_comp3 ?_) | (with_reducible refine i_bm0 ?_) | (with_reducible refine i_par ?_) | (with_reducible refine i_two ?_) | ((with_reducible refine' i_aug ?k1 ?_); (case k1 => exact rfl)) | (with_reducible refine i_ip ?_) | (with_reducible refine i_min3 ?_))
/-! ### all ways to take some of a list, in order -/
def comb : List Int → Nat → List (List Int)
  | _, 0 => [[]]
  | [], _ + 1 => []
  | a :: r, k + 1 => (comb r k).map (a :: ·) ++ comb r (k + 1)
theorem comb_zero (r : List Int) : comb r 0 = [[]] := by cases r <;> rfl
theorem comb_len : ∀ (r : List Int) (k : Nat), (comb r k).length = bin r.length k
  | r, 0 => by rw [comb_zero, bin_zero]; rfl
  | [], k + 1 => rfl
  | a :: r, k + 1 => by
    show (_ ++ _ : List _).length = _
    rw [List.length_append, List.length_map, comb_len r k, comb_len r (k + 1), List.length_cons, bin_succ]
/-! the way the law lists them: one more at the end each time -/
def lastOk (one : List Int) (x : Int) : Bool := match one.getLast? with
  | none => true
  | some l => decide (x > l)
def ext (row : List Int) (one : List Int) : List (List Int) := (row.filter (lastOk one)).map (one ++ [·])
theorem filt_nil (l : List Int) : l.filter (lastOk []) = l := List.filter_eq_self.mpr fun x _ => rfl
theorem lastOk_cons (a : Int) (o : List Int) (h : o ≠ []) (x : Int) : lastOk (a :: o) x = lastOk o x := by
  unfold lastOk
  rw [List.getLast?_cons_of_ne_nil h]
theorem comb_ne : ∀ {r : List Int} {k : Nat} {o : List Int}, o ∈ comb r (k + 1) → o ≠ []
  | [], _, _, h => by cases h
  | a :: r, k, o, h => by
    rcases List.mem_append.mp h with q | q
    · obtain ⟨x, _, rfl⟩ := List.mem_map.mp q
      exact List.cons_ne_nil _ _
    · exact comb_ne q
theorem comb_mem : ∀ {r : List Int} {k : Nat} {o : List Int}, o ∈ comb r k → ∀ x ∈ o, x ∈ r
  | r, 0, o, h, x, hx => by
    rw [comb_zero, List.mem_singleton] at h
    rw [h] at hx
    cases hx
  | [], _ + 1, _, h, _, _ => by cases h
  | a :: r, k + 1, o, h, x, hx => by
    rcases List.mem_append.mp h with q | q
    · obtain ⟨y, hy, rfl⟩ := List.mem_map.mp q
      rcases List.mem_cons.mp hx with z | z
      · rw [z]; exact List.mem_cons_self
      · exact List.mem_cons_of_mem _ (comb_mem hy x z)
    · exact List.mem_cons_of_mem _ (comb_mem q x hx)
theorem fm_congr {α β : Type} {f g : α → List β} : ∀ {l : List α}, (∀ x ∈ l, f x = g x) → l.flatMap f = l.flatMap g
  | [], _ => rfl
  | x :: r, h => by rw [List.flatMap_cons, List.flatMap_cons, h x List.mem_cons_self, fm_congr fun y hy => h y (List.mem_cons_of_mem _ hy)]
/-- each list a step longer -/
theorem comb_ext : ∀ (r : List Int) (k : Nat), r.Pairwise (· < ·) → comb r (k + 1) = (comb r k).flatMap (ext r)
  | [], 0, _ => rfl
  | [], k + 1, _ => rfl
  | a :: r, k, h => by
    obtain ⟨ha, hr⟩ := List.pairwise_cons.mp h
    show (comb r k).map (a :: ·) ++ comb r (k + 1) = _
    cases k with
    | zero =>
      rw [comb_zero, comb_zero]
      have e1 : ext (a :: r) [] = [a] :: r.map ([·]) := by
        unfold ext
        rw [filt_nil]
        rfl
      have e2 : comb r 1 = r.map ([·]) := by
        rw [comb_ext r 0 hr, comb_zero]
        show ext r [] ++ [] = _
        unfold ext
        rw [filt_nil, List.append_nil]
        rfl
      rw [e2]
      show [[a]] ++ r.map ([·]) = ext (a :: r) [] ++ []
      rw [e1, List.append_nil]
      rfl
    | succ k =>
      have ih1 := comb_ext r k hr
      have ih2 := comb_ext r (k + 1) hr
      show (comb r (k + 1)).map (a :: ·) ++ comb r (k + 1 + 1) = ((comb r k).map (a :: ·) ++ comb r (k + 1)).flatMap (ext (a :: r))
      rw [List.flatMap_append, List.flatMap_map]
      congr 1
      · rw [ih1, List.map_flatMap]
        refine fm_congr fun o ho => ?_
        unfold ext
        rw [List.filter_cons]
        have na : lastOk (a :: o) a = false := by
          cases o with
          | nil =>
            show decide (a > a) = false
            exact decide_eq_false (by omega)
          | cons y ys =>
            unfold lastOk
            rw [List.getLast?_eq_some_getLast (List.cons_ne_nil _ _)]
            have hm : (a :: y :: ys).getLast (List.cons_ne_nil _ _) ∈ r := by
              rw [List.getLast_cons (List.cons_ne_nil _ _)]
              exact comb_mem ho _ (List.getLast_mem _)
            have := ha _ hm
            exact decide_eq_false (by omega)
        rw [na, if_neg Bool.false_ne_true, List.map_map]
        cases o with
        | nil =>
          have : r.filter (lastOk [a]) = r.filter (lastOk []) := by
            rw [filt_nil]
            exact List.filter_eq_self.mpr fun x hx => decide_eq_true (ha x hx)
          rw [this]
          rfl
        | cons y ys =>
          have : r.filter (lastOk (a :: y :: ys)) = r.filter (lastOk (y :: ys)) := by
            rw [show lastOk (a :: y :: ys) = lastOk (y :: ys) from funext fun x => lastOk_cons a _ (List.cons_ne_nil _ _) x]
          rw [this]
          rfl
      · rw [ih2]
        refine fm_congr fun o ho => ?_
        have on := comb_ne ho
        unfold ext
        rw [List.filter_cons]
        have na : lastOk o a = false := by
          unfold lastOk
          rw [List.getLast?_eq_some_getLast on]
          have := ha _ (comb_mem ho _ (List.getLast_mem on))
          exact decide_eq_false (by omega)
        rw [na, if_neg Bool.false_ne_true]
theorem comb_nodup : ∀ {r : List Int} {k : Nat} {o : List Int}, r.Nodup → o ∈ comb r k → o.Nodup
  | r, 0, o, _, h => by
    rw [comb_zero, List.mem_singleton] at h
    rw [h]
    exact List.nodup_nil
  | [], _ + 1, _, _, h => by cases h
  | a :: r, k + 1, o, n, h => by
    obtain ⟨n1, n2⟩ := List.nodup_cons.mp n
    rcases List.mem_append.mp h with q | q
    · obtain ⟨y, hy, rfl⟩ := List.mem_map.mp q
      exact List.nodup_cons.mpr ⟨fun z => n1 (comb_mem hy a z), comb_nodup n2 hy⟩
    · exact comb_nodup n2 q
theorem comb_le {r : List Int} {k : Nat} {o : List Int} (n : r.Nodup) (h : o ∈ comb r k) : o.length ≤ r.length := nodup_le (comb_nodup n h) fun x hx => comb_mem h x hx
section
variable {P : Program} {w : World} {K : PySem.W.Frag} {mg : Str → Option Value} {base : Heap}
def BtAt (H : Hp) (bos : List Addr) (bss : List (List Int)) : Prop := bos.length = bss.length ∧ ∀ (i : Nat) b bs, bos[i]? = some b → bss[i]? = some bs → H b = some (.lst (bs.map V.int))
theorem BtAt.same {H H' : Hp} {bos : List Addr} {bss : List (List Int)} (s : Same H H') (h : BtAt H bos bss) : BtAt H' bos bss := ⟨h.1, fun i b bs e1 e2 => s _ _ (h.2 i b bs e1 e2)⟩
theorem BtAt.append {H : Hp} {ts us : List Addr} {r1 r2 : List (List Int)} (h : BtAt H ts r1) (h' : BtAt H us r2) : BtAt H (ts ++ us) (r1 ++ r2) := by
  refine ⟨by rw [List.length_append, List.length_append, h.1, h'.1], fun i t ys e1 e2 => ?_⟩
  rcases Nat.lt_or_ge i ts.length with q | q
  · rw [List.getElem?_append_left q] at e1
    rw [List.getElem?_append_left (by rw [← h.1]; exact q)] at e2
    exact h.2 i t ys e1 e2
  · rw [List.getElem?_append_right q] at e1
    rw [List.getElem?_append_right (by rw [← h.1]; exact q), ← h.1] at e2
    exact h'.2 _ t ys e1 e2
theorem BtAt.one {H : Hp} {t : Addr} {ys : List Int} (e : H t = some (.lst (ys.map V.int))) : BtAt H [t] [ys] := ⟨rfl, fun i t' p e1 e2 => by
  cases i with
  | zero => cases e1; cases e2; exact e
  | succ i => simp at e1⟩
theorem BtAt.nil {H : Hp} : BtAt H [] [] := ⟨rfl, fun i t p e => by simp at e⟩
theorem at_last {o : List Int} {l : Int} (h : o.getLast? = some l) : atI (o.map V.int) (-1) = some (.int l) := by
  obtain ⟨ys, rfl⟩ := List.getLast?_eq_some_iff.mp h
  rw [List.map_append]
  exact atI_last _ _
def spPicks : Sp := fun vs H Q _ => ∃ (p : Addr) (row : List Int) (few : Nat), vs = [.ref p, .int few] ∧ H p = some (.lst (row.map V.int)) ∧ row.Pairwise (· < ·) ∧ row.length ≤ 12 ∧ few ≤ 12 ∧ ∀ l H' (ts : List Addr), Same H H' → H' l = some (.lst (ts.map V.ref)) → BtAt H' ts (comb row few) → Q (.ref l) H'
theorem comb_few {row : List Int} (k : Nat) (h : row.length ≤ 12) : (comb row k).length ≤ 4096 := by
  rw [comb_len]
  exact Nat.le_trans (bin_le _ _) (show 2 ^ row.length ≤ 2 ^ 12 from Nat.pow_le_pow_right (by decide) h)
abbrev sLawPicks : Stmt := top 29
theorem scLawPicks : FnScope ["_law_row", "_law_few", "_law_found", "_law_k", "_law_more", "_law_one"] ["_law_row", "_law_few"] (defScope sLawPicks) := ⟨rfl, rfl, rfl, by decide +kernel, rfl, by decide +kernel, by decide +kernel⟩
theorem nd_115_36 : (["_law_thing", "_law_one"] : List Str).Nodup := by decide +kernel
theorem S_115_36 : CompScope ["_law_row", "_law_few", "_law_found", "_law_k", "_law_more", "_law_one"] (defScope sLawPicks) ({ kind := PySem.ScopeKind.function, names := [ (PySem.Str.ofString ".0", PySem.NameKind.local), (PySem.Str.ofString "_law_thing", PySem.NameKind.local), (PySem.Str.ofString "_law_one", PySem.NameKind.free)], isGenerator := false, isCoroutine := false, more := [] : PySem.Scope }) (["_law_thing"] : List Str) ([(5, "_law_one")] : List (Nat × Str)) := ⟨by decide +kernel, by decide +kernel, by decide +kernel, by decide +kernel, by decide +kernel⟩
theorem ok_picks {f : Addr} {fd : FuncData} (F : Fun K "_law_picks" "_law_picks" sLawPicks f fd) (T : BltM mg) : FnOk P w K mg base CX0 1 f fd ["_law_row", "_law_few"] spPicks := by
  refine F.ok scLawPicks (fun vs H Q E h => ?_) (fun cdv A outer s H vs Q E hr h => ?_)
  · obtain ⟨p, row, few, rfl, _⟩ := h
    rfl
  · obtain ⟨p, row, few, rfl, hp, ri, lr, lf, k⟩ := h
    refine ⟨_, (pss_cons (ps_set (i := 2) scLawPicks.nd rfl (Or.inl rfl) (pe_lst (pa_cons (pe_lst pa_nil) pa_nil)))
      (pss_cons (ps_for PassesOwn.never rfl (pi_range1 (by rfl) T.z_range (pa_cons (pv 1) pa_nil)) (pg_name (i := 3) scLawPicks.nd rfl (Or.inl rfl)) (pss_cons (ps_set (i := 4) scLawPicks.nd rfl (Or.inl rfl) (pe_lst pa_nil))
      (pss_cons (ps_for PassesOwn.never rfl (piL (K := K) rfl (pv 2)) (pg_name (i := 5) scLawPicks.nd rfl (Or.inr rfl)) (pss_one (ps_set (i := 4) scLawPicks.nd rfl (Or.inl rfl) (pe_op op_cat (pv 4) (pe_lcomp rfl S_115_36 (piL (K := K) rfl (pv 0)) (by intro _ _ _ _ _; exact (pg_name (i := 0) nd_115_36 rfl (Or.inl rfl))) (by intro _ _ _ _ _; exact (pts_one ((pw_or (pt_cmpR (op_eqI hr.units) (pv 1) (pe_lst pa_nil) (nomark _)) (pw_or1 (pt_cmpR op_gt (pv 0) (pe_ix (ixL (K := K) rfl) (pv 1) (pe_un un_neg pe_int) (fun _ _ => rfl)) (nomark _))))).pt)) (by intro _ _ _ _ _; exact (pe_op op_cat (pv 1) (pe_lst (pa_cons (pv 0) pa_nil)))))))))
      (pss_one (ps_set (i := 2) scLawPicks.nd rfl (Or.inl rfl) (pv 4))))))
      (pss_one (ps_ret (pv 2))))), ?_⟩
    repeat walk_at "s"
    refine ⟨Nat.zero_le _, fun e0 he0 => ?_⟩
    have s1 := same_upd (o := .lst []) he0
    have h1 : upd H e0 (.lst []) e0 = some (.lst (([] : List Int).map V.int)) := upd_same
    generalize upd H e0 (.lst []) = H1 at s1 h1 ⊢
    repeat walk_at "s"
    refine ⟨by show 1 ≤ sizeLine; decide, fun fl hfl => ?_⟩
    have s2' := same_upd (o := .lst [.ref e0]) hfl
    have h2 : upd H1 fl (.lst [.ref e0]) fl = some (.lst ([e0].map V.ref)) := upd_same
    generalize upd H1 fl (.lst [.ref e0]) = H2 at s2' h2 ⊢
    repeat walk_at "s"
    refine ⟨few, rfl, by omega, by omega, ?_⟩
    rw [Int.toNat_natCast]
    refine forW (fun i σ' H' => ∃ (fl : Addr) (ts : List Addr), (∃ x y z, σ' = [some (.ref p), some (.int few), some (.ref fl), x, y, z]) ∧ Same H H' ∧ H' fl = some (.lst (ts.map V.ref)) ∧ BtAt H' ts (comb row i)) few ⟨fl, [e0], ⟨none, none, none, rfl⟩, s1.trans s2', h2, by rw [comb_zero]; exact BtAt.one (s2' _ _ h1)⟩ ?_ ?_
    · rintro σ' H' ⟨fl, ts, ⟨x, y, z, rfl⟩, s3, h3, bt⟩
      refine ⟨Nat.le_refl _, ?_⟩
      repeat walk_at "s"
      exact k fl H' ts s3 h3 bt
    · rintro i σ' H3 hi ⟨fl, ts, ⟨x, y, z, rfl⟩, s3, h3, bt⟩
      refine ⟨hi, ?_⟩
      rintro x' G ⟨rfl, rfl⟩
      rw [Int.zero_add]
      repeat walk_at "s"
      refine ⟨Nat.zero_le _, fun m0 hm0 => ?_⟩
      have s4' := same_upd (o := .lst []) hm0
      have h4 : upd G m0 (.lst []) m0 = some (.lst (([] : List Addr).map V.ref)) := upd_same
      generalize upd G m0 (.lst []) = H4 at s4' h4 ⊢
      repeat walk_at "s"
      refine ⟨fl, rfl, ⟨_, SqL.of (s4' _ _ h3)⟩, ?_⟩
      refine forW (fun j σ' H' => ∃ (ml : Addr) (ms : List Addr), (∃ z, σ' = [some (.ref p), some (.int few), some (.ref fl), some (.int i), some (.ref ml), z]) ∧ Same G H' ∧ H' ml = some (.lst (ms.map V.ref)) ∧ BtAt H' ms (((comb row i).take j).flatMap (ext row))) (comb row i).length ⟨m0, [], ⟨_, rfl⟩, s4', h4, BtAt.nil⟩ ?_ ?_
      · rintro σ' H' ⟨ml, ms, ⟨z, rfl⟩, s5, h5, bm⟩
        refine ⟨⟨_, SqL.of (s5 _ _ h3), by rw [List.length_map, bt.1]; exact Nat.le_refl _⟩, ?_⟩
        rw [List.take_length, ← comb_ext row i ri] at bm
        repeat walk_at "s"
        exact ⟨ml, ms, ⟨_, _, _, rfl⟩, s3.trans s5, h5, bm⟩
      · rintro j σ' H5 hj ⟨ml, ms, ⟨z, rfl⟩, s5, h5, bm⟩
        have hj2 : j < ts.length := by rw [bt.1]; exact hj
        have e1 : ts[j]? = some ts[j] := List.getElem?_eq_getElem hj2
        have e2 : (comb row i)[j]? = some (comb row i)[j] := List.getElem?_eq_getElem hj
        have ho := s5 _ _ (bt.2 j _ _ e1 e2)
        refine ⟨⟨_, .ref ts[j], SqL.of (s5 _ _ h3), by rw [List.getElem?_map, e1]; rfl⟩, ?_⟩
        rintro x' G5 ⟨rfl, hy⟩
        have ex := hy _ (SqL.of (s5 _ _ h3))
        rw [List.getElem?_map, e1] at ex
        cases ex
        have et : (comb row i).take (j + 1) = (comb row i).take j ++ [(comb row i)[j]] := by rw [List.take_succ, e2]; rfl
        have omem := List.getElem_mem hj
        have lcr := comb_few i lr
        rw [et, List.flatMap_append]
        generalize (comb row i)[j] = o at ho omem
        have lo : o.length ≤ 12 := by
          have : ∀ {r : List Int} {k : Nat} {o : List Int}, o ∈ comb r k → o.length ≤ r.length := by
            intro r
            induction r with
            | nil =>
              intro k o h
              cases k with
              | zero => rw [comb_zero, List.mem_singleton] at h; rw [h]; exact Nat.zero_le _
              | succ k => cases h
            | cons a r ih =>
              intro k o h
              cases k with
              | zero => rw [comb_zero, List.mem_singleton] at h; rw [h]; exact Nat.zero_le _
              | succ k =>
                rcases List.mem_append.mp h with q | q
                · obtain ⟨y, hy, rfl⟩ := List.mem_map.mp q
                  have := ih hy
                  rw [List.length_cons, List.length_cons]
                  omega
                · have := ih q
                  rw [List.length_cons]
                  omega
          exact Nat.le_trans (this omem) lr
        have lbm : ms.length ≤ 4096 * 12 := by
          rw [bm.1]
          have : ∀ l : List (List Int), (l.flatMap (ext row)).length ≤ l.length * 12 := by
            intro l
            induction l with
            | nil => exact Nat.le_refl _
            | cons x r ih =>
              rw [List.flatMap_cons, List.length_append, List.length_cons]
              have e : (ext row x).length ≤ 12 := by
                unfold ext
                rw [List.length_map]
                exact Nat.le_trans (List.length_filter_le _ _) lr
              omega
          refine Nat.le_trans (this _) ?_
          rw [List.length_take]
          have : min j (comb row i).length ≤ 4096 := by omega
          omega
        repeat walk_at "s"
        refine ⟨p, rfl, ⟨_, SqL.of ((s3.trans s5) _ _ hp)⟩, ?_⟩
        refine compW (fun c ys σ' H' => (∃ x, σ' = [x, some (.ref ts[j])]) ∧ Same G5 H' ∧ ∃ us : List Addr, ys = us.map V.ref ∧ BtAt H' us (((row.take c).filter (lastOk o)).map (o ++ [·]))) row.length ⟨⟨none, rfl⟩, Same.refl _, [], rfl, BtAt.nil⟩ ?_ ?_
        · rintro ys σ' H6 ⟨_, s6, us, rfl, bu⟩
          rw [List.take_length] at bu
          refine ⟨⟨_, SqL.of (s6 _ _ ((s3.trans s5) _ _ hp)), by rw [List.length_map]; exact Nat.le_refl _⟩, fun D hD => ?_⟩
          have s7' := same_upd (o := .lst (us.map V.ref)) hD
          have h7 : upd H6 D (.lst (us.map V.ref)) D = some (.lst (us.map V.ref)) := upd_same
          generalize upd H6 D (.lst (us.map V.ref)) = H7 at s7' h7 ⊢
          have s7 := s6.trans s7'
          have lu : us.length ≤ 12 := by
            rw [bu.1, List.length_map]
            exact Nat.le_trans (List.length_filter_le _ _) lr
          refine i_cat (s7 _ _ h5) h7 (Nat.le_trans (show (ms.map V.ref).length + (us.map V.ref).length ≤ 60000 by rw [List.length_map, List.length_map]; omega) (by decide)) fun q8 hq8 => ?_
          rw [← List.map_append]
          have s8 := s7.trans (same_upd (o := .lst ((ms ++ us).map V.ref)) hq8)
          repeat walk_at "s"
          refine ⟨q8, ms ++ us, ⟨_, rfl⟩, s5.trans s8, upd_same, BtAt.append (bm.same s8) ?_⟩
          show BtAt _ us ([o].flatMap (ext row))
          rw [List.flatMap_cons, List.flatMap_nil, List.append_nil]
          exact bu.same (s7'.trans (same_upd hq8))
        · rintro c ys σ' H6 hc ⟨⟨x0, rfl⟩, s6, us, rfl, bu⟩
          have e3 : row[c]? = some row[c] := List.getElem?_eq_getElem hc
          have hp6 := s6 _ _ ((s3.trans s5) _ _ hp)
          have lu : us.length ≤ 12 := by
            rw [bu.1, List.length_map]
            exact Nat.le_trans (List.length_filter_le _ _) (by rw [List.length_take]; omega)
          refine ⟨⟨_, .int row[c], SqL.of hp6, by rw [List.getElem?_map, e3]; rfl⟩, lt_line (by rw [List.length_map]; omega), ?_⟩
          rintro x' G6 ⟨rfl, hy⟩
          have ex := hy _ (SqL.of hp6)
          rw [List.getElem?_map, e3] at ex
          cases ex
          have et2 : row.take (c + 1) = row.take c ++ [row[c]] := by rw [List.take_succ, e3]; rfl
          have fin : ∀ {H7 : Hp}, Same G6 H7 → ∀ b, lastOk o row[c] = b → (if b = true then tOp rCat (tVar 1) (tLst (tCons (tVar 0) tNil)) [some (.int row[c]), some (.ref ts[j])] H7 (fun y H8 => ∃ m', m' < row.length - c ∧ (c + 1 ≤ row.length ∧ m' = row.length - (c + 1) ∧ ((∃ x, [some (V.int row[c]), some (.ref ts[j])] = [x, some (.ref ts[j])]) ∧ Same G5 H8 ∧ ∃ us' : List Addr, us.map V.ref ++ [y] = us'.map V.ref ∧ BtAt H8 us' (((row.take (c + 1)).filter (lastOk o)).map (o ++ [·]))))) else ∃ m', m' < row.length - c ∧ (c + 1 ≤ row.length ∧ m' = row.length - (c + 1) ∧ ((∃ x, [some (V.int row[c]), some (.ref ts[j])] = [x, some (.ref ts[j])]) ∧ Same G5 H7 ∧ ∃ us' : List Addr, us.map V.ref = us'.map V.ref ∧ BtAt H7 us' (((row.take (c + 1)).filter (lastOk o)).map (o ++ [·]))))) := fun {H7} s7' b hb => by
            have s7 := s6.trans s7'
            cases b with
            | true =>
              refine iteT ?_
              repeat walk_at "s"
              refine ⟨by show 1 ≤ sizeLine; decide, fun q1 hq1 => ?_⟩
              have s8' := same_upd (o := .lst [.int row[c]]) hq1
              have h8 : upd H7 q1 (.lst [.int row[c]]) q1 = some (.lst (([row[c]] : List Int).map V.int)) := upd_same
              generalize upd H7 q1 (.lst [.int row[c]]) = H8 at s8' h8 ⊢
              refine i_cat ((s7.trans s8') _ _ ho) h8 (le_line (by rw [List.length_map, List.length_map]; show o.length + 1 ≤ _; omega)) fun q2 hq2 => ?_
              rw [← List.map_append]
              have s9' := same_upd (o := .lst ((o ++ [row[c]]).map V.int)) hq2
              refine nxt hc ⟨⟨_, rfl⟩, (s7.trans s8').trans s9', us ++ [q2], by rw [List.map_append]; rfl, ?_⟩
              have key : ((row.take (c + 1)).filter (lastOk o)).map (o ++ [·]) = ((row.take c).filter (lastOk o)).map (o ++ [·]) ++ [o ++ [row[c]]] := by
                rw [et2, List.filter_append, List.filter_cons, hb, if_pos rfl, List.map_append]
                rfl
              rw [key]
              exact BtAt.append (bu.same (s7'.trans (s8'.trans s9'))) (BtAt.one upd_same)
            | false =>
              refine iteF ?_
              refine nxt hc ⟨⟨_, rfl⟩, s7, us, rfl, ?_⟩
              rw [et2, List.filter_append, List.filter_cons, hb, if_neg Bool.false_ne_true, List.filter_nil, List.append_nil]
              exact bu.same s7'
          repeat walk_at "s"
          refine ⟨Nat.zero_le _, fun q1 hq1 => ?_⟩
          have s7' := same_upd (o := .lst []) hq1
          have h7 : upd G6 q1 (.lst []) q1 = some (.lst (([] : List Int).map V.int)) := upd_same
          generalize upd G6 q1 (.lst []) = H7 at s7' h7 ⊢
          have ho7 := s7' _ _ (s6 _ _ ho)
          refine i_eqI ho7 h7 ?_
          rw [if_neg Bool.false_ne_true]
          repeat walk_at "s"
          cases hg : o.getLast? with
          | none =>
            have on : o = [] := by
              cases o with
              | nil => rfl
              | cons a b => rw [List.getLast?_eq_some_getLast (List.cons_ne_nil _ _)] at hg; cases hg
            rw [decide_eq_true on]
            refine iteT ?_
            exact fin s7' true (by unfold lastOk; rw [hg])
          | some la =>
            have on : o ≠ [] := fun z => by rw [z] at hg; cases hg
            rw [decide_eq_false on]
            refine iteF ?_
            repeat walk_at "s"
            refine i_ixL (SqL.of ho7) (at_last hg) ?_
            repeat walk_at "s"
            exact fin s7' (decide (row[c] > la)) (by unfold lastOk; rw [hg])
abbrev sLawLow : Stmt := top 27
theorem scLawLow : FnScope ["_law_top", "_law_bottom", "_law_one", "_law_other"] ["_law_top", "_law_bottom"] (defScope sLawLow) := ⟨rfl, rfl, rfl, by decide +kernel, rfl, by decide +kernel, by decide +kernel⟩
theorem ok_law_low {f : Addr} {fd : FuncData} (F : Fun K "_law_low" "_law_low" sLawLow f fd) (T : BltM mg) : FnOk P w K mg base CX0 2 f fd ["_law_top", "_law_bottom"] spLow := by
  refine F.ok scLawLow (fun vs H Q E h => ?_) (fun cdv A outer s H vs Q E hr h => ?_)
  · obtain ⟨a, b, rfl, _⟩ := h
    rfl
  · obtain ⟨t, b, rfl, hb, hb2, k⟩ := h
    refine ⟨_, (pss_cons (ps_set (i := 2) scLawLow.nd rfl (Or.inl rfl) (pe_callB call_absR (by rfl) T.z_abs bb_abs (pa_cons (pv 0) pa_nil)))
      (pss_cons (ps_set (i := 3) scLawLow.nd rfl (Or.inl rfl) (pv 1))
      (pss_cons (ps_while PassesOwn.never (pt_cmpR op_gt (pv 3) pe_int (nomark _)) (pss_one (ps_par (i := 2) (j := 3) rfl scLawLow.nd rfl rfl (by decide) rfl rfl (pa_cons (pv 3) (pa_cons (pe_op op_mod (pv 2) (pv 3)) pa_nil)) (by rfl))))
      (pss_one (ps_ret (pe_tup (pa_cons (pe_op op_fdivB (pv 0) (pv 2)) (pa_cons (pe_op op_fdivB (pv 1) (pv 2)) pa_nil)))))))), ?_⟩
    have g1 : 0 < Nat.gcd t b := Nat.gcd_pos_of_pos_right _ hb
    have g2 : Nat.gcd t b ≤ b := Nat.gcd_le_right _ hb
    repeat walk_at "s"
    rw [absN]
    refine while_by (fun σ H' => ∃ m n : Nat, σ = [some (.int t), some (.int b), some (.int m), some (.int n)] ∧ H' = H ∧ Nat.gcd m n = Nat.gcd t b)
      (fun σ _ => match σ with | [_, _, _, some (.int y)] => y.toNat | _ => 0) ⟨t, b, rfl, rfl, rfl⟩ ?_ ?_
    · rintro σ H' ⟨m, n, rfl, rfl, e⟩
      repeat walk_at "s"
      refine ite2 (fun h => ?_) (fun h => ?_)
      · have hn : 0 < n := by
          have := of_decide_eq_true h
          omega
        repeat walk_at "s"
        refine ⟨⟨n, m % n, rfl, rfl, by rw [gcd_step]; exact e⟩, ?_⟩
        show ((m : Int) % (n : Int)).toNat < (n : Int).toNat
        have h1 : (m : Int) % (n : Int) < n := Int.emod_lt_of_pos _ (by omega)
        omega
      · have hn : n = 0 := by
          have : ¬ ((0 : Int) < n) := fun z => h (decide_eq_true z)
          omega
        subst hn
        rw [Nat.gcd_zero_right] at e
        subst e
        repeat walk_at "s"
        refine i_rI (cdivN g1 (Nat.lt_of_le_of_lt g2 hb2)) ?_
        repeat walk_at "s"
        refine i_rI (cdivN g1 (Nat.lt_of_le_of_lt g2 hb2)) ?_
        repeat walk_at "s"
        refine ⟨by show 2 ≤ sizeLine; decide, fun p hp => k p _ (same_upd hp) upd_same⟩
    · rintro σ H' Q1 Q2 hq ⟨v, e, i, j, e1, e2, c, e3, q⟩
      exact ⟨v, e, i, j, e1, e2, c, e3, hq _ _ q⟩
end
end K38

namespace K38
open PySem L2
local macro_rules | `(tactic| walk_at "s") => `(tactic| first | (with_reducible refine i_seq ?_) | (with_reducible refine i_asg ?_) | (with_reducible refine i_ret ?_) | (with_reducible refine i_if ?_) | (with_reducible refine i_next ?_) | (with_reducible refine i_drop ?_) | ((with_reducible refine' i_var ?k1 ?_); (case k1 => exact rfl)) | (with_reducible refine i_tC ?_) | (with_reducible refine i_op ?_) | (with_reducible refine i_un ?_) | (with_reducible refine i_rI0 ?_) | (with_reducible refine i_rU ?_) | ((with_reducible refine' i_rEq ?k1 ?_); (case k1 => exact rfl)) | ((with_reducible refine' i_rNe ?k1 ?_); (case k1 => exact rfl)) | (with_reducible refine i_test ?_) | (with_reducible refine i_tB ?_) | (with_reducible refine i_bl ?_) | (with_reducible refine i_int ?_) | (with_reducible refine i_and ?_) | (with_reducible refine i_or ?_) | (with_reducible refine i_not ?_) | (with_reducible refine i_andV ?_) | (with_reducible refine i_orV ?_) | (with_reducible refine i_notV ?_) | (with_reducible refine i_isN ?_) | (with_reducible refine i_notN ?_) | (with_reducible refine i_ifE ?_) | (with_reducible refine i_name ?_) | (with_reducible refine i_cons ?_) | (with_reducible refine i_nil ?_) | (with_reducible refine i_cb ?_) | (with_reducible refine i_call ?_) | (with_reducible refine i_tup ?_) | (with_reducible refine i_lst ?_) | (with_reducible refine i_gsub ?_) | (with_reducible refine i_gcons ?_) | (with_reducible refine i_gnil ?_) | (with_reducible refine i_yes ?_) | (with_reducible refine i_slice ?_) | (with_reducible refine i_nopart ?_) | (with_reducible refine i_part ?_) | (with_reducible refine i_abs ?_) | ((with_reducible refine' i_ixL ?k1 ?k2 ?_); (case k1 => first | exact SqL.of (by assumption) | assumption | exact SqL.of upd_same); (case k2 => exact rfl)) | ((with_reducible refine' i_ixT ?k1 ?k2 ?_); (case k1 => first | exact SqT.of (by assumption) | assumption | exact SqT.of upd_same); (case k2 => exact rfl)) | ((with_reducible refine' i_setL ?k1 ?k2 ?_); (case k1 => first | assumption | exact upd_same); (case k2 => exact rfl)) | ((with_reducible refine' i_gtup ?k1 ?k2 ?_); (case k1 => first | exact SqT.of (by assumption) | assumption | exact SqT.of upd_same); (case k2 => exact rfl)) | ((with_reducible refine' i_len ?k1 ?_); (case k1 => first | exact SqL.of (by assumption) | assumption | exact SqL.of upd_same)) | ((with_reducible refine' i_lenT ?k1 ?_); (case k1 => first | exact SqT.of (by assumption) | assumption | exact SqT.of upd_same)) | ((with_reducible refine' i_list ?k1 ?_); (case k1 => first | exact SqL.of (by assumption) | assumption | exact SqL.of upd_same)) | ((with_reducible refine' i_slL ?k1 ?_); (case k1 => first | exact SqL.of (by assumption) | assumption | exact SqL.of upd_same)) | ((with_reducible refine' i_isi ?k1 ?k2 ?_); (case k1 => assumption); (case k2 => decide)) | ((with_reducible refine i_rI ?k1 ?_); (case k1 => first | (show (0 : Int) < _; decide) | (show CPow _ _; exact ⟨by decide, by decide, by decide⟩) | (show CDiv _ _; exact ⟨by decide, by decide⟩) | (show CMul _ _; exact .inr ⟨by decide, by decide⟩) | (show CMul _ _; exact .inl ⟨by decide, by decide⟩) | (show (0 : Int) < _; omega) | (show CDiv _ _; exact ⟨by omega, by omega⟩) | (show CMul _ _; exact .inr ⟨by omega, by omega⟩) | (show CMul _ _; exact .inl ⟨by omega, by omega⟩))) | (with_reducible refine i_comp ?_) | (with_reducible refine i_zip ?_) | (with_reducible refine i_itL ?_) | (with_reducible refine i_itT ?_) | (with_reducible refine i_rng1 ?_) | (with_reducible refine i_bm ?_) | (with_reducible refine i_for ?_) | (with_reducible refine i_min2 ?_) | (with_reducible refine i_max2 ?_) | (with_reducible refine i_rng2 ?_) | (with_reducible refine i_intB ?_) | (with_reducible refine i_rev ?_) | (with_reducible refine i_rngB ?_) | (with_reducible refine i_itS ?_) | (with_reducible refine i_inStr ?_) | (with_reducible refine i_find ?_) | (with_reducible refine i_itE ?_) | (with_reducible refine i_comp3 ?_) | (with_reducible refine i_bm0 ?_))
section
variable {P : Program} {w : World} {K : PySem.W.Frag} {mg : Str → Option Value} {base : Heap}
theorem but_free {d c0 e : Addr} {H H' : Hp} (hD' : DrawC H' d c0) (b : But d H H') (he : H' e = none) : H e = none := by
  cases hh : H e with
  | none => rfl
  | some o =>
    by_cases z : e = d
    · subst z
      obtain ⟨⟨o', ho'⟩, _⟩ := hD'.is
      rw [he] at ho'
      cases ho'
    · have := b _ _ z hh
      rw [he] at this
      cases this
theorem ints_of {M : Int} : ∀ {ys : List V}, (∀ y ∈ ys, ∃ r : Int, y = .int r ∧ 1 ≤ r ∧ r ≤ M) → ∃ rs : List Int, ys = rs.map V.int ∧ rs.length = ys.length ∧ ∀ r ∈ rs, 1 ≤ r ∧ r ≤ M
  | [], _ => ⟨[], rfl, rfl, fun r h => by cases h⟩
  | y :: ys, h => by
    obtain ⟨r, e, hr⟩ := h y List.mem_cons_self
    obtain ⟨rs, e2, l, hm⟩ := ints_of (ys := ys) fun z hz => h z (List.mem_cons_of_mem _ hz)
    refine ⟨r :: rs, by rw [e, e2]; rfl, by simp [l], fun z hz => ?_⟩
    rcases List.mem_cons.mp hz with rfl | hz
    · exact hr
    · exact hm z hz
theorem nn_sum : ∀ {bs : List Int}, (∀ v ∈ bs, 1 ≤ v) → 0 ≤ bs.sum
  | [], _ => Int.le_refl _
  | v :: bs, h => by
    have h1 := h v List.mem_cons_self
    have h2 := nn_sum (bs := bs) fun u hu => h u (List.mem_cons_of_mem _ hu)
    rw [List.sum_cons]
    omega
def spSizes : Sp := fun vs H Q _ => ∃ (d c0 : Addr) (most big : Int), vs = [.ref d, .int most, .int big] ∧ DrawC H d c0 ∧ 1 ≤ most ∧ most ≤ 20 ∧ 1 ≤ big ∧ big ≤ 100 ∧
  ∀ l H' (ns : List Int), DrawC H' d c0 → But d H H' → H l = none → H' l = some (.lst (ns.map V.int)) → 1 ≤ ns.length → (ns.length : Int) ≤ most → (∀ v ∈ ns, 1 ≤ v ∧ v ≤ big) → Q (.ref l) H'
abbrev sLawSizes : Stmt := top 30
theorem scLawSizes : FnScope ["_law_draw", "_law_most", "_law_big"] ["_law_draw", "_law_most", "_law_big"] (defScope sLawSizes) := ⟨rfl, rfl, rfl, by decide +kernel, rfl, by decide +kernel, by decide +kernel⟩
theorem nd_119_11 : (["_law_k", "_law_draw", "_law_big"] : List Str).Nodup := by decide +kernel
theorem S_119_11 : CompScope ["_law_draw", "_law_most", "_law_big"] (defScope sLawSizes) ({ kind := PySem.ScopeKind.function, names := [ (PySem.Str.ofString ".0", PySem.NameKind.local), (PySem.Str.ofString "_law_k", PySem.NameKind.local), (PySem.Str.ofString "_law_take", PySem.NameKind.globalImplicit), (PySem.Str.ofString "_law_big", PySem.NameKind.free), (PySem.Str.ofString "_law_draw", PySem.NameKind.free)], isGenerator := false, isCoroutine := false, more := [] : PySem.Scope }) (["_law_k"] : List Str) ([(0, "_law_draw"), (2, "_law_big")] : List (Nat × Str)) := ⟨by decide +kernel, by decide +kernel, by decide +kernel, by decide +kernel, by decide +kernel⟩
theorem ok_sizes {f : Addr} {fd : FuncData} (F : Fun K "_law_sizes" "_law_sizes" sLawSizes f fd) (T : BltM mg) (c_law_take : Cal P w K mg base "_law_take" 1 ["_law_draw", "_law_many"] spTakeC) : FnOk P w K mg base CX0 2 f fd ["_law_draw", "_law_most", "_law_big"] spSizes := by
  refine F.ok scLawSizes (fun vs H Q E h => ?_) (fun cdv A outer s H vs Q E hr h => ?_)
  · obtain ⟨d, c0, most, big, rfl, _⟩ := h
    rfl
  · obtain ⟨d, c0, most, big, rfl, hD, m1, m2, b1, b2, k⟩ := h
    refine ⟨_, (pss_one (ps_ret (pe_lcomp rfl S_119_11 (pi_range1 (by rfl) T.z_range (pa_cons (pe_op op_add pe_int (pe_callC c_law_take (hr.mono (by omega)) (by rfl) (pa_cons (pv 0) (pa_cons (pv 1) pa_nil)))) pa_nil)) (by intro _ _ _ _ _; exact (pg_name (i := 0) nd_119_11 rfl (Or.inl rfl))) (by intro _ _ _ _ _; exact pts_nil) (by intro _ _ _ _ _; exact (pe_op op_add pe_int (pe_callC c_law_take (hr.mono (by omega)) (by rfl) (pa_cons (pv 1) (pa_cons (pv 2) pa_nil)))))))), ?_⟩
    repeat walk_at "s"
    refine ⟨d, c0, most, rfl, hD, by omega, small_int (by omega) (by omega), fun n H1 n0 n1 hD1 but1 => ?_⟩
    repeat walk_at "s"
    refine ⟨_, rfl, by omega, by omega, ?_⟩
    refine coll (Rl := fun H' => DrawC H' d c0 ∧ But d H H') (Pv := fun v _ => ∃ r : Int, v = .int r ∧ 1 ≤ r ∧ r ≤ big) (1 + n).toNat (by omega) ⟨hD1, but1⟩ (fun H' _ => Nat.le_refl _) (fun j H' hj _ => hj) ?_ ?_
    · rintro j x' H' G R hj ⟨hDj, bj⟩ ⟨rfl, rfl⟩ q'
      repeat walk_at "s"
      refine ⟨d, c0, big, rfl, hDj, by omega, small_int (by omega) (by omega), fun r H3 r0 r1 hD3 b3 => ?_⟩
      repeat walk_at "s"
      exact q' _ _ ⟨hD3, bj.trans b3⟩ (fun y h => h) ⟨_, rfl, by omega, by omega⟩
    · rintro ys H3 ⟨hD3, b3⟩ ly pv D hD'
      obtain ⟨rs, rfl, lr, hrs⟩ := ints_of pv
      have s4 := same_upd (o := .lst (rs.map V.int)) hD'
      exact k D _ rs (hD3.same s4) (b3.trans (s4.but (d := d))) (but_free hD3 b3 hD') upd_same (by omega) (by omega) hrs
def spBehind : Sp := fun vs H Q _ => ∃ (d c0 p : Addr) (as : List Int) (big : Int), vs = [.ref d, .ref p, .int big] ∧ DrawC H d c0 ∧ H p = some (.lst (as.map V.int)) ∧ 1 ≤ as.sum ∧ as.sum ≤ 1000 ∧ 1 ≤ big ∧ big ≤ 100 ∧
  ∀ l H' (ns : List Int), DrawC H' d c0 → But d H H' → H l = none → H' l = some (.lst (ns.map V.int)) → 1 ≤ ns.length → ns.length ≤ 8 → ns.sum ≤ as.sum → (∀ v ∈ ns, 1 ≤ v ∧ v ≤ big) → Q (.ref l) H'
abbrev sLawBehind : Stmt := top 31
theorem scLawBehind : FnScope ["_law_draw", "_law_ahead", "_law_big", "_law_left", "_law_found", "_law_k"] ["_law_draw", "_law_ahead", "_law_big"] (defScope sLawBehind) := ⟨rfl, rfl, rfl, by decide +kernel, rfl, by decide +kernel, by decide +kernel⟩
theorem ok_behind {f : Addr} {fd : FuncData} (F : Fun K "_law_behind" "_law_behind" sLawBehind f fd) (T : BltM mg) (c_law_take : Cal P w K mg base "_law_take" 1 ["_law_draw", "_law_many"] spTakeC) : FnOk P w K mg base CX0 2 f fd ["_law_draw", "_law_ahead", "_law_big"] spBehind := by
  refine F.ok scLawBehind (fun vs H Q E h => ?_) (fun cdv A outer s H vs Q E hr h => ?_)
  · obtain ⟨d, c0, p, as, big, rfl, _⟩ := h
    rfl
  · obtain ⟨d, c0, p, as, big, rfl, hD, hp, s1, s2, b1, b2, k⟩ := h
    refine ⟨_, (pss_cons (ps_set (i := 3) scLawBehind.nd rfl (Or.inl rfl) (pe_callB (cSum (K := K) rfl rfl) (by rfl) T.z_sum bb_sum (pa_cons (pv 1) pa_nil)))
      (pss_cons (ps_set (i := 4) scLawBehind.nd rfl (Or.inl rfl) (pe_lst pa_nil))
      (pss_cons (ps_for PassesOwn.never rfl (pi_range1 (by rfl) T.z_range (pa_cons (pe_op op_add pe_int (pe_callC c_law_take (hr.mono (by omega)) (by rfl) (pa_cons (pv 0) (pa_cons pe_int pa_nil)))) pa_nil)) (pg_name (i := 5) scLawBehind.nd rfl (Or.inl rfl)) (pss_one (ps_if (pt_cmpR op_gt (pv 3) pe_int (nomark _)) (pss_cons (ps_expr (mApp (K := K) rfl (pv 4) (pa_cons (pe_op op_add pe_int (pe_callC c_law_take (hr.mono (by omega)) (by rfl) (pa_cons (pv 0) (pa_cons (pe_callB (cMin2 rfl) (by rfl) T.z_min bb_min (pa_cons (pv 3) (pa_cons (pv 2) pa_nil))) pa_nil)))) pa_nil)))
      (pss_one (ps_set (i := 3) scLawBehind.nd rfl (Or.inl rfl) (pe_op op_sub (pv 3) (pe_ix (ixL (K := K) rfl) (pv 4) (pe_un un_neg pe_int) (fun _ _ => rfl)))))) pss_nil)))
      (pss_one (ps_ret (pv 4)))))), ?_⟩
    repeat walk_at "s"
    refine i_sum (SqL.of hp) ?_
    repeat walk_at "s"
    refine ⟨Nat.zero_le _, fun c hc => ?_⟩
    have s0 := same_upd (o := .lst []) hc
    have hc1 : upd H c (.lst []) c = some (.lst (([] : List Int).map V.int)) := upd_same
    generalize upd H c (.lst []) = H1 at s0 hc1 ⊢
    have hD1 := hD.same s0
    obtain ⟨⟨o, ho⟩, ⟨o', ho'⟩⟩ := hD.is
    have ncd : c ≠ d := Ne.symm (ne_of_none ho hc)
    have nc0 : c ≠ c0 := Ne.symm (ne_of_none ho' hc)
    repeat walk_at "s"
    refine ⟨d, c0, 8, rfl, hD1, by decide, by decide, fun n H2 n0 n1 hD2 but2 => ?_⟩
    repeat walk_at "s"
    refine ⟨_, rfl, by omega, by omega, ?_⟩
    refine forW (fun i σ' H' => (∃ (left : Int) (bs : List Int) (x : Option V), σ' = [some (.ref d), some (.ref p), some (.int big), some (.int left), some (.ref c), x] ∧ (left = as.sum - bs.sum ∧ 0 ≤ left ∧ ∀ v ∈ bs, 1 ≤ v ∧ v ≤ big) ∧ H' c = some (.lst (bs.map V.int)) ∧ bs.length ≤ i ∧ (1 ≤ i → 1 ≤ bs.length) ∧ (i = 0 → 1 ≤ left)) ∧ DrawC H' d c0 ∧ But d H H') (1 + n).toNat
      ⟨⟨as.sum, [], none, rfl, ⟨by show as.sum = as.sum - 0; omega, by omega, fun v h => by cases h⟩, but2 _ _ ncd hc1, Nat.le_refl _, fun h => by omega, fun _ => s1⟩, hD2, (s0.but (d := d)).trans but2⟩ ?_ ?_
    · rintro σ' H' ⟨⟨left, bs, x, rfl, l1, hb, lb, lb1, _⟩, hD', b'⟩
      have l1' := l1.1
      refine ⟨Nat.le_refl _, ?_⟩
      repeat walk_at "s"
      exact k c H' bs hD' b' hc hb (lb1 (by omega)) (by omega) (by omega) l1.2.2
    · rintro i σ' H' hi ⟨⟨left, bs, x, rfl, l1, hb, lb, lb1, i0⟩, hD', b'⟩
      have sb := nn_sum fun v hv => (l1.2.2 v hv).1
      have l1' := l1.1
      refine ⟨hi, ?_⟩
      rintro x' G ⟨rfl, rfl⟩
      repeat walk_at "s"
      refine ite2 (fun h0 => ?_) (fun h0 => ?_)
      · have hl : 0 < left := by simpa using h0
        repeat walk_at "s"
        refine ⟨.inl ⟨rfl, _, SqL.of hb⟩, ?_⟩
        repeat walk_at "s"
        refine ⟨d, c0, _, rfl, hD', by split <;> omega, small_int (by split <;> omega) (by split <;> omega), fun r H3 r0 r1 hD3 b3 => ?_⟩
        repeat walk_at "s"
        have hb3 := b3 _ _ ncd hb
        refine i_app hb3 (lt_line (by rw [List.length_map]; omega)) ?_
        have hD4 := hD3.put (o := .lst (bs.map V.int ++ [.int (1 + r)])) ncd nc0
        have b4 := but_new (o := .lst (bs.map V.int ++ [.int (1 + r)])) hc (b'.trans b3)
        have h4 : upd H3 c (.lst (bs.map V.int ++ [.int (1 + r)])) c = some (.lst ((bs ++ [1 + r]).map V.int)) := by rw [List.map_append]; exact upd_same
        generalize upd H3 c (.lst (bs.map V.int ++ [.int (1 + r)])) = H4 at hD4 b4 h4 ⊢
        repeat walk_at "s"
        refine i_ixL (SqL.of h4) (v := .int (1 + r)) (by rw [List.map_append]; exact atI_last _ _) ?_
        repeat walk_at "s"
        have rb : r < left ∧ r < big := by split at r1 <;> omega
        have lt' : left - (1 + r) = as.sum - (bs ++ [1 + r]).sum := by
          rw [List.sum_append, List.sum_cons, List.sum_nil]
          omega
        have mem' : ∀ v ∈ bs ++ [1 + r], 1 ≤ v ∧ v ≤ big := by
          intro v hv
          rcases List.mem_append.mp hv with h | h
          · exact l1.2.2 v h
          · rw [List.mem_singleton] at h
            omega
        exact ⟨⟨_, bs ++ [1 + r], _, rfl, ⟨lt', by omega, mem'⟩, h4, by rw [List.length_append]; show _ + 1 ≤ _; omega, fun _ => by rw [List.length_append]; show 1 ≤ _ + 1; omega, fun h => by omega⟩, hD4, b4⟩
      · have hl : ¬ 0 < left := by simpa using h0
        repeat walk_at "s"
        exact ⟨⟨_, bs, _, rfl, l1, hb, by omega, fun _ => lb1 (by
          rcases Nat.eq_zero_or_pos i with z | z
          · have := i0 z; omega
          · exact z), fun h => by omega⟩, hD', b'⟩
end
end K38

namespace K38
open PySem L2
/-! ### counting dealings -/
section
variable (B : Int → Bool)
def gd (p : List Int) : Nat := (p.filter B).length
def nB (r : List Int) : Nat := (r.filter B).length
def nO (r : List Int) : Nat := (r.filter fun x => !B x).length
theorem nB_yes {a : Int} {r : List Int} (h : B a = true) : nB B (a :: r) = nB B r + 1 ∧ nO B (a :: r) = nO B r := by
  unfold nB nO
  rw [List.filter_cons_of_pos h, List.filter_cons_of_neg (by simp [h])]
  exact ⟨rfl, rfl⟩
theorem nB_no {a : Int} {r : List Int} (h : B a = false) : nB B (a :: r) = nB B r ∧ nO B (a :: r) = nO B r + 1 := by
  unfold nB nO
  rw [List.filter_cons_of_neg (by simp [h]), List.filter_cons_of_pos (by simp [h])]
  exact ⟨rfl, rfl⟩
theorem nB_add : ∀ r : List Int, nB B r + nO B r = r.length
  | [] => rfl
  | a :: r => by
    have ih := nB_add r
    rw [List.length_cons]
    cases h : B a with
    | true => have := nB_yes B (r := r) h; omega
    | false => have := nB_no B (r := r) h; omega
/-- how many takings of k have t or more of the boat -/
def cG (r : List Int) (k : Nat) (t : Int) : Nat := ((comb r k).filter fun p => decide (t ≤ (gd B p : Int))).length
def wt (a : Int) : Int := if B a then 1 else 0
theorem gd_cons (a : Int) (p : List Int) : (gd B (a :: p) : Int) = wt B a + gd B p := by
  unfold gd wt
  cases h : B a with
  | true => rw [List.filter_cons_of_pos h, List.length_cons]; simp; omega
  | false => rw [List.filter_cons_of_neg (by simp [h])]; simp
theorem cG_zero (r : List Int) (t : Int) : cG B r 0 t = if t ≤ 0 then 1 else 0 := by
  unfold cG
  rw [comb_zero]
  by_cases h : t ≤ 0
  · rw [if_pos h, List.filter_cons_of_pos (by exact decide_eq_true h)]
    rfl
  · rw [if_neg h, List.filter_cons_of_neg (by intro z; exact h (of_decide_eq_true z))]
    rfl
theorem cG_cons (a : Int) (r : List Int) (k : Nat) (t : Int) : cG B (a :: r) (k + 1) t = cG B r k (t - wt B a) + cG B r (k + 1) t := by
  unfold cG
  show (((comb r k).map (a :: ·) ++ comb r (k + 1)).filter _).length = _
  rw [List.filter_append, List.length_append, List.filter_map, List.length_map]
  congr 2
  refine List.filter_congr fun p _ => ?_
  show decide (t ≤ (gd B (a :: p) : Int)) = decide (t - wt B a ≤ (gd B p : Int))
  rw [gd_cons]
  exact decide_eq_decide.mpr (by omega)
theorem cb_00 : ∀ (s r : Nat) (t : Int), cb s r 0 t = if t ≤ 0 then 1 else 0
  | 0, r, t => by show (if t ≤ 0 then bin r 0 else 0) = _; rw [bin_zero]
  | s + 1, r, t => by rw [cb_s0, cb_00 s r t]
theorem cG_cb : ∀ (r : List Int) (k : Nat) (t : Int), cG B r k t = cb (nB B r) (nO B r) k t
  | r, 0, t => by rw [cG_zero, cb_00]
  | [], k + 1, t => by
    show 0 = (if t ≤ 0 then bin 0 (k + 1) else 0)
    split <;> rfl
  | a :: r, k + 1, t => by
    rw [cG_cons, cG_cb r k, cG_cb r (k + 1)]
    unfold wt
    cases h : B a with
    | true =>
      obtain ⟨e1, e2⟩ := nB_yes B (r := r) h
      rw [e1, e2, cb_s]
      rfl
    | false =>
      obtain ⟨e1, e2⟩ := nB_no B (r := r) h
      rw [e1, e2, cb_r]
      show cb _ _ k (t - 0) + _ = _
      rw [Int.sub_zero]
/-- what is left -/
def rst (r p : List Int) : List Int := r.filter fun x => !decide (x ∈ p)
theorem rst_cons {a : Int} {r q : List Int} (h : a ∉ r) : rst (a :: r) (a :: q) = rst r q := by
  unfold rst
  rw [List.filter_cons_of_neg (by simp)]
  refine List.filter_congr fun x hx => ?_
  have : x ≠ a := fun z => h (z ▸ hx)
  simp [this]
theorem rst_skip {a : Int} {r q : List Int} (h : a ∉ q) : rst (a :: r) q = a :: rst r q := by
  unfold rst
  rw [List.filter_cons_of_pos (by simp [h])]
def P2 (r : List Int) (k1 k2 : Nat) (t : Int) : Nat := ((comb r k1).map fun p => cG B (rst r p) k2 t).sum
theorem sum_app (a b : List Nat) : (a ++ b).sum = a.sum + b.sum := List.sum_append
theorem sum_two {α : Type} (f g : α → Nat) (l : List α) : (l.map fun x => f x + g x).sum = (l.map f).sum + (l.map g).sum := by
  induction l with
  | nil => rfl
  | cons a r ih => rw [List.map_cons, List.sum_cons, ih, List.map_cons, List.sum_cons, List.map_cons, List.sum_cons]; omega
theorem sum_all {α : Type} (c : Nat) (l : List α) : (l.map fun _ => c).sum = l.length * c := by
  induction l with
  | nil => rw [List.map_nil, List.sum_nil, List.length_nil, Nat.zero_mul]
  | cons a r ih => rw [List.map_cons, List.sum_cons, ih, List.length_cons, Nat.succ_mul]; omega
theorem rst_nil (r : List Int) : rst r [] = r := List.filter_eq_self.mpr fun x _ => rfl
theorem P2_val : ∀ (r : List Int) (k1 k2 : Nat) (t : Int), r.Nodup → P2 B r k1 k2 t = bin (r.length - k2) k1 * cb (nB B r) (nO B r) k2 t
  | r, 0, k2, t, _ => by
    unfold P2
    rw [comb_zero, bin_zero, Nat.one_mul, List.map_cons, List.map_nil, List.sum_cons, List.sum_nil, rst_nil, cG_cb]
    rfl
  | r, k1 + 1, 0, t, _ => by
    unfold P2
    have e : (fun p => cG B (rst r p) 0 t) = fun _ => if t ≤ 0 then 1 else 0 := funext fun p => cG_zero B _ t
    rw [e, sum_all, comb_len, cb_00, Nat.sub_zero]
  | [], k1 + 1, k2 + 1, t, _ => by
    show 0 = bin (0 - (k2 + 1)) (k1 + 1) * _
    rw [Nat.zero_sub]
    show 0 = 0 * _
    rw [Nat.zero_mul]
  | a :: r, k1 + 1, k2 + 1, t, nd => by
    obtain ⟨n1, n2⟩ := List.nodup_cons.mp nd
    have i1 := P2_val r k1 (k2 + 1) t n2
    have i2 := P2_val r (k1 + 1) k2 (t - wt B a) n2
    have i3 := P2_val r (k1 + 1) (k2 + 1) t n2
    have e : P2 B (a :: r) (k1 + 1) (k2 + 1) t = P2 B r k1 (k2 + 1) t + (P2 B r (k1 + 1) k2 (t - wt B a) + P2 B r (k1 + 1) (k2 + 1) t) := by
      unfold P2
      show (((comb r k1).map (a :: ·) ++ comb r (k1 + 1)).map _).sum = _
      rw [List.map_append, sum_app, List.map_map]
      congr 1
      · congr 1
        refine List.map_congr_left fun q hq => ?_
        show cG B (rst (a :: r) (a :: q)) (k2 + 1) t = _
        rw [rst_cons n1]
      · rw [← sum_two]
        congr 1
        refine List.map_congr_left fun q hq => ?_
        show cG B (rst (a :: r) q) (k2 + 1) t = _
        rw [rst_skip fun z => n1 (comb_mem hq a z), cG_cons]
    rw [e, i1, i2, i3]
    have hcb : cb (nB B (a :: r)) (nO B (a :: r)) (k2 + 1) t = cb (nB B r) (nO B r) k2 (t - wt B a) + cb (nB B r) (nO B r) (k2 + 1) t := by
      rw [← cG_cb, cG_cons, cG_cb, cG_cb]
    rw [hcb, List.length_cons, show r.length + 1 - (k2 + 1) = r.length - k2 by omega, Nat.mul_add]
    rcases Nat.lt_or_ge k2 r.length with q | q
    · rw [show r.length - k2 = r.length - (k2 + 1) + 1 by omega, bin_succ, Nat.add_mul, Nat.add_mul]
      omega
    · have z : cb (nB B r) (nO B r) (k2 + 1) t = 0 := by
        have := cb_le (nB B r) (nO B r) (k2 + 1) t
        rw [nB_add, bin_none r.length (k2 + 1) (by omega)] at this
        omega
      rw [z, Nat.mul_zero, Nat.mul_zero, Nat.mul_zero]
      omega
theorem cb_all : ∀ (s r k : Nat) (t : Int), t ≤ 0 → cb s r k t = bin (s + r) k
  | 0, r, k, t, h => by show (if t ≤ 0 then bin r k else 0) = _; rw [if_pos h, Nat.zero_add]
  | s + 1, r, 0, t, h => by rw [cb_s0, cb_all s r 0 t h, bin_zero, bin_zero]
  | s + 1, r, k + 1, t, h => by rw [cb_s, cb_all s r k (t - 1) (by omega), cb_all s r (k + 1) t h, show s + 1 + r = s + r + 1 by omega, bin_succ]
end
theorem rst_len {r p : List Int} (hr : r.Nodup) (hp : p.Nodup) (hm : ∀ x ∈ p, x ∈ r) : (rst r p).length = r.length - p.length := by
  have h1 : (rst r p).length + (r.filter fun x => decide (x ∈ p)).length = r.length := by
    have := nB_add (fun x => decide (x ∈ p)) r
    unfold nB nO at this
    have e : (rst r p).length = (r.filter fun x => !(fun x => decide (x ∈ p)) x).length := rfl
    omega
  have h2 : (r.filter fun x => decide (x ∈ p)).length = p.length := nodup_len (hr.filter _) hp fun x => by
    rw [List.mem_filter, decide_eq_true_iff]
    exact ⟨fun h => h.2, fun h => ⟨hm x h, h⟩⟩
  omega
theorem comb_size : ∀ {r : List Int} {k : Nat} {o : List Int}, o ∈ comb r k → o.length = k
  | r, 0, o, h => by
    rw [comb_zero, List.mem_singleton] at h
    rw [h]
    rfl
  | [], _ + 1, _, h => by cases h
  | a :: r, k + 1, o, h => by
    rcases List.mem_append.mp h with q | q
    · obtain ⟨y, hy, rfl⟩ := List.mem_map.mp q
      rw [List.length_cons, comb_size hy]
    · exact comb_size q
/-- the two ways about -/
theorem bin_tri {N m1 m2 : Nat} : bin N m1 * bin (N - m1) m2 = bin (N - m2) m1 * bin N m2 := by
  obtain ⟨r, hr, hl⟩ : ∃ r : List Int, r.Nodup ∧ r.length = N := ⟨(List.range N).map Int.ofNat, by
    refine List.Pairwise.map _ (fun a b h z => h (Int.ofNat.inj z)) List.nodup_range, by simp⟩
  have v := P2_val (fun _ => false) r m1 m2 0 hr
  rw [cb_all _ _ _ _ (Int.le_refl _), nB_add, hl] at v
  rw [← v]
  unfold P2
  have e : ∀ p ∈ comb r m1, cG (fun _ => false) (rst r p) m2 0 = bin (N - m1) m2 := by
    intro p hp
    rw [cG_cb, cb_all _ _ _ _ (Int.le_refl _), nB_add, rst_len hr (comb_nodup hr hp) (comb_mem hp), hl, comb_size hp]
  rw [List.map_congr_left e, sum_all, comb_len, hl]
end K38

namespace K38
open PySem L2
local macro_rules | `(tactic| walk_at "s") => `(tactic| first | (with_reducible refine i_seq ?_) | (with_reducible refine i_asg ?_) | (with_reducible refine i_ret ?_) | (with_reducible refine i_if ?_) | (with_reducible refine i_next ?_) | (with_reducible refine i_drop ?_) | ((with_reducible refine' i_var ?k1 ?_); (case k1 => exact rfl)) | (with_reducible refine i_tC ?_) | (with_reducible refine i_op ?_) | (with_reducible refine i_un ?_) | (with_reducible refine i_rI0 ?_) | (with_reducible refine i_rU ?_) | ((with_reducible refine' i_rEq ?k1 ?_); (case k1 => exact rfl)) | ((with_reducible refine' i_rNe ?k1 ?_); (case k1 => exact rfl)) | (with_reducible refine i_test ?_) | (with_reducible refine i_tB ?_) | (with_reducible refine i_bl ?_) | (with_reducible refine i_int ?_) | (with_reducible refine i_and ?_) | (with_reducible refine i_or ?_) | (with_reducible refine i_not ?_) | (with_reducible refine i_andV ?_) | (with_reducible refine i_orV ?_) | (with_reducible refine i_notV ?_) | (with_reducible refine i_isN ?_) | (with_reducible refine i_notN ?_) | (with_reducible refine i_ifE ?_) | (with_reducible refine i_name ?_) | (with_reducible refine i_cons ?_) | (with_reducible refine i_nil ?_) | (with_reducible refine i_cb ?_) | (with_reducible refine i_call ?_) | (with_reducible refine i_tup ?_) | (with_reducible refine i_lst ?_) | (with_reducible refine i_gsub ?_) | (with_reducible refine i_gcons ?_) | (with_reducible refine i_gnil ?_) | (with_reducible refine i_yes ?_) | (with_reducible refine i_slice ?_) | (with_reducible refine i_nopart ?_) | (with_reducible refine i_part ?_) | (with_reducible refine i_abs ?_) | ((with_reducible refine' i_ixL ?k1 ?k2 ?_); (case k1 => first | exact SqL.of (by assumption) | assumption | exact SqL.of upd_same); (case k2 => exact rfl)) | ((with_reducible refine' i_ixT ?k1 ?k2 ?_); (case k1 => first | exact SqT.of (by assumption) | assumption | exact SqT.of upd_same); (case k2 => exact rfl)) | ((with_reducible refine' i_setL ?k1 ?k2 ?_); (case k1 => first | assumption | exact upd_same); (case k2 => exact rfl)) | ((with_reducible refine' i_gtup ?k1 ?k2 ?_); (case k1 => first | exact SqT.of (by assumption) | assumption | exact SqT.of upd_same); (case k2 => exact rfl)) | ((with_reducible refine' i_len ?k1 ?_); (case k1 => first | exact SqL.of (by assumption) | assumption | exact SqL.of upd_same)) | ((with_reducible refine' i_lenT ?k1 ?_); (case k1 => first | exact SqT.of (by assumption) | assumption | exact SqT.of upd_same)) | ((with_reducible refine' i_list ?k1 ?_); (case k1 => first | exact SqL.of (by assumption) | assumption | exact SqL.of upd_same)) | ((with_reducible refine' i_slL ?k1 ?_); (case k1 => first | exact SqL.of (by assumption) | assumption | exact SqL.of upd_same)) | ((with_reducible refine' i_isi ?k1 ?k2 ?_); (case k1 => assumption); (case k2 => decide)) | ((with_reducible refine i_rI ?k1 ?_); (case k1 => first | (show (0 : Int) < _; decide) | (show CPow _ _; exact ⟨by decide, by decide, by decide⟩) | (show CDiv _ _; exact ⟨by decide, by decide⟩) | (show CMul _ _; exact .inr ⟨by decide, by decide⟩) | (show CMul _ _; exact .inl ⟨by decide, by decide⟩) | (show (0 : Int) < _; omega) | (show CDiv _ _; exact ⟨by omega, by omega⟩) | (show CMul _ _; exact .inr ⟨by omega, by omega⟩) | (show CMul _ _; exact .inl ⟨by omega, by omega⟩))) | (with_reducible refine i_comp ?_) | (with_reducible refine i_zip ?_) | (with_reducible refine i_itL ?_) | (with_reducible refine i_itT ?_) | (with_reducible refine i_rng1 ?_) | (with_reducible refine i_bm ?_) | (with_reducible refine i_for ?_) | (with_reducible refine i_min2 ?_) | (with_reducible refine i_max2 ?_) | (with_reducible refine i_rng2 ?_) | (with_reducible refine i_intB ?_) | (with_reducible refine i_rev ?_) | (with_reducible refine i_rngB ?_) | (with_reducible refine i_itS ?_) | (with_reducible refine i_inStr ?_) | (with_reducible refine i_find ?_) | (with_reducible refine i_itE ?_) | (with_reducible refine i_comp3 ?_) | (with_reducible refine i_bm0 ?_) | (with_reducible refine i_par ?_) | (with_reducible refine i_two ?_) | ((with_reducible refine' i_aug ?k1 ?_); (case k1 => exact rfl)) | (with_reducible refine i_ip ?_) | (with_reducible refine i_min3 ?_))
def lft (S : Nat) (one : List (List Int)) : List Int := rst (rangeI 0 S) one.flatten
def ex1 (S m : Nat) (one : List (List Int)) : List (List (List Int)) := (comb (lft S one) m).map fun p => one ++ [p]
def dls (S : Nat) (ms : List Nat) : List (List (List Int)) := ms.foldl (fun ds m => ds.flatMap (ex1 S m)) [[]]
theorem dls_snoc (S : Nat) (ms : List Nat) (m : Nat) : dls S (ms ++ [m]) = (dls S ms).flatMap (ex1 S m) := by
  unfold dls
  rw [List.foldl_append]
  rfl
theorem range_up (S : Nat) : (rangeI 0 S).Pairwise (· < ·) := by
  unfold rangeI
  refine List.Pairwise.map _ (fun a b h => ?_) List.pairwise_lt_range
  show (0 : Int) + (a : Int) < 0 + (b : Int)
  omega
theorem lft_len (S : Nat) (one : List (List Int)) : (lft S one).length ≤ S := Nat.le_trans (List.length_filter_le _ _) (by rw [rangeI_length]; exact Nat.le_refl _)
theorem lft_up (S : Nat) (one : List (List Int)) : (lft S one).Pairwise (· < ·) := (range_up S).filter _
theorem ex1_len {S : Nat} (h : S ≤ 9) (m : Nat) (one : List (List Int)) : (ex1 S m one).length ≤ 512 := by
  unfold ex1
  rw [List.length_map, comb_len]
  refine Nat.le_trans (bin_le _ _) (show _ ≤ 2 ^ 9 from pow2_le ?_)
  have := lft_len S one
  omega
theorem fm_len {S : Nat} (h : S ≤ 9) (m : Nat) : ∀ ds : List (List (List Int)), (ds.flatMap (ex1 S m)).length ≤ ds.length * 512
  | [] => Nat.le_refl _
  | d :: ds => by
    rw [List.flatMap_cons, List.length_append, List.length_cons, Nat.succ_mul]
    have := ex1_len h m d
    have := fm_len h m ds
    omega
/-- a list of dealings behind its addresses -/
def DlAt (H : Hp) (ts : List Addr) (ds : List (List (List Int))) : Prop := ts.length = ds.length ∧ ∀ (i : Nat) t d, ts[i]? = some t → ds[i]? = some d → ∃ bos : List Addr, H t = some (.lst (bos.map V.ref)) ∧ BtAt H bos d
theorem DlAt.same {H H' : Hp} {ts : List Addr} {ds : List (List (List Int))} (s : Same H H') (h : DlAt H ts ds) : DlAt H' ts ds := ⟨h.1, fun i t d e1 e2 => by
  obtain ⟨bos, h1, h2⟩ := h.2 i t d e1 e2
  exact ⟨bos, s _ _ h1, h2.same s⟩⟩
theorem DlAt.append {H : Hp} {ts us : List Addr} {r1 r2 : List (List (List Int))} (h : DlAt H ts r1) (h' : DlAt H us r2) : DlAt H (ts ++ us) (r1 ++ r2) := by
  refine ⟨by rw [List.length_append, List.length_append, h.1, h'.1], fun i t d e1 e2 => ?_⟩
  by_cases hi : i < ts.length
  · rw [List.getElem?_append_left hi] at e1
    rw [List.getElem?_append_left (by rw [← h.1]; exact hi)] at e2
    exact h.2 i t d e1 e2
  · rw [List.getElem?_append_right (by omega)] at e1
    rw [List.getElem?_append_right (by rw [← h.1]; omega), ← h.1] at e2
    exact h'.2 _ t d e1 e2
theorem DlAt.one {H : Hp} {t : Addr} {bos : List Addr} {d : List (List Int)} (e : H t = some (.lst (bos.map V.ref))) (b : BtAt H bos d) : DlAt H [t] [d] := ⟨rfl, fun i t' p e1 e2 => by
  cases i with
  | zero => cases e1; cases e2; exact ⟨bos, e, b⟩
  | succ i => simp at e1⟩
theorem DlAt.nil {H : Hp} : DlAt H [] [] := ⟨rfl, fun i t p e => by simp at e⟩
section
variable {P : Program} {w : World} {K : PySem.W.Frag} {mg : Str → Option Value} {base : Heap}
def spFlat : Sp := fun vs H Q _ => ∃ (p : Addr) (bos : List Addr) (bss : List (List Int)), vs = [.ref p] ∧ H p = some (.lst (bos.map V.ref)) ∧ BtAt H bos bss ∧ bss.flatten.length ≤ 1000 ∧ ∀ l H', Same H H' → H' l = some (.lst (bss.flatten.map V.int)) → Q (.ref l) H'
abbrev sLawFlat : Stmt := top 28
theorem scLawFlat : FnScope ["_law_rows", "_law_found", "_law_row"] ["_law_rows"] (defScope sLawFlat) := ⟨rfl, rfl, rfl, by decide +kernel, rfl, by decide +kernel, by decide +kernel⟩
theorem ok_flat {f : Addr} {fd : FuncData} (F : Fun K "_law_flat" "_law_flat" sLawFlat f fd) (T : BltM mg) : FnOk P w K mg base CX0 1 f fd ["_law_rows"] spFlat := by
  refine F.ok scLawFlat (fun vs H Q E h => ?_) (fun cdv A outer s H vs Q E hr h => ?_)
  · obtain ⟨p, bos, bss, rfl, _⟩ := h
    rfl
  · obtain ⟨p, bos, bss, rfl, hp, bt, hl, k⟩ := h
    refine ⟨_, (pss_cons (ps_set (i := 1) scLawFlat.nd rfl (Or.inl rfl) (pe_lst pa_nil))
      (pss_cons (ps_for PassesOwn.never rfl (piL (K := K) rfl (pv 0)) (pg_name (i := 2) scLawFlat.nd rfl (Or.inl rfl)) (pss_one (ps_set (i := 1) scLawFlat.nd rfl (Or.inl rfl) (pe_op op_cat (pv 1) (pe_callTy (cList (K := K) rfl) (by rfl) T.z_list bb_list (pa_cons (pv 2) pa_nil))))))
      (pss_one (ps_ret (pv 1))))), ?_⟩
    repeat walk_at "s"
    refine ⟨Nat.zero_le _, fun e0 he0 => ?_⟩
    have s1 := same_upd (o := .lst []) he0
    have h1 : upd H e0 (.lst []) e0 = some (.lst (([] : List Int).map V.int)) := upd_same
    generalize upd H e0 (.lst []) = H1 at s1 h1 ⊢
    repeat walk_at "s"
    refine ⟨p, rfl, ⟨_, SqL.of (s1 _ _ hp)⟩, ?_⟩
    refine forW (fun i σ' H' => ∃ (fl : Addr) (x : Option V), σ' = [some (.ref p), some (.ref fl), x] ∧ Same H H' ∧ H' fl = some (.lst ((bss.take i).flatten.map V.int))) bos.length ⟨e0, none, rfl, s1, h1⟩ ?_ ?_
    · rintro σ' H' ⟨fl, x, rfl, s2, h2⟩
      refine ⟨⟨_, SqL.of (s2 _ _ hp), by rw [List.length_map]; exact Nat.le_refl _⟩, ?_⟩
      repeat walk_at "s"
      rw [bt.1, List.take_length] at h2
      exact k fl H' s2 h2
    · rintro i σ' H2 hi ⟨fl, x, rfl, s2, h2⟩
      have hi2 : i < bss.length := by rw [← bt.1]; exact hi
      have e1 : bos[i]? = some bos[i] := List.getElem?_eq_getElem hi
      have e2 : bss[i]? = some bss[i] := List.getElem?_eq_getElem hi2
      refine ⟨⟨_, .ref bos[i], SqL.of (s2 _ _ hp), by rw [List.getElem?_map, e1]; rfl⟩, ?_⟩
      rintro x' G ⟨rfl, hy⟩
      have ex := hy _ (SqL.of (s2 _ _ hp))
      rw [List.getElem?_map, e1] at ex
      cases ex
      have ho := s2 _ _ (bt.2 i _ _ e1 e2)
      have et : (bss.take (i + 1)).flatten = (bss.take i).flatten ++ bss[i] := by
        rw [List.take_succ, e2, List.flatten_append]
        show _ ++ (bss[i] ++ []) = _
        rw [List.append_nil]
      have lb : (bss.take (i + 1)).flatten.length ≤ 1000 := by
        refine Nat.le_trans ?_ hl
        have : bss.flatten = (bss.take (i + 1)).flatten ++ (bss.drop (i + 1)).flatten := by rw [← List.flatten_append, List.take_append_drop]
        rw [this, List.length_append]
        omega
      rw [et, List.length_append] at lb
      repeat walk_at "s"
      intro c hc
      have s3 := same_upd (o := .lst (bss[i].map V.int)) hc
      have h3 : upd G c (.lst (bss[i].map V.int)) c = some (.lst (bss[i].map V.int)) := upd_same
      generalize upd G c (.lst (bss[i].map V.int)) = H3 at s3 h3 ⊢
      refine i_cat (s3 _ _ h2) h3 (le_line (by rw [List.length_map, List.length_map]; omega)) fun q hq => ?_
      rw [← List.map_append]
      have s4 := same_upd (o := .lst (((bss.take i).flatten ++ bss[i]).map V.int)) hq
      repeat walk_at "s"
      refine ⟨q, _, rfl, s2.trans (s3.trans s4), ?_⟩
      rw [et]
      exact upd_same
def spDeal : Sp := fun vs H Q _ => ∃ (S : Nat) (p : Addr) (ms : List Nat), vs = [.int S, .ref p] ∧ H p = some (.lst ((ms.map fun (m : Nat) => (m : Int)).map V.int)) ∧ S ≤ 9 ∧ ms.length ≤ 2 ∧ (∀ m ∈ ms, m ≤ 12) ∧ ∀ l H' (ts : List Addr), Same H H' → H' l = some (.lst (ts.map V.ref)) → DlAt H' ts (dls S ms) → Q (.ref l) H'
theorem flat_len : ∀ (d : List (List Int)) {c : Nat}, (∀ p ∈ d, p.length ≤ c) → d.flatten.length ≤ d.length * c
  | [], _, _ => Nat.zero_le _
  | p :: d, c, h => by
    have h1 := h p List.mem_cons_self
    have h2 := flat_len d (c := c) fun q hq => h q (List.mem_cons_of_mem _ hq)
    rw [List.flatten_cons, List.length_append, List.length_cons, Nat.succ_mul]
    omega
theorem dls_small {S : Nat} (h : S ≤ 9) : ∀ (n : Nat) (ms : List Nat), ms.length = n → (dls S ms).length ≤ 512 ^ n ∧ ∀ d ∈ dls S ms, d.length = n ∧ ∀ p ∈ d, p.length ≤ 9
  | 0, ms, hm => by
    cases ms with
    | nil =>
      refine ⟨Nat.le_refl _, fun d hd => ?_⟩
      have : d = [] := by simpa [dls] using hd
      subst this
      exact ⟨rfl, fun p hp => by cases hp⟩
    | cons a b => cases hm
  | n + 1, ms, hm => by
    obtain ⟨ms', m, rfl⟩ : ∃ l' x, ms = l' ++ [x] := ⟨ms.dropLast, ms.getLast (by intro z; rw [z] at hm; cases hm), (List.dropLast_concat_getLast _).symm⟩
    have hl : ms'.length = n := by rw [List.length_append] at hm; simpa using hm
    obtain ⟨a, b⟩ := dls_small h n ms' hl
    rw [dls_snoc]
    refine ⟨?_, fun d hd => ?_⟩
    · rw [Nat.pow_succ]
      exact Nat.le_trans (fm_len h m _) (Nat.mul_le_mul_right _ a)
    · obtain ⟨one, ho, hd⟩ := List.mem_flatMap.mp hd
      obtain ⟨p, hp, rfl⟩ := List.mem_map.mp hd
      obtain ⟨b1, b2⟩ := b one ho
      refine ⟨by rw [List.length_append, b1]; rfl, fun q hq => ?_⟩
      rcases List.mem_append.mp hq with z | z
      · exact b2 q z
      · rw [List.mem_singleton] at z
        rw [z]
        have := comb_le ((lft_up S one).imp fun {a b} h => by omega) hp
        have := lft_len S one
        omega
abbrev sLawDealings : Stmt := top 32
theorem scLawDealings : FnScope ["_law_many", "_law_behind_here", "_law_found", "_law_size", "_law_more", "_law_one", "_law_left"] ["_law_many", "_law_behind_here"] (defScope sLawDealings) := ⟨rfl, rfl, rfl, by decide +kernel, rfl, by decide +kernel, by decide +kernel⟩
theorem nd_133_24 : (["_law_timber", "_law_one"] : List Str).Nodup := by decide +kernel
theorem S_133_24 : CompScope ["_law_many", "_law_behind_here", "_law_found", "_law_size", "_law_more", "_law_one", "_law_left"] (defScope sLawDealings) ({ kind := PySem.ScopeKind.function, names := [ (PySem.Str.ofString ".0", PySem.NameKind.local), (PySem.Str.ofString "_law_timber", PySem.NameKind.local), (PySem.Str.ofString "_law_flat", PySem.NameKind.globalImplicit), (PySem.Str.ofString "_law_one", PySem.NameKind.free)], isGenerator := false, isCoroutine := false, more := [] : PySem.Scope }) (["_law_timber"] : List Str) ([(5, "_law_one")] : List (Nat × Str)) := ⟨by decide +kernel, by decide +kernel, by decide +kernel, by decide +kernel, by decide +kernel⟩
theorem nd_134_36 : (["_law_some", "_law_one"] : List Str).Nodup := by decide +kernel
theorem S_134_36 : CompScope ["_law_many", "_law_behind_here", "_law_found", "_law_size", "_law_more", "_law_one", "_law_left"] (defScope sLawDealings) ({ kind := PySem.ScopeKind.function, names := [ (PySem.Str.ofString ".0", PySem.NameKind.local), (PySem.Str.ofString "_law_some", PySem.NameKind.local), (PySem.Str.ofString "_law_one", PySem.NameKind.free)], isGenerator := false, isCoroutine := false, more := [] : PySem.Scope }) (["_law_some"] : List Str) ([(5, "_law_one")] : List (Nat × Str)) := ⟨by decide +kernel, by decide +kernel, by decide +kernel, by decide +kernel, by decide +kernel⟩
theorem ok_dealings {f : Addr} {fd : FuncData} (F : Fun K "_law_dealings" "_law_dealings" sLawDealings f fd) (T : BltM mg) (c_law_flat : Cal P w K mg base "_law_flat" 1 ["_law_rows"] spFlat) (c_law_picks : Cal P w K mg base "_law_picks" 1 ["_law_row", "_law_few"] spPicks) : FnOk P w K mg base CX0 2 f fd ["_law_many", "_law_behind_here"] spDeal := by
  refine F.ok scLawDealings (fun vs H Q E h => ?_) (fun cdv A outer s H vs Q E hr h => ?_)
  · obtain ⟨S, p, ms, rfl, _⟩ := h
    rfl
  · obtain ⟨S, p, ms, rfl, hp, hS, hl, hm, k⟩ := h
    refine ⟨_, (pss_cons (ps_set (i := 2) scLawDealings.nd rfl (Or.inl rfl) (pe_lst (pa_cons (pe_lst pa_nil) pa_nil)))
      (pss_cons (ps_for PassesOwn.never rfl (piL (K := K) rfl (pv 1)) (pg_name (i := 3) scLawDealings.nd rfl (Or.inl rfl)) (pss_cons (ps_set (i := 4) scLawDealings.nd rfl (Or.inl rfl) (pe_lst pa_nil))
      (pss_cons (ps_for PassesOwn.never rfl (piL (K := K) rfl (pv 2)) (pg_name (i := 5) scLawDealings.nd rfl (Or.inr rfl)) (pss_cons (ps_lcomp (iy := 6) rfl scLawDealings.nd rfl rfl S_133_24 (pi_range1 (by rfl) T.z_range (pa_cons (pv 0) pa_nil)) (by intro _ _ _ _ _; exact (pg_name (i := 0) nd_133_24 rfl (Or.inl rfl))) (by intro _ _ _ _ _; exact (pts_one (pt_cmpR (oNotIn (K := K) rfl) (pv 0) (pe_callC c_law_flat (hr.mono (by omega)) (by rfl) (pa_cons (pv 1) pa_nil)) (by with_unfolding_all rfl)))) (by intro _ _ _ _ _; exact (pv 0)) (by rfl))
      (pss_one (ps_set (i := 4) scLawDealings.nd rfl (Or.inl rfl) (pe_op op_cat (pv 4) (pe_lcomp rfl S_134_36 (piL (K := K) rfl (pe_callC c_law_picks (hr.mono (by omega)) (by rfl) (pa_cons (pv 6) (pa_cons (pv 3) pa_nil)))) (by intro _ _ _ _ _; exact (pg_name (i := 0) nd_134_36 rfl (Or.inl rfl))) (by intro _ _ _ _ _; exact pts_nil) (by intro _ _ _ _ _; exact (pe_op op_cat (pv 1) (pe_lst (pa_cons (pv 0) pa_nil))))))))))
      (pss_one (ps_set (i := 2) scLawDealings.nd rfl (Or.inl rfl) (pv 4))))))
      (pss_one (ps_ret (pv 2))))), ?_⟩
    repeat walk_at "s"
    refine ⟨Nat.zero_le _, fun e0 he0 => ?_⟩
    have s1 := same_upd (o := .lst []) he0
    have h1 : upd H e0 (.lst []) e0 = some (.lst (([] : List Addr).map V.ref)) := upd_same
    generalize upd H e0 (.lst []) = H1 at s1 h1 ⊢
    repeat walk_at "s"
    refine ⟨by show 1 ≤ sizeLine; decide, fun fl hfl => ?_⟩
    have s2' := same_upd (o := .lst [.ref e0]) hfl
    have h2 : upd H1 fl (.lst [.ref e0]) fl = some (.lst ([e0].map V.ref)) := upd_same
    generalize upd H1 fl (.lst [.ref e0]) = H2 at s2' h2 ⊢
    have s2 := s1.trans s2'
    repeat walk_at "s"
    refine ⟨p, rfl, ⟨_, SqL.of (s2 _ _ hp)⟩, ?_⟩
    refine forW (fun i σ' H' => ∃ (fl : Addr) (ts : List Addr), (∃ x y z u, σ' = [some (.int S), some (.ref p), some (.ref fl), x, y, z, u]) ∧ Same H H' ∧ H' fl = some (.lst (ts.map V.ref)) ∧ DlAt H' ts (dls S (ms.take i))) ms.length ⟨fl, [e0], ⟨none, none, none, none, rfl⟩, s2, h2, DlAt.one (s2' _ _ h1) BtAt.nil⟩ ?_ ?_
    · rintro σ' H' ⟨fl, ts, ⟨x, y, z, u, rfl⟩, s3, h3, bt⟩
      refine ⟨⟨_, SqL.of (s3 _ _ hp), by rw [List.length_map, List.length_map]; exact Nat.le_refl _⟩, ?_⟩
      repeat walk_at "s"
      rw [List.take_length] at bt
      exact k fl H' ts s3 h3 bt
    · rintro i σ' H3 hi ⟨fl, ts, ⟨x, y, z, u, rfl⟩, s3, h3, bt⟩
      have e1 : ms[i]? = some ms[i] := List.getElem?_eq_getElem hi
      have m12 := hm _ (List.getElem_mem hi)
      refine ⟨⟨_, .int (ms[i] : Nat), SqL.of (s3 _ _ hp), by rw [List.getElem?_map, List.getElem?_map, e1]; rfl⟩, ?_⟩
      rintro x' G ⟨rfl, hy⟩
      have ex := hy _ (SqL.of (s3 _ _ hp))
      rw [List.getElem?_map, List.getElem?_map, e1] at ex
      cases ex
      have et : ms.take (i + 1) = ms.take i ++ [ms[i]] := by rw [List.take_succ, e1]; rfl
      rw [et]
      have sm := dls_small hS i (ms.take i) (by rw [List.length_take]; omega)
      have sm1 : (dls S (ms.take i)).length ≤ 512 := Nat.le_trans sm.1 (show 512 ^ i ≤ 512 ^ 1 from Nat.pow_le_pow_right (by decide) (by omega))
      generalize ms[i] = m at m12
      rw [dls_snoc]
      generalize dls S (ms.take i) = ds at bt sm sm1
      repeat walk_at "s"
      refine ⟨Nat.zero_le _, fun m0 hm0 => ?_⟩
      have s4' := same_upd (o := .lst []) hm0
      have h4 : upd G m0 (.lst []) m0 = some (.lst (([] : List Addr).map V.ref)) := upd_same
      generalize upd G m0 (.lst []) = H4 at s4' h4 ⊢
      repeat walk_at "s"
      refine ⟨fl, rfl, ⟨_, SqL.of (s4' _ _ h3)⟩, ?_⟩
      refine forW (fun j σ' H' => ∃ (ml : Addr) (us : List Addr), (∃ z u, σ' = [some (.int S), some (.ref p), some (.ref fl), some (.int m), some (.ref ml), z, u]) ∧ Same G H' ∧ H' ml = some (.lst (us.map V.ref)) ∧ DlAt H' us ((ds.take j).flatMap (ex1 S m))) ds.length ⟨m0, [], ⟨_, _, rfl⟩, s4', h4, DlAt.nil⟩ ?_ ?_
      · rintro σ' H' ⟨ml, us, ⟨z, u, rfl⟩, s5, h5, bm⟩
        refine ⟨⟨_, SqL.of (s5 _ _ h3), by rw [List.length_map, bt.1]; exact Nat.le_refl _⟩, ?_⟩
        rw [List.take_length] at bm
        repeat walk_at "s"
        exact ⟨ml, us, ⟨_, _, _, _, rfl⟩, s3.trans s5, h5, bm⟩
      · rintro j σ' H5 hj ⟨ml, us, ⟨z, u, rfl⟩, s5, h5, bm⟩
        have hj2 : j < ts.length := by rw [bt.1]; exact hj
        have e2 : ts[j]? = some ts[j] := List.getElem?_eq_getElem hj2
        have e3 : ds[j]? = some ds[j] := List.getElem?_eq_getElem hj
        obtain ⟨bos, ho, bo⟩ := bt.2 j _ _ e2 e3
        have smj := sm.2 _ (List.getElem_mem hj)
        refine ⟨⟨_, .ref ts[j], SqL.of (s5 _ _ h3), by rw [List.getElem?_map, e2]; rfl⟩, ?_⟩
        rintro x' G5 ⟨rfl, hy⟩
        have ex := hy _ (SqL.of (s5 _ _ h3))
        rw [List.getElem?_map, e2] at ex
        cases ex
        have et2 : ds.take (j + 1) = ds.take j ++ [ds[j]] := by rw [List.take_succ, e3]; rfl
        have lbm : us.length ≤ 512 * 512 := by
          rw [bm.1]
          refine Nat.le_trans (fm_len hS m _) (Nat.mul_le_mul_right _ ?_)
          rw [List.length_take]
          omega
        rw [et2, List.flatMap_append]
        generalize ds[j] = one at ho bo smj
        have lone : one.flatten.length ≤ 1000 := by
          have := flat_len one smj.2
          have : one.length * 9 ≤ 2 * 9 := Nat.mul_le_mul_right _ (by omega)
          omega
        have ho5 := s5 _ _ ho
        have bo5 := bo.same s5
        have lb := bo.1
        repeat walk_at "s"
        refine ⟨_, rfl, by omega, by omega, ?_⟩
        rw [Int.toNat_natCast]
        refine compW (fun c ys σ' H' => (∃ x, σ' = [x, some (.ref ts[j])]) ∧ Same G5 H' ∧ ys = (((rangeI 0 S).take c).filter fun x => !decide (x ∈ one.flatten)).map V.int) S ⟨⟨none, rfl⟩, Same.refl _, rfl⟩ ?_ ?_
        · rintro ys σ' H6 ⟨_, s6, rfl⟩
          rw [List.take_of_length_le (by rw [rangeI_length]; exact Nat.le_refl _)]
          refine ⟨Nat.le_refl _, fun D hD => ?_⟩
          have s7' := same_upd (o := .lst ((lft S one).map V.int)) hD
          have h7 : upd H6 D (.lst ((lft S one).map V.int)) D = some (.lst ((lft S one).map V.int)) := upd_same
          show gName 6 _ _ (upd H6 D (.lst ((lft S one).map V.int))) _
          generalize upd H6 D (.lst ((lft S one).map V.int)) = H7 at s7' h7 ⊢
          have s7 := s6.trans s7'
          have h57 := s7 _ _ h5
          repeat walk_at "s"
          refine ⟨D, lft S one, m, rfl, h7, lft_up S one, by have := lft_len S one; omega, m12, fun pl H8 ps s8 hpl bp => ?_⟩
          have s8t := s7.trans s8
          have ho8 := s8t _ _ ho5
          have bo8 := bo5.same s8t
          have h58 := s8t _ _ h5
          have lps : ps.length ≤ 512 := by
            rw [bp.1, comb_len]
            refine Nat.le_trans (bin_le _ _) (show _ ≤ 2 ^ 9 from pow2_le ?_)
            have := lft_len S one
            omega
          refine ⟨pl, rfl, ⟨_, SqL.of hpl⟩, ?_⟩
          refine compW (fun c ys σ' H' => (∃ x, σ' = [x, some (.ref ts[j])]) ∧ Same H8 H' ∧ ∃ vs : List Addr, ys = vs.map V.ref ∧ DlAt H' vs (((comb (lft S one) m).take c).map fun p => one ++ [p])) ps.length ⟨⟨none, rfl⟩, Same.refl _, [], rfl, DlAt.nil⟩ ?_ ?_
          · rintro ys σ' H9 ⟨_, s9, vs, rfl, bv⟩
            rw [bp.1, List.take_length] at bv
            refine ⟨⟨_, SqL.of (s9 _ _ hpl), by rw [List.length_map]; exact Nat.le_refl _⟩, fun D2 hD2 => ?_⟩
            have s10' := same_upd (o := .lst (vs.map V.ref)) hD2
            have h10 : upd H9 D2 (.lst (vs.map V.ref)) D2 = some (.lst (vs.map V.ref)) := upd_same
            generalize upd H9 D2 (.lst (vs.map V.ref)) = H10 at s10' h10 ⊢
            have s10 := s9.trans s10'
            have lv : vs.length ≤ 512 := by rw [bv.1, List.length_map, ← bp.1]; exact lps
            refine i_cat (s10 _ _ h58) h10 (Nat.le_trans (show (us.map V.ref).length + (vs.map V.ref).length ≤ 600000 by rw [List.length_map, List.length_map]; omega) (by decide)) fun q8 hq8 => ?_
            rw [← List.map_append]
            have s11 := same_upd (o := .lst ((us ++ vs).map V.ref)) hq8
            have sall := s8t.trans (s10.trans s11)
            repeat walk_at "s"
            refine ⟨q8, us ++ vs, ⟨_, _, rfl⟩, s5.trans sall, upd_same, DlAt.append (bm.same sall) ?_⟩
            show DlAt _ vs ([one].flatMap (ex1 S m))
            rw [List.flatMap_cons, List.flatMap_nil, List.append_nil]
            exact bv.same (s10'.trans s11)
          · rintro c ys σ' H9 hc ⟨⟨x0, rfl⟩, s9, vs, rfl, bv⟩
            have hc2 : c < (comb (lft S one) m).length := by rw [← bp.1]; exact hc
            have f1 : ps[c]? = some ps[c] := List.getElem?_eq_getElem hc
            have f2 : (comb (lft S one) m)[c]? = some (comb (lft S one) m)[c] := List.getElem?_eq_getElem hc2
            have lv : vs.length ≤ 512 := by rw [bv.1, List.length_map, List.length_take, ← bp.1]; omega
            refine ⟨⟨_, .ref ps[c], SqL.of (s9 _ _ hpl), by rw [List.getElem?_map, f1]; rfl⟩, lt_line (by rw [List.length_map]; omega), ?_⟩
            rintro x' G9 ⟨rfl, hy⟩
            have ex := hy _ (SqL.of (s9 _ _ hpl))
            rw [List.getElem?_map, f1] at ex
            cases ex
            have hpc := s9 _ _ (bp.2 c _ _ f1 f2)
            have ho9 := s9 _ _ ho8
            have bo9 := bo8.same s9
            refine i_name ?_
            refine i_yes ?_
            refine iteT ?_
            repeat walk_at "s"
            refine ⟨by show 1 ≤ sizeLine; decide, fun q1 hq1 => ?_⟩
            have t1 := same_upd (o := .lst [.ref ps[c]]) hq1
            have g1 : upd G9 q1 (.lst [.ref ps[c]]) q1 = some (.lst (([ps[c]] : List Addr).map V.ref)) := upd_same
            generalize upd G9 q1 (.lst [.ref ps[c]]) = G10 at t1 g1 ⊢
            refine i_cat (t1 _ _ ho9) g1 (le_line (by rw [List.length_map, List.length_map]; show bos.length + 1 ≤ _; omega)) fun q2 hq2 => ?_
            rw [← List.map_append]
            have t2 := same_upd (o := .lst ((bos ++ [ps[c]]).map V.ref)) hq2
            have t12 := t1.trans t2
            refine nxt hc ⟨⟨_, rfl⟩, s9.trans t12, vs ++ [q2], by rw [List.map_append]; rfl, ?_⟩
            have key : ((comb (lft S one) m).take (c + 1)).map (fun p => one ++ [p]) = ((comb (lft S one) m).take c).map (fun p => one ++ [p]) ++ [one ++ [(comb (lft S one) m)[c]]] := by
              rw [List.take_succ, f2, List.map_append]
              rfl
            rw [key]
            exact DlAt.append (bv.same t12) (DlAt.one upd_same (BtAt.append (bo9.same t12) (BtAt.one (t12 _ _ hpc))))
        · rintro c ys σ' H6 hc ⟨⟨x0, rfl⟩, s6, rfl⟩
          have lle : (((rangeI 0 S).take c).filter fun x => !decide (x ∈ one.flatten)).length ≤ 9 := Nat.le_trans (List.length_filter_le _ _) (by rw [List.length_take, rangeI_length]; omega)
          refine ⟨hc, lt_line (by rw [List.length_map]; omega), ?_⟩
          rintro x' G6 ⟨rfl, rfl⟩
          have ho6 := s6 _ _ ho5
          have bo6 := bo5.same s6
          refine i_name ?_
          repeat walk_at "s"
          refine ⟨_, bos, one, rfl, ho6, bo6, lone, fun l7 H7 s7 h7 => ?_⟩
          have et : (rangeI 0 S).take (c + 1) = (rangeI 0 S).take c ++ [0 + (c : Int)] := by rw [List.take_succ]; simp [rangeI, List.getElem?_range hc]
          refine i_notInI (SqL.of h7) ?_
          refine ⟨_, rfl, ?_⟩
          cases hb : !decide (0 + (c : Int) ∈ one.flatten) with
          | true =>
            refine iteT ?_
            repeat walk_at "s"
            refine nxt hc ⟨⟨_, rfl⟩, s6.trans s7, ?_⟩
            rw [et, List.filter_append, List.filter_cons, hb]
            simp
          | false =>
            refine iteF ?_
            refine nxt hc ⟨⟨_, rfl⟩, s6.trans s7, ?_⟩
            rw [et, List.filter_append, List.filter_cons, hb]
            simp
end
end K38

namespace K38
open PySem L2
/-! ### how many dealings are good -/
def thr (x v : Int) : Int := (if v > x then v else x) / 2 + 1
def goodN (boat : List Int) (ds : List (List (List Int))) (to : Nat) : Nat := (ds.filter fun d => likeB boat (d.getD to [])).length
def inBt (boat : List Int) (z : Int) : Bool := decide (z ∈ boat)
theorem like_gd {boat p : List Int} (hb : boat.Nodup) (hp : p.Nodup) : likeB boat p = decide (thr boat.length p.length ≤ (gd (inBt boat) p : Int)) := by
  have e1 : boat.length = cnt boat := cnt_of hb fun _ => Iff.rfl
  have e2 : p.length = cnt p := cnt_of hp fun _ => Iff.rfl
  have e3 : gd (inBt boat) p = cntB boat p := by
    rw [cntB_symm]
    refine cntB_of (hp.filter _) fun x => ?_
    rw [List.mem_filter]
    unfold inBt
    rw [decide_eq_true_iff]
  unfold likeB
  rw [← e1, ← e2, ← e3, Bool.eq_iff_iff, Bool.and_eq_true, decide_eq_true_iff, decide_eq_true_iff, decide_eq_true_iff]
  unfold thr
  split <;> omega
theorem fm_filter {α β : Type} (f : α → List β) (q : β → Bool) : ∀ ds : List α, ((ds.flatMap f).filter q).length = (ds.map fun d => ((f d).filter q).length).sum
  | [] => rfl
  | d :: ds => by rw [List.flatMap_cons, List.filter_append, List.length_append, fm_filter f q ds, List.map_cons, List.sum_cons]
theorem fm_length {α β : Type} (f : α → List β) : ∀ ds : List α, (ds.flatMap f).length = (ds.map fun d => (f d).length).sum
  | [] => rfl
  | d :: ds => by rw [List.flatMap_cons, List.length_append, fm_length f ds, List.map_cons, List.sum_cons]
theorem range_nodup (S : Nat) : (rangeI 0 S).Nodup := (range_up S).imp fun {a b} h => by omega
theorem dls_one (S m : Nat) : dls S [m] = (comb (rangeI 0 S) m).map fun p => [p] := by
  show [[]].flatMap (ex1 S m) = _
  rw [List.flatMap_cons, List.flatMap_nil, List.append_nil]
  unfold ex1 lft
  rw [show ([] : List (List Int)).flatten = [] from rfl, rst_nil]
  rfl
theorem dls_two (S m1 m2 : Nat) : dls S [m1, m2] = (comb (rangeI 0 S) m1).flatMap fun p => (comb (rst (rangeI 0 S) p) m2).map fun q => [p, q] := by
  have e := dls_snoc S [m1] m2
  rw [show [m1] ++ [m2] = [m1, m2] from rfl, dls_one, List.flatMap_map] at e
  rw [e]
  refine fm_congr fun p _ => ?_
  unfold ex1 lft
  rw [show [p].flatten = p by simp]
  rfl
theorem dls_len1 (S m : Nat) : (dls S [m]).length = bin S m := by rw [dls_one, List.length_map, comb_len, rangeI_length]
theorem dls_len2 (S m1 m2 : Nat) : (dls S [m1, m2]).length = bin S m1 * bin (S - m1) m2 := by
  rw [dls_two, fm_length]
  have e : ∀ p ∈ comb (rangeI 0 S) m1, ((comb (rst (rangeI 0 S) p) m2).map fun q => [p, q]).length = bin (S - m1) m2 := by
    intro p hp
    rw [List.length_map, comb_len, rst_len (range_nodup S) (comb_nodup (range_nodup S) hp) (comb_mem hp), rangeI_length, comb_size hp]
  rw [List.map_congr_left e, sum_all, comb_len, rangeI_length]
theorem rst_nodup {r p : List Int} (h : r.Nodup) : (rst r p).Nodup := h.filter _
section
variable {S : Nat} {boat : List Int} (hb : boat.Nodup) (hm : ∀ z ∈ boat, z ∈ rangeI 0 S)
include hb hm
theorem nB_boat : nB (inBt boat) (rangeI 0 S) = boat.length ∧ nO (inBt boat) (rangeI 0 S) = S - boat.length := by
  have h1 : nB (inBt boat) (rangeI 0 S) = boat.length := nodup_len ((range_nodup S).filter _) hb fun x => by
    rw [List.mem_filter]
    unfold inBt
    rw [decide_eq_true_iff]
    exact ⟨fun h => h.2, fun h => ⟨hm x h, h⟩⟩
  have h2 := nB_add (inBt boat) (rangeI 0 S)
  rw [rangeI_length] at h2
  exact ⟨h1, by omega⟩
theorem good1 (m : Nat) : ((comb (rangeI 0 S) m).filter fun p => likeB boat p).length = cb boat.length (S - boat.length) m (thr boat.length m) := by
  have e : (comb (rangeI 0 S) m).filter (fun p => likeB boat p) = (comb (rangeI 0 S) m).filter fun p => decide (thr boat.length m ≤ (gd (inBt boat) p : Int)) := List.filter_congr fun p hp => by
    rw [like_gd hb (comb_nodup (range_nodup S) hp), comb_size hp]
  rw [e]
  show cG (inBt boat) _ _ _ = _
  rw [cG_cb, (nB_boat hb hm).1, (nB_boat hb hm).2]
theorem good_val {ms : List Nat} (h1 : 1 ≤ ms.length) (h2 : ms.length ≤ 2) {to : Nat} (ht : to < ms.length) :
    goodN boat (dls S ms) to * bin S (ms.getD to 0) = cb boat.length (S - boat.length) (ms.getD to 0) (thr boat.length (ms.getD to 0 : Nat)) * (dls S ms).length := by
  have one : ∀ m, goodN boat (dls S [m]) 0 = cb boat.length (S - boat.length) m (thr boat.length m) := by
    intro m
    unfold goodN
    rw [dls_one, List.filter_map, List.length_map]
    exact good1 hb hm m
  match ms, h1, h2, ht with
  | [m], _, _, ht =>
    obtain rfl : to = 0 := by simpa using ht
    show goodN boat (dls S [m]) 0 * bin S m = cb boat.length (S - boat.length) m (thr boat.length m) * _
    rw [one, dls_len1]
  | [m1, m2], _, _, ht =>
    have ht' : to = 0 ∨ to = 1 := by simp at ht; omega
    rcases ht' with rfl | rfl
    · show goodN boat (dls S [m1, m2]) 0 * bin S m1 = cb boat.length (S - boat.length) m1 (thr boat.length m1) * _
      have e : goodN boat (dls S [m1, m2]) 0 = cb boat.length (S - boat.length) m1 (thr boat.length m1) * bin (S - m1) m2 := by
        unfold goodN
        rw [dls_two, fm_filter]
        have e2 : ∀ p ∈ comb (rangeI 0 S) m1, (((comb (rst (rangeI 0 S) p) m2).map fun q => [p, q]).filter fun d => likeB boat (d.getD 0 [])).length = (if likeB boat p then 1 else 0) * bin (S - m1) m2 := by
          intro p hp
          rw [List.filter_map, List.length_map]
          show ((comb (rst (rangeI 0 S) p) m2).filter fun _ => likeB boat p).length = _
          cases hl : likeB boat p with
          | true =>
            rw [List.filter_eq_self.mpr fun _ _ => rfl, if_pos rfl, Nat.one_mul, comb_len, rst_len (range_nodup S) (comb_nodup (range_nodup S) hp) (comb_mem hp), rangeI_length, comb_size hp]
          | false =>
            rw [List.filter_eq_nil_iff.mpr fun _ _ => by simp, if_neg (by simp), Nat.zero_mul]
            rfl
        rw [List.map_congr_left e2, ← good1 hb hm m1]
        generalize comb (rangeI 0 S) m1 = L
        induction L with
        | nil => simp
        | cons a L ih =>
          rw [List.map_cons, List.sum_cons, ih, List.filter_cons]
          cases likeB boat a with
          | true => rw [if_pos rfl, if_pos rfl, List.length_cons, Nat.one_mul, Nat.succ_mul, Nat.add_comm]
          | false => simp
      rw [e, dls_len2, Nat.mul_assoc, Nat.mul_comm (bin (S - m1) m2)]
    · show goodN boat (dls S [m1, m2]) 1 * bin S m2 = cb boat.length (S - boat.length) m2 (thr boat.length m2) * _
      have e : goodN boat (dls S [m1, m2]) 1 = bin (S - m2) m1 * cb boat.length (S - boat.length) m2 (thr boat.length m2) := by
        unfold goodN
        rw [dls_two, fm_filter]
        have e2 : ∀ p ∈ comb (rangeI 0 S) m1, (((comb (rst (rangeI 0 S) p) m2).map fun q => [p, q]).filter fun d => likeB boat (d.getD 1 [])).length = cG (inBt boat) (rst (rangeI 0 S) p) m2 (thr boat.length m2) := by
          intro p hp
          rw [List.filter_map, List.length_map]
          unfold cG
          congr 1
          refine List.filter_congr fun q hq => ?_
          show likeB boat q = _
          rw [like_gd hb (comb_nodup (rst_nodup (range_nodup S)) hq), comb_size hq]
        rw [List.map_congr_left e2]
        have v := P2_val (inBt boat) (rangeI 0 S) m1 m2 (thr boat.length m2) (range_nodup S)
        rw [rangeI_length, (nB_boat hb hm).1, (nB_boat hb hm).2] at v
        exact v
      rw [e, dls_len2, bin_tri, Nat.mul_comm (bin (S - m2) m1) (cb _ _ _ _), Nat.mul_assoc]
end
theorem dls_pos {S : Nat} {ms : List Nat} (h1 : 1 ≤ ms.length) (h2 : ms.length ≤ 2) (hs : ms.sum ≤ S) : 0 < (dls S ms).length := by
  match ms, h1, h2 with
  | [m], _, _ =>
    rw [dls_len1]
    exact bin_pos _ _ (by simpa using hs)
  | [m1, m2], _, _ =>
    rw [dls_len2]
    have : m1 + m2 ≤ S := by simpa using hs
    exact Nat.mul_pos (bin_pos _ _ (by omega)) (bin_pos _ _ (by omega))
/-! ### sums of parts -/
theorem totl_val {T : Nat} (g : Nat → Nat × Nat) (n : Nat → Nat) : ∀ k, (∀ j, j < k → 0 < (g j).2 ∧ (g j).1 * T = n j * (g j).2) → (totl ((List.range k).map g)).1 * T = ((List.range k).map n).sum * (totl ((List.range k).map g)).2 ∧ Cn (totl ((List.range k).map g))
  | 0, _ => ⟨by show 0 * T = 0 * 1; rw [Nat.zero_mul], by show Nat.Coprime 0 1; decide, by show 0 < 1; decide⟩
  | k + 1, h => by
    obtain ⟨a, b⟩ := totl_val g n k fun j hj => h j (by omega)
    obtain ⟨c, d⟩ := h k (by omega)
    rw [List.range_succ, List.map_append, List.map_append]
    rw [show List.map g [k] = [g k] from rfl, show List.map n [k] = [n k] from rfl, totl_snoc, List.sum_append, show [n k].sum = n k by simp]
    exact ⟨pl_val b.2 c a d, low_cn (Nat.mul_pos b.2 c)⟩
/-- the boats ahead -/
def bt (as : List Int) (i : Nat) : List Int := rangeI ((as.take i).sum) (as.getD i 0).toNat
theorem bt_len (as : List Int) (i : Nat) : (bt as i).length = (as.getD i 0).toNat := rangeI_length _ _
theorem bt_nodup (as : List Int) (i : Nat) : (bt as i).Nodup := (rangeI_rises _ _).imp fun {a b} h => by omega
theorem take_sum {as : List Int} {i : Nat} (hi : i < as.length) : (as.take (i + 1)).sum = (as.take i).sum + as.getD i 0 := by
  rw [List.take_succ, List.getElem?_eq_getElem hi, List.sum_append]
  simp [List.getD, List.getElem?_eq_getElem hi]
theorem sum_nn : ∀ {as : List Int}, (∀ v ∈ as, 1 ≤ v) → 0 ≤ as.sum := nn_sum
theorem bt_in {as : List Int} (h : ∀ v ∈ as, 1 ≤ v) {i : Nat} (hi : i < as.length) : ∀ z ∈ bt as i, z ∈ rangeI 0 as.sum.toNat := by
  intro z hz
  obtain ⟨z1, z2⟩ := mem_rangeI.mp hz
  have e1 := take_sum hi
  have h0 : 0 ≤ (as.take i).sum := sum_nn fun v hv => h v (List.mem_of_mem_take hv)
  have h1 : 0 ≤ (as.drop (i + 1)).sum := sum_nn fun v hv => h v (List.mem_of_mem_drop hv)
  have e2 : as.sum = (as.take (i + 1)).sum + (as.drop (i + 1)).sum := by rw [← List.sum_append, List.take_append_drop]
  have h2 : 1 ≤ as.getD i 0 := by
    have e : as.getD i 0 = as[i] := by simp [List.getD, List.getElem?_eq_getElem hi]
    rw [e]
    exact h _ (List.getElem_mem hi)
  refine mem_rangeI.mpr ⟨by omega, by omega⟩
theorem bts_flat {as : List Int} (h : ∀ v ∈ as, 1 ≤ v) : ∀ i, i ≤ as.length → ((((List.range i).map (bt as)).flatten.length : Nat) : Int) = (as.take i).sum
  | 0, _ => rfl
  | i + 1, hi => by
    have ih := bts_flat h i (by omega)
    have h2 : 1 ≤ as.getD i 0 := by
      have e : as.getD i 0 = as[i]'(by omega) := by simp [List.getD, List.getElem?_eq_getElem (show i < as.length by omega)]
      rw [e]
      exact h _ (List.getElem_mem _)
    rw [List.range_succ, List.map_append, List.flatten_append, List.length_append, take_sum (by omega), ← ih]
    show ((_ + ([bt as i].flatten).length : Nat) : Int) = _
    rw [show [bt as i].flatten = bt as i by simp, bt_len]
    omega
section
variable {as : List Int} {ms : List Nat}
def gdN (as : List Int) (ms : List Nat) (i j : Nat) : Nat := goodN (bt as i) (dls as.sum.toNat ms) j
def goN (as : List Int) (ms : List Nat) (i k : Nat) : Nat := ((List.range k).map (gdN as ms i)).sum
def toN (as : List Int) (ms : List Nat) (k : Nat) : Nat := ((List.range k).map fun i => goN as ms i ms.length).sum
variable (hf : feB as (ms.map fun (m : Nat) => (m : Int)) = true) (h1 : 1 ≤ ms.length) (h2 : ms.length ≤ 2)
include hf h1 h2
theorem gA_good {i j : Nat} (hi : i < as.length) (hj : j < ms.length) : (gA as (ms.map fun (m : Nat) => (m : Int)) i j).1 * (dls as.sum.toNat ms).length = gdN as ms i j * (gA as (ms.map fun (m : Nat) => (m : Int)) i j).2 := by
  obtain ⟨fa, fb, hs⟩ := feB_of hf
  obtain ⟨_, a1, a2, a3, a4⟩ := fl_at fa hi
  obtain ⟨eb, b1, b2, b3, b4⟩ := fl_at fb (i := j) (by rw [List.length_map]; exact hj)
  have ej : (ms.map fun (m : Nat) => (m : Int)).getD j 0 = (ms.getD j 0 : Nat) := by
    simp [List.getD, List.getElem?_eq_getElem hj]
  have gv := good_val (S := as.sum.toNat) (bt_nodup as i) (bt_in (fun v hv => ((flB_of fa).2.2 v hv).1) hi) h1 h2 hj
  unfold gA
  rw [ej] at b1 b2 b3 ⊢
  rw [bt_len] at gv
  have sb : (ms.getD j 0 : Int) ≤ as.sum := by omega
  unfold ch
  rw [show (as.getD i 0 - 0).toNat = (as.getD i 0).toNat by omega, show (as.sum - as.getD i 0 - (0 - 0)).toNat = as.sum.toNat - (as.getD i 0).toNat by omega, show ((ms.getD j 0 : Int) - 0).toNat = ms.getD j 0 by omega, show (as.sum - 0).toNat = as.sum.toNat by omega]
  refine low_val (bin_pos _ _ (by omega)) ?_
  have et : (if (ms.getD j 0 : Int) > as.getD i 0 then (ms.getD j 0 : Int) else as.getD i 0) / 2 + 1 - 0 = thr ((as.getD i 0).toNat : Nat) (ms.getD j 0 : Nat) := by
    unfold thr
    rw [show (((as.getD i 0).toNat : Nat) : Int) = as.getD i 0 by omega]
    omega
  rw [et]
  exact gv.symm
theorem gA_low {i j : Nat} (hi : i < as.length) (hj : j < ms.length) : gA as (ms.map fun (m : Nat) => (m : Int)) i j = low (gdN as ms i j) (dls as.sum.toNat ms).length := by
  obtain ⟨fa, fb, hs⟩ := feB_of hf
  obtain ⟨_, a1, a2, a3, a4⟩ := fl_at fa hi
  obtain ⟨eb, b1, b2, b3, b4⟩ := fl_at fb (i := j) (by rw [List.length_map]; exact hj)
  have sn := sum_nats ms
  have pos := dls_pos (S := as.sum.toNat) h1 h2 (by omega)
  refine cn_val (low_cn (bin_pos _ _ (by omega))) (low_cn pos) pos (gA_good hf h1 h2 hi hj) (low_val pos rfl)
theorem gO_good {i : Nat} (hi : i < as.length) : (gO as (ms.map fun (m : Nat) => (m : Int)) i).1 * (dls as.sum.toNat ms).length = goN as ms i ms.length * (gO as (ms.map fun (m : Nat) => (m : Int)) i).2 ∧ Cn (gO as (ms.map fun (m : Nat) => (m : Int)) i) := by
  unfold gO
  rw [List.length_map]
  exact totl_val _ (gdN as ms i) ms.length fun j hj => ⟨(gA_le hf hi (by rw [List.length_map]; exact hj)).2.2, gA_good hf h1 h2 hi hj⟩
theorem gO_low {i : Nat} (hi : i < as.length) : gO as (ms.map fun (m : Nat) => (m : Int)) i = low (goN as ms i ms.length) (dls as.sum.toNat ms).length := by
  have sn := sum_nats ms
  have hs := (feB_of hf).2.2
  have pos := dls_pos (S := as.sum.toNat) h1 h2 (by omega)
  obtain ⟨a, b⟩ := gO_good hf h1 h2 hi
  exact cn_val b (low_cn pos) pos a (low_val pos rfl)
theorem gM_low : gM as (ms.map fun (m : Nat) => (m : Int)) = low (toN as ms as.length) (dls as.sum.toNat ms).length := by
  have sn := sum_nats ms
  have hs := (feB_of hf).2.2
  have pos := dls_pos (S := as.sum.toNat) h1 h2 (by omega)
  obtain ⟨a, b⟩ := totl_val (T := (dls as.sum.toNat ms).length) (gO as (ms.map fun (m : Nat) => (m : Int))) (fun i => goN as ms i ms.length) as.length fun i hi => ⟨(gO_good hf h1 h2 hi).2.2, (gO_good hf h1 h2 hi).1⟩
  exact cn_val b (low_cn pos) pos a (low_val pos rfl)
end
end K38

namespace K38
open PySem L2
local macro_rules | `(tactic| walk_at "s") => `(tactic| first | (with_reducible refine i_seq ?_) | (with_reducible refine i_asg ?_) | (with_reducible refine i_ret ?_) | (with_reducible refine i_if ?_) | (with_reducible refine i_next ?_) | (with_reducible refine i_drop ?_) | ((with_reducible refine' i_var ?k1 ?_); (case k1 => exact rfl)) | (with_reducible refine i_tC ?_) | (with_reducible refine i_op ?_) | (with_reducible refine i_un ?_) | (with_reducible refine i_rI0 ?_) | (with_reducible refine i_rU ?_) | ((with_reducible refine' i_rEq ?k1 ?_); (case k1 => exact rfl)) | ((with_reducible refine' i_rNe ?k1 ?_); (case k1 => exact rfl)) | (with_reducible refine i_test ?_) | (with_reducible refine i_tB ?_) | (with_reducible refine i_bl ?_) | (with_reducible refine i_int ?_) | (with_reducible refine i_and ?_) | (with_reducible refine i_or ?_) | (with_reducible refine i_not ?_) | (with_reducible refine i_andV ?_) | (with_reducible refine i_orV ?_) | (with_reducible refine i_notV ?_) | (with_reducible refine i_isN ?_) | (with_reducible refine i_notN ?_) | (with_reducible refine i_ifE ?_) | (with_reducible refine i_name ?_) | (with_reducible refine i_cons ?_) | (with_reducible refine i_nil ?_) | (with_reducible refine i_cb ?_) | (with_reducible refine i_call ?_) | (with_reducible refine i_tup ?_) | (with_reducible refine i_lst ?_) | (with_reducible refine i_gsub ?_) | (with_reducible refine i_gcons ?_) | (with_reducible refine i_gnil ?_) | (with_reducible refine i_yes ?_) | (with_reducible refine i_slice ?_) | (with_reducible refine i_nopart ?_) | (with_reducible refine i_part ?_) | (with_reducible refine i_abs ?_) | ((with_reducible refine' i_ixL ?k1 ?k2 ?_); (case k1 => first | exact SqL.of (by assumption) | assumption | exact SqL.of upd_same); (case k2 => exact rfl)) | ((with_reducible refine' i_ixT ?k1 ?k2 ?_); (case k1 => first | exact SqT.of (by assumption) | assumption | exact SqT.of upd_same); (case k2 => exact rfl)) | ((with_reducible refine' i_setL ?k1 ?k2 ?_); (case k1 => first | assumption | exact upd_same); (case k2 => exact rfl)) | ((with_reducible refine' i_gtup ?k1 ?k2 ?_); (case k1 => first | exact SqT.of (by assumption) | assumption | exact SqT.of upd_same); (case k2 => exact rfl)) | ((with_reducible refine' i_len ?k1 ?_); (case k1 => first | exact SqL.of (by assumption) | assumption | exact SqL.of upd_same)) | ((with_reducible refine' i_lenT ?k1 ?_); (case k1 => first | exact SqT.of (by assumption) | assumption | exact SqT.of upd_same)) | ((with_reducible refine' i_list ?k1 ?_); (case k1 => first | exact SqL.of (by assumption) | assumption | exact SqL.of upd_same)) | ((with_reducible refine' i_slL ?k1 ?_); (case k1 => first | exact SqL.of (by assumption) | assumption | exact SqL.of upd_same)) | ((with_reducible refine' i_isi ?k1 ?k2 ?_); (case k1 => assumption); (case k2 => decide)) | ((with_reducible refine i_rI ?k1 ?_); (case k1 => first | (show (0 : Int) < _; decide) | (show CPow _ _; exact ⟨by decide, by decide, by decide⟩) | (show CDiv _ _; exact ⟨by decide, by decide⟩) | (show CMul _ _; exact .inr ⟨by decide, by decide⟩) | (show CMul _ _; exact .inl ⟨by decide, by decide⟩) | (show (0 : Int) < _; omega) | (show CDiv _ _; exact ⟨by omega, by omega⟩) | (show CMul _ _; exact .inr ⟨by omega, by omega⟩) | (show CMul _ _; exact .inl ⟨by omega, by omega⟩))) | (with_reducible refine i_comp ?_) | (with_reducible refine i_zip ?_) | (with_reducible refine i_itL ?_) | (with_reducible refine i_itT ?_) | (with_reducible refine i_rng1 ?_) | (with_reducible refine i_bm ?_) | (with_reducible refine i_for ?_) | (with_reducible refine i_min2 ?_) | (with_reducible refine i_max2 ?_) | (with_reducible refine i_rng2 ?_) | (with_reducible refine i_intB ?_) | (with_reducible refine i_rev ?_) | (with_reducible refine i_rngB ?_) | (with_reducible refine i_itS ?_) | (with_reducible refine i_inStr ?_) | (with_reducible refine i_find ?_) | (with_reducible refine i_itE ?_) | (with_reducible refine i_comp3 ?_) | (with_reducible refine i_bm0 ?_) | (with_reducible refine i_par ?_) | (with_reducible refine i_two ?_) | ((with_reducible refine' i_aug ?k1 ?_); (case k1 => exact rfl)) | (with_reducible refine i_ip ?_) | (with_reducible refine i_min3 ?_))
def qt (sp : Sp) : Sp := fun vs H Q _ => sp vs H Q (fun _ _ _ => False)
def dP (v : Nat × Nat) : Dt := .tup [.int v.1, .int v.2]
theorem rep_part {H : Hp} {p : Addr} {v : Nat × Nat} (h : H p = some (.tup [.int v.1, .int v.2])) : Rep H (.ref p) (dP v) := .tup h (.cons (.int _) (.cons (.int _) .nil))
theorem dP_depth (v : Nat × Nat) : (dP v).depth = 1 := rfl
theorem dP_wide (v : Nat × Nat) : (dP v).wide = 2 := rfl
section
variable {P : Program} {w : World} {K : PySem.W.Frag} {mg : Str → Option Value} {base : Heap}
def spLaw (K : PySem.W.Frag) : Sp := fun vs H Q _ => ∃ (a : Addr) (ns : List Int), vs = [.ref a] ∧ SqL K H a (ns.map V.int) ∧ ns.length ≤ 63 ∧ ∀ H', Q (.bl true) H'
theorem fl_mk {ns : List Int} (h1 : 1 ≤ ns.length) (h2 : ns.length ≤ 8) (h3 : ∀ v ∈ ns, 1 ≤ v ∧ v ≤ 12) : flB ns = true := by
  unfold flB
  rw [Bool.and_eq_true, inB_iff, List.all_eq_true]
  refine ⟨⟨by omega, by omega⟩, fun b hb => ?_⟩
  obtain ⟨v, hv, rfl⟩ := List.mem_map.mp hb
  exact inB_iff.mpr (h3 v hv)
theorem fe_mk {as bs : List Int} (h1 : flB as = true) (h2 : flB bs = true) (h3 : bs.sum ≤ as.sum) : feB as bs = true := by
  unfold feB
  rw [h1, h2, Bool.true_and, Bool.true_and]
  simpa using h3
theorem sumB {B : Int} : ∀ {as : List Int}, (∀ v ∈ as, 1 ≤ v ∧ v ≤ B) → (as.length : Int) ≤ as.sum ∧ as.sum ≤ B * as.length
  | [], _ => ⟨Int.le_refl _, by simp⟩
  | x :: as, h => by
    have h1 := h x List.mem_cons_self
    obtain ⟨a, b⟩ := sumB (B := B) (as := as) fun z hz => h z (List.mem_cons_of_mem _ hz)
    rw [List.sum_cons, List.length_cons, Int.natCast_add, Int.mul_add]
    refine ⟨by omega, ?_⟩
    show x + as.sum ≤ B * (as.length : Int) + B * 1
    omega
theorem cut_take (ns : List Int) (k : Nat) : cutV (ns.map V.int) none (some (k : Int)) = (ns.take k).map V.int := by
  unfold cutV
  rw [HT.sIx_none, List.drop_zero, List.length_map, List.map_take]
  have z : HT.sIx ns.length ns.length (some (k : Int)) = min k ns.length := HT.sIx_nat ns.length ns.length k
  rw [z, Nat.sub_zero]
  rcases Nat.le_total k ns.length with q | q
  · rw [Nat.min_eq_left q]
  · rw [Nat.min_eq_right q, List.take_of_length_le (by simp), List.take_of_length_le (by simpa using q)]
theorem BtAt.put {H : Hp} {bos : List Addr} {bss : List (List Int)} {c : Addr} {o : HO} (h : BtAt H bos bss) (n : ∀ b ∈ bos, b ≠ c) : BtAt (upd H c o) bos bss := ⟨h.1, fun i b bs e1 e2 => by
  rw [upd_ne (n b (List.mem_of_getElem? e1))]
  exact h.2 i b bs e1 e2⟩
theorem same_put {H H' : Hp} {c : Addr} {o : HO} (s : Same H H') (hc : H c = none) : Same H (upd H' c o) := fun a u e => by rw [upd_ne (ne_of_none e hc)]; exact s a u e
theorem big_line {n : Nat} (h : n ≤ 300000) : n < sizeLine := Nat.lt_of_le_of_lt h (by decide)
theorem ref_at {ts : List Addr} {i : Nat} {t : Addr} (e : ts[i]? = some t) : atI (ts.map V.ref) (i : Int) = some (.ref t) := atI_nat (by rw [List.getElem?_map, e]; rfl)
abbrev sLaw : Stmt := top 33
theorem scLaw : FnScope ["_law_script", "_law_draw", "_law_ahead", "_law_behind_here", "_law_boats", "_law_size", "_law_begin_here", "_law_deals", "_law_total", "_law_at", "_law_going", "_law_to", "_law_good", "_law_handed"] ["_law_script"] (defScope sLaw) := ⟨rfl, rfl, rfl, by decide +kernel, rfl, by decide +kernel, by decide +kernel⟩
theorem nd_150_28 : (["_law_deal", "_law_boats", "_law_at", "_law_to"] : List Str).Nodup := by decide +kernel
theorem S_150_28 : CompScope ["_law_script", "_law_draw", "_law_ahead", "_law_behind_here", "_law_boats", "_law_size", "_law_begin_here", "_law_deals", "_law_total", "_law_at", "_law_going", "_law_to", "_law_good", "_law_handed"] (defScope sLaw) ({ kind := PySem.ScopeKind.function, names := [ (PySem.Str.ofString ".0", PySem.NameKind.local), (PySem.Str.ofString "_law_deal", PySem.NameKind.local), (PySem.Str.ofString "_law_like", PySem.NameKind.globalImplicit), (PySem.Str.ofString "_law_at", PySem.NameKind.free), (PySem.Str.ofString "_law_boats", PySem.NameKind.free), (PySem.Str.ofString "_law_to", PySem.NameKind.free)], isGenerator := false, isCoroutine := false, more := [] : PySem.Scope }) (["_law_deal"] : List Str) ([(4, "_law_boats"), (9, "_law_at"), (11, "_law_to")] : List (Nat × Str)) := ⟨by decide +kernel, by decide +kernel, by decide +kernel, by decide +kernel, by decide +kernel⟩
theorem ok_law {f : Addr} {fd : FuncData} (F : Fun K "law" "law" sLaw f fd) (T : BltM mg) (c_goes_as : Cal P w K mg base "goes_as" 4 ["ahead", "at", "behind", "to"] (qt spGoesAs)) (c_goes_on : Cal P w K mg base "goes_on" 6 ["ahead", "at", "behind"] (qt spGoesOn)) (c_mean_going : Cal P w K mg base "mean_going" 8 ["ahead", "behind"] (qt spMean))
    (c_law_begin : Cal P w K mg base "_law_begin" 1 ["_law_script"] (spBeginC K)) (c_law_take : Cal P w K mg base "_law_take" 1 ["_law_draw", "_law_many"] spTakeC)
    (c_law_same : Cal P w K mg base "_law_same" 3 ["_law_found", "_law_due"] (spS 3)) (c_law_like : Cal P w K mg base "_law_like" 2 ["_law_one", "_law_other"] (spLike K)) (c_law_low : Cal P w K mg base "_law_low" 2 ["_law_top", "_law_bottom"] spLow)
    (c_law_flat : Cal P w K mg base "_law_flat" 1 ["_law_rows"] spFlat)
    (c_law_sizes : Cal P w K mg base "_law_sizes" 2 ["_law_draw", "_law_most", "_law_big"] spSizes) (c_law_behind : Cal P w K mg base "_law_behind" 2 ["_law_draw", "_law_ahead", "_law_big"] spBehind)
    (c_law_dealings : Cal P w K mg base "_law_dealings" 2 ["_law_many", "_law_behind_here"] spDeal) : FnOk P w K mg base CX0 10 f fd ["_law_script"] (spLaw K) := by
  refine F.ok scLaw (fun vs H Q E h => ?_) (fun cdv A outer s H vs Q E hr h => ?_)
  · obtain ⟨a, ns, rfl, _⟩ := h
    rfl
  · obtain ⟨a0, ns, rfl, ha0, hn0, k⟩ := h
    refine ⟨_, (pss_cons (ps_set (i := 1) scLaw.nd rfl (Or.inl rfl) (pe_callC c_law_begin (hr.mono (by omega)) (by rfl) (pa_cons (pv 0) pa_nil)))
      (pss_cons (ps_set (i := 2) scLaw.nd rfl (Or.inl rfl) (pe_callC c_law_sizes (hr.mono (by omega)) (by rfl) (pa_cons (pv 1) (pa_cons pe_int (pa_cons pe_int pa_nil)))))
      (pss_cons (ps_set (i := 3) scLaw.nd rfl (Or.inl rfl) (pe_slice (slL (K := K) rfl) (pe_callC c_law_behind (hr.mono (by omega)) (by rfl) (pa_cons (pv 1) (pa_cons (pv 2) (pa_cons pe_int pa_nil)))) po_none (po_some (pe_op op_add pe_int (pe_callC c_law_take (hr.mono (by omega)) (by rfl) (pa_cons (pv 1) (pa_cons pe_int pa_nil)))))))
      (pss_cons (ps_set (i := 4) scLaw.nd rfl (Or.inr rfl) (pe_lst pa_nil))
      (pss_cons (ps_for PassesOwn.never rfl (piL (K := K) rfl (pv 2)) (pg_name (i := 5) scLaw.nd rfl (Or.inl rfl)) (pss_cons (ps_set (i := 6) scLaw.nd rfl (Or.inl rfl) (pe_callB (cLen (K := K) rfl) (by rfl) T.z_len bb_len (pa_cons (pe_callC c_law_flat (hr.mono (by omega)) (by rfl) (pa_cons (pv 4) pa_nil)) pa_nil)))
      (pss_one (ps_expr (mApp (K := K) rfl (pv 4) (pa_cons (pe_callTy (cListRng rfl) (by rfl) T.z_list bb_list (pa_cons (pe_callTy cRng2 (by rfl) T.z_range bb_range (pa_cons (pv 6) (pa_cons (pe_op op_add (pv 6) (pv 5)) pa_nil))) pa_nil)) pa_nil))))))
      (pss_cons (ps_set (i := 7) scLaw.nd rfl (Or.inl rfl) (pe_callC c_law_dealings (hr.mono (by omega)) (by rfl) (pa_cons (pe_callB (cSum (K := K) rfl rfl) (by rfl) T.z_sum bb_sum (pa_cons (pv 2) pa_nil)) (pa_cons (pv 3) pa_nil))))
      (pss_cons (ps_set (i := 8) scLaw.nd rfl (Or.inl rfl) pe_int)
      (pss_cons (ps_for PassesOwn.never rfl (pi_range1 (by rfl) T.z_range (pa_cons (pe_callB (cLen (K := K) rfl) (by rfl) T.z_len bb_len (pa_cons (pv 2) pa_nil)) pa_nil)) (pg_name (i := 9) scLaw.nd rfl (Or.inr rfl)) (pss_cons (ps_set (i := 10) scLaw.nd rfl (Or.inl rfl) pe_int)
      (pss_cons (ps_for PassesOwn.never rfl (pi_range1 (by rfl) T.z_range (pa_cons (pe_callB (cLen (K := K) rfl) (by rfl) T.z_len bb_len (pa_cons (pv 3) pa_nil)) pa_nil)) (pg_name (i := 11) scLaw.nd rfl (Or.inr rfl)) (pss_cons (ps_set (i := 12) scLaw.nd rfl (Or.inl rfl) (pe_callB (cLen (K := K) rfl) (by rfl) T.z_len bb_len (pa_cons (pe_lcomp rfl S_150_28 (piL (K := K) rfl (pv 7)) (by intro _ _ _ _ _; exact (pg_name (i := 0) nd_150_28 rfl (Or.inl rfl))) (by intro _ _ _ _ _; exact (pts_one (pt_val (pe_callC c_law_like (hr.mono (by omega)) (by rfl) (pa_cons (pe_ix (ixL (K := K) rfl) (pv 1) (pv 2) (fun _ _ => rfl)) (pa_cons (pe_ix (ixL (K := K) rfl) (pv 0) (pv 3) (fun _ _ => rfl)) pa_nil)))))) (by intro _ _ _ _ _; exact (pv 0))) pa_nil)))
      (pss_cons (ps_set (i := 10) scLaw.nd rfl (Or.inl rfl) (pe_op op_add (pv 10) (pv 12)))
      (pss_one (ps_if (pt_not (pt_val (pe_callC c_law_same (hr.mono (by omega)) (by rfl) (pa_cons (pe_callC c_goes_as (hr.mono (by omega)) (by rfl) (pa_cons (pe_callTy (cList (K := K) rfl) (by rfl) T.z_list bb_list (pa_cons (pv 2) pa_nil)) (pa_cons (pv 9) (pa_cons (pe_callTy (cList (K := K) rfl) (by rfl) T.z_list bb_list (pa_cons (pv 3) pa_nil)) (pa_cons (pv 11) pa_nil))))) (pa_cons (pe_callC c_law_low (hr.mono (by omega)) (by rfl) (pa_cons (pv 12) (pa_cons (pe_callB (cLen (K := K) rfl) (by rfl) T.z_len bb_len (pa_cons (pv 7) pa_nil)) pa_nil))) pa_nil))))) (pss_one (ps_ret pe_bl)) pss_nil)))))
      (pss_cons (ps_set (i := 8) scLaw.nd rfl (Or.inl rfl) (pe_op op_add (pv 8) (pv 10)))
      (pss_one (ps_if (pt_not (pt_val (pe_callC c_law_same (hr.mono (by omega)) (by rfl) (pa_cons (pe_callC c_goes_on (hr.mono (by omega)) (by rfl) (pa_cons (pv 2) (pa_cons (pv 9) (pa_cons (pv 3) pa_nil)))) (pa_cons (pe_callC c_law_low (hr.mono (by omega)) (by rfl) (pa_cons (pv 10) (pa_cons (pe_callB (cLen (K := K) rfl) (by rfl) T.z_len bb_len (pa_cons (pv 7) pa_nil)) pa_nil))) pa_nil))))) (pss_one (ps_ret pe_bl)) pss_nil))))))
      (pss_cons (ps_set (i := 13) scLaw.nd rfl (Or.inl rfl) (pe_tup (pa_cons (pe_callTy (cList (K := K) rfl) (by rfl) T.z_list bb_list (pa_cons (pv 2) pa_nil)) (pa_cons (pe_callTy (cList (K := K) rfl) (by rfl) T.z_list bb_list (pa_cons (pv 3) pa_nil)) pa_nil))))
      (pss_one (ps_ret (pe_and (pe_callC c_law_same (hr.mono (by omega)) (by rfl) (pa_cons (pe_callC c_mean_going (hr.mono (by omega)) (by rfl) (pa_cons (pe_ix (ixT (K := K) rfl) (pv 13) pe_int (fun _ _ => rfl)) (pa_cons (pe_ix (ixT (K := K) rfl) (pv 13) pe_int (fun _ _ => rfl)) pa_nil))) (pa_cons (pe_callC c_law_low (hr.mono (by omega)) (by rfl) (pa_cons (pv 8) (pa_cons (pe_callB (cLen (K := K) rfl) (by rfl) T.z_len bb_len (pa_cons (pv 7) pa_nil)) pa_nil))) pa_nil))) (pe_one (pe_cmpR (op_eqD hr.units) (pv 13) (pe_tup (pa_cons (pv 2) (pa_cons (pv 3) pa_nil))) (nomark _))))))))))))))), ?_⟩
    repeat walk_at "s"
    refine ⟨a0, ns, rfl, ha0, hn0, fun d c0 H1 s1 _ _ hD1 => ?_⟩
    repeat walk_at "s"
    refine ⟨d, c0, 3, 3, rfl, hD1, by decide, by decide, by decide, by decide, fun pa H2 as hD2 b2 hn2 hpa la1 la2 va => ?_⟩
    have fa : flB as = true := fl_mk la1 (by omega) fun v hv => by have := va v hv; omega
    have va1 : ∀ v ∈ as, 1 ≤ v := fun v hv => (va v hv).1
    obtain ⟨sa1, sa2⟩ := sumB va
    repeat walk_at "s"
    refine ⟨d, c0, pa, as, 4, rfl, hD2, hpa, by omega, by omega, by decide, by decide, fun pb0 H3 bs0 hD3 b3 hn3 hpb0 lb1 lb2 sb vb => ?_⟩
    have hpa3 := b3 _ _ (hD2.ne_ints hpa) hpa
    repeat walk_at "s"
    refine ⟨d, c0, 2, rfl, hD3, by decide, by decide, fun r H4 r0 r1 hD4 b4 => ?_⟩
    have hpa4 := b4 _ _ (hD3.ne_ints hpa3) hpa3
    have hpb4 := b4 _ _ (hD3.ne_ints hpb0) hpb0
    obtain ⟨kk, hkk⟩ : ∃ kk : Nat, 1 + r = (kk : Int) := ⟨(1 + r).toNat, by omega⟩
    repeat walk_at "s"
    rw [hkk]
    intro pb hpb
    rw [cut_take]
    have lk : (bs0.take kk).length = min kk bs0.length := List.length_take
    have vk : ∀ v ∈ bs0.take kk, 1 ≤ v ∧ v ≤ 4 := fun v hv => vb v (List.mem_of_mem_take hv)
    have sk : (bs0.take kk).sum ≤ bs0.sum := by
      have e : bs0.sum = (bs0.take kk).sum + (bs0.drop kk).sum := by rw [← List.sum_append, List.take_append_drop]
      have := nn_sum (bs := bs0.drop kk) fun v hv => (vb v (List.mem_of_mem_drop hv)).1
      omega
    generalize bs0.take kk = bs at lk vk sk ⊢
    have fb : flB bs = true := fl_mk (by omega) (by omega) fun v hv => by have := vk v hv; omega
    have fe := fe_mk fa fb (by omega)
    obtain ⟨ms, rfl⟩ : ∃ ms : List Nat, bs = ms.map fun (m : Nat) => (m : Int) := ⟨bs.map Int.toNat, by
      rw [List.map_map]
      exact (List.map_congr_left (fun v hv => by have := vk v hv; show ((v.toNat : Nat) : Int) = id v; show ((v.toNat : Nat) : Int) = v; omega)).trans (List.map_id _) |>.symm⟩
    rw [List.length_map] at lk
    have lm1 : 1 ≤ ms.length := by omega
    have lm2 : ms.length ≤ 2 := by omega
    have vm : ∀ m ∈ ms, m ≤ 12 := fun m hm => by have := vk m (List.mem_map.mpr ⟨m, hm, rfl⟩); omega
    have s5 := same_upd (o := .lst ((ms.map fun (m : Nat) => (m : Int)).map V.int)) hpb
    have hpb5 : upd H4 pb (.lst ((ms.map fun (m : Nat) => (m : Int)).map V.int)) pb = some (.lst ((ms.map fun (m : Nat) => (m : Int)).map V.int)) := upd_same
    generalize upd H4 pb (.lst ((ms.map fun (m : Nat) => (m : Int)).map V.int)) = H5 at s5 hpb5 ⊢
    have hpa5 := s5 _ _ hpa4
    clear hpa4 hpb4 hpa3 hpb0 hpb s5 hpa hD4 hD3 hD2 hD1 b2 b3 b4 hn2 hn3
    repeat walk_at "s"
    refine ⟨Nat.zero_le _, fun c hc => ?_⟩
    have s6 := same_upd (o := .lst []) hc
    have hc6 : upd H5 c (.lst []) c = some (.lst (([] : List Addr).map V.ref)) := upd_same
    generalize upd H5 c (.lst []) = H6 at s6 hc6 ⊢
    repeat walk_at "s"
    refine ⟨pa, rfl, ⟨_, SqL.of (s6 _ _ hpa5)⟩, ?_⟩
    refine forW (fun i σ' H' => ∃ (bos : List Addr) (x5 x6 : Option V), σ' = [some (.ref a0), some (.ref d), some (.ref pa), some (.ref pb), some (.ref c), x5, x6, none, none, none, none, none, none, none] ∧ Same H5 H' ∧ H' c = some (.lst (bos.map V.ref)) ∧ (∀ b ∈ bos, b ≠ c) ∧ BtAt H' bos ((List.range i).map (bt as))) as.length ⟨[], none, none, rfl, s6, hc6, (fun b hb => by cases hb), BtAt.nil⟩ ?_ ?_
    · rintro σ' H7 ⟨bos, x5, x6, rfl, s7, hc7, nc7, bt7⟩
      have hpa7 := s7 _ _ hpa5
      have hpb7 := s7 _ _ hpb5
      refine ⟨⟨_, SqL.of hpa7, by rw [List.length_map]; exact Nat.le_refl _⟩, ?_⟩
      repeat walk_at "s"
      refine i_sum (SqL.of hpa7) ?_
      repeat walk_at "s"
      have eS : as.sum = ((as.sum.toNat : Nat) : Int) := by omega
      refine ⟨as.sum.toNat, pb, ms, by rw [← eS]; rfl, hpb7, by omega, lm2, vm, fun dl H8 ts s8 hdl dt => ?_⟩
      have hpa8 := s8 _ _ hpa7
      have hpb8 := s8 _ _ hpb7
      have hc8 := s8 _ _ hc7
      have bt8 := bt7.same s8
      have dsm := dls_small (S := as.sum.toNat) (by omega) ms.length ms rfl
      have dlen : (dls as.sum.toNat ms).length ≤ 262144 := Nat.le_trans dsm.1 (show 512 ^ ms.length ≤ 512 ^ 2 from Nat.pow_le_pow_right (by decide) lm2)
      have dpos := dls_pos (S := as.sum.toNat) lm1 lm2 (by have := sum_nats ms; omega)
      have dbig : (dls as.sum.toNat ms).length < 2 ^ 8000 := Nat.lt_of_le_of_lt dlen (Nat.lt_of_le_of_lt (show 262144 ≤ 2 ^ 18 by decide) (pow2_lt (by decide)))
      repeat walk_at "s"
      rw [List.length_map]
      refine ⟨_, rfl, by omega, by omega, ?_⟩
      rw [show ((as.length : Int)).toNat = as.length by omega]
      refine forW (fun i σ' H' => (∃ x9 x10 x11 x12 : Option V, σ' = [some (.ref a0), some (.ref d), some (.ref pa), some (.ref pb), some (.ref c), x5, x6, some (.ref dl), some (.int (toN as ms i : Nat)), x9, x10, x11, x12, none]) ∧ Same H8 H') as.length ⟨⟨none, none, none, none, rfl⟩, Same.refl _⟩ ?_ ?_
      · rintro σ' H9 ⟨⟨x9, x10, x11, x12, rfl⟩, s9⟩
        refine ⟨Nat.le_refl _, ?_⟩
        have hpa9 := s9 _ _ hpa8
        have hpb9 := s9 _ _ hpb8
        have hdl9 := s9 _ _ hdl
        repeat walk_at "s"
        intro l1 hl1
        have t1 := same_upd (o := .lst (as.map V.int)) hl1
        have hl1' : upd H9 l1 (.lst (as.map V.int)) l1 = some (.lst (as.map V.int)) := upd_same
        generalize upd H9 l1 (.lst (as.map V.int)) = G1 at t1 hl1' ⊢
        have hpbG := t1 _ _ hpb9
        repeat walk_at "s"
        intro l2 hl2
        have t2 := same_upd (o := .lst ((ms.map fun (m : Nat) => (m : Int)).map V.int)) hl2
        have hl2' : upd G1 l2 (.lst ((ms.map fun (m : Nat) => (m : Int)).map V.int)) l2 = some (.lst ((ms.map fun (m : Nat) => (m : Int)).map V.int)) := upd_same
        generalize upd G1 l2 (.lst ((ms.map fun (m : Nat) => (m : Int)).map V.int)) = G2 at t2 hl2' ⊢
        have hl1G := t2 _ _ hl1'
        repeat walk_at "s"
        refine ⟨by show 2 ≤ sizeLine; decide, fun hd hhd => ?_⟩
        have t3 := same_upd (o := .tup [.ref l1, .ref l2]) hhd
        have hhd' : upd G2 hd (.tup [.ref l1, .ref l2]) hd = some (.tup [.ref l1, .ref l2]) := upd_same
        generalize upd G2 hd (.tup [.ref l1, .ref l2]) = G3 at t3 hhd' ⊢
        have hl1G3 := t3 _ _ hl1G
        have hl2G3 := t3 _ _ hl2'
        repeat walk_at "s"
        refine ⟨l1, l2, as, ms.map fun (m : Nat) => (m : Int), rfl, hl1G3, hl2G3, fe, fun p4 G4 t4 hp4 => ?_⟩
        have hdl4 := (t1.trans (t2.trans (t3.trans t4))) _ _ hdl9
        repeat walk_at "s"
        rw [List.length_map, dt.1]
        refine ⟨_, _, rfl, dpos, dbig, fun p5 G5 t5 hp5 => ?_⟩
        rw [gM_low fe lm1 lm2] at hp4
        repeat walk_at "s"
        refine ⟨_, _, dP (low (toN as ms as.length) (dls as.sum.toNat ms).length), rfl, rep_part (t5 _ _ hp4), rep_part hp5, ?_, ?_, fun G6 t6 => ?_⟩
        · show (dP _).depth ≤ 2
          rw [dP_depth]; decide
        · rw [dP_wide]; decide
        have t36 := t4.trans (t5.trans t6)
        have t96 := t1.trans (t2.trans (t3.trans t36))
        have hpa6 := t96 _ _ hpa9
        have hpb6 := t96 _ _ hpb9
        have hl16 := t36 _ _ hl1G3
        have hl26 := t36 _ _ hl2G3
        have hhd6 := t36 _ _ hhd'
        repeat walk_at "s"
        refine iteT ?_
        repeat walk_at "s"
        refine ⟨by show 2 ≤ sizeLine; decide, fun p7 hp7 => ?_⟩
        have t7 := same_upd (o := .tup [.ref pa, .ref pb]) hp7
        have repI : ∀ (ns : List Int) (G : Hp) (l : Addr), G l = some (.lst (ns.map V.int)) → Rep G (.ref l) (.lst (ns.map Dt.int)) := fun ns G l h => .lst h (reps_ints ns)
        refine i_alike (d := .tup [.lst (as.map Dt.int), .lst ((ms.map fun (m : Nat) => (m : Int)).map Dt.int)]) (.tup (t7 _ _ hhd6) (.cons (repI _ _ _ (t7 _ _ hl16)) (.cons (repI _ _ _ (t7 _ _ hl26)) .nil))) (.tup upd_same (.cons (repI _ _ _ (t7 _ _ hpa6)) (.cons (repI _ _ _ (t7 _ _ hpb6)) .nil))) ?_ ?_
        · have d1 := depths_ints as
          have d2 := depths_ints (ms.map fun (m : Nat) => (m : Int))
          show max (depths _ + 1) (max (depths _ + 1) 0) + 1 ≤ 40
          omega
        exact k _
      · rintro i σ' H9 hi ⟨⟨x9, x10, x11, x12, rfl⟩, s9⟩
        refine ⟨hi, ?_⟩
        rintro x' G ⟨rfl, rfl⟩
        rw [Int.zero_add]
        have hpa9 := s9 _ _ hpa8
        have hpb9 := s9 _ _ hpb8
        have hdl9 := s9 _ _ hdl
        have hc9 := s9 _ _ hc8
        have bt9 := bt8.same s9
        have dt9 := dt.same s9
        have lbo : bos.length = as.length := by rw [bt9.1, List.length_map, List.length_range]
        have eb : bos[i]? = some (bos[i]'(by omega)) := List.getElem?_eq_getElem (by omega)
        have hbo : G (bos[i]'(by omega)) = some (.lst ((bt as i).map V.int)) := bt9.2 i _ _ eb (by rw [List.getElem?_map, List.getElem?_range hi]; rfl)
        generalize bos[i]'(by omega) = bi at eb hbo
        have lbi : (bt as i).length < 64 := by
          rw [bt_len]
          have := (fl_at fa hi).2.2.1
          omega
        repeat walk_at "s"
        rw [List.length_map, List.length_map]
        refine ⟨_, rfl, by omega, by omega, ?_⟩
        rw [show ((ms.length : Int)).toNat = ms.length by omega]
        refine forW (fun j σ' H' => (∃ x11 x12 : Option V, σ' = [some (.ref a0), some (.ref d), some (.ref pa), some (.ref pb), some (.ref c), x5, x6, some (.ref dl), some (.int (toN as ms i : Nat)), some (.int i), some (.int (goN as ms i j : Nat)), x11, x12, none]) ∧ Same G H') ms.length ⟨⟨_, _, rfl⟩, Same.refl _⟩ ?_ ?_
        · rintro σ' H10 ⟨⟨x11, x12, rfl⟩, s10⟩
          refine ⟨Nat.le_refl _, ?_⟩
          have hpa10 := s10 _ _ hpa9
          have hpb10 := s10 _ _ hpb9
          have hdl10 := s10 _ _ hdl9
          repeat walk_at "s"
          refine ⟨pa, pb, as, ms.map fun (m : Nat) => (m : Int), i, rfl, hpa10, hpb10, fe, hi, fun p4 G4 t4 hp4 => ?_⟩
          have hdl4 := t4 _ _ hdl10
          repeat walk_at "s"
          rw [List.length_map, dt.1]
          refine ⟨_, _, rfl, dpos, dbig, fun p5 G5 t5 hp5 => ?_⟩
          rw [gO_low fe lm1 lm2 hi] at hp4
          repeat walk_at "s"
          refine ⟨_, _, dP (low (goN as ms i ms.length) (dls as.sum.toNat ms).length), rfl, rep_part (t5 _ _ hp4), rep_part hp5, ?_, ?_, fun G6 t6 => ?_⟩
          · show (dP _).depth ≤ 2
            rw [dP_depth]; decide
          · rw [dP_wide]; decide
          repeat walk_at "s"
          refine iteF ?_
          repeat walk_at "s"
          refine ⟨⟨some (.int i), some (.int (goN as ms i ms.length : Nat)), x11, x12, ?_⟩, s9.trans (s10.trans (t4.trans (t5.trans t6)))⟩
          have e : ((toN as ms (i + 1) : Nat) : Int) = (toN as ms i : Nat) + (goN as ms i ms.length : Nat) := by
            unfold toN
            rw [List.range_succ, List.map_append, List.sum_append]
            simp
          rw [e]
          rfl
        · rintro j σ' H10 hj ⟨⟨x11, x12, rfl⟩, s10⟩
          refine ⟨hj, ?_⟩
          rintro x' G10 ⟨rfl, rfl⟩
          rw [Int.zero_add]
          have hpa10 := s10 _ _ hpa9
          have hpb10 := s10 _ _ hpb9
          have hdl10 := s10 _ _ hdl9
          have hc10 := s10 _ _ hc9
          have hbo10 := s10 _ _ hbo
          have dt10 := dt9.same s10
          repeat walk_at "s"
          refine ⟨dl, rfl, ⟨_, SqL.of hdl10⟩, ?_⟩
          refine compW (fun cc ys σ' H' => (∃ x, σ' = [x, some (.ref c), some (.int i), some (.int j)]) ∧ Same G10 H' ∧ ∃ us : List Addr, ys = us.map V.ref ∧ us.length = (((dls as.sum.toNat ms).take cc).filter fun dd => likeB (bt as i) (dd.getD j [])).length) (dls as.sum.toNat ms).length ⟨⟨none, rfl⟩, Same.refl _, [], rfl, rfl⟩ ?_ ?_
          · rintro ys σ' H11 ⟨_, s11, us, rfl, lu⟩
            rw [List.take_length] at lu
            have lu' : us.length = gdN as ms i j := lu
            refine ⟨⟨_, SqL.of (s11 _ _ hdl10), by rw [List.length_map, dt.1]; exact Nat.le_refl _⟩, fun D hD => ?_⟩
            have t1 := same_upd (o := .lst (us.map V.ref)) hD
            have hD' : upd H11 D (.lst (us.map V.ref)) D = some (.lst (us.map V.ref)) := upd_same
            generalize upd H11 D (.lst (us.map V.ref)) = G11 at t1 hD' ⊢
            have t1' := s11.trans t1
            have hpa11 := t1' _ _ hpa10
            have hpb11 := t1' _ _ hpb10
            have hdl11 := t1' _ _ hdl10
            repeat walk_at "s"
            rw [List.length_map, lu']
            repeat walk_at "s"
            intro l1 hl1
            have t2 := same_upd (o := .lst (as.map V.int)) hl1
            have hl1' : upd G11 l1 (.lst (as.map V.int)) l1 = some (.lst (as.map V.int)) := upd_same
            generalize upd G11 l1 (.lst (as.map V.int)) = G12 at t2 hl1' ⊢
            have hpb12 := t2 _ _ hpb11
            repeat walk_at "s"
            intro l2 hl2
            have t3 := same_upd (o := .lst ((ms.map fun (m : Nat) => (m : Int)).map V.int)) hl2
            have hl2' : upd G12 l2 (.lst ((ms.map fun (m : Nat) => (m : Int)).map V.int)) l2 = some (.lst ((ms.map fun (m : Nat) => (m : Int)).map V.int)) := upd_same
            generalize upd G12 l2 (.lst ((ms.map fun (m : Nat) => (m : Int)).map V.int)) = G13 at t3 hl2' ⊢
            have hl13 := t3 _ _ hl1'
            repeat walk_at "s"
            refine ⟨l1, l2, as, ms.map fun (m : Nat) => (m : Int), i, j, rfl, hl13, hl2', fe, hi, by rw [List.length_map]; exact hj, fun p4 G4 t4 hp4 => ?_⟩
            have hdl4 := (t2.trans (t3.trans t4)) _ _ hdl11
            repeat walk_at "s"
            rw [List.length_map, dt.1]
            refine ⟨_, _, rfl, dpos, dbig, fun p5 G5 t5 hp5 => ?_⟩
            rw [gA_low fe lm1 lm2 hi hj] at hp4
            repeat walk_at "s"
            refine ⟨_, _, dP (low (gdN as ms i j) (dls as.sum.toNat ms).length), rfl, rep_part (t5 _ _ hp4), rep_part hp5, ?_, ?_, fun G6 t6 => ?_⟩
            · show (dP _).depth ≤ 2
              rw [dP_depth]; decide
            · rw [dP_wide]; decide
            repeat walk_at "s"
            refine iteF ?_
            repeat walk_at "s"
            refine ⟨⟨some (.int j), some (.int (gdN as ms i j : Nat)), ?_⟩, s10.trans (t1'.trans (t2.trans (t3.trans (t4.trans (t5.trans t6)))))⟩
            have e : ((goN as ms i (j + 1) : Nat) : Int) = (goN as ms i j : Nat) + (gdN as ms i j : Nat) := by
              unfold goN
              rw [List.range_succ, List.map_append, List.sum_append]
              simp
            rw [e]
            rfl
          · rintro cc ys σ' H11 hcc ⟨⟨x0, rfl⟩, s11, us, rfl, lu⟩
            have hc2 : cc < ts.length := by rw [dt.1]; exact hcc
            have f1 : ts[cc]? = some ts[cc] := List.getElem?_eq_getElem hc2
            have f2 : (dls as.sum.toNat ms)[cc]? = some (dls as.sum.toNat ms)[cc] := List.getElem?_eq_getElem hcc
            have hdl11 := s11 _ _ hdl10
            have hc11 := s11 _ _ hc10
            have hbo11 := s11 _ _ hbo10
            obtain ⟨b2, hb2, btd⟩ := (dt10.same s11).2 cc _ _ f1 f2
            have smd2 := dsm.2 _ (List.getElem_mem hcc)
            have et : (dls as.sum.toNat ms).take (cc + 1) = (dls as.sum.toNat ms).take cc ++ [(dls as.sum.toNat ms)[cc]] := by rw [List.take_succ, f2]; rfl
            have lus : us.length ≤ 262144 := by
              rw [lu]
              refine Nat.le_trans (List.length_filter_le _ _) ?_
              rw [List.length_take]
              omega
            refine ⟨⟨_, .ref ts[cc], SqL.of hdl11, by rw [List.getElem?_map, f1]; rfl⟩, big_line (by rw [List.length_map]; omega), ?_⟩
            rintro x' G11 ⟨rfl, hy⟩
            have ex := hy _ (SqL.of hdl11)
            rw [List.getElem?_map, f1] at ex
            cases ex
            generalize (dls as.sum.toNat ms)[cc] = dd at btd smd2 et
            have hj2 : j < dd.length := by rw [smd2.1]; exact hj
            have hj3 : j < b2.length := by rw [btd.1]; exact hj2
            have g1 : b2[j]? = some b2[j] := List.getElem?_eq_getElem hj3
            have g2 : dd[j]? = some dd[j] := List.getElem?_eq_getElem hj2
            have hbj := btd.2 j _ _ g1 g2
            have eD : dd.getD j [] = dd[j] := by simp [List.getD, g2]
            have l9 := smd2.2 _ (List.getElem_mem hj2)
            refine i_name ?_
            repeat walk_at "s"
            refine i_ixL (SqL.of hc11) (ref_at eb) ?_
            repeat walk_at "s"
            refine i_ixL (SqL.of hb2) (ref_at g1) ?_
            repeat walk_at "s"
            refine ⟨_, _, bt as i, dd[j], rfl, .inl (SqL.of hbo11), .inl (SqL.of hbj), lbi, by omega, fun G12 t12 => ?_⟩
            refine ⟨_, rfl, ?_⟩
            rw [et]
            cases hb : likeB (bt as i) dd[j] with
            | true =>
              refine iteT ?_
              repeat walk_at "s"
              refine nxt hcc ⟨⟨_, rfl⟩, s11.trans t12, us ++ [ts[cc]], by rw [List.map_append]; rfl, ?_⟩
              rw [List.filter_append, List.filter_cons, eD, hb, if_pos rfl, List.length_append, List.length_append, lu]
              rfl
            | false =>
              refine iteF ?_
              refine nxt hcc ⟨⟨_, rfl⟩, s11.trans t12, us, rfl, ?_⟩
              rw [List.filter_append, List.filter_cons, eD, hb, if_neg Bool.false_ne_true, List.filter_nil, List.append_nil]
              exact lu
    · rintro i σ' H7 hi ⟨bos, x5, x6, rfl, s7, hc7, nc7, bt7⟩
      have hpa7 := s7 _ _ hpa5
      obtain ⟨ex, x1, x2, x3, x4⟩ := fl_at fa hi
      refine ⟨⟨_, .int (as.getD i 0), SqL.of hpa7, by rw [List.getElem?_map, ex]; rfl⟩, ?_⟩
      rintro x' G ⟨rfl, hy⟩
      have exx := hy _ (SqL.of hpa7)
      rw [List.getElem?_map, ex] at exx
      cases exx
      have fl := bts_flat va1 i (by omega)
      have tk0 : 0 ≤ (as.take i).sum := nn_sum fun v hv => va1 v (List.mem_of_mem_take hv)
      have tk1 : (as.take i).sum ≤ as.sum := by
        have e : as.sum = (as.take i).sum + (as.drop i).sum := by rw [← List.sum_append, List.take_append_drop]
        have := nn_sum (bs := as.drop i) fun v hv => va1 v (List.mem_of_mem_drop hv)
        omega
      repeat walk_at "s"
      refine ⟨c, bos, _, rfl, hc7, bt7, by omega, fun l8 H8 s8 hl8 => ?_⟩
      have hc8 := s8 _ _ hc7
      repeat walk_at "s"
      rw [List.length_map, fl]
      repeat walk_at "s"
      refine ⟨.inl ⟨rfl, _, SqL.of hc8⟩, ?_⟩
      repeat walk_at "s"
      intro rg hrg
      have t1 := same_upd (o := .rng (as.take i).sum ((as.take i).sum + as.getD i 0)) hrg
      repeat walk_at "s"
      refine i_listRng upd_same (by omega) (by omega) (by omega) (by omega) (by omega) fun q hq => ?_
      rw [show (as.take i).sum + as.getD i 0 - (as.take i).sum = as.getD i 0 by omega]
      have t2 := same_upd (o := .lst ((bt as i).map V.int)) hq
      have hq' : upd (upd H8 rg (.rng (as.take i).sum ((as.take i).sum + as.getD i 0))) q (.lst ((bt as i).map V.int)) q = some (.lst ((bt as i).map V.int)) := upd_same
      show tNil _ (upd (upd H8 rg (.rng (as.take i).sum ((as.take i).sum + as.getD i 0))) q (.lst ((bt as i).map V.int))) _
      have t12 := s8.trans (t1.trans t2)
      have nqc : q ≠ c := by
        have := (t1 _ _ hc8)
        intro z
        subst z
        rw [hq] at this
        cases this
      generalize upd (upd H8 rg (.rng (as.take i).sum ((as.take i).sum + as.getD i 0))) q (.lst ((bt as i).map V.int)) = H9 at t12 hq' ⊢
      have hc9 := t12 _ _ hc7
      repeat walk_at "s"
      have lbo : bos.length = i := by rw [bt7.1, List.length_map, List.length_range]
      refine i_app hc9 (lt_line (by rw [List.length_map]; omega)) ?_
      repeat walk_at "s"
      refine ⟨bos ++ [q], _, _, rfl, same_put (s7.trans t12) hc, ?_, ?_, ?_⟩
      · rw [List.map_append]
        exact upd_same
      · intro b hb
        rcases List.mem_append.mp hb with z | z
        · exact nc7 b z
        · rw [List.mem_singleton] at z
          rw [z]
          exact nqc
      · rw [List.range_succ, List.map_append]
        exact BtAt.append ((bt7.same t12).put nc7) (BtAt.put (BtAt.one hq') fun b hb => by rw [List.mem_singleton] at hb; rw [hb]; exact nqc)
end
end K38

namespace K38
open PySem L2
theorem len_1 {fd : FuncData} {ps : List Str} (h : ∀ a0, bindArgs fd { pos := [a0] } = pure (ps.zip [a0])) : ∀ us : List Value, us.length = 1 → bindArgs fd { pos := us } = pure (ps.zip us)
  | [a0], _ => h a0
theorem len_2 {fd : FuncData} {ps : List Str} (h : ∀ a0 a1, bindArgs fd { pos := [a0, a1] } = pure (ps.zip [a0, a1])) : ∀ us : List Value, us.length = 2 → bindArgs fd { pos := us } = pure (ps.zip us)
  | [a0, a1], _ => h a0 a1
theorem len_3 {fd : FuncData} {ps : List Str} (h : ∀ a0 a1 a2, bindArgs fd { pos := [a0, a1, a2] } = pure (ps.zip [a0, a1, a2])) : ∀ us : List Value, us.length = 3 → bindArgs fd { pos := us } = pure (ps.zip us)
  | [a0, a1, a2], _ => h a0 a1 a2
theorem len_4 {fd : FuncData} {ps : List Str} (h : ∀ a0 a1 a2 a3, bindArgs fd { pos := [a0, a1, a2, a3] } = pure (ps.zip [a0, a1, a2, a3])) : ∀ us : List Value, us.length = 4 → bindArgs fd { pos := us } = pure (ps.zip us)
  | [a0, a1, a2, a3], _ => h a0 a1 a2 a3
theorem len_5 {fd : FuncData} {ps : List Str} (h : ∀ a0 a1 a2 a3 a4, bindArgs fd { pos := [a0, a1, a2, a3, a4] } = pure (ps.zip [a0, a1, a2, a3, a4])) : ∀ us : List Value, us.length = 5 → bindArgs fd { pos := us } = pure (ps.zip us)
  | [a0, a1, a2, a3, a4], _ => h a0 a1 a2 a3 a4
theorem all_mk {l : PySem.W.OpenLaw} {w : World} {K : PySem.W.Frag} {h : Heap} {mg : Str → Option Value} {fa f0 f1 f2 f3 f4 f5 f6 f7 f8 f9 f10 f11 f12 f13 f14 f15 f16 f17 f18 f19 f20 f21 f22 f23 f24 : Addr} (X : K.In h) (G : h.Ns mainGlobals mg) (hfa : mg "law" = some (.ref fa))
    {od0 an0 od1 an1 od2 an2 od3 an3 od4 an4 od5 an5 od6 an6 od7 an7 od8 an8 od9 an9 od10 an10 od11 an11 od12 an12 od13 an13 od14 an14 od15 an15 od16 an16 od17 an17 od18 an18 od19 an19 od20 an20 od21 an21 od22 an22 od23 an23 od24 an24 : Option Addr} {sl0 sl1 sl2 sl3 sl4 sl5 sl6 sl7 sl8 sl9 sl10 sl11 sl12 sl13 sl14 sl15 sl16 sl17 sl18 sl19 sl20 sl21 sl22 sl23 sl24 : Array (Option Value)} {oc0 kV0 dc0 pm0 cd0 ct0 oc1 kV1 dc1 pm1 cd1 ct1 oc2 kV2 dc2 pm2 cd2 ct2 oc3 kV3 dc3 pm3 cd3 ct3 oc4 kV4 dc4 pm4 cd4 ct4 oc5 kV5 dc5 pm5 cd5 ct5 oc6 kV6 dc6 pm6 cd6 ct6 oc7 kV7 dc7 pm7 cd7 ct7 oc8 kV8 dc8 pm8 cd8 ct8 oc9 kV9 dc9 pm9 cd9 ct9 oc10 kV10 dc10 pm10 cd10 ct10 oc11 kV11 dc11 pm11 cd11 ct11 oc12 kV12 dc12 pm12 cd12 ct12 oc13 kV13 dc13 pm13 cd13 ct13 oc14 kV14 dc14 pm14 cd14 ct14 oc15 kV15 dc15 pm15 cd15 ct15 oc16 kV16 dc16 pm16 cd16 ct16 oc17 kV17 dc17 pm17 cd17 ct17 oc18 kV18 dc18 pm18 cd18 ct18 oc19 kV19 dc19 pm19 cd19 ct19 oc20 kV20 dc20 pm20 cd20 ct20 oc21 kV21 dc21 pm21 cd21 ct21 oc22 kV22 dc22 pm22 cd22 ct22 oc23 kV23 dc23 pm23 cd23 ct23 oc24 kV24 dc24 pm24 cd24 ct24 : Value}
    (a0 : PySem.W.nsIn K mainGlobals "ways" = some (some (.ref f0))) (l0 : K.lookup f0 = some ⟨oc0, od0, .func (PySem.W.fnOf "ways" "ways" (defArgs sWays) (defBody sWays) (defScope sWays) .none kV0 dc0 pm0 an0 cd0 ct0), sl0⟩) (c0 : PySem.W.codeIn K cd0 "ways" = true) (k0 : PySem.W.keepIn K (.ref f0) = true)
    (a1 : PySem.W.nsIn K mainGlobals "divisor" = some (some (.ref f1))) (l1 : K.lookup f1 = some ⟨oc1, od1, .func (PySem.W.fnOf "divisor" "divisor" (defArgs sDivisor) (defBody sDivisor) (defScope sDivisor) .none kV1 dc1 pm1 an1 cd1 ct1), sl1⟩) (c1 : PySem.W.codeIn K cd1 "divisor" = true) (k1 : PySem.W.keepIn K (.ref f1) = true)
    (a2 : PySem.W.nsIn K mainGlobals "lowest" = some (some (.ref f2))) (l2 : K.lookup f2 = some ⟨oc2, od2, .func (PySem.W.fnOf "lowest" "lowest" (defArgs sLowest) (defBody sLowest) (defScope sLowest) .none kV2 dc2 pm2 an2 cd2 ct2), sl2⟩) (c2 : PySem.W.codeIn K cd2 "lowest" = true) (k2 : PySem.W.keepIn K (.ref f2) = true)
    (a3 : PySem.W.nsIn K mainGlobals "plus" = some (some (.ref f3))) (l3 : K.lookup f3 = some ⟨oc3, od3, .func (PySem.W.fnOf "plus" "plus" (defArgs sPlus) (defBody sPlus) (defScope sPlus) .none kV3 dc3 pm3 an3 cd3 ct3), sl3⟩) (c3 : PySem.W.codeIn K cd3 "plus" = true) (k3 : PySem.W.keepIn K (.ref f3) = true)
    (a4 : PySem.W.nsIn K mainGlobals "is_size" = some (some (.ref f4))) (l4 : K.lookup f4 = some ⟨oc4, od4, .func (PySem.W.fnOf "is_size" "is_size" (defArgs sIsSize) (defBody sIsSize) (defScope sIsSize) .none kV4 dc4 pm4 an4 cd4 ct4), sl4⟩) (c4 : PySem.W.codeIn K cd4 "is_size" = true) (k4 : PySem.W.keepIn K (.ref f4) = true)
    (a5 : PySem.W.nsIn K mainGlobals "need_sizes" = some (some (.ref f5))) (l5 : K.lookup f5 = some ⟨oc5, od5, .func (PySem.W.fnOf "need_sizes" "need_sizes" (defArgs sNeedSizes) (defBody sNeedSizes) (defScope sNeedSizes) .none kV5 dc5 pm5 an5 cd5 ct5), sl5⟩) (c5 : PySem.W.codeIn K cd5 "need_sizes" = true) (k5 : PySem.W.keepIn K (.ref f5) = true)
    (a6 : PySem.W.nsIn K mainGlobals "need_fleets" = some (some (.ref f6))) (l6 : K.lookup f6 = some ⟨oc6, od6, .func (PySem.W.fnOf "need_fleets" "need_fleets" (defArgs sNeedFleets) (defBody sNeedFleets) (defScope sNeedFleets) .none kV6 dc6 pm6 an6 cd6 ct6), sl6⟩) (c6 : PySem.W.codeIn K cd6 "need_fleets" = true) (k6 : PySem.W.keepIn K (.ref f6) = true)
    (a7 : PySem.W.nsIn K mainGlobals "need_place" = some (some (.ref f7))) (l7 : K.lookup f7 = some ⟨oc7, od7, .func (PySem.W.fnOf "need_place" "need_place" (defArgs sNeedPlace) (defBody sNeedPlace) (defScope sNeedPlace) .none kV7 dc7 pm7 an7 cd7 ct7), sl7⟩) (c7 : PySem.W.codeIn K cd7 "need_place" = true) (k7 : PySem.W.keepIn K (.ref f7) = true)
    (a8 : PySem.W.nsIn K mainGlobals "reckoned" = some (some (.ref f8))) (l8 : K.lookup f8 = some ⟨oc8, od8, .func (PySem.W.fnOf "reckoned" "reckoned" (defArgs sReckoned) (defBody sReckoned) (defScope sReckoned) .none kV8 dc8 pm8 an8 cd8 ct8), sl8⟩) (c8 : PySem.W.codeIn K cd8 "reckoned" = true) (k8 : PySem.W.keepIn K (.ref f8) = true)
    (a9 : PySem.W.nsIn K mainGlobals "total" = some (some (.ref f9))) (l9 : K.lookup f9 = some ⟨oc9, od9, .func (PySem.W.fnOf "total" "total" (defArgs sTotal) (defBody sTotal) (defScope sTotal) .none kV9 dc9 pm9 an9 cd9 ct9), sl9⟩) (c9 : PySem.W.codeIn K cd9 "total" = true) (k9 : PySem.W.keepIn K (.ref f9) = true)
    (a10 : PySem.W.nsIn K mainGlobals "goes_as" = some (some (.ref f10))) (l10 : K.lookup f10 = some ⟨oc10, od10, .func (PySem.W.fnOf "goes_as" "goes_as" (defArgs sGoesAs) (defBody sGoesAs) (defScope sGoesAs) .none kV10 dc10 pm10 an10 cd10 ct10), sl10⟩) (c10 : PySem.W.codeIn K cd10 "goes_as" = true) (k10 : PySem.W.keepIn K (.ref f10) = true)
    (a11 : PySem.W.nsIn K mainGlobals "goes_on" = some (some (.ref f11))) (l11 : K.lookup f11 = some ⟨oc11, od11, .func (PySem.W.fnOf "goes_on" "goes_on" (defArgs sGoesOn) (defBody sGoesOn) (defScope sGoesOn) .none kV11 dc11 pm11 an11 cd11 ct11), sl11⟩) (c11 : PySem.W.codeIn K cd11 "goes_on" = true) (k11 : PySem.W.keepIn K (.ref f11) = true)
    (a12 : PySem.W.nsIn K mainGlobals "mean_going" = some (some (.ref f12))) (l12 : K.lookup f12 = some ⟨oc12, od12, .func (PySem.W.fnOf "mean_going" "mean_going" (defArgs sMeanGoing) (defBody sMeanGoing) (defScope sMeanGoing) .none kV12 dc12 pm12 an12 cd12 ct12), sl12⟩) (c12 : PySem.W.codeIn K cd12 "mean_going" = true) (k12 : PySem.W.keepIn K (.ref f12) = true)
    (a13 : PySem.W.nsIn K mainGlobals "_law_begin" = some (some (.ref f13))) (l13 : K.lookup f13 = some ⟨oc13, od13, .func (PySem.W.fnOf "_law_begin" "_law_begin" (defArgs sLawBegin) (defBody sLawBegin) (defScope sLawBegin) .none kV13 dc13 pm13 an13 cd13 ct13), sl13⟩) (c13 : PySem.W.codeIn K cd13 "_law_begin" = true) (k13 : PySem.W.keepIn K (.ref f13) = true)
    (a14 : PySem.W.nsIn K mainGlobals "_law_take" = some (some (.ref f14))) (l14 : K.lookup f14 = some ⟨oc14, od14, .func (PySem.W.fnOf "_law_take" "_law_take" (defArgs sLawTake) (defBody sLawTake) (defScope sLawTake) .none kV14 dc14 pm14 an14 cd14 ct14), sl14⟩) (c14 : PySem.W.codeIn K cd14 "_law_take" = true) (k14 : PySem.W.keepIn K (.ref f14) = true)
    (a15 : PySem.W.nsIn K mainGlobals "_law_same" = some (some (.ref f15))) (l15 : K.lookup f15 = some ⟨oc15, od15, .func (PySem.W.fnOf "_law_same" "_law_same" (defArgs sLawSame) (defBody sLawSame) (defScope sLawSame) .none kV15 dc15 pm15 an15 cd15 ct15), sl15⟩) (c15 : PySem.W.codeIn K cd15 "_law_same" = true) (k15 : PySem.W.keepIn K (.ref f15) = true)
    (a16 : PySem.W.nsIn K mainGlobals "_law_set" = some (some (.ref f16))) (l16 : K.lookup f16 = some ⟨oc16, od16, .func (PySem.W.fnOf "_law_set" "_law_set" (defArgs sLawSet) (defBody sLawSet) (defScope sLawSet) .none kV16 dc16 pm16 an16 cd16 ct16), sl16⟩) (c16 : PySem.W.codeIn K cd16 "_law_set" = true) (k16 : PySem.W.keepIn K (.ref f16) = true)
    (a17 : PySem.W.nsIn K mainGlobals "_law_like" = some (some (.ref f17))) (l17 : K.lookup f17 = some ⟨oc17, od17, .func (PySem.W.fnOf "_law_like" "_law_like" (defArgs sLawLike) (defBody sLawLike) (defScope sLawLike) .none kV17 dc17 pm17 an17 cd17 ct17), sl17⟩) (c17 : PySem.W.codeIn K cd17 "_law_like" = true) (k17 : PySem.W.keepIn K (.ref f17) = true)
    (a18 : PySem.W.nsIn K mainGlobals "_law_low" = some (some (.ref f18))) (l18 : K.lookup f18 = some ⟨oc18, od18, .func (PySem.W.fnOf "_law_low" "_law_low" (defArgs sLawLow) (defBody sLawLow) (defScope sLawLow) .none kV18 dc18 pm18 an18 cd18 ct18), sl18⟩) (c18 : PySem.W.codeIn K cd18 "_law_low" = true) (k18 : PySem.W.keepIn K (.ref f18) = true)
    (a19 : PySem.W.nsIn K mainGlobals "_law_flat" = some (some (.ref f19))) (l19 : K.lookup f19 = some ⟨oc19, od19, .func (PySem.W.fnOf "_law_flat" "_law_flat" (defArgs sLawFlat) (defBody sLawFlat) (defScope sLawFlat) .none kV19 dc19 pm19 an19 cd19 ct19), sl19⟩) (c19 : PySem.W.codeIn K cd19 "_law_flat" = true) (k19 : PySem.W.keepIn K (.ref f19) = true)
    (a20 : PySem.W.nsIn K mainGlobals "_law_picks" = some (some (.ref f20))) (l20 : K.lookup f20 = some ⟨oc20, od20, .func (PySem.W.fnOf "_law_picks" "_law_picks" (defArgs sLawPicks) (defBody sLawPicks) (defScope sLawPicks) .none kV20 dc20 pm20 an20 cd20 ct20), sl20⟩) (c20 : PySem.W.codeIn K cd20 "_law_picks" = true) (k20 : PySem.W.keepIn K (.ref f20) = true)
    (a21 : PySem.W.nsIn K mainGlobals "_law_sizes" = some (some (.ref f21))) (l21 : K.lookup f21 = some ⟨oc21, od21, .func (PySem.W.fnOf "_law_sizes" "_law_sizes" (defArgs sLawSizes) (defBody sLawSizes) (defScope sLawSizes) .none kV21 dc21 pm21 an21 cd21 ct21), sl21⟩) (c21 : PySem.W.codeIn K cd21 "_law_sizes" = true) (k21 : PySem.W.keepIn K (.ref f21) = true)
    (a22 : PySem.W.nsIn K mainGlobals "_law_behind" = some (some (.ref f22))) (l22 : K.lookup f22 = some ⟨oc22, od22, .func (PySem.W.fnOf "_law_behind" "_law_behind" (defArgs sLawBehind) (defBody sLawBehind) (defScope sLawBehind) .none kV22 dc22 pm22 an22 cd22 ct22), sl22⟩) (c22 : PySem.W.codeIn K cd22 "_law_behind" = true) (k22 : PySem.W.keepIn K (.ref f22) = true)
    (a23 : PySem.W.nsIn K mainGlobals "_law_dealings" = some (some (.ref f23))) (l23 : K.lookup f23 = some ⟨oc23, od23, .func (PySem.W.fnOf "_law_dealings" "_law_dealings" (defArgs sLawDealings) (defBody sLawDealings) (defScope sLawDealings) .none kV23 dc23 pm23 an23 cd23 ct23), sl23⟩) (c23 : PySem.W.codeIn K cd23 "_law_dealings" = true) (k23 : PySem.W.keepIn K (.ref f23) = true)
    (a24 : PySem.W.nsIn K mainGlobals "law" = some (some (.ref f24))) (l24 : K.lookup f24 = some ⟨oc24, od24, .func (PySem.W.fnOf "law" "law" (defArgs sLaw) (defBody sLaw) (defScope sLaw) .none kV24 dc24 pm24 an24 cd24 ct24), sl24⟩) (c24 : PySem.W.codeIn K cd24 "law" = true) (k24 : PySem.W.keepIn K (.ref f24) = true)
    {gt0 : Tok} (g0 : PySem.W.nsIn K mainGlobals "MOST_SLIP" = some (some (.int 12 gt0)))
    {gt1 : Tok} (g1 : PySem.W.nsIn K mainGlobals "MOST_BOATS" = some (some (.int 8 gt1)))
    {cBadNumber : Addr} (xcl0 : PySem.W.nsIn K mainGlobals "BadNumber" = some (some (.ref cBadNumber)))
    (fct0 : (PySem.W.excIn K cBadNumber bmV "ValueError.__new__" = true))
    (z0 : PySem.W.nsIn K mainGlobals "len" = some none) (z1 : PySem.W.nsIn K mainGlobals "abs" = some none) (z2 : PySem.W.nsIn K mainGlobals "all" = some none) (z3 : PySem.W.nsIn K mainGlobals "isinstance" = some none) (z4 : PySem.W.nsIn K mainGlobals "zip" = some none) (z5 : PySem.W.nsIn K mainGlobals "list" = some none) (z6 : PySem.W.nsIn K mainGlobals "tuple" = some none) (z7 : PySem.W.nsIn K mainGlobals "bool" = some none) (z8 : PySem.W.nsIn K mainGlobals "int" = some none) (z9 : PySem.W.nsIn K mainGlobals "str" = some none) (z10 : PySem.W.nsIn K mainGlobals "range" = some none) (z11 : PySem.W.nsIn K mainGlobals "sorted" = some none) (z12 : PySem.W.nsIn K mainGlobals "set" = some none) (z13 : PySem.W.nsIn K mainGlobals "min" = some none) (z14 : PySem.W.nsIn K mainGlobals "max" = some none) (z15 : PySem.W.nsIn K mainGlobals "sum" = some none) (z16 : PySem.W.nsIn K mainGlobals "enumerate" = some none) :
    ∃ fd : FuncData, (∀ (s : Shared) (v : Value), BindsTo s fd ⟨[v], []⟩ [("_law_script", v)]) ∧ ∀ base : Heap, K.In base → base.Ns mainGlobals mg → FnOk l.prog w K mg base CX0 10 fa fd ["_law_script"] (spLaw K) := by
  have e := hfa.symm.trans (PySem.W.mg_of X G a24)
  cases e
  have T : BltM mg := { toBlt := ⟨PySem.W.mg_none_of X G z0, PySem.W.mg_none_of X G z1, PySem.W.mg_none_of X G z2, PySem.W.mg_none_of X G z3, PySem.W.mg_none_of X G z4, PySem.W.mg_none_of X G z5, PySem.W.mg_none_of X G z6, PySem.W.mg_none_of X G z7, PySem.W.mg_none_of X G z8, PySem.W.mg_none_of X G z9, PySem.W.mg_none_of X G z10, PySem.W.mg_none_of X G z11, PySem.W.mg_none_of X G z12⟩, z_min := PySem.W.mg_none_of X G z13, z_max := PySem.W.mg_none_of X G z14, z_sum := PySem.W.mg_none_of X G z15, z_enumerate := PySem.W.mg_none_of X G z16 }
  have C0 := PySem.W.mg_of X G g0
  have C1 := PySem.W.mg_of X G g1
  have xBadNumber : ExcC K mg "BadNumber" cBadNumber := ⟨PySem.W.mg_of X G xcl0, fct0⟩
  have hBadNumber := PySem.W.mg_of X G xcl0
  have F0 := fun_mk (st := sWays) l0 c0 k0
  have b0 := F0.binds (ps := ["many", "taken"]) fun _ _ _ _ _ _ us hl => len_2 (fun _ _ => rfl) us hl
  have m0 := PySem.W.mg_of X G a0
  have F1 := fun_mk (st := sDivisor) l1 c1 k1
  have b1 := F1.binds (ps := ["one", "other"]) fun _ _ _ _ _ _ us hl => len_2 (fun _ _ => rfl) us hl
  have m1 := PySem.W.mg_of X G a1
  have F2 := fun_mk (st := sLowest) l2 c2 k2
  have b2 := F2.binds (ps := ["top", "bottom"]) fun _ _ _ _ _ _ us hl => len_2 (fun _ _ => rfl) us hl
  have m2 := PySem.W.mg_of X G a2
  have F3 := fun_mk (st := sPlus) l3 c3 k3
  have b3 := F3.binds (ps := ["one", "other"]) fun _ _ _ _ _ _ us hl => len_2 (fun _ _ => rfl) us hl
  have m3 := PySem.W.mg_of X G a3
  have F4 := fun_mk (st := sIsSize) l4 c4 k4
  have b4 := F4.binds (ps := ["number"]) fun _ _ _ _ _ _ us hl => len_1 (fun _ => rfl) us hl
  have m4 := PySem.W.mg_of X G a4
  have F5 := fun_mk (st := sNeedSizes) l5 c5 k5
  have b5 := F5.binds (ps := ["sizes"]) fun _ _ _ _ _ _ us hl => len_1 (fun _ => rfl) us hl
  have m5 := PySem.W.mg_of X G a5
  have F6 := fun_mk (st := sNeedFleets) l6 c6 k6
  have b6 := F6.binds (ps := ["ahead", "behind"]) fun _ _ _ _ _ _ us hl => len_2 (fun _ _ => rfl) us hl
  have m6 := PySem.W.mg_of X G a6
  have F7 := fun_mk (st := sNeedPlace) l7 c7 k7
  have b7 := F7.binds (ps := ["sizes", "place"]) fun _ _ _ _ _ _ us hl => len_2 (fun _ _ => rfl) us hl
  have m7 := PySem.W.mg_of X G a7
  have F8 := fun_mk (st := sReckoned) l8 c8 k8
  have b8 := F8.binds (ps := ["ahead", "at", "size", "drawn", "mine"]) fun _ _ _ _ _ _ us hl => len_5 (fun _ _ _ _ _ => rfl) us hl
  have m8 := PySem.W.mg_of X G a8
  have F9 := fun_mk (st := sTotal) l9 c9 k9
  have b9 := F9.binds (ps := ["parts"]) fun _ _ _ _ _ _ us hl => len_1 (fun _ => rfl) us hl
  have m9 := PySem.W.mg_of X G a9
  have F10 := fun_mk (st := sGoesAs) l10 c10 k10
  have b10 := F10.binds (ps := ["ahead", "at", "behind", "to"]) fun _ _ _ _ _ _ us hl => len_4 (fun _ _ _ _ => rfl) us hl
  have m10 := PySem.W.mg_of X G a10
  have F11 := fun_mk (st := sGoesOn) l11 c11 k11
  have b11 := F11.binds (ps := ["ahead", "at", "behind"]) fun _ _ _ _ _ _ us hl => len_3 (fun _ _ _ => rfl) us hl
  have m11 := PySem.W.mg_of X G a11
  have F12 := fun_mk (st := sMeanGoing) l12 c12 k12
  have b12 := F12.binds (ps := ["ahead", "behind"]) fun _ _ _ _ _ _ us hl => len_2 (fun _ _ => rfl) us hl
  have m12 := PySem.W.mg_of X G a12
  have F13 := fun_mk (st := sLawBegin) l13 c13 k13
  have b13 := F13.binds (ps := ["_law_script"]) fun _ _ _ _ _ _ us hl => len_1 (fun _ => rfl) us hl
  have m13 := PySem.W.mg_of X G a13
  have F14 := fun_mk (st := sLawTake) l14 c14 k14
  have b14 := F14.binds (ps := ["_law_draw", "_law_many"]) fun _ _ _ _ _ _ us hl => len_2 (fun _ _ => rfl) us hl
  have m14 := PySem.W.mg_of X G a14
  have F15 := fun_mk (st := sLawSame) l15 c15 k15
  have b15 := F15.binds (ps := ["_law_found", "_law_due"]) fun _ _ _ _ _ _ us hl => len_2 (fun _ _ => rfl) us hl
  have m15 := PySem.W.mg_of X G a15
  have F16 := fun_mk (st := sLawSet) l16 c16 k16
  have b16 := F16.binds (ps := ["_law_timbers"]) fun _ _ _ _ _ _ us hl => len_1 (fun _ => rfl) us hl
  have m16 := PySem.W.mg_of X G a16
  have F17 := fun_mk (st := sLawLike) l17 c17 k17
  have b17 := F17.binds (ps := ["_law_one", "_law_other"]) fun _ _ _ _ _ _ us hl => len_2 (fun _ _ => rfl) us hl
  have m17 := PySem.W.mg_of X G a17
  have F18 := fun_mk (st := sLawLow) l18 c18 k18
  have b18 := F18.binds (ps := ["_law_top", "_law_bottom"]) fun _ _ _ _ _ _ us hl => len_2 (fun _ _ => rfl) us hl
  have m18 := PySem.W.mg_of X G a18
  have F19 := fun_mk (st := sLawFlat) l19 c19 k19
  have b19 := F19.binds (ps := ["_law_rows"]) fun _ _ _ _ _ _ us hl => len_1 (fun _ => rfl) us hl
  have m19 := PySem.W.mg_of X G a19
  have F20 := fun_mk (st := sLawPicks) l20 c20 k20
  have b20 := F20.binds (ps := ["_law_row", "_law_few"]) fun _ _ _ _ _ _ us hl => len_2 (fun _ _ => rfl) us hl
  have m20 := PySem.W.mg_of X G a20
  have F21 := fun_mk (st := sLawSizes) l21 c21 k21
  have b21 := F21.binds (ps := ["_law_draw", "_law_most", "_law_big"]) fun _ _ _ _ _ _ us hl => len_3 (fun _ _ _ => rfl) us hl
  have m21 := PySem.W.mg_of X G a21
  have F22 := fun_mk (st := sLawBehind) l22 c22 k22
  have b22 := F22.binds (ps := ["_law_draw", "_law_ahead", "_law_big"]) fun _ _ _ _ _ _ us hl => len_3 (fun _ _ _ => rfl) us hl
  have m22 := PySem.W.mg_of X G a22
  have F23 := fun_mk (st := sLawDealings) l23 c23 k23
  have b23 := F23.binds (ps := ["_law_many", "_law_behind_here"]) fun _ _ _ _ _ _ us hl => len_2 (fun _ _ => rfl) us hl
  have m23 := PySem.W.mg_of X G a23
  have F24 := fun_mk (st := sLaw) l24 c24 k24
  refine ⟨PySem.W.fnOf "law" "law" (defArgs sLaw) (defBody sLaw) (defScope sLaw) .none kV24 dc24 pm24 an24 cd24 ct24, fun s v => .of_eq rfl, fun base _ _ => ?_⟩
  have c_ways : Cal l.prog w K mg base "ways" 1 ["many", "taken"] spWays := ⟨_, _, ok_ways F0 T, m0, k0, b0⟩
  have c_divisor : Cal l.prog w K mg base "divisor" 1 ["one", "other"] spDiv := ⟨_, _, ok_divisor F1, m1, k1, b1⟩
  have c_lowest : Cal l.prog w K mg base "lowest" 2 ["top", "bottom"] spLow := ⟨_, _, ok_lowest F2 T c_divisor, m2, k2, b2⟩
  have c_plus : Cal l.prog w K mg base "plus" 3 ["one", "other"] spPlus := ⟨_, _, ok_plus F3 T c_lowest, m3, k3, b3⟩
  have c_is_size : Cal l.prog w K mg base "is_size" 1 ["number"] (spIn 1 12) := ⟨_, _, ok_is_size F4 T C0, m4, k4, b4⟩
  have c_need_sizes : CalX l.prog w K mg base "need_sizes" 2 ["sizes"] (spNeedSizes cBadNumber) := ⟨_, _, ok_need_sizes F5 T C1 xBadNumber c_is_size, m5, k5, b5⟩
  have c_need_fleets : CalX l.prog w K mg base "need_fleets" 3 ["ahead", "behind"] (spNeedFleets cBadNumber) := ⟨_, _, ok_need_fleets F6 T xBadNumber c_need_sizes, m6, k6, b6⟩
  have c_need_place : CalX l.prog w K mg base "need_place" 1 ["sizes", "place"] (spNeedPlace cBadNumber) := ⟨_, _, ok_need_place F7 T xBadNumber, m7, k7, b7⟩
  have c_reckoned : Cal l.prog w K mg base "reckoned" 3 ["ahead", "at", "size", "drawn", "mine"] spReck := ⟨_, _, ok_reckoned F8 T c_ways c_lowest, m8, k8, b8⟩
  have c_total : Cal l.prog w K mg base "total" 4 ["parts"] spTotal := ⟨_, _, ok_total F9 T c_plus, m9, k9, b9⟩
  have c_goes_as : CalX l.prog w K mg base "goes_as" 4 ["ahead", "at", "behind", "to"] spGoesAs := ⟨_, _, ok_goes_as F10 T c_need_fleets c_need_place c_reckoned, m10, k10, b10⟩
  have c_goes_on : CalX l.prog w K mg base "goes_on" 6 ["ahead", "at", "behind"] spGoesOn := ⟨_, _, ok_goes_on F11 T c_need_fleets c_need_place c_goes_as c_total, m11, k11, b11⟩
  have c_mean_going : CalX l.prog w K mg base "mean_going" 8 ["ahead", "behind"] spMean := ⟨_, _, ok_mean_going F12 T c_need_fleets c_goes_on c_total, m12, k12, b12⟩
  have c_law_begin : Cal l.prog w K mg base "_law_begin" 1 ["_law_script"] (spBeginC K) := ⟨_, _, ok_begin F13 T.toBlt, m13, k13, b13⟩
  have c_law_take : Cal l.prog w K mg base "_law_take" 1 ["_law_draw", "_law_many"] spTakeC := ⟨_, _, ok_take F14 T.toBlt, m14, k14, b14⟩
  have c_law_same : Cal l.prog w K mg base "_law_same" 3 ["_law_found", "_law_due"] (spS 3) := ⟨_, _, ok_same F15 T.toBlt m15 b15 3, m15, k15, b15⟩
  have c_law_set : Cal l.prog w K mg base "_law_set" 1 ["_law_timbers"] (spRis K) := ⟨_, _, ok_set F16 T, m16, k16, b16⟩
  have c_law_like : Cal l.prog w K mg base "_law_like" 2 ["_law_one", "_law_other"] (spLike K) := ⟨_, _, ok_like F17 T c_law_set, m17, k17, b17⟩
  have c_law_low : Cal l.prog w K mg base "_law_low" 2 ["_law_top", "_law_bottom"] spLow := ⟨_, _, ok_law_low F18 T, m18, k18, b18⟩
  have c_law_flat : Cal l.prog w K mg base "_law_flat" 1 ["_law_rows"] spFlat := ⟨_, _, ok_flat F19 T, m19, k19, b19⟩
  have c_law_picks : Cal l.prog w K mg base "_law_picks" 1 ["_law_row", "_law_few"] spPicks := ⟨_, _, ok_picks F20 T, m20, k20, b20⟩
  have c_law_sizes : Cal l.prog w K mg base "_law_sizes" 2 ["_law_draw", "_law_most", "_law_big"] spSizes := ⟨_, _, ok_sizes F21 T c_law_take, m21, k21, b21⟩
  have c_law_behind : Cal l.prog w K mg base "_law_behind" 2 ["_law_draw", "_law_ahead", "_law_big"] spBehind := ⟨_, _, ok_behind F22 T c_law_take, m22, k22, b22⟩
  have c_law_dealings : Cal l.prog w K mg base "_law_dealings" 2 ["_law_many", "_law_behind_here"] spDeal := ⟨_, _, ok_dealings F23 T c_law_flat c_law_picks, m23, k23, b23⟩
  exact ok_law F24 T (K38.CalX.quiet c_goes_as) (K38.CalX.quiet c_goes_on) (K38.CalX.quiet c_mean_going) c_law_begin c_law_take c_law_same c_law_like c_law_low c_law_flat c_law_sizes c_law_behind c_law_dealings
theorem walk {l : PySem.W.OpenLaw} {q : Program} {loose : List Str} {XP : (Str → Option Value) → Heap → Prop} {YP : World → Heap → Prop} {d : DefRec} {K : Params → PySem.W.Frag} (hn : l.most = some 63) (hdf : d.params.defaults = [])
    (hY : ∀ (w : World) (h : Heap), YP w h → (K w.params).In h)
    (F : ∀ (w : World) (mg : Str → Option Value) (fa : Addr) (h : Heap), (K w.params).In h → h.Ns mainGlobals mg → mg d.name = some (.ref fa) →
      ∃ fd : FuncData, (∀ (s : Shared) (u : Value), BindsTo s fd ⟨[u], []⟩ [("_law_script", u)]) ∧ ∀ base : Heap, (K w.params).In base → base.Ns mainGlobals mg → FnOk l.prog w (K w.params) mg base CX0 10 fa fd ["_law_script"] (spLaw (K w.params))) :
    PySem.W.WalkO q loose XP YP l.row.toRowW d [] (fun f vs => PySem.call f vs) :=
  L2.walk_of (n := 63) (k := 10) (x := "_law_script") (CX := fun _ => CX0) (sp := fun w => spLaw (K w.params)) hn (by decide) hdf ⟨rfl, by decide, by decide⟩ hY F (fun _ _ a ns hl _ hS => ⟨a, ns, rfl, hS, hl, fun _ => rfl⟩) fun _ _ _ _ _ z => z
end K38
open PySem PySem.W PyProof.Rows
set_option maxRecDepth 100000 in
set_option maxHeartbeats 0 in
theorem PySem.Challenge.cw_argosy_k38_lots_by_all_dealings_holds : PySem.Challenge.rw_argosy_k38_lots_by_all_dealings.Holds := by
  w_on; o_law; k_head; (case hw => w_witness2)
  k_fill
  refine K38.walk (l := PySem.Challenge.rw_argosy_k38_lots_by_all_dealings) rfl rfl (fun w h Y => PySem.W.kIn_of Y) ?F
  case F =>
    intro w mg fa h KX G hmg
    refine' K38.all_mk KX G hmg ?a0 ?l0 ?c0 ?k0 ?a1 ?l1 ?c1 ?k1 ?a2 ?l2 ?c2 ?k2 ?a3 ?l3 ?c3 ?k3 ?a4 ?l4 ?c4 ?k4 ?a5 ?l5 ?c5 ?k5 ?a6 ?l6 ?c6 ?k6 ?a7 ?l7 ?c7 ?k7 ?a8 ?l8 ?c8 ?k8 ?a9 ?l9 ?c9 ?k9 ?a10 ?l10 ?c10 ?k10 ?a11 ?l11 ?c11 ?k11 ?a12 ?l12 ?c12 ?k12 ?a13 ?l13 ?c13 ?k13 ?a14 ?l14 ?c14 ?k14 ?a15 ?l15 ?c15 ?k15 ?a16 ?l16 ?c16 ?k16 ?a17 ?l17 ?c17 ?k17 ?a18 ?l18 ?c18 ?k18 ?a19 ?l19 ?c19 ?k19 ?a20 ?l20 ?c20 ?k20 ?a21 ?l21 ?c21 ?k21 ?a22 ?l22 ?c22 ?k22 ?a23 ?l23 ?c23 ?k23 ?a24 ?l24 ?c24 ?k24 ?gcst0 ?gcst1 ?xcl0 ?fct0 ?z0 ?z1 ?z2 ?z3 ?z4 ?z5 ?z6 ?z7 ?z8 ?z9 ?z10 ?z11 ?z12 ?z13 ?z14 ?z15 ?z16
    (case a0 => k_is); (case l0 => k_is); (case c0 => k_is); (case k0 => k_is); (case a1 => k_is); (case l1 => k_is); (case c1 => k_is); (case k1 => k_is)
    (case a2 => k_is); (case l2 => k_is); (case c2 => k_is); (case k2 => k_is); (case a3 => k_is); (case l3 => k_is); (case c3 => k_is); (case k3 => k_is)
    (case a4 => k_is); (case l4 => k_is); (case c4 => k_is); (case k4 => k_is); (case a5 => k_is); (case l5 => k_is); (case c5 => k_is); (case k5 => k_is)
    (case a6 => k_is); (case l6 => k_is); (case c6 => k_is); (case k6 => k_is); (case a7 => k_is); (case l7 => k_is); (case c7 => k_is); (case k7 => k_is)
    (case a8 => k_is); (case l8 => k_is); (case c8 => k_is); (case k8 => k_is); (case a9 => k_is); (case l9 => k_is); (case c9 => k_is); (case k9 => k_is)
    (case a10 => k_is); (case l10 => k_is); (case c10 => k_is); (case k10 => k_is); (case a11 => k_is); (case l11 => k_is); (case c11 => k_is); (case k11 => k_is)
    (case a12 => k_is); (case l12 => k_is); (case c12 => k_is); (case k12 => k_is); (case a13 => k_is); (case l13 => k_is); (case c13 => k_is); (case k13 => k_is)
    (case a14 => k_is); (case l14 => k_is); (case c14 => k_is); (case k14 => k_is); (case a15 => k_is); (case l15 => k_is); (case c15 => k_is); (case k15 => k_is)
    (case a16 => k_is); (case l16 => k_is); (case c16 => k_is); (case k16 => k_is); (case a17 => k_is); (case l17 => k_is); (case c17 => k_is); (case k17 => k_is)
    (case a18 => k_is); (case l18 => k_is); (case c18 => k_is); (case k18 => k_is); (case a19 => k_is); (case l19 => k_is); (case c19 => k_is); (case k19 => k_is)
    (case a20 => k_is); (case l20 => k_is); (case c20 => k_is); (case k20 => k_is); (case a21 => k_is); (case l21 => k_is); (case c21 => k_is); (case k21 => k_is)
    (case a22 => k_is); (case l22 => k_is); (case c22 => k_is); (case k22 => k_is); (case a23 => k_is); (case l23 => k_is); (case c23 => k_is); (case k23 => k_is)
    (case a24 => k_is); (case l24 => k_is); (case c24 => k_is); (case k24 => k_is); (case gcst0 => k_is); (case gcst1 => k_is); (case xcl0 => k_is); (case fct0 => k_exc)
    (case z0 => k_is); (case z1 => k_is); (case z2 => k_is); (case z3 => k_is); (case z4 => k_is); (case z5 => k_is); (case z6 => k_is); (case z7 => k_is)
    (case z8 => k_is); (case z9 => k_is); (case z10 => k_is); (case z11 => k_is); (case z12 => k_is); (case z13 => k_is); (case z14 => k_is); (case z15 => k_is)
    (case z16 => k_is)
